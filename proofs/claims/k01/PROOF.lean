import PyProof.Rows.All
import Wide.All
import OpenK.AllK
import Wide.FinOn
import HandS.ForMost
import HandS.Codes
import HandS.Evl
import HandS.IsInst
import KE.GoesEnumKw
import KE.GoesMore
import HandS.SortKw
import PySem.Challenge.RW_wholetongue_k01_words_told
set_option Elab.async false
set_option linter.all false
set_option maxRecDepth 100000
/-! What is general: texts as lists of signs, readings of further rules. -/
namespace Wt
open PySem PySem.Spec PyProof.Rows L2 SX Evl

/-! ### texts -/
theorem slice_mid {a : List Nat} {i j : Nat} (h : i ≤ j) (hj : j ≤ a.length) : Txt.slice (S a) (some (i : Int)) (some (j : Int)) = S ((a.drop i).take (j - i)) := by
  have hl : (S a).length = a.length := S_len a
  have e := beq_iff_eq.mp (PyProof.Rows.slice_closesL (x := S a) (i := (i : Int)) (j := (j : Int)) (by omega) (by omega) (by rw [hl]; omega))
  refine e.trans (TL.ext_tl ?_)
  show (a.drop (i : Int).toNat).take ((j : Int) - (i : Int)).toNat = (a.drop i).take (j - i)
  rw [Int.toNat_natCast, show ((j : Int) - (i : Int)).toNat = j - i by omega]
theorem S1 (c : Nat) : (⟨#[c]⟩ : Str) = S [c] := rfl
theorem S_list (a : List Nat) : (S a).cps.toList = a := by simp [S]

/-! ### readings -/
section
variable {K : PySem.W.Frag} {σ : L2.St} {H H' : Hp} {ta tb te tx : TE} {t u : TT} {x y z v : V}
theorem rc_lenS {a : List Nat} (h : a.length ≤ 100000) : RC (fun xs H Q => ∃ z, xs = [.str z] ∧ z.length ≤ sizeLine ∧ Q (.int z.length) H) [.str (S a)] H (.int (a.length : Int)) := fun H1 _ Q q => by
  refine ⟨S a, rfl, ?_, ?_⟩
  · rw [S_len]
    exact sz_of h
  · rw [S_len]
    exact q H1 (Ex.refl H1)
theorem ev_lenS {a : List Nat} (ha : Ev ta σ H (.str (S a))) (h : a.length ≤ 100000) : Ev (tCB (fun xs H Q => ∃ z, xs = [.str z] ∧ z.length ≤ sizeLine ∧ Q (.int z.length) H) (tCons ta tNil)) σ H (.int (a.length : Int)) :=
  ev_cb (ea_cons ha ea_nil) (rc_lenS h)
theorem rv_inSign {c : Nat} {w : List Nat} : RV (fun x y H Q => ∃ (c : Nat) (z : Str), x = .str ⟨#[c]⟩ ∧ y = .str z ∧ Q (.bl (decide (c ∈ z.cps.toList))) H) (.str (S [c])) (.str (S w)) H (.bl (decide (c ∈ w))) := fun H1 _ Q q => by
  refine ⟨c, S w, rfl, rfl, ?_⟩
  rw [S_list]
  exact q H1 (Ex.refl H1)
/-- a text's sign -/
theorem rv_at {w : List Nat} {i : Nat} {c : Nat} (h : w.length ≤ 100000) (ha : w[i]? = some c) : RV rIxS (.str (S w)) (.int (i : Int)) H (.str (S [c])) := fun H1 _ Q q =>
  ⟨S w, (i : Int), c, rfl, rfl, by rw [S_len]; exact sz_of h, by rw [S_list]; exact atI_nat ha, q H1 (Ex.refl H1)⟩
theorem ev_sl {te : TE} {tl th : TO} {a : List Nat} {i j : Nat} (h : Ev te σ H (.str (S a))) (h1 : EvO tl σ H (some (i : Int))) (h2 : EvO th σ H (some (j : Int))) (hl : a.length ≤ 100000) (hi : i ≤ j) (hj : j ≤ a.length) :
    Ev (tSl C8.rSlX te tl th) σ H (.str (S ((a.drop i).take (j - i)))) := fun H1 e Q q =>
  h H1 e _ fun H2 e2 => h1 H2 (e.trans e2) _ fun H3 e3 => h2 H3 ((e.trans e2).trans e3) _ fun H4 e4 => by
    refine ⟨S a, rfl, ?_, ?_⟩
    · rw [S_len]
      exact sz_of hl
    · rw [slice_mid hi hj]
      exact q H4 ((e2.trans e3).trans e4)
end
end Wt

set_option Elab.async false
set_option linter.all false
set_option maxRecDepth 100000
set_option maxHeartbeats 4000000
/-! Rules of ours: enumerate from a start, dict.update, a text many times. -/
namespace Wt
open PySem PySem.Spec PyProof.Rows L2 SX Evl

theorem bt_int : bootBuiltins "int" = some (.type "int") := by decide +kernel
theorem bt_str : bootBuiltins "str" = some (.type "str") := by decide +kernel
theorem bt_bool : bootBuiltins "bool" = some (.type "bool") := by decide +kernel
theorem bt_list : bootBuiltins "list" = some (.type "list") := by decide +kernel
theorem bt_tuple : bootBuiltins "tuple" = some (.type "tuple") := by decide +kernel
theorem bt_enum : bootBuiltins "enumerate" = some (.type "enumerate") := by decide +kernel
theorem bt_isinstance : bootBuiltins "isinstance" = some (.builtin "isinstance") := by decide +kernel

/-! ### d.update(e) -/
def rDUpd : V → List V → Hp → VK → Prop := fun x vs H Q =>
  ∃ (a b : Addr) (ks ls : List (Key × V)), x = .ref a ∧ vs = [.ref b] ∧ a ≠ b ∧ H a = some (.dK ks) ∧ H b = some (.dK ls) ∧ ks.length + ls.length ≤ sizeLine ∧
    Q .non (upd H a (.dK (mergeK ks ls)))
theorem mt_dupdate {X : Cx} : MtR X "dict.update" rDUpd := by
  intro pins s σ H x vs v us Q I rx rv hyp
  obtain ⟨a, b, ks, ls, rfl, rfl, hab, ea, eb, hz, q⟩ := hyp
  obtain rfl : v = Value.ref a := rx
  obtain ⟨u, rfl, ru⟩ := rv.one
  obtain rfl : u = Value.ref b := ru
  obtain ⟨za, ha, va, ra, da⟩ := dk_of I.hok ea
  obtain ⟨zb, hb, vb, rb, db⟩ := dk_of I.hok eb
  have hsum : va.length + vb.length ≤ sizeLine := by
    rw [← ra.length, ← rb.length]
    exact hz
  refine call_meetsIn PySem.F.slot_dict_update da.typeIs PySem.F.entry_dict_update (PySem.F.args_dict_update_2 _ _)
    (meets_dict_update (mixKind X.prog X.w) a b hab hb) ⟨va, vb, da, db, hsum, fun h2 dd2 _ hs => ?_⟩
  have there : ∃ q, h2.get? a = some q := by
    obtain ⟨q, _, _, hq, _⟩ := dd2
    exact ⟨q, hq⟩
  have hl : (mergeK ks ls).length ≤ sizeLine := Nat.le_trans (length_mergeK ls ks) hz
  exact ⟨.non, _, d_write (t' := s.toks) I (by rw [ea]; exact True.intro) hs there (dk_new hl ha (KV.merge rb ra) dd2), rfl, q⟩

/-! ### a text many times -/
theorem mul_S {a : List Nat} {k : Nat} : Txt.mul (S a) (k : Int) = S (List.replicate k a).flatten := by
  unfold Txt.mul
  by_cases h0 : (k : Int) < 1
  · have e : k = 0 := by omega
    subst e
    rw [if_pos (by decide)]
    rfl
  · rw [if_neg h0]
    by_cases h1 : ((k : Int) == 1 || (S a).length == 0) = true
    · rw [if_pos h1]
      rw [Bool.or_eq_true] at h1
      rcases h1 with h1 | h1
      · have e : k = 1 := by
          have := eq_of_beq h1
          omega
        subst e
        show S a = S (a ++ [])
        rw [List.append_nil]
      · have e : a = [] := by
          have := eq_of_beq h1
          rw [S_len] at this
          exact List.length_eq_zero_iff.mp this
        subst e
        refine congrArg S ?_
        have : ∀ n : Nat, (List.replicate n ([] : List Nat)).flatten = [] := fun n => by
          induction n with
          | zero => rfl
          | succ n ih => rw [List.replicate_succ, List.flatten_cons, ih] <;> rfl
        rw [this]
    · rw [if_neg h1]
      have go : ∀ (n : Nat) (acc : List Nat), (List.replicate n (S a).cps).foldl (· ++ ·) acc.toArray = (acc ++ (List.replicate n a).flatten).toArray := fun n => by
        induction n with
        | zero =>
          intro acc
          show acc.toArray = (acc ++ []).toArray
          rw [List.append_nil]
        | succ n ih =>
          intro acc
          rw [List.replicate_succ, List.replicate_succ, List.foldl_cons, List.flatten_cons]
          have e : acc.toArray ++ (S a).cps = (acc ++ a).toArray := by simp [S]
          rw [e, ih, List.append_assoc]
      have e2 := go ((k : Int).toNat) []
      rw [Int.toNat_natCast] at e2 ⊢
      have e3 : (List.replicate k (S a).cps).foldl (· ++ ·) #[] = ((List.replicate k a).flatten).toArray := by
        refine Eq.trans ?_ (e2.trans ?_)
        · rfl
        · rw [List.nil_append]
      rw [e3]
def rRepS : R2 := fun x y H Q => ∃ (a : List Nat) (k : Nat), x = .str (S a) ∧ y = .int (k : Int) ∧ a.length ≤ 16 ∧ k ≤ 100000 ∧ Q (.str (S (List.replicate k a).flatten)) H
theorem op_rep_str {X : Cx} : OpR X (binaryOp .Mult) rRepS := by
  intro pins s σ H x y v u Q I rx ry hyp
  obtain ⟨a, k, rfl, rfl, ha, hk, q⟩ := hyp
  obtain ⟨t, rfl⟩ := rx
  obtain ⟨t2, rfl⟩ := ry
  refine SB.mul (mulOk_of 16 100000 (by rw [S_len]; exact ha) (by omega) (by omega) (by decide) (by decide)) fun t3 k3 => ?_
  rw [mul_S]
  exact ⟨.str (S (List.replicate k a).flatten), H, I.tok _, ⟨_, rfl⟩, q⟩

/-! ### enumerate(xs, start=k) -/
/-- the list at a as it stands at each turn, each item behind its number, from k on -/
def Itk0 (K : PySem.W.Frag) (a : Addr) (k : Int) : It where
  go := fun i H => ∃ (xs : List V) (x : V), SqL K H a xs ∧ xs[i]? = some x
  yld := fun i H v H' => ∃ (T : Addr) (x : V), v = .ref T ∧ H T = none ∧ H' = upd H T (.tup [.int (k + (i : Nat)), x]) ∧ ∀ xs, SqL K H a xs → xs[i]? = some x
  stop := fun i H => ∃ xs : List V, SqL K H a xs ∧ xs.length ≤ i
theorem turn_from {P : Program} {w : World} {K : PySem.W.Frag} {elts : List Expr} {kk : Nat} {tpos : Pos} (a e it : Addr) (k : Int) (hai : a ≠ it) (hae : a ≠ e) :
    Turn P w K (.Tuple elts kk tpos) (Itk0 K a k) [e, it] e (fun i h => (∃ old, IsEnum h e it (k + (i : Nat)) old) ∧ h.IsListIter it a i ∧ e ≠ it) where
  mem := List.mem_cons_self ..
  obj := by
    rintro i h ⟨⟨old, he⟩, ⟨o, ho, hc, hd⟩, _⟩ b hb
    rcases List.mem_cons.mp hb with rfl | hb
    · exact ⟨_, he, fun v q => nomatch q⟩
    · rw [List.mem_singleton.mp hb]
      exact ⟨o, ho, fun v q => by rw [hd] at q; cases q⟩
  keep := by
    rintro i h h2 ⟨⟨old, he⟩, hi, hne⟩ kp
    exact ⟨⟨old, kp e (List.mem_cons_self ..) _ he⟩, hi.at fun o q => kp it (List.mem_cons_of_mem _ (List.mem_singleton.mpr rfl)) o q, hne⟩
  item := by
    intro X hP hw hK hc i pins s σ H E I hf st hg
    subst hP hw hK
    obtain ⟨⟨old, he⟩, hit, hne⟩ := st
    obtain ⟨xs, x, hq, hx⟩ := hg
    obtain ⟨its, rv, p, hz⟩ := I.list hq
    obtain ⟨u, hu, ru⟩ := rv.get hx
    have hel : e < s.heap.objs.size := Heap.lt_size he
    have hil : it < s.heap.objs.size := by
      obtain ⟨_, q, _⟩ := hit
      exact Heap.lt_size q
    have hlt : i < its.toArray.size := by
      have := (List.getElem?_eq_some_iff.mp hu).1
      rw [List.size_toArray]
      exact this
    refine wpAny_pyNext_enum_itemC (Draws.list (prog := X.prog) (w := X.w) (A := X.A.in1) (show X.A.in1.handled = none from I.ok.hd hc) it a hai its.toArray) he ⟨hit, p.isList⟩ hlt hne (fun m => ?_) fun y h2 tk hy ho st2 hT hsz hk => ?_
    · rcases List.mem_cons.mp m with z | z
      · exact hne z
      · exact hae (List.mem_singleton.mp z).symm
    have hyu : y = u := by
      have z : its[i]? = some y := by simpa using hy
      rw [hu] at z
      exact (Option.some.inj z).symm
    subst hyu
    refine ⟨_, rfl, wpAny_letOwnedTupleGo_enum (s := { s with heap := h2, toks := tk + 1 }) ho fun h3 he3 sb => ?_⟩
    have hT2 := (sb.2 s.heap.objs.size (Nat.ne_of_gt hel)).trans hT
    have new : ObjOk X.prog X.w (upd H s.heap.objs.size (.tup [.int (k + (i : Nat)), x])) h3 s.heap.objs.size (.tup [.int (k + (i : Nat)), x]) :=
      ⟨by show 2 ≤ sizeLine; decide, [.int (k + (i : Nat)) tk, y], .cons ⟨_, rfl⟩ (.cons ru .nil), ⟨_, hT2, rfl, _, rfl⟩⟩
    have I1 := I.turnedNew (h' := h3) (t' := tk + 1) (ch := [e, it]) (fun b ob hb q => by
      have n1 : b ≠ e := fun z => hb (z ▸ List.mem_cons_self ..)
      have n2 : b ≠ it := fun z => hb (z ▸ List.mem_cons_of_mem _ (List.mem_singleton.mpr rfl))
      exact (sb.2 b n1).trans (hk b ob n1 n2 q)) hf (Nat.le_refl _) new
    refine ⟨.ref s.heap.objs.size, _, I1, rfl, ⟨_, x, rfl, I.hok.fresh (Nat.le_refl _), rfl, fun ys hy2 => ?_⟩, ⟨⟨y, ?_⟩, ?_, hne⟩, fun b hb => ?_⟩
    · rw [I.list_inj hy2 hq]
      exact hx
    · have e1 : k + ((i + 1 : Nat) : Int) = k + (i : Int) + 1 := by omega
      rw [e1]
      exact he3
    · exact st2.1.at fun o q => (sb.2 it (Ne.symm hne)).trans q
    · have hb2 : b < s.heap.objs.size := by
        rcases List.mem_cons.mp hb with rfl | z
        · exact hel
        · rw [List.mem_singleton.mp z]
          exact hil
      rw [upd_ne (Nat.ne_of_lt hb2)]
      exact (hf b hb).1
  done := by
    intro X hP hw hK hc i pins s σ H E I hf st hg
    subst hP hw hK
    obtain ⟨⟨old, he⟩, hit, hne⟩ := st
    obtain ⟨xs, hq, hx⟩ := hg
    obtain ⟨its, rv, p, hz⟩ := I.list hq
    obtain ⟨f0, f1, f2, f3, f4, f5⟩ := hf it (List.mem_cons_of_mem _ (List.mem_singleton.mpr rfl))
    have hl := rv.length
    have hT : s.TypeIs (.ref e) "enumerate" := ⟨_, he, rfl⟩
    have hnone : its.toArray[i]? = none := by
      simp
      omega
    unfold pyNext
    refine wpAny_bind (wpAny_attempt (wpAny_callSpecial?_slot (name := Str.ofString "__next__") hT PySem.F.slot_enumerate_next
      (wpAny_call_entry PySem.F.slot_enumerate_next hT PySem.F.entry_enumerate_next ?_ (PySem.F.args_enumerate_next_1 _))))
    show wpAny _ _ (field (.ref e) 2 >>= _) _ _ _
    refine wpAny_bind (wpAny_field he rfl (x := .ref it) rfl (wpAny_bind (wpAny_nextOf_list_end (I.ok.hd hc) hit p.isList hnone fun h2 x2 hE2 hx2 => ?_)))
    obtain ⟨o2, ho2, hc2⟩ := hx2
    exact wpAny_bind (wpAny_isInstance (T := "StopIteration") (b := true) ⟨o2, ho2, hc2⟩ isSubtype_stop
      (wpAny_pure ⟨rfl, I.turned (t' := s.toks) (fun b o hb q => hE2 b o hb q) f0 f1 f3 f4 f5⟩))
  self := by
    rintro A i s Q E ⟨⟨_, he⟩, _⟩ h
    exact wpAny_pyIter_enum he h
/-- a built-in class called with keywords -/
theorem callWith_tyKw {M : Model} {A : Around} {E : Value → Shared → Prop} {s : Shared} {env : Env} {pos : Pos} {T : String} {e : Expr} {rest : List Expr} {kws : List Keyword} {Q : Value → Shared → Prop}
    (h : wpAny M A (spliced (backTo pos (starEach (e :: rest) env))) (fun vs s1 => wpAny M A (evalAll ((backToKw pos (keywordEach kws env)).map (·.2)))
      (fun ks s2 => wpAny M A (call (.type T) vs (((backToKw pos (keywordEach kws env)).filterMap (·.1)).zip ks)) Q E s2) E s1) E s)
    (he : backTo pos (starEach (e :: rest) env) = (false, eval e env) :: backTo pos (starEach rest env) := by rfl)
    (hpl : (backTo pos (starEach (e :: rest) env)).any (·.1) = false := by rfl)
    (hall : (backToKw pos (keywordEach kws env)).all (·.1.isSome) = true := by rfl)
    (hkw : (backToKw pos (keywordEach kws env)).any (·.1.isNone) = false := by rfl) :
    wpAny M A (callWith pos (.type T) [] (backTo pos (starEach (e :: rest) env)) (backToKw pos (keywordEach kws env))) Q E s := by
  unfold callWith
  have h2 : wpAny M A (evalArgs (.type T) true (backTo pos (starEach (e :: rest) env)) (backToKw pos (keywordEach kws env))) (fun a s1 => wpAny M A (call (.type T) a.pos a.kw) Q E s1) E s := by
    rw [he] at h ⊢
    exact evalArgs_kwB hall h
  refine wpAny_bind (wpAny_holding (wpAny_mono h2 (fun a s1 h1 => wpAny_bind (wpAny_standAt ?_)) fun _ _ x => x))
  rw [hpl, hkw]
  refine wpAny_bind (wpAny_pure ?_)
  refine wpAny_bind (wpAny_mono h1 (fun r s2 hr => ?_) fun _ _ x => x)
  exact wpAny_bind (wpAny_holding (wpAny_point (wpAny_pure hr)))
def iFrom (K : PySem.W.Frag) (k : Int) (ta : TA) : TI := fun σ H R => ta σ H fun vs H1 => ∃ a xs, vs = [.ref a] ∧ SqL K H1 a xs ∧ R (Itk0 K a k) H1
theorem pi_enumS {X : Cx} {e : Expr} {ta : TA} {p pos tpos p1 p2 : Pos} {elts : List Expr} {kk j : Nat} {k : Int} (hg : Gl X "enumerate") (hm : X.mg "enumerate" = none) (ha : PA X [e] ta)
    (hk0 : -(2 ^ 63) ≤ k := by decide) (hk1 : k < 2 ^ 63 := by decide)
    (he : backTo pos (starEach [e] X.env) = (false, eval e X.env) :: backTo pos (starEach [] X.env) := by rfl) (hpl : (backTo pos (starEach [e] X.env)).any (·.1) = false := by rfl)
    (hall : (backToKw pos (keywordEach [⟨some "start", .Constant (.int k) j p1, p2⟩] X.env)).all (·.1.isSome) = true := by rfl)
    (hkw : (backToKw pos (keywordEach [⟨some "start", .Constant (.int k) j p1, p2⟩] X.env)).any (·.1.isNone) = false := by rfl)
    (hks : (backToKw pos (keywordEach [⟨some "start", .Constant (.int k) j p1, p2⟩] X.env)).filterMap (·.1) = [Str.ofString "start"] := by rfl) :
    PI X (.Tuple elts kk tpos) (.Call (.Name "enumerate" p) [e] [⟨some "start", .Constant (.int k) j p1, p2⟩] pos) (iFrom X.K k ta) := by
  refine ⟨fun pins s σ H R I h => wpAny_Call_Name_kw (ld_blt I hg hm bt_enum ?_ (by decide))⟩
  refine callWith_tyKw (thn (ha.run pos pins s σ H _ I h) fun us s1 ⟨vs, H1, I1, r1, q1⟩ => ?_) he hpl hall hkw
  refine thn ((pk_cons (pe_int (X := X) (pos := p1) (j := j) (i := k)) pk_nil).run pos pins s1 σ H1 (fun zs H2 => zs = [.int k] ∧ H2 = H1) I1 ⟨rfl, rfl⟩) fun ws s2 ⟨zs, H2, I2, r2, q2⟩ => ?_
  rw [hks]
  obtain ⟨rfl, rfl⟩ := q2
  obtain ⟨a, xs, rfl, hq, q⟩ := q1
  obtain ⟨u, rfl, ru⟩ := r1.one
  cases ru
  obtain ⟨u2, rfl, t2, rfl⟩ := r2.one
  obtain ⟨its, rv, p3, hz⟩ := I2.list hq
  refine enum_begins_start (begins_list a its.toArray) p3.isList hk0 hk1 fun h2 he2 hit hsz hk => wpAny_pyIter_enum he2 ?_
  have I3 : Inv X pins σ H2 { s2 with heap := h2 } := I2.kept (t' := s2.toks) hk
  have hal : a < s2.heap.objs.size := by
    obtain ⟨o, n, ho, _⟩ := p3
    exact Heap.lt_size ho
  refine ⟨s2.heap.objs.size + 1, [s2.heap.objs.size + 1, s2.heap.objs.size], _, _, H2, rfl, I3,
    turn_from a (s2.heap.objs.size + 1) s2.heap.objs.size k (Nat.ne_of_lt hal) (Nat.ne_of_lt (Nat.lt_succ_of_lt hal)), ⟨⟨.none, ?_⟩, ⟨_, hit, rfl, rfl⟩, Nat.succ_ne_self _⟩, fun b hb => ?_, q⟩
  · show IsEnum h2 (s2.heap.objs.size + 1) s2.heap.objs.size (k + ((0 : Nat) : Int)) .none
    rw [show k + ((0 : Nat) : Int) = k by omega]
    exact he2
  · have hle : s2.heap.objs.size ≤ b := by
      rcases List.mem_cons.mp hb with rfl | z
      · exact Nat.le_succ _
      · rw [List.mem_singleton.mp z]
        exact Nat.le_refl _
    exact I2.fpOk hle (I2.hok.fresh hle)
/-- a walk of it by its invariant -/
theorem for_from {K : PySem.W.Frag} {a : Addr} {xs : List V} {k : Int} {g : TG} {tb : TS} {D : Ends} {σ : L2.St} {H : Hp} (Pv : Nat → L2.St → Hp → Prop) (h0 : Pv 0 σ H) (hl : ∀ i σ H, i ≤ xs.length → Pv i σ H → SqL K H a xs)
    (hs : ∀ i x T σ H, xs[i]? = some x → Pv i σ H → H T = none → g (.ref T) σ (upd H T (.tup [.int (k + (i : Nat)), x])) fun σ2 H2 => tb { D with nx := Pv (i + 1), ct := Pv (i + 1), bk := D.nx } σ2 H2)
    (hd : ∀ σ H, Pv xs.length σ H → D.nx σ H) :
    ∃ W : Nat → Nat → L2.St → Hp → Prop, (∃ m, W 0 m σ H) ∧ ∀ i m σ H, W i m σ H →
      ((Itk0 K a k).stop i H ∧ D.nx σ H) ∨ ((Itk0 K a k).go i H ∧ ∃ N : L2.St → Hp → Prop, (∀ σ' H', N σ' H' → ∃ m', m' < m ∧ W (i + 1) m' σ' H') ∧
        ∀ x H', (Itk0 K a k).yld i H x H' → g x σ H' fun σ2 H2 => tb { D with nx := N, ct := N, bk := D.nx } σ2 H2) := by
  refine ⟨fun i m σ H => i + m = xs.length ∧ Pv i σ H, ⟨xs.length, by omega, h0⟩, ?_⟩
  rintro i m σ H ⟨hm, p⟩
  have hq := hl i σ H (by omega) p
  by_cases hi : i < xs.length
  · have hx : xs[i]? = some xs[i] := List.getElem?_eq_getElem hi
    refine .inr ⟨⟨xs, _, hq, hx⟩, fun σ' H' => Pv (i + 1) σ' H', fun σ' H' p2 => ⟨m - 1, by omega, by omega, p2⟩, ?_⟩
    rintro v H' ⟨T, x, rfl, hT, rfl, hf⟩
    exact hs i x T σ H (hf xs hq) p hT
  · have e : i = xs.length := by omega
    subst e
    exact .inl ⟨⟨xs, hq, Nat.le_refl _⟩, hd σ H p⟩
end Wt

set_option Elab.async false
set_option linter.all false
set_option maxRecDepth 100000
set_option maxHeartbeats 4000000
/-! Data; values that are not known but by what is true of them; the dice. -/
namespace Wt
open PySem PySem.Spec PyProof.Rows L2 SX Evl

/-! ### data -/
mutual
theorem Dp.ex {K : PySem.W.Frag} {H H' : Hp} (e : Ex H H') : ∀ (d : PyData) (v : V), Dp K H v d → Dp K H' v d
  | .none, _, h => by
    cases h
    exact .non
  | .bool b, _, h => by
    cases h
    exact .bl b
  | .int i, _, h => by
    cases h
    exact .int i
  | .str x, _, h => by
    cases h
    exact .str x
  | .list ds, _, h => by
    cases h with
    | lst h1 h2 => exact .lst (ex_l e h1) (DpAll.ex e ds _ h2)
  | .tuple ds, _, h => by
    cases h with
    | tup h1 h2 => exact .tup (ex_t e h1) (DpAll.ex e ds _ h2)
  | .dict kvs, _, h => by cases h
theorem DpAll.ex {K : PySem.W.Frag} {H H' : Hp} (e : Ex H H') : ∀ (ds : List PyData) (vs : List V), DpAll K H vs ds → DpAll K H' vs ds
  | [], _, h => by
    cases h
    exact .nil
  | d :: ds, _, h => by
    cases h with
    | cons h1 h2 => exact .cons (Dp.ex e d _ h1) (DpAll.ex e ds _ h2)
end
theorem dpa_len {K : PySem.W.Frag} {H : Hp} : ∀ {vs : List V} {ds : List PyData}, DpAll K H vs ds → vs.length = ds.length
  | _, _, .nil => rfl
  | _, _, .cons _ h => congrArg (· + 1) (dpa_len h)
theorem dpa_get {K : PySem.W.Frag} {H : Hp} : ∀ {vs : List V} {ds : List PyData} {i : Nat}, DpAll K H vs ds → i < ds.length → ∃ v d, vs[i]? = some v ∧ ds[i]? = some d ∧ Dp K H v d
  | _, _, _, .nil, h => absurd h (Nat.not_lt_zero _)
  | _, _, 0, .cons h _, _ => ⟨_, _, rfl, rfl, h⟩
  | _, _, i + 1, .cons _ t, h => by
    obtain ⟨v, d, h1, h2, h3⟩ := dpa_get t (i := i) (Nat.lt_of_succ_lt_succ h)
    exact ⟨v, d, h1, h2, h3⟩
theorem dpa_app {K : PySem.W.Frag} {H : Hp} : ∀ {vs : List V} {ds : List PyData} {us : List V} {es : List PyData}, DpAll K H vs ds → DpAll K H us es → DpAll K H (vs ++ us) (ds ++ es)
  | _, _, _, _, .nil, h => h
  | _, _, _, _, .cons h t, g => .cons h (dpa_app t g)
theorem dpa_snoc {K : PySem.W.Frag} {H : Hp} {vs : List V} {ds : List PyData} {v : V} {d : PyData} (h : DpAll K H vs ds) (g : Dp K H v d) : DpAll K H (vs ++ [v]) (ds ++ [d]) := dpa_app h (.cons g .nil)

/-- what stands in tuples alone: it stays whatever else changes -/
def Tx (H H' : Hp) : Prop := ∀ a xs, H a = some (.tup xs) → H' a = some (.tup xs)
theorem Tx.refl (H : Hp) : Tx H H := fun _ _ h => h
theorem Tx.trans {H H1 H2 : Hp} (a : Tx H H1) (b : Tx H1 H2) : Tx H H2 := fun x xs h => b x xs (a x xs h)
theorem Tx.of {H H' : Hp} (e : Ex H H') : Tx H H' := fun a xs h => e a _ h
theorem Tx.lst {H : Hp} {l : Addr} {xs ys : List V} (h : H l = some (.lst xs)) : Tx H (upd H l (.lst ys)) := fun a zs q => by
  rw [upd_ne (ne_of q h (by intro z; cases z))]
  exact q
theorem Tx.dK {H : Hp} {l : Addr} {ks ls : List (Key × V)} (h : H l = some (.dK ks)) : Tx H (upd H l (.dK ls)) := fun a zs q => by
  rw [upd_ne (ne_of q h (by intro z; cases z))]
  exact q
mutual
inductive Td (H : Hp) : V → PyData → Prop
  | non : Td H .non .none
  | bl (b : Bool) : Td H (.bl b) (.bool b)
  | int (i : Int) : Td H (.int i) (.int i)
  | str (x : Str) : Td H (.str x) (.str x)
  | tup {a : Addr} {xs : List V} {ds : List PyData} : H a = some (.tup xs) → TdAll H xs ds → Td H (.ref a) (.tuple ds)
inductive TdAll (H : Hp) : List V → List PyData → Prop
  | nil : TdAll H [] []
  | cons {v : V} {vs : List V} {d : PyData} {ds : List PyData} : Td H v d → TdAll H vs ds → TdAll H (v :: vs) (d :: ds)
end
mutual
theorem Td.tx {H H' : Hp} (e : Tx H H') : ∀ (d : PyData) (v : V), Td H v d → Td H' v d
  | .none, _, h => by
    cases h
    exact .non
  | .bool b, _, h => by
    cases h
    exact .bl b
  | .int i, _, h => by
    cases h
    exact .int i
  | .str x, _, h => by
    cases h
    exact .str x
  | .list ds, _, h => by cases h
  | .tuple ds, _, h => by
    cases h with
    | tup h1 h2 => exact .tup (e _ _ h1) (TdAll.tx e ds _ h2)
  | .dict kvs, _, h => by cases h
theorem TdAll.tx {H H' : Hp} (e : Tx H H') : ∀ (ds : List PyData) (vs : List V), TdAll H vs ds → TdAll H' vs ds
  | [], _, h => by
    cases h
    exact .nil
  | d :: ds, _, h => by
    cases h with
    | cons h1 h2 => exact .cons (Td.tx e d _ h1) (TdAll.tx e ds _ h2)
end
mutual
theorem Td.dp {K : PySem.W.Frag} {H : Hp} : ∀ (d : PyData) (v : V), Td H v d → Dp K H v d
  | .none, _, h => by
    cases h
    exact .non
  | .bool b, _, h => by
    cases h
    exact .bl b
  | .int i, _, h => by
    cases h
    exact .int i
  | .str x, _, h => by
    cases h
    exact .str x
  | .list ds, _, h => by cases h
  | .tuple ds, _, h => by
    cases h with
    | tup h1 h2 => exact .tup (st_of h1) (TdAll.dp ds _ h2)
  | .dict kvs, _, h => by cases h
theorem TdAll.dp {K : PySem.W.Frag} {H : Hp} : ∀ (ds : List PyData) (vs : List V), TdAll H vs ds → DpAll K H vs ds
  | [], _, h => by
    cases h
    exact .nil
  | d :: ds, _, h => by
    cases h with
    | cons h1 h2 => exact .cons (Td.dp d _ h1) (TdAll.dp ds _ h2)
end
theorem TdAll.app {H : Hp} : ∀ {vs : List V} {ds : List PyData} {us : List V} {es : List PyData}, TdAll H vs ds → TdAll H us es → TdAll H (vs ++ us) (ds ++ es)
  | _, _, _, _, .nil, h => h
  | _, _, _, _, .cons h t, g => .cons h (t.app g)
theorem TdAll.snoc {H : Hp} {vs : List V} {ds : List PyData} {v : V} {d : PyData} (h : TdAll H vs ds) (g : Td H v d) : TdAll H (vs ++ [v]) (ds ++ [d]) := h.app (.cons g .nil)
theorem TdAll.len {H : Hp} : ∀ {vs : List V} {ds : List PyData}, TdAll H vs ds → vs.length = ds.length
  | _, _, .nil => rfl
  | _, _, .cons _ h => congrArg (· + 1) h.len

/-! ### a value that is known by what is true of it -/
def EvN (te : TE) (σ : L2.St) (H : Hp) (P : V → Prop) : Prop := ∀ H1, Ex H H1 → ∀ Q : VK, (∀ v H2, P v → Ex H1 H2 → Q v H2) → te σ H1 Q
def SpN (sp : Sp) (vs : List V) (H : Hp) (P : V → Prop) : Prop := ∀ H1, Ex H H1 → ∀ Q : VK, (∀ v H2, P v → Ex H1 H2 → Q v H2) → ∀ E : XK, sp vs H1 Q E
def EvTN (tt : TT) (σ : L2.St) (H : Hp) (P : Bool → Prop) : Prop := ∀ H1, Ex H H1 → ∀ Q : Bool → Hp → Prop, (∀ b H2, P b → Ex H1 H2 → Q b H2) → tt σ H1 Q
section
variable {K : PySem.W.Frag} {σ : L2.St} {H H' : Hp} {ta tb te tx : TE} {t u : TT} {x y z v : V} {r : R2} {P P2 : V → Prop}
theorem EvN.of (h : Ev te σ H v) : EvN te σ H (· = v) := fun H1 e Q q => h H1 e Q fun H2 e2 => q v H2 rfl e2
theorem EvN.mono (e : Ex H H') (h : EvN te σ H P) : EvN te σ H' P := fun H1 e1 Q q => h H1 (e.trans e1) Q q
theorem EvN.imp (h : EvN te σ H P) (i : ∀ v, P v → P2 v) : EvN te σ H P2 := fun H1 e Q q => h H1 e Q fun v H2 p e2 => q v H2 (i v p) e2
theorem EvN.one (h : EvN te σ H P) (i : ∀ w, P w → w = v) : Ev te σ H v := fun H1 e Q q => h H1 e Q fun w H2 p e2 => by
  rw [i w p]
  exact q H2 e2
theorem en_op (ha : EvN ta σ H P) (hb : ∀ x, P x → EvN tb σ H P2) {P3 : V → Prop} (hr : ∀ x y H1, P x → P2 y → Ex H H1 → ∀ Q : VK, (∀ z H2, P3 z → Ex H1 H2 → Q z H2) → r x y H1 Q) : EvN (tOp r ta tb) σ H P3 := fun H1 e Q q =>
  ha H1 e _ fun x H2 px e2 => hb x px H2 (e.trans e2) _ fun y H3 py e3 => hr x y H3 px py ((e.trans e2).trans e3) Q fun z H4 pz e4 => q z H4 pz ((e2.trans e3).trans e4)
/-- both operands, then a value -/
theorem en_opV (ha : EvN ta σ H P) (hb : ∀ x, P x → EvN tb σ H P2) {P3 : V → Prop} (hr : ∀ x y, P x → P2 y → ∃ z, P3 z ∧ RV r x y H z) : EvN (tOp r ta tb) σ H P3 := en_op ha hb fun x y H1 px py e Q q => by
  obtain ⟨z, pz, rz⟩ := hr x y px py
  exact rz H1 e Q fun H2 e2 => q z H2 pz e2
theorem en_call {sp : Sp} {dvs vs : List V} {E : XK} {ta : TA} (h : EvA ta σ H vs) (hs : SpN sp (vs ++ dvs) H P) : EvN (tCall sp dvs E ta) σ H P := fun H1 e Q q =>
  h H1 e _ fun H2 e2 => hs H2 (e.trans e2) Q (fun v H3 p e3 => q v H3 p (e2.trans e3)) E
theorem etn_test (h : EvN te σ H P) {B : Bool → Prop} (i : ∀ v, P v → ∃ b, v = .bl b ∧ B b) : EvTN (tTest te) σ H B := fun H1 e Q q => h H1 e _ fun v H2 p e2 => by
  obtain ⟨b, rfl, pb⟩ := i v p
  exact ⟨b, rfl, q b H2 pb e2⟩
theorem en_if {b : Bool} (h : EvT t σ H b) (h1 : b = true → EvN ta σ H P) (h2 : b = false → EvN tb σ H P) : EvN (tIf t ta tb) σ H P := fun H1 e Q q => h H1 e _ fun H2 e2 => by
  cases b with
  | true =>
    show ta σ H2 Q
    exact h1 rfl H2 (e.trans e2) Q fun v H3 p e3 => q v H3 p (e2.trans e3)
  | false =>
    show tb σ H2 Q
    exact h2 rfl H2 (e.trans e2) Q fun v H3 p e3 => q v H3 p (e2.trans e3)
variable {D : Ends} {tu tw tz : TS} {g : TG}
theorem sn_asg {i : Nat} (h : EvN te σ H P) (k : ∀ v H1, P v → Ex H H1 → D.nx (σ.set i (some v)) H1) : tAsg te (gName i) D σ H := h H (Ex.refl H) _ fun v H1 p e => k v H1 p e
theorem qn_asg {i : Nat} (h : EvN te σ H P) (k : ∀ v H1, P v → Ex H H1 → tz D (σ.set i (some v)) H1) : tSeq (tAsg te (gName i)) tz D σ H := sn_asg (D := { D with nx := tz D }) h k
theorem sn_ret (h : EvN te σ H P) (k : ∀ v H1, P v → Ex H H1 → D.rt v H1) : tRet te D σ H := h H (Ex.refl H) _ k
theorem sn_if (h : EvTN t σ H B) (h1 : B true → ∀ H1, Ex H H1 → tu D σ H1) (h2 : B false → ∀ H1, Ex H H1 → tw D σ H1) : tIfS t tu tw D σ H := h H (Ex.refl H) _ fun b H1 p e => by
  cases b with
  | true =>
    show tu D σ H1
    exact h1 p H1 e
  | false =>
    show tw D σ H1
    exact h2 p H1 e
theorem qn_if (h : EvTN t σ H B) (h1 : B true → ∀ H1, Ex H H1 → tu { D with nx := tz D } σ H1) (h2 : B false → ∀ H1, Ex H H1 → tw { D with nx := tz D } σ H1) : tSeq (tIfS t tu tw) tz D σ H := sn_if (D := { D with nx := tz D }) h h1 h2
end

/-! ### a promise seen through other words of the heap -/
/-- B tells of the same heap otherwise -/
structure Alike (A B : Hp) : Prop where
  free : ∀ b, A b = none → B b = none
  tups : ∀ b xs, A b = some (.tup xs) → B b = some (.tup xs)
  frzs : ∀ b o u, A b = some (.frz o u) → B b = some (.frz o u)
  tbls : ∀ b ps, A b = some (.tbl ps) → B b = some (.tbl ps)
section
variable {P : Program} {w : World} {K : PySem.W.Frag} {mg : Str → Option Value} {base : Heap}
theorem fn_seen {k : Nat} {f : Addr} {fd : FuncData} {ps : List Str} {sp sp' : Sp} (F : FnOk P w K mg base CX0 k f fd ps sp) (hlen : ∀ vs H Q E, sp' vs H Q E → vs.length = ps.length)
    (h : ∀ vs H Q E, sp' vs H Q E → ∀ hp : Heap, HOk P w H hp → ∃ (H1 : Hp) (Q1 : VK), Alike H H1 ∧ HOk P w H1 hp ∧ sp vs H1 Q1 E ∧
      ∀ v H2 (hp2 : Heap), HOk P w H2 hp2 → Q1 v H2 → ∃ H3, Alike H2 H3 ∧ HOk P w H3 hp2 ∧ Q v H3) : FnOk P w K mg base CX0 k f fd ps sp' := by
  refine ⟨hlen, fun A outer s H args us vs Q E hr e0 hb hv hs => ?_⟩
  obtain ⟨H1, Q1, al, ok1, hs1, back⟩ := h vs H Q E hs s.heap e0.hok
  have e1 : Env0 P w K mg base A outer s H1 := ⟨e0.frames, e0.mod, fun b o e => ⟨(e0.bs b o e).1, al.free b (e0.bs b o e).2⟩, e0.bsz, e0.funs, fun b hb => al.free b (e0.frf b hb), ok1, e0.bare⟩
  refine codeAny_mono (F.run A outer s H1 args us vs Q1 E hr e1 hb hv hs1) fun r s' hr' => ?_
  cases r with
  | error e => exact hr'
  | ok fl =>
    cases fl with
    | ret u =>
      obtain ⟨v, H2, os, br, un, ok2, rv, q⟩ := hr'
      obtain ⟨H3, al2, ok3, q3⟩ := back v H2 s'.heap ok2 q
      exact ⟨v, H3, os, br, ⟨fun b o e n h1 h2 => un.keep b o e (al.free b n) h1 h2, fun b o e n h1 h2 => un.slot b o e (al.free b n) h1 h2, fun b o e n h1 => al2.free b (un.free b o e (al.free b n) h1), un.there,
        fun b xs e => al2.tups b xs (un.tups b xs (al.tups b xs e)), fun b o u e => al2.frzs b o u (un.frzs b o u (al.frzs b o u e)), fun b ps e => by
          obtain ⟨more, e2⟩ := un.tbls b ps (al.tbls b ps e)
          exact ⟨more, al2.tbls b _ e2⟩⟩, ok3, rv, q3⟩
    | _ => exact hr'.elim
/-- one changing object told otherwise -/
theorem alike_at {H : Hp} {d : Addr} {o o2 : HO} (h : H d = some o) (m : Mut (some o)) (h1 : ∀ xs, o2 ≠ .tup xs) (h2 : ∀ ob u, o2 ≠ .frz ob u) (h3 : ∀ ps, o2 ≠ .tbl ps) : Alike H (upd H d o2) where
  free := fun b n => by
    rw [upd_ne (ne_of_none h n).symm]
    exact n
  tups := fun b xs e => by
    rw [upd_ne (ne_of e h (by intro z; subst z; exact m))]
    exact e
  frzs := fun b ob u e => by
    rw [upd_ne (ne_of e h (by intro z; subst z; exact m))]
    exact e
  tbls := fun b ps e => by
    rw [upd_ne (ne_of e h (by intro z; subst z; exact m))]
    exact e
theorem hok_at {H : Hp} {hp : Heap} {d : Addr} {o o2 : HO} (ok : HOk P w H hp) (h : H d = some o) (m : Mut (some o)) (new : ObjOk P w (upd H d o2) hp d o2) : HOk P w (upd H d o2) hp := fun b u e => by
  by_cases hb : b = d
  · subst hb
    rw [upd_same] at e
    cases e
    exact new
  · rw [upd_ne hb] at e
    refine (ok b u e).stay (fun c z _ q => q) (fun c q => ?_) (fun c xs q => ?_)
    · rw [upd_ne (ne_of q h (by intro z; subst z; exact m))]
      exact q
    · rw [upd_ne (ne_of q h (by intro z; subst z; exact m))]
      exact q
end

/-! ### the dice: the list of the script, a place, a mixed number, a rest -/
def diceP (d a : Addr) (h : Heap) : Prop := ∃ (i m r : Int) (t1 t2 t3 : Tok) (n : Nat), h.get? d = some { cls := .type "list", data := .seq #[.ref a, .int i t1, .int m t2, .int r t3] n } ∧ 0 ≤ i ∧ 0 ≤ m ∧ m < 2147483647
/-- a dice over the script at a -/
def DiceO (d a : Addr) : HO := .ext (diceP d a)
theorem dice_ok {P : Program} {w : World} {H : Hp} {hp : Heap} {d a : Addr} (h : diceP d a hp) : ObjOk P w H hp d (DiceO d a) := by
  refine ⟨h, ?_, ?_⟩
  · obtain ⟨i, m, r, t1, t2, t3, n, e, _⟩ := h
    exact ⟨_, e⟩
  · rintro h1 h2 ⟨i, m, r, t1, t2, t3, n, e, z⟩ k
    exact ⟨i, m, r, t1, t2, t3, n, k _ e, z⟩
theorem dice_of {P : Program} {w : World} {H : Hp} {hp : Heap} {d a : Addr} {i m r : Int} (ok : HOk P w H hp) (h : H d = some (.lst [.ref a, .int i, .int m, .int r])) (h0 : 0 ≤ i) (h1 : 0 ≤ m) (h2 : m < 2147483647) : diceP d a hp := by
  obtain ⟨_, its, n, rv, e⟩ := (show ObjOk P w H hp d (.lst [.ref a, .int i, .int m, .int r]) from ok d _ h)
  cases rv with
  | cons ra rest =>
    cases ra
    cases rest with
    | cons ri rest =>
      obtain ⟨t1, rfl⟩ := ri
      cases rest with
      | cons rm rest =>
        obtain ⟨t2, rfl⟩ := rm
        cases rest with
        | cons rr rest =>
          obtain ⟨t3, rfl⟩ := rr
          cases rest
          exact ⟨i, m, r, t1, t2, t3, n, e, h0, h1, h2⟩
theorem dice_out {P : Program} {w : World} {H : Hp} {hp : Heap} {d a : Addr} (ok : HOk P w H hp) (h : H d = some (DiceO d a)) : ∃ i m r, 0 ≤ i ∧ 0 ≤ m ∧ m < 2147483647 ∧
    Alike H (upd H d (.lst [.ref a, .int i, .int m, .int r])) ∧ HOk P w (upd H d (.lst [.ref a, .int i, .int m, .int r])) hp := by
  obtain ⟨⟨i, m, r, t1, t2, t3, n, e, z0, z1, z2⟩, _⟩ := (show ObjOk P w H hp d (DiceO d a) from ok d _ h)
  refine ⟨i, m, r, z0, z1, z2, alike_at h True.intro (fun _ z => nomatch z) (fun _ _ z => nomatch z) (fun _ z => nomatch z), hok_at ok h True.intro ⟨(by show 4 ≤ sizeLine; decide), [.ref a, .int i t1, .int m t2, .int r t3], n, ?_, e⟩⟩
  exact .cons rfl (.cons ⟨_, rfl⟩ (.cons ⟨_, rfl⟩ (.cons ⟨_, rfl⟩ .nil)))
theorem dice_in {P : Program} {w : World} {H : Hp} {hp : Heap} {d a : Addr} {i m r : Int} (ok : HOk P w H hp) (h : H d = some (.lst [.ref a, .int i, .int m, .int r])) (h0 : 0 ≤ i) (h1 : 0 ≤ m) (h2 : m < 2147483647) :
    Alike H (upd H d (DiceO d a)) ∧ HOk P w (upd H d (DiceO d a)) hp :=
  ⟨alike_at h True.intro (fun _ z => nomatch z) (fun _ _ z => nomatch z) (fun _ z => nomatch z), hok_at ok h True.intro (dice_ok (dice_of ok h h0 h1 h2))⟩
end Wt

set_option Elab.async false
set_option linter.all false
set_option maxRecDepth 100000
set_option maxHeartbeats 4000000
/-! Words of a row: the plain functions. -/
namespace Wt
open PySem PySem.Spec PyProof.Rows L2 SX Evl

def letters : List Nat := [97, 98, 99, 100, 101, 102, 103, 104, 105, 106, 107, 108, 109, 110, 111, 112, 113, 114, 115, 116, 117, 118, 119, 120, 121, 122]
def figures : List Nat := [48, 49, 50, 51, 52, 53, 54, 55, 56, 57]
def signs : List (List Nat) := [[60, 62], [60, 61], [40], [41], [44], [46], [61], [60], [43], [45], [42], [47]]
def owns : List (List Nat) := [[117, 115, 101], [99, 111, 110, 115, 116], [107, 101, 101, 112], [111, 117, 116], [100, 101, 102], [110, 117, 109], [121, 101, 115], [110, 111], [108, 101, 116], [105, 102],
  [101, 108, 115, 101], [119, 104, 105, 108, 101], [101, 110, 100], [103, 105, 118, 101], [115, 97, 121], [100, 111], [111, 114], [97, 110, 100], [110, 111, 116], [109, 111, 100]]
def kName : List Nat := [110, 97, 109, 101]
def kNum : List Nat := [110, 117, 109]
def kSign : List Nat := [115, 105, 103, 110]
def kOwn : List Nat := [111, 119, 110]
def isL (c : Nat) : Bool := decide (c ∈ letters)
def isF (c : Nat) : Bool := decide (c ∈ figures)
/-- the longest word that begins what is left -/
def wordAt : List Nat → List Nat
  | [] => []
  | c :: r => if isL c = true then (c :: r).takeWhile isL else if isF c = true then (c :: r).takeWhile isF else (signs.find? fun s => decide ((c :: r).take s.length = s)).getD []
def kindOf (w : List Nat) : List Nat :=
  if w ∈ owns then kOwn else if w ∈ signs then kSign else if w = [] ∨ 6 < w.length then [] else
  if isL (w.headD 0) = true then kName else if w.headD 0 = 48 ∧ 1 < w.length then [] else kNum
/-- a word: kind, word, column -/
abbrev Word := List Nat × List Nat × Nat
/-- the words of what is left of a row, which stands behind so many signs; where the first that is none begins -/
def lexAt : Nat → Nat → List Nat → List Word × Option Nat
  | 0, _, _ => ([], none)
  | _ + 1, _, [] => ([], none)
  | f + 1, i, c :: r => if c = 32 then lexAt f (i + 1) r else
    if kindOf (wordAt (c :: r)) = [] then ([], some (i + 1)) else
      ((kindOf (wordAt (c :: r)), wordAt (c :: r), i + 1) :: (lexAt f (i + (wordAt (c :: r)).length) ((c :: r).drop (wordAt (c :: r)).length)).1,
        (lexAt f (i + (wordAt (c :: r)).length) ((c :: r).drop (wordAt (c :: r)).length)).2)
def told (row : List Nat) : List Nat := row.takeWhile fun c => decide (c ≠ 35)
def lexRow (row : List Nat) : List Word × Option Nat := lexAt (told row).length 0 (told row)

/-! ### facts -/
theorem takeWhile_len {p : Nat → Bool} : ∀ l : List Nat, (l.takeWhile p).length ≤ l.length
  | [] => Nat.le_refl _
  | c :: r => by
    rw [List.takeWhile_cons]
    split
    · exact Nat.succ_le_succ (takeWhile_len r)
    · exact Nat.zero_le _
theorem find_len {l s : List Nat} {ss : List (List Nat)} (h : ss.find? (fun s => decide (l.take s.length = s)) = some s) : s.length ≤ l.length := by
  have e := List.find?_some h
  have e2 : l.take s.length = s := of_decide_eq_true e
  have e3 := congrArg List.length e2
  rw [List.length_take] at e3
  omega
theorem wordAt_cons (c : Nat) (r : List Nat) : wordAt (c :: r) = if isL c = true then (c :: r).takeWhile isL else if isF c = true then (c :: r).takeWhile isF else (signs.find? fun s => decide ((c :: r).take s.length = s)).getD [] := rfl
theorem lexAt_cons (f i c : Nat) (r : List Nat) : lexAt (f + 1) i (c :: r) = if c = 32 then lexAt f (i + 1) r else
    if kindOf (wordAt (c :: r)) = [] then ([], some (i + 1)) else
      ((kindOf (wordAt (c :: r)), wordAt (c :: r), i + 1) :: (lexAt f (i + (wordAt (c :: r)).length) ((c :: r).drop (wordAt (c :: r)).length)).1,
        (lexAt f (i + (wordAt (c :: r)).length) ((c :: r).drop (wordAt (c :: r)).length)).2) := rfl
theorem wordAt_len : ∀ l : List Nat, (wordAt l).length ≤ l.length
  | [] => Nat.le_refl _
  | c :: r => by
    rw [wordAt_cons]
    split
    · exact takeWhile_len _
    · split
      · exact takeWhile_len _
      · cases h : signs.find? (fun s => decide ((c :: r).take s.length = s)) with
        | none => exact Nat.zero_le _
        | some s => exact find_len h
/-- what is a word is not empty -/
theorem kind_ne {w : List Nat} (h : kindOf w ≠ []) : w ≠ [] := fun e => by
  subst e
  exact h (by decide +kernel)
theorem kind_pos {w : List Nat} (h : kindOf w ≠ []) : 0 < w.length := List.length_pos_iff.mpr (kind_ne h)
/-- enough turns are enough -/
theorem lexAt_fuel : ∀ (f g i : Nat) (l : List Nat), l.length ≤ f → l.length ≤ g → lexAt f i l = lexAt g i l
  | 0, 0, _, _, _, _ => rfl
  | 0, g + 1, _, [], _, _ => rfl
  | 0, _ + 1, _, _ :: _, h, _ => absurd h (Nat.not_succ_le_zero _)
  | f + 1, 0, _, [], _, _ => rfl
  | _ + 1, 0, _, _ :: _, _, h => absurd h (Nat.not_succ_le_zero _)
  | _ + 1, _ + 1, _, [], _, _ => rfl
  | f + 1, g + 1, i, c :: r, hf, hg => by
    have hf1 : r.length ≤ f := Nat.le_of_succ_le_succ hf
    have hg1 : r.length ≤ g := Nat.le_of_succ_le_succ hg
    rw [lexAt_cons, lexAt_cons]
    by_cases h1 : c = 32
    · rw [if_pos h1, if_pos h1]
      exact lexAt_fuel f g _ r hf1 hg1
    · rw [if_neg h1, if_neg h1]
      by_cases h2 : kindOf (wordAt (c :: r)) = []
      · rw [if_pos h2, if_pos h2]
      · rw [if_neg h2, if_neg h2]
        have hp := kind_pos h2
        have hl : ((c :: r).drop (wordAt (c :: r)).length).length ≤ r.length := by
          rw [List.length_drop, List.length_cons]
          omega
        rw [lexAt_fuel f g _ _ (Nat.le_trans hl hf1) (Nat.le_trans hl hg1)]
/-- with just enough turns: the equations -/
def lexR (i : Nat) (l : List Nat) : List Word × Option Nat := lexAt l.length i l
theorem lexR_nil (i : Nat) : lexR i [] = ([], none) := rfl
theorem lexR_blank (i : Nat) (r : List Nat) : lexR i (32 :: r) = lexR (i + 1) r := by
  unfold lexR
  show lexAt (r.length + 1) i (32 :: r) = _
  rw [lexAt_cons, if_pos rfl]
theorem lexR_bad {i c : Nat} {r : List Nat} (h1 : c ≠ 32) (h2 : kindOf (wordAt (c :: r)) = []) : lexR i (c :: r) = ([], some (i + 1)) := by
  unfold lexR
  show lexAt (r.length + 1) i (c :: r) = _
  rw [lexAt_cons, if_neg h1, if_pos h2]
theorem lexR_word {i c : Nat} {r : List Nat} (h1 : c ≠ 32) (h2 : kindOf (wordAt (c :: r)) ≠ []) :
    lexR i (c :: r) = ((kindOf (wordAt (c :: r)), wordAt (c :: r), i + 1) :: (lexR (i + (wordAt (c :: r)).length) ((c :: r).drop (wordAt (c :: r)).length)).1,
      (lexR (i + (wordAt (c :: r)).length) ((c :: r).drop (wordAt (c :: r)).length)).2) := by
  have hp := kind_pos h2
  have hl : ((c :: r).drop (wordAt (c :: r)).length).length ≤ r.length := by
    rw [List.length_drop, List.length_cons]
    omega
  have e : lexR i (c :: r) = lexAt (r.length + 1) i (c :: r) := rfl
  rw [e, lexAt_cons, if_neg h1, if_neg h2]
  unfold lexR
  rw [lexAt_fuel r.length _ _ _ hl (Nat.le_refl _)]
theorem lexRow_R (row : List Nat) : lexRow row = lexR 0 (told row) := rfl
theorem lexR_count : ∀ (n i : Nat) (l : List Nat), l.length ≤ n → (lexR i l).1.length ≤ l.length
  | _, i, [], _ => by
    rw [lexR_nil]
    exact Nat.le_refl _
  | 0, _, _ :: _, h => absurd h (Nat.not_succ_le_zero _)
  | n + 1, i, c :: r, h => by
    by_cases h1 : c = 32
    · subst h1
      rw [lexR_blank]
      exact Nat.le_succ_of_le (lexR_count n _ r (Nat.le_of_succ_le_succ h))
    · by_cases h2 : kindOf (wordAt (c :: r)) = []
      · rw [lexR_bad h1 h2]
        exact Nat.zero_le _
      · rw [lexR_word h1 h2]
        have hp := kind_pos h2
        have hl : ((c :: r).drop (wordAt (c :: r)).length).length ≤ r.length := by
          rw [List.length_drop, List.length_cons]
          omega
        have ih := lexR_count n (i + (wordAt (c :: r)).length) _ (Nat.le_trans hl (Nat.le_of_succ_le_succ h))
        show _ + 1 ≤ r.length + 1
        exact Nat.succ_le_succ (Nat.le_trans ih hl)
theorem lexRow_count (row : List Nat) : (lexRow row).1.length ≤ row.length := by
  rw [lexRow_R]
  exact Nat.le_trans (lexR_count _ 0 _ (Nat.le_refl _)) (takeWhile_len _)

/-- a word as data, in a row of this number -/
def wordD (n : Nat) (w : Word) : PyData := .tuple [.str (S w.1), .str (S w.2.1), .tuple [.int (n : Int), .int (w.2.2 : Nat)]]
/-- all words of rows numbered from n on -/
def allD (n : Nat) : List (List Nat) → List PyData
  | [] => []
  | row :: rest => (lexRow row).1.map (wordD n) ++ allD (n + 1) rest
end Wt

set_option Elab.async false
set_option linter.all false
set_option maxRecDepth 100000
set_option maxHeartbeats 4000000
namespace Wt
open PySem PySem.Spec PyProof.Rows L2 SX Evl
open C8 (Def Cal cal0 fnScope_by fnScope)
/-! The program's words, by the row's own text. -/
def topS (i : Nat) : Stmt := PySem.Challenge.pw_wholetongue_k01_words_told.main.body.getD i (.Pass ⟨0, 0, 0, 0⟩)

/-! ### further readings -/
theorem lit_letters : Str.ofString "abcdefghijklmnopqrstuvwxyz" = S letters := by decide +kernel
theorem lit_figures : Str.ofString "0123456789" = S figures := by decide +kernel
theorem slice_any {a : List Nat} {i j : Nat} (h : i ≤ j) (hi : i ≤ a.length) : Txt.slice (S a) (some (i : Int)) (some (j : Int)) = S ((a.drop i).take (j - i)) := by
  by_cases hj : j ≤ a.length
  · exact slice_mid h hj
  · have e : Txt.slice (S a) (some (i : Int)) (some (j : Int)) = Txt.slice (S a) (some (i : Int)) (some (a.length : Int)) := by
      unfold Txt.slice
      rw [S_len, idx_hi (by omega)]
    rw [e, slice_mid hi (Nat.le_refl _)]
    refine congrArg S ?_
    rw [List.take_of_length_le (by rw [List.length_drop]; omega), List.take_of_length_le (by rw [List.length_drop]; omega)]
theorem inV_S (w : List Nat) : ∀ ws : List (List Nat), inV (.str (S w)) (ws.map fun z => V.str (S z)) = decide (w ∈ ws)
  | [] => (decide_eq_false (by simp)).symm
  | z :: ws => by
    have ih := inV_S w ws
    have e : inV (.str (S w)) ((z :: ws).map fun z => V.str (S z)) = (eqV (.str (S z)) (.str (S w)) || inV (.str (S w)) (ws.map fun z => V.str (S z))) := rfl
    have e2 : eqV (.str (S z)) (.str (S w)) = decide (z = w) := by
      show (S z == S w) = _
      exact S_beq_eq
    rw [e, ih, e2]
    by_cases h : z = w
    · subst h
      simp
    · have h2 : ¬ w = z := fun q => h q.symm
      simp [h, h2]
theorem flat_S : ∀ ws : List (List Nat), (ws.map fun z => V.str (S z)).all flatV = true
  | [] => rfl
  | z :: ws => by
    rw [List.map_cons, List.all_cons, flat_S ws] <;> rfl
theorem strEq {a b : List Nat} : decide ((V.str (S a)) = V.str (S b)) = decide (a = b) := by
  by_cases h : a = b
  · subst h
    simp
  · rw [decide_eq_false h]
    exact decide_eq_false fun e => h (S_inj (V.str.inj e))
section
variable {K : PySem.W.Frag} {σ : L2.St} {H H' : Hp} {ta tb te tx : TE} {t u : TT} {x y z v : V}
theorem ev_slA {te : TE} {tl th : TO} {a : List Nat} {i j : Nat} (h : Ev te σ H (.str (S a))) (h1 : EvO tl σ H (some (i : Int))) (h2 : EvO th σ H (some (j : Int))) (hl : a.length ≤ 100000) (hi : i ≤ j) (hj : i ≤ a.length) :
    Ev (tSl C8.rSlX te tl th) σ H (.str (S ((a.drop i).take (j - i)))) := fun H1 e Q q =>
  h H1 e _ fun H2 e2 => h1 H2 (e.trans e2) _ fun H3 e3 => h2 H3 ((e.trans e2).trans e3) _ fun H4 e4 => by
    refine ⟨S a, rfl, ?_, ?_⟩
    · rw [S_len]
      exact sz_of hl
    · rw [slice_any hi hj]
      exact q H4 ((e2.trans e3).trans e4)
theorem ev_eqS {a b : List Nat} (ha : Ev ta σ H (.str (S a))) (hb : Ev tb σ H (.str (S b))) : Ev (tOp rEq ta tb) σ H (.bl (decide (a = b))) := ev_is (ev_op ha hb (rv_eq rfl)) (congrArg V.bl strEq)
theorem ev_neS {a b : List Nat} (ha : Ev ta σ H (.str (S a))) (hb : Ev tb σ H (.str (S b))) : Ev (tOp rNe ta tb) σ H (.bl (!decide (a = b))) := ev_is (ev_op ha hb (rv_ne rfl)) (congrArg (fun b => V.bl (!b)) strEq)
theorem ev_inSg {c : Nat} {w : List Nat} (ha : Ev ta σ H (.str (S [c]))) (hb : Ev tb σ H (.str (S w))) :
    Ev (tOp (fun x y H Q => ∃ (c : Nat) (z : Str), x = .str ⟨#[c]⟩ ∧ y = .str z ∧ Q (.bl (decide (c ∈ z.cps.toList))) H) ta tb) σ H (.bl (decide (c ∈ w))) := ev_op ha hb rv_inSign
theorem ev_inTs {w : List Nat} {ws : List (List Nat)} {p : Addr} (ha : Ev ta σ H (.str (S w))) (hb : Ev tb σ H (.ref p)) (hp : SqT K H p (ws.map fun z => V.str (S z))) :
    Ev (tOp (rIn K false) ta tb) σ H (.bl (decide (w ∈ ws))) := ev_is (ev_op ha hb (rv_isT hp rfl (flat_S ws))) (congrArg V.bl (inV_S w ws))
end

/-- what the top leaves of the program's words -/
structure ModsW (K : PySem.W.Frag) (mg : Str → Option Value) (aS aO : Addr) : Prop where
  m_len : mg "len" = none
  m_enumerate : mg "enumerate" = none
  g_LETTERS : ∃ u, mg "LETTERS" = some u ∧ RelV (.str (S letters)) u
  g_FIGURES : ∃ u, mg "FIGURES" = some u ∧ RelV (.str (S figures)) u
  g_LONGEST : ∃ u, mg "LONGEST" = some u ∧ RelV (.int 6) u
  g_SIGNS : ∃ u, mg "SIGNS" = some u ∧ RelV (.ref aS) u
  g_OWN_WORDS : ∃ u, mg "OWN_WORDS" = some u ∧ RelV (.ref aO) u
  signs : ∀ H, SqT K H aS (signs.map fun z => V.str (S z))
  owns : ∀ H, SqT K H aO (owns.map fun z => V.str (S z))

section
variable {P : Program} {w : World} {K : PySem.W.Frag} {mg : Str → Option Value} {base : Heap} {aS aO : Addr}
/-! ### run_at -/
abbrev s_run_at : Stmt := topS 12
theorem sc_run_at : FnScope ["row", "at", "characters", "end"] ["row", "at", "characters"] (fnScope s_run_at) := fnScope_by (by decide +kernel)
def spRun : Sp := fun vs H Q _ => ∃ (row : List Nat) (i : Nat) (cs : List Nat), vs = [.str (S row), .int (i : Int), .str (S cs)] ∧ i ≤ row.length ∧ row.length ≤ 100000 ∧
  RetV (.str (S ((row.drop i).takeWhile fun c => decide (c ∈ cs)))) H Q
theorem ok_run_at (T : ModsW K mg aS aO) {f : Addr} {fd : FuncData} (F : Def K mg "run_at" s_run_at f fd) (b : Binds K fd ["row", "at", "characters"] []) : Cal P w K mg base 1 "run_at" spRun [] := by
  refine cal0 F b .nil sc_run_at (fun vs H Q E h => ?_) (fun cdv A outer s H vs Q E hr h => ?_)
  · obtain ⟨_, _, _, rfl, _⟩ := h
    rfl
  · obtain ⟨row, i, cs, rfl, hi, hl, q⟩ := h
    have m_len := T.m_len
    refine ⟨_, (pss_cons (ps_set (i := 3) sc_run_at.nd rfl (.inl rfl) (pv 1))
      (pss_cons (ps_while PassesOwn.never (PW.pt (pw_and (pt_cmpR op_lt (pv 3) (pe_callB call_len_str (by rfl) m_len PySem.boot_len (pa_cons (pv 0) pa_nil)) (nomark _)) (pw_and1 (pt_cmpR op_in_sign (pe_ix ix_str (pv 0) (pv 3) (fun _ _ => rfl)) (pv 2) (by with_unfolding_all rfl))))) (pss_one (ps_aug (i := 3) sc_run_at.nd rfl (.inl rfl) pe_int ip_add)))
      (pss_one (ps_ret (pe_slice C8.sl_txt (pv 0) (po_some (pv 1)) (po_some (pv 3))))))), ?_⟩
    refine q_asg (ev_var rfl) fun H1 e1 => ?_
    refine q_while (fun m σ' H' => ∃ e : Nat, σ' = [some (.str (S row)), some (.int (i : Int)), some (.str (S cs)), some (.int (e : Int))] ∧ Ex H H' ∧ i ≤ e ∧ e + m = row.length ∧
      (row.drop i).takeWhile (fun c => decide (c ∈ cs)) = (row.drop i).take (e - i) ++ (row.drop e).takeWhile (fun c => decide (c ∈ cs))) (row.length - i) ⟨i, rfl, e1, Nat.le_refl _, by omega, ?_⟩ ?_
    · rw [Nat.sub_self, List.take_zero, List.nil_append]
    · rintro m σ' H' ⟨e, rfl, eH, hie, hm, hw⟩
      by_cases hlt : e < row.length
      · have hg : row[e]? = some row[e] := List.getElem?_eq_getElem hlt
        have hd : row.drop e = row[e] :: row.drop (e + 1) := List.drop_eq_getElem_cons hlt
        refine ⟨true && decide (row[e] ∈ cs), et_and (et_is (et_test (ev_op (ev_var rfl) (ev_lenS (ev_var rfl) hl) rv_I0)) (decide_eq_true (by omega))) fun _ => et_test (ev_inSg (ev_op (ev_var rfl) (ev_var rfl) (rv_at hl hg)) (ev_var rfl)), fun hb H1 e1' => ?_, fun hb H1 e1' => ?_⟩
        · have hc : row[e] ∈ cs := of_decide_eq_true (by simpa using hb)
          refine ⟨fun σ2 H2 => σ2 = [some (.str (S row)), some (.int (i : Int)), some (.str (S cs)), some (.int ((e + 1 : Nat) : Int))] ∧ Ex H H2, fun σ2 H2 hN => ⟨m - 1, by omega, e + 1, hN.1, hN.2, by omega, by omega, ?_⟩, ?_⟩
          · rw [hw, hd, List.takeWhile_cons, if_pos (by simpa using hc)]
            have e2 : (row.drop i).take (e + 1 - i) = (row.drop i).take (e - i) ++ [row[e]] := by
              rw [show e + 1 - i = (e - i) + 1 by omega, List.take_add_one]
              congr 1
              rw [List.getElem?_drop, show i + (e - i) = e by omega, hg]
              rfl
            rw [e2, List.append_assoc]
            rfl
          · refine s_aug (a := (e : Int)) (b := 1) rfl ev_c fun H2 e2 => ⟨?_, (eH.trans e1').trans e2⟩
            show [some (V.str (S row)), some (.int (i : Int)), some (.str (S cs)), some (.int ((e : Int) + 1))] = _
            rw [show ((e + 1 : Nat) : Int) = (e : Int) + 1 by omega]
        · have hc : ¬ row[e] ∈ cs := of_decide_eq_false (by simpa using hb)
          rw [hd, List.takeWhile_cons, if_neg (by simpa using hc), List.append_nil] at hw
          refine s_ret (ev_sl (ev_var rfl) (eo_some (ev_var rfl)) (eo_some (ev_var rfl)) hl hie (by omega)) fun H2 e2 => ?_
          rw [← hw]
          exact q.go ((eH.trans e1').trans e2)
      · refine ⟨false && false, et_and (et_is (et_test (ev_op (ev_var rfl) (ev_lenS (ev_var rfl) hl) rv_I0)) (decide_eq_false (by omega))) (fun z => by cases z), (fun z => by cases z), fun _ H1 e1' => ?_⟩
        have hz : row.drop e = [] := List.drop_eq_nil_of_le (by omega)
        rw [hz, List.takeWhile_nil, List.append_nil] at hw
        refine s_ret (ev_sl (ev_var rfl) (eo_some (ev_var rfl)) (eo_some (ev_var rfl)) hl hie (by omega)) fun H2 e2 => ?_
        rw [← hw]
        exact q.go ((eH.trans e1').trans e2)

/-! ### word_at -/
abbrev s_word_at : Stmt := topS 11
theorem sc_word_at : FnScope ["row", "at", "sign"] ["row", "at"] (fnScope s_word_at) := fnScope_by (by decide +kernel)
def spWordAt : Sp := fun vs H Q _ => ∃ (row : List Nat) (i : Nat), vs = [.str (S row), .int (i : Int)] ∧ i < row.length ∧ row.length ≤ 100000 ∧ RetV (.str (S (wordAt (row.drop i)))) H Q
theorem find_at {l : List Nat} : ∀ (ss : List (List Nat)) (j : Nat) (s : List Nat), ss[j]? = some s → l.take s.length = s → (∀ k s', k < j → ss[k]? = some s' → l.take s'.length ≠ s') →
    ss.find? (fun s => decide (l.take s.length = s)) = some s
  | [], _, _, h, _, _ => by simp at h
  | z :: ss, 0, s, h, h1, _ => by
    have e : z = s := Option.some.inj h
    subst e
    rw [List.find?_cons_of_pos (by simpa using h1)]
  | z :: ss, j + 1, s, h, h1, h2 => by
    rw [List.find?_cons_of_neg (by simpa using h2 0 z (Nat.succ_pos _) rfl)]
    exact find_at ss j s h h1 fun k s' hk e => h2 (k + 1) s' (Nat.succ_lt_succ hk) e
theorem find_no {l : List Nat} {ss : List (List Nat)} (h : ∀ k s', k < ss.length → ss[k]? = some s' → l.take s'.length ≠ s') : ss.find? (fun s => decide (l.take s.length = s)) = none := by
  rw [List.find?_eq_none]
  intro s hs
  obtain ⟨k, hk, e⟩ := List.getElem_of_mem hs
  simpa using h k s hk (by rw [List.getElem?_eq_getElem hk, e])
theorem ok_word_at (T : ModsW K mg aS aO) (c_run_at : Cal P w K mg base 1 "run_at" spRun []) {f : Addr} {fd : FuncData} (F : Def K mg "word_at" s_word_at f fd) (b : Binds K fd ["row", "at"] []) : Cal P w K mg base 2 "word_at" spWordAt [] := by
  refine cal0 F b .nil sc_word_at (fun vs H Q E h => ?_) (fun cdv A outer s H vs Q E hr h => ?_)
  · obtain ⟨_, _, rfl, _⟩ := h
    rfl
  · obtain ⟨row, i, rfl, hi, hl, q⟩ := h
    have g_LETTERS := T.g_LETTERS
    have g_FIGURES := T.g_FIGURES
    have g_SIGNS := T.g_SIGNS
    have m_len := T.m_len
    refine ⟨_, (pss_cons (ps_if (pt_cmpR op_in_sign (pe_ix ix_str (pv 0) (pv 1) (fun _ _ => rfl)) (C8.pe_gc (by rfl) g_LETTERS) (by with_unfolding_all rfl)) (pss_one (ps_ret (C8.pe_c c_run_at hr (by decide) (by rfl) (pa_cons (pv 0) (pa_cons (pv 1) (pa_cons (C8.pe_gc (by rfl) g_LETTERS) pa_nil)))))) pss_nil)
      (pss_cons (ps_if (pt_cmpR op_in_sign (pe_ix ix_str (pv 0) (pv 1) (fun _ _ => rfl)) (C8.pe_gc (by rfl) g_FIGURES) (by with_unfolding_all rfl)) (pss_one (ps_ret (C8.pe_c c_run_at hr (by decide) (by rfl) (pa_cons (pv 0) (pa_cons (pv 1) (pa_cons (C8.pe_gc (by rfl) g_FIGURES) pa_nil)))))) pss_nil)
      (pss_cons (ps_for PassesOwn.never rfl (pi_tup (C8.pe_gc (by rfl) g_SIGNS)) (pg_name (i := 2) sc_word_at.nd rfl (.inl rfl)) (pss_one (ps_if (pt_cmpR op_eq (pe_slice C8.sl_txt (pv 0) (po_some (pv 1)) (po_some (pe_op op_add (pv 1) (pe_callB call_len_str (by rfl) m_len PySem.boot_len (pa_cons (pv 2) pa_nil))))) (pv 2) (nomark _)) (pss_one (ps_ret (pv 2))) pss_nil)))
      (pss_one (ps_ret pe_str))))), ?_⟩
    have hg : row[i]? = some row[i] := List.getElem?_eq_getElem hi
    have hd : row.drop i = row[i] :: row.drop (i + 1) := List.drop_eq_getElem_cons hi
    have hw : wordAt (row.drop i) = if isL row[i] = true then (row.drop i).takeWhile isL else if isF row[i] = true then (row.drop i).takeWhile isF else (signs.find? fun s => decide ((row.drop i).take s.length = s)).getD [] := by
      rw [hd, wordAt_cons]
    rw [hw] at q
    have run : ∀ cs : List Nat, SpV spRun [.str (S row), .int (i : Int), .str (S cs)] H (.str (S ((row.drop i).takeWhile fun c => decide (c ∈ cs)))) := fun cs H1 e Q' q' E' =>
      ⟨row, i, cs, rfl, Nat.le_of_lt hi, hl, fun H2 e2 => q' H2 e2⟩
    refine q_when (et_test (ev_inSg (ev_op (ev_var rfl) (ev_var rfl) (rv_at hl hg)) ev_c)) (fun hb H1 e1 => ?_) (fun hb H1 e1 => ?_)
    · rw [if_pos (show isL row[i] = true from hb)] at q
      exact s_ret (ev_call (dvs := []) (ea_cons (ev_var rfl) (ea_cons (ev_var rfl) (ea_cons ev_c ea_nil))) (fun H2 e2 => run letters H2 (e1.trans e2))) fun H2 e2 => q.go (e1.trans e2)
    · rw [if_neg (show ¬ isL row[i] = true from by unfold isL; rw [hb]; exact Bool.false_ne_true)] at q
      refine q_when (et_test (ev_inSg (ev_op (ev_var rfl) (ev_var rfl) (rv_at hl hg)) ev_c)) (fun hb2 H2 e2 => ?_) (fun hb2 H2 e2 => ?_)
      · rw [if_pos (show isF row[i] = true from hb2)] at q
        exact s_ret (ev_call (dvs := []) (ea_cons (ev_var rfl) (ea_cons (ev_var rfl) (ea_cons ev_c ea_nil))) (fun H3 e3 => run figures H3 ((e1.trans e2).trans e3))) fun H3 e3 => q.go ((e1.trans e2).trans e3)
      · rw [if_neg (show ¬ isF row[i] = true from by unfold isF; rw [hb2]; exact Bool.false_ne_true)] at q
        have e12 := e1.trans e2
        refine q_forT ev_c (T.signs H2) (fun j σ' H' => ∃ y, σ' = [some (.str (S row)), some (.int (i : Int)), y] ∧ Ex H H' ∧ ∀ k s', k < j → signs[k]? = some s' → (row.drop i).take s'.length ≠ s')
          (fun H3 e3 => ⟨none, rfl, e12.trans e3, fun k _ hk => absurd hk (Nat.not_lt_zero _)⟩) (fun j σ' H' _ _ => T.signs H') ?_ ?_
        · rintro j x σ' H' hx ⟨y, rfl, eH, hno⟩
          rw [List.getElem?_map] at hx
          cases hs : signs[j]? with
          | none =>
            rw [hs] at hx
            cases hx
          | some sg =>
            rw [hs] at hx
            have ex : x = .str (S sg) := (Option.some.inj hx).symm
            subst ex
            have hsl : sg.length ≤ 100000 := by
              have hm := List.mem_of_getElem? hs
              have hall : ∀ z ∈ signs, z.length ≤ 2 := by decide
              exact Nat.le_trans (hall _ hm) (by decide)
            refine s_when (et_test (ev_eqS (ev_slA (j := i + sg.length) (ev_var rfl) (eo_some (ev_var rfl)) (eo_some (ev_is (ev_op (ev_var rfl) (ev_lenS (ev_var rfl) hsl) rv_I0) (by
              show V.int ((i : Int) + (sg.length : Int)) = V.int ((i + sg.length : Nat) : Int)
              rw [Int.natCast_add]))) hl (Nat.le_add_right _ _) (Nat.le_of_lt hi)) (ev_var rfl))) (fun hb3 H3 e3 => ?_) (fun hb3 H3 e3 => ?_)
            · have hm : (row.drop i).take sg.length = sg := by
                have z := of_decide_eq_true hb3
                rw [Nat.add_sub_cancel_left] at z
                exact z
              rw [find_at signs j sg hs hm hno] at q
              exact s_ret (ev_var rfl) fun H4 e4 => q.go ((eH.trans e3).trans e4)
            · refine ⟨_, rfl, eH.trans e3, fun k s' hk e => ?_⟩
              by_cases hkj : k < j
              · exact hno k s' hkj e
              · have ek : k = j := by omega
                subst ek
                rw [hs] at e
                cases e
                have z := of_decide_eq_false hb3
                rw [Nat.add_sub_cancel_left] at z
                exact z
        · rintro σ' H' ⟨y, rfl, eH, hno⟩
          rw [find_no (fun k s' hk e => hno k s' (by rw [List.length_map]; exact hk) e)] at q
          exact s_ret ev_c fun H3 e3 => q.go (eH.trans e3)

/-! ### kind_of -/
abbrev s_kind_of : Stmt := topS 13
theorem sc_kind_of : FnScope ["word"] ["word"] (fnScope s_kind_of) := fnScope_by (by decide +kernel)
def spKind : Sp := fun vs H Q _ => ∃ w : List Nat, vs = [.str (S w)] ∧ w.length ≤ 100000 ∧ RetV (.str (S (kindOf w))) H Q
theorem lit0 : (Str.ofString "" : Str) = S [] := by decide +kernel
theorem ok_kind_of (T : ModsW K mg aS aO) {f : Addr} {fd : FuncData} (F : Def K mg "kind_of" s_kind_of f fd) (b : Binds K fd ["word"] []) : Cal P w K mg base 1 "kind_of" spKind [] := by
  refine cal0 F b .nil sc_kind_of (fun vs H Q E h => ?_) (fun cdv A outer s H vs Q E hr h => ?_)
  · obtain ⟨_, rfl, _⟩ := h
    rfl
  · obtain ⟨w, rfl, hl, q⟩ := h
    have g_OWN_WORDS := T.g_OWN_WORDS
    have g_SIGNS := T.g_SIGNS
    have m_len := T.m_len
    have g_LONGEST := T.g_LONGEST
    have g_LETTERS := T.g_LETTERS
    refine ⟨_, (pss_cons (ps_if (pt_cmpR op_in_seq (pv 0) (C8.pe_gc (by rfl) g_OWN_WORDS) (by with_unfolding_all rfl)) (pss_one (ps_ret pe_str)) pss_nil)
      (pss_cons (ps_if (pt_cmpR op_in_seq (pv 0) (C8.pe_gc (by rfl) g_SIGNS) (by with_unfolding_all rfl)) (pss_one (ps_ret pe_str)) pss_nil)
      (pss_cons (ps_if (PW.pt (pw_or (pt_cmpR op_eq (pv 0) pe_str (nomark _)) (pw_or1 (pt_cmpR op_gt (pe_callB call_len_str (by rfl) m_len PySem.boot_len (pa_cons (pv 0) pa_nil)) (C8.pe_gc (by rfl) g_LONGEST) (nomark _))))) (pss_one (ps_ret pe_str)) pss_nil)
      (pss_cons (ps_if (pt_cmpR op_in_sign (pe_ix ix_str (pv 0) pe_int (fun _ _ => rfl)) (C8.pe_gc (by rfl) g_LETTERS) (by with_unfolding_all rfl)) (pss_one (ps_ret pe_str)) pss_nil)
      (pss_cons (ps_if (PW.pt (pw_and (pt_cmpR op_eq (pe_ix ix_str (pv 0) pe_int (fun _ _ => rfl)) pe_str (nomark _)) (pw_and1 (pt_cmpR op_gt (pe_callB call_len_str (by rfl) m_len PySem.boot_len (pa_cons (pv 0) pa_nil)) pe_int (nomark _))))) (pss_one (ps_ret pe_str)) pss_nil)
      (pss_one (ps_ret pe_str))))))), ?_⟩
    unfold kindOf at q
    have c0 : ∀ {H : Hp}, Ev (tC (.str (Str.ofString ""))) [some (V.str (S w))] H (.str (S [])) := ev_is ev_c (congrArg V.str lit0)
    refine q_when (et_test (ev_inTs (ev_var rfl) ev_c (T.owns H))) (fun hb H1 e1 => ?_) (fun hb H1 e1 => ?_)
    · rw [if_pos (of_decide_eq_true hb)] at q
      exact s_ret (ev_is ev_c (congrArg V.str (show Str.ofString "own" = S kOwn by decide +kernel))) fun H2 e2 => q.go (e1.trans e2)
    rw [if_neg (of_decide_eq_false hb)] at q
    refine q_when (et_test (ev_inTs (ev_var rfl) ev_c (T.signs H1))) (fun hb2 H2 e2 => ?_) (fun hb2 H2 e2 => ?_)
    · rw [if_pos (of_decide_eq_true hb2)] at q
      exact s_ret (ev_is ev_c (congrArg V.str (show Str.ofString "sign" = S kSign by decide +kernel))) fun H3 e3 => q.go ((e1.trans e2).trans e3)
    rw [if_neg (of_decide_eq_false hb2)] at q
    have e12 := e1.trans e2
    refine q_when (et_or (et_test (ev_eqS (ev_var rfl) c0)) fun _ => et_test (ev_op (ev_lenS (ev_var rfl) hl) ev_c rv_I0)) (fun hb3 H3 e3 => ?_) (fun hb3 H3 e3 => ?_)
    · have h3 : w = [] ∨ 6 < w.length := by
        rw [Bool.or_eq_true] at hb3
        rcases hb3 with z | z
        · exact .inl (of_decide_eq_true z)
        · have z2 := of_decide_eq_true z
          exact .inr (by omega)
      rw [if_pos h3] at q
      exact s_ret c0 fun H4 e4 => q.go ((e12.trans e3).trans e4)
    have h3 : ¬ (w = [] ∨ 6 < w.length) := by
      rw [Bool.or_eq_false_iff] at hb3
      rintro (z | z)
      · exact of_decide_eq_false hb3.1 z
      · have z2 := of_decide_eq_false hb3.2
        omega
    rw [if_neg h3] at q
    have e13 := e12.trans e3
    obtain ⟨c, r, rfl⟩ : ∃ c r, w = c :: r := by
      cases w with
      | nil => exact absurd (.inl rfl) h3
      | cons c r => exact ⟨c, r, rfl⟩
    have at0 : ∀ {H : Hp}, Ev (tOp rIxS (tVar 0) (tC (.int 0))) [some (V.str (S (c :: r)))] H (.str (S [c])) := ev_op (ev_var rfl) ev_c (rv_at (i := 0) hl rfl)
    refine q_when (et_test (ev_inSg at0 ev_c)) (fun hb4 H4 e4 => ?_) (fun hb4 H4 e4 => ?_)
    · rw [if_pos (show isL ((c :: r).headD 0) = true from hb4)] at q
      exact s_ret (ev_is ev_c (congrArg V.str (show Str.ofString "name" = S kName by decide +kernel))) fun H5 e5 => q.go ((e13.trans e4).trans e5)
    rw [if_neg (show ¬ isL ((c :: r).headD 0) = true from by
      show ¬ decide (c ∈ letters) = true
      rw [hb4]
      exact Bool.false_ne_true)] at q
    refine q_when (et_and (et_test (ev_eqS at0 (ev_is ev_c (congrArg V.str (show Str.ofString "0" = S [48] by decide +kernel))))) fun _ => et_test (ev_op (ev_lenS (ev_var rfl) hl) ev_c rv_I0)) (fun hb5 H5 e5 => ?_) (fun hb5 H5 e5 => ?_)
    · have h5 : (c :: r).headD 0 = 48 ∧ 1 < (c :: r).length := by
        rw [Bool.and_eq_true] at hb5
        have z1 := of_decide_eq_true hb5.1
        have z2 := of_decide_eq_true hb5.2
        exact ⟨by simpa using z1, by omega⟩
      rw [if_pos h5] at q
      exact s_ret c0 fun H6 e6 => q.go (((e13.trans e4).trans e5).trans e6)
    · have h5 : ¬ ((c :: r).headD 0 = 48 ∧ 1 < (c :: r).length) := by
        rintro ⟨z1, z2⟩
        have z1' : c = 48 := z1
        rw [Bool.and_eq_false_iff] at hb5
        rcases hb5 with z | z
        · exact of_decide_eq_false z (by rw [z1'])
        · have := of_decide_eq_false z
          omega
      rw [if_neg h5] at q
      exact s_ret (ev_is ev_c (congrArg V.str (show Str.ofString "num" = S kNum by decide +kernel))) fun H6 e6 => q.go (((e13.trans e4).trans e5).trans e6)
end
end Wt

set_option Elab.async false
set_option linter.all false
set_option maxRecDepth 100000
set_option maxHeartbeats 4000000
namespace Wt
open PySem PySem.Spec PyProof.Rows L2 SX Evl
open C8 (Def Cal cal0 fnScope_by fnScope)
/-! words_in, words_of, where all are words. -/
/-- a new list of what is told -/
def RetTd (ds : List PyData) (H : Hp) (Q : VK) : Prop := ∀ p H2 vs, H p = none → Ex H H2 → H2 p = some (.lst vs) → TdAll H2 vs ds → Q (.ref p) H2
theorem told_split (row : List Nat) : (35 ∉ row ∧ told row = row) ∨ ∃ r, row = told row ++ 35 :: r ∧ 35 ∉ told row := by
  have hno : ∀ l : List Nat, 35 ∉ told l := fun l => by
    induction l with
    | nil => intro h; cases h
    | cons c r ih =>
      unfold told at ih ⊢
      rw [List.takeWhile_cons]
      by_cases h : c = 35
      · rw [if_neg (by simp [h])]
        intro z
        cases z
      · rw [if_pos (by simp [h])]
        intro z
        rcases List.mem_cons.mp z with z | z
        · exact h z.symm
        · exact ih z
  have hsp : ∀ l : List Nat, 35 ∈ l → ∃ r, l = told l ++ 35 :: r := fun l => by
    induction l with
    | nil => intro h; cases h
    | cons c r ih =>
      intro h
      unfold told at ih ⊢
      rw [List.takeWhile_cons]
      by_cases hc : c = 35
      · rw [if_neg (by simp [hc])]
        exact ⟨r, by rw [hc] <;> rfl⟩
      · rw [if_pos (by simp [hc])]
        rcases List.mem_cons.mp h with z | z
        · exact absurd z.symm hc
        · obtain ⟨q, e⟩ := ih z
          exact ⟨q, by rw [List.cons_append, ← e]⟩
  by_cases h : 35 ∈ row
  · obtain ⟨r, e⟩ := hsp row h
    exact .inr ⟨r, e, hno row⟩
  · refine .inl ⟨h, ?_⟩
    have all : ∀ l : List Nat, 35 ∉ l → told l = l := fun l => by
      induction l with
      | nil => intro _; rfl
      | cons c r ih =>
        intro hn
        unfold told at ih ⊢
        have hc : c ≠ 35 := fun z => hn (z ▸ List.mem_cons_self ..)
        rw [List.takeWhile_cons, if_pos (by simp [hc]), ih fun z => hn (List.mem_cons_of_mem _ z)]
    exact all row h
theorem part_told (row : List Nat) : (Txt.partition (S row) (S [35])).1 = S (told row) := by
  rcases told_split row with ⟨h, e⟩ | ⟨r, e, h⟩
  · rw [SX.partition_none (by simp) (par_head_none h), e]
  · have z : TL.par [35] [] row = some (told row, r) := by
      have q := par_head (c := 35) (sep := []) r h
      rw [show told row ++ ([35] ++ r) = row from e.symm] at q
      exact q
    rw [SX.partition_some (by simp) z]
theorem told_len (row : List Nat) : (told row).length ≤ row.length := takeWhile_len row
section
variable {K : PySem.W.Frag} {σ : L2.St} {H H' : Hp} {ta tb te tx : TE} {t u : TT} {x y z v : V}
/-- t.partition("#")[0] -/
theorem ev_told {row : List Nat} (ha : Ev ta σ H (.str (S row))) (hb : Ev tb σ H (.str (S [35]))) (hl : row.length ≤ 100000) :
    Ev (tOp (rIxT K) (tM1 (fun x xs H Q => ∃ a b, x = .str a ∧ xs = [.str b] ∧ (b.length == 0) = false ∧ a.length ≤ sizeLine ∧
      ∀ p, H p = none → Q (.ref p) (upd H p (.tup [.str (Txt.partition a b).1, .str (Txt.partition a b).2.1, .str (Txt.partition a b).2.2]))) ta tb) (tC (.int 0))) σ H (.str (S (told row))) := fun H1 e Q q =>
  ha H1 e _ fun H2 e2 => ⟨⟨S row, rfl⟩, hb H2 (e.trans e2) _ fun H3 e3 => ⟨S row, S [35], rfl, rfl, by decide +kernel, by rw [S_len]; exact sz_of hl, fun p hp =>
    ⟨p, _, 0, _, rfl, rfl, st_of upd_same, atI_nat (j := 0) rfl, by
      rw [part_told]
      exact q _ ((e2.trans e3).trans (Ex.new hp))⟩⟩⟩
end
section
variable {P : Program} {w : World} {K : PySem.W.Frag} {mg : Str → Option Value} {base : Heap} {aS aO : Addr}
/-! ### words_in -/
abbrev s_words_in : Stmt := topS 10
theorem sc_words_in : FnScope ["row", "number", "told", "words", "at", "word", "kind", "place"] ["row", "number"] (fnScope s_words_in) := fnScope_by (by decide +kernel)
def spWordsIn : Sp := fun vs H Q _ => ∃ (row : List Nat) (n : Nat), vs = [.str (S row), .int (n : Int)] ∧ row.length ≤ 50000 ∧ (lexRow row).2 = none ∧ RetTd ((lexRow row).1.map (wordD n)) H Q
theorem ok_words_in (T : ModsW K mg aS aO) (c_word_at : Cal P w K mg base 2 "word_at" spWordAt []) (c_kind_of : Cal P w K mg base 1 "kind_of" spKind [])
    {f : Addr} {fd : FuncData} (F : Def K mg "words_in" s_words_in f fd) (b : Binds K fd ["row", "number"] []) : Cal P w K mg base 3 "words_in" spWordsIn [] := by
  refine cal0 F b .nil sc_words_in (fun vs H Q E h => ?_) (fun cdv A outer s H vs Q E hr h => ?_)
  · obtain ⟨_, _, rfl, _⟩ := h
    rfl
  · obtain ⟨row, n, rfl, hl, hno, q⟩ := h
    have m_len := T.m_len
    refine ⟨_, (pss_cons (ps_set (i := 2) sc_words_in.nd rfl (.inl rfl) (pe_ix ix_tup (pe_partition (pv 0) pe_str) pe_int (fun _ _ => rfl)))
      (pss_cons (ps_set (i := 3) sc_words_in.nd rfl (.inl rfl) (pe_lst pa_nil))
      (pss_cons (ps_set (i := 4) sc_words_in.nd rfl (.inl rfl) pe_int)
      (pss_cons (ps_while PassesOwn.never (pt_cmpR op_lt (pv 4) (pe_callB call_len_str (by rfl) m_len PySem.boot_len (pa_cons (pv 2) pa_nil)) (nomark _)) (pss_one (ps_if (pt_cmpR op_eq (pe_ix ix_str (pv 2) (pv 4) (fun _ _ => rfl)) pe_str (nomark _)) (pss_one (ps_aug (i := 4) sc_words_in.nd rfl (.inl rfl) pe_int ip_add)) (pss_cons (ps_set (i := 5) sc_words_in.nd rfl (.inl rfl) (C8.pe_c c_word_at hr (by decide) (by rfl) (pa_cons (pv 2) (pa_cons (pv 4) pa_nil))))
      (pss_cons (ps_set (i := 6) sc_words_in.nd rfl (.inl rfl) (C8.pe_c c_kind_of hr (by decide) (by rfl) (pa_cons (pv 5) pa_nil)))
      (pss_cons (ps_set (i := 7) sc_words_in.nd rfl (.inl rfl) (pe_tup (pa_cons (pv 1) (pa_cons (pe_op op_add (pv 4) pe_int) pa_nil))))
      (pss_cons (ps_if (pt_cmpR op_eq (pv 6) pe_str (nomark _)) (pss_one ps_never) pss_nil)
      (pss_cons (ps_expr (pe_bm PySem.F.plainAttrs_list PySem.F.slot_list_append PySem.F.type_list_append mt_append (pv 3) (pa_cons (pe_tup (pa_cons (pv 6) (pa_cons (pv 5) (pa_cons (pv 7) pa_nil)))) pa_nil)))
      (pss_one (ps_aug (i := 4) sc_words_in.nd rfl (.inl rfl) (pe_callB call_len_str (by rfl) m_len PySem.boot_len (pa_cons (pv 5) pa_nil)) ip_add))))))))))
      (pss_one (ps_ret (pv 3))))))), ?_⟩
    have htl := told_len row
    have ht : (told row).length ≤ 100000 := by omega
    refine q_asg (ev_told (ev_var rfl) (ev_is ev_c (congrArg V.str (show Str.ofString "#" = S [35] by decide +kernel))) (by omega)) fun H1 e1 => ?_
    refine q_asgL (el_lst ea_nil (Nat.zero_le _)) fun l H2 hl1 e2 hl2 => ?_
    have hl0 : H l = none := fresh_back e1 hl1
    refine q_asg ev_c fun H3 e3 => ?_
    refine q_while (fun m σ' H' => ∃ (i : Nat) (ds : List PyData) (us : List V) (y5 y6 y7 : Option V), σ' = [some (.str (S row)), some (.int (n : Int)), some (.str (S (told row))), some (.ref l), some (.int (i : Int)), y5, y6, y7] ∧
      Ex H H' ∧ H' l = some (.lst us) ∧ TdAll H' us ds ∧ us.length ≤ i ∧ i + m = (told row).length ∧ (lexRow row).1.map (wordD n) = ds ++ (lexR i ((told row).drop i)).1.map (wordD n) ∧ (lexR i ((told row).drop i)).2 = none)
      (told row).length ⟨0, [], [], none, none, none, rfl, (e1.trans e2).trans e3, e3 l _ hl2, .nil, Nat.le_refl _, Nat.zero_add _, by rw [List.drop_zero, List.nil_append, lexRow_R], by rw [List.drop_zero, ← lexRow_R]; exact hno⟩ ?_
    rintro m σ' H' ⟨i, ds, us, y5, y6, y7, rfl, eH, hL, hT, hlen, hm, hlex, hok⟩
    by_cases hlt : i < (told row).length
    · have hg : (told row)[i]? = some (told row)[i] := List.getElem?_eq_getElem hlt
      have hd : (told row).drop i = (told row)[i] :: (told row).drop (i + 1) := List.drop_eq_getElem_cons hlt
      refine ⟨true, et_is (et_test (ev_op (ev_var rfl) (ev_lenS (ev_var rfl) ht) rv_I0)) (decide_eq_true (by omega)), fun _ H4 e4 => ?_, fun z => by cases z⟩
      refine ⟨fun σ2 H5 => ∃ (j : Nat) (ds : List PyData) (us : List V) (y5 y6 y7 : Option V), i < j ∧ σ2 = [some (.str (S row)), some (.int (n : Int)), some (.str (S (told row))), some (.ref l), some (.int (j : Int)), y5, y6, y7] ∧
        Ex H H5 ∧ H5 l = some (.lst us) ∧ TdAll H5 us ds ∧ us.length ≤ j ∧ j ≤ (told row).length ∧ (lexRow row).1.map (wordD n) = ds ++ (lexR j ((told row).drop j)).1.map (wordD n) ∧ (lexR j ((told row).drop j)).2 = none, ?_, ?_⟩
      · rintro σ2 H5 ⟨j, ds', us', z5, z6, z7, hij, rfl, eH5, hL5, hT5, hlen5, hj, hx5, ho5⟩
        exact ⟨(told row).length - j, by omega, j, ds', us', z5, z6, z7, rfl, eH5, hL5, hT5, hlen5, by omega, hx5, ho5⟩
      · have hL4 : H4 l = some (.lst us) := e4 l _ hL
        have hT4 : TdAll H4 us ds := TdAll.tx (Tx.of e4) _ _ hT
        refine s_if (et_test (ev_eqS (ev_op (ev_var rfl) (ev_var rfl) (rv_at ht hg)) (ev_is ev_c (congrArg V.str (show Str.ofString " " = S [32] by decide +kernel))))) (fun hb H5 e5 => ?_) (fun hb H5 e5 => ?_)
        · have hc : (told row)[i] = 32 := by
            have z := of_decide_eq_true hb
            simpa using z
          rw [hd, hc, lexR_blank] at hlex hok
          refine s_aug (a := (i : Int)) (b := 1) rfl ev_c fun H6 e6 => ⟨i + 1, ds, us, y5, y6, y7, Nat.lt_succ_self i, ?_, ((eH.trans e4).trans e5).trans e6, e6 l _ (e5 l _ hL4), TdAll.tx (Tx.of (e5.trans e6)) _ _ hT4, by omega, hlt, hlex, hok⟩
          show [some (V.str (S row)), some (.int (n : Int)), some (.str (S (told row))), some (.ref l), some (.int ((i : Int) + 1)), y5, y6, y7] = _
          rw [show ((i + 1 : Nat) : Int) = (i : Int) + 1 by omega]
        · have hc : (told row)[i] ≠ 32 := by
            have z := of_decide_eq_false hb
            simpa using z
          have hwl := wordAt_len ((told row).drop i)
          have hwl2 : (wordAt ((told row).drop i)).length ≤ 100000 := by
            rw [List.length_drop] at hwl
            omega
          refine q_asg (ev_call (dvs := []) (ea_cons (ev_var rfl) (ea_cons (ev_var rfl) ea_nil)) fun H6 e6 Q6 q6 E6 => ⟨told row, i, rfl, hlt, ht, fun H7 e7 => q6 H7 e7⟩) fun H6 e6 => ?_
          refine q_asg (ev_call (dvs := []) (ea_cons (ev_var rfl) ea_nil) fun H7 e7 Q7 q7 E7 => ⟨wordAt ((told row).drop i), rfl, hwl2, fun H8 e8 => q7 H8 e8⟩) fun H7 e7 => ?_
          refine q_asgU (eu_tup (ea_cons (ev_var rfl) (ea_cons (ev_op (ev_var rfl) ev_c rv_I0) ea_nil)) (show 2 ≤ 100000 by decide)) fun p H8 hp8 e8 hpl => ?_
          by_cases hk : kindOf (wordAt ((told row).drop i)) = []
          · exfalso
            rw [hd, lexR_bad hc (by rw [← hd]; exact hk)] at hok
            cases hok
          · have hword := lexR_word (i := i) hc (r := (told row).drop (i + 1)) (by rw [← hd]; exact hk)
            rw [← hd] at hword
            have hpos := kind_pos hk
            refine q_when (et_is (et_test (ev_eqS (ev_var rfl) (ev_is ev_c (congrArg V.str lit0)))) (decide_eq_false hk)) (fun z => by cases z) (fun _ H9 e9 => ?_)
            have e49 := (((e5.trans e6).trans e7).trans e8).trans e9
            have hL9 : H9 l = some (.lst us) := e49 l _ hL4
            have hT9 : TdAll H9 us ds := TdAll.tx (Tx.of e49) _ _ hT4
            refine q_appU hL9 (ev_var rfl) (eu_tup (ea_cons (ev_var rfl) (ea_cons (ev_var rfl) (ea_cons (ev_var rfl) ea_nil))) (show 3 ≤ 100000 by decide)) (by omega) fun t2 H10 ht2 e10 ht3 => ?_
            have hL10 : H10 l = some (.lst us) := e10 l _ hL9
            have tx10 : Tx H10 (upd H10 l (.lst (us ++ [.ref t2]))) := Tx.lst hL10
            have hnew : Td (upd H10 l (.lst (us ++ [.ref t2]))) (.ref t2) (wordD n (kindOf (wordAt ((told row).drop i)), wordAt ((told row).drop i), i + 1)) := by
              refine Td.tx tx10 _ _ (.tup ht3 (.cons (.str _) (.cons (.str _) (.cons ?_ .nil))))
              refine .tup (e10 p _ (e9 p _ hpl)) (.cons (.int _) (.cons ?_ .nil))
              have ei : ((i : Int) + 1) = ((i + 1 : Nat) : Int) := by omega
              show Td H10 (.int ((i : Int) + 1)) (.int ((i + 1 : Nat) : Int))
              rw [ei]
              exact .int _
            refine s_aug (a := (i : Int)) (b := ((wordAt ((told row).drop i)).length : Int)) rfl (ev_lenS (ev_var rfl) hwl2) fun H11 e11 => ⟨i + (wordAt ((told row).drop i)).length, ds ++ [wordD n (kindOf (wordAt ((told row).drop i)), wordAt ((told row).drop i), i + 1)], us ++ [.ref t2], some (.str (S (wordAt ((told row).drop i)))), some (.str (S (kindOf (wordAt ((told row).drop i))))), some (.ref p), by omega, ?_, ?_, e11 l _ upd_same, ?_, ?_, ?_, ?_, ?_⟩
            · rw [Int.natCast_add] <;> rfl
            · exact (Ex.mut ((((eH.trans e4).trans e49).trans e10)) hl0).trans e11
            · exact TdAll.tx (Tx.of e11) _ _ ((TdAll.tx (tx10) _ _ (TdAll.tx (Tx.of e10) _ _ hT9)).snoc hnew)
            · rw [List.length_append]
              show us.length + 1 ≤ _
              omega
            · rw [List.length_drop] at hwl
              omega
            · rw [hlex, hword, List.map_cons, List.append_assoc, List.drop_drop] <;> rfl
            · rw [hword, List.drop_drop] at hok
              exact hok
    · refine ⟨false, et_is (et_test (ev_op (ev_var rfl) (ev_lenS (ev_var rfl) ht) rv_I0)) (decide_eq_false (by omega)), (fun z => by cases z), fun _ H4 e4 => ?_⟩
      have hz : (told row).drop i = [] := List.drop_eq_nil_of_le (by omega)
      rw [hz, lexR_nil] at hlex
      have hlex2 : (lexRow row).1.map (wordD n) = ds := by
        rw [hlex]
        exact List.append_nil _
      refine s_ret (ev_var rfl) fun H5 e5 => q l H5 us hl0 (eH.trans (e4.trans e5)) ((e4.trans e5) l _ hL) ?_
      rw [hlex2]
      exact TdAll.tx (Tx.of (e4.trans e5)) _ _ hT

/-! ### words_of -/
abbrev s_words_of : Stmt := topS 9
theorem sc_words_of : FnScope ["text", "words", "number", "row"] ["text"] (fnScope s_words_of) := fnScope_by (by decide +kernel)
/-- all rows are words -/
def AllWords (rows : List (List Nat)) : Prop := ∀ r ∈ rows, (lexRow r).2 = none
def spWordsOf : Sp := fun vs H Q _ => ∃ (text : List Nat) (rows : List (List Nat)), vs = [.str (S text)] ∧ text.length ≤ 40000 ∧ rows = TL.spl [10] 0 [] text ∧ rows.length ≤ 1000 ∧ (∀ r ∈ rows, r.length ≤ 1000) ∧ AllWords rows ∧ RetTd (allD 1 rows) H Q
theorem allD_snoc : ∀ (n : Nat) (rs : List (List Nat)) (r : List Nat), allD n (rs ++ [r]) = allD n rs ++ (lexRow r).1.map (wordD (n + rs.length))
  | n, [], r => by
    show (lexRow r).1.map (wordD n) ++ [] = [] ++ _
    rw [List.append_nil, List.nil_append] <;> rfl
  | n, x :: rs, r => by
    show (lexRow x).1.map (wordD n) ++ allD (n + 1) (rs ++ [r]) = ((lexRow x).1.map (wordD n) ++ allD (n + 1) rs) ++ _
    rw [allD_snoc, List.append_assoc, show n + 1 + rs.length = n + (x :: rs).length by rw [List.length_cons]; omega]
theorem ok_words_of (T : ModsW K mg aS aO) (c_words_in : Cal P w K mg base 3 "words_in" spWordsIn []) {f : Addr} {fd : FuncData} (F : Def K mg "words_of" s_words_of f fd) (b : Binds K fd ["text"] []) :
    Cal P w K mg base 4 "words_of" spWordsOf [] := by
  refine cal0 F b .nil sc_words_of (fun vs H Q E h => ?_) (fun cdv A outer s H vs Q E hr h => ?_)
  · obtain ⟨_, _, rfl, _⟩ := h
    rfl
  · obtain ⟨text, rows, rfl, hl, hrows, hrl, hrr, haw, q⟩ := h
    have m_enumerate := T.m_enumerate
    refine ⟨_, (pss_cons (ps_set (i := 1) sc_words_of.nd rfl (.inl rfl) (pe_lst pa_nil))
      (pss_cons (ps_for PassesOwn.never rfl (Wt.pi_enumS (by rfl) m_enumerate (pa_cons (pe_split (pv 0) pe_str) pa_nil)) (pg_tup rfl (pgs_cons (pg_name (i := 2) sc_words_of.nd rfl (.inl rfl)) (pgs_cons (pg_name (i := 3) sc_words_of.nd rfl (.inl rfl)) pgs_nil))) (pss_one (ps_expr (pe_bm PySem.F.plainAttrs_list PySem.F.slot_list_extend PySem.F.type_list_extend mt_extend (pv 1) (pa_cons (C8.pe_c c_words_in hr (by decide) (by rfl) (pa_cons (pv 3) (pa_cons (pv 2) pa_nil))) pa_nil)))))
      (pss_one (ps_ret (pv 1))))), ?_⟩
    refine q_asgL (el_lst ea_nil (Nat.zero_le _)) fun l H1 hl0 e1 hl1 => ?_
    -- text.split("\n")
    refine ⟨.str (S text), rfl, ⟨S text, rfl⟩, S text, Str.ofString "\n", rfl, rfl, by decide +kernel, by rw [S_len]; exact Nat.le_trans (Nat.add_le_add_right hl 2) (by decide), fun c hc => ?_⟩
    have hsp : (Txt.split (S text) (Str.ofString "\n")).map V.str = rows.map fun z => V.str (S z) := by
      rw [show Str.ofString "\n" = S [10] by decide +kernel, split_S (by simp) (by decide), ← hrows, List.map_map] <;> rfl
    rw [hsp]
    have hlc : l ≠ c := ne_of_none hl1 hc
    have e2 : Ex H1 (upd H1 c (.lst (rows.map fun z => V.str (S z)))) := Ex.new hc
    refine ⟨c, _, rfl, sq_of upd_same, for_from (xs := rows.map fun z => V.str (S z)) (fun i σ' H' => ∃ (us : List V) (y2 y3 : Option V), σ' = [some (.str (S text)), some (.ref l), y2, y3] ∧ Ex H H' ∧
      H' c = some (.lst (rows.map fun z => V.str (S z))) ∧ H' l = some (.lst us) ∧ TdAll H' us (allD 1 (rows.take i)) ∧ us.length ≤ 1000 * i)
      ⟨[], none, none, rfl, e1.trans e2, upd_same, e2 l _ hl1, .nil, Nat.zero_le _⟩ (fun i σ' H' _ ⟨us, y2, y3, _, _, hc', _⟩ => sq_of hc') ?_ ?_⟩
    · rintro i x T2 σ' H' hx ⟨us, y2, y3, rfl, eH, hc', hL, hT, hlen⟩ hT2
      rw [List.getElem?_map] at hx
      cases hr2 : rows[i]? with
      | none =>
        rw [hr2] at hx
        cases hx
      | some row =>
        rw [hr2] at hx
        have ex : x = .str (S row) := (Option.some.inj hx).symm
        subst ex
        have hmem : row ∈ rows := List.mem_of_getElem? hr2
        have hi : i < rows.length := (List.getElem?_eq_some_iff.mp hr2).1
        have eT : Ex H' (upd H' T2 (.tup [.int ((1 : Int) + (i : Nat)), .str (S row)])) := Ex.new hT2
        -- number, row
        refine ⟨T2, [.int ((1 : Int) + (i : Nat)), .str (S row)], rfl, st_of upd_same, rfl, _, _, rfl, _, _, rfl, rfl, ?_⟩
        -- words.extend(words_in(row, number))
        have hLT := eT l _ hL
        refine ⟨.ref l, rfl, .inl ⟨rfl, us, sq_of hLT⟩, .str (S row), rfl, .int ((1 : Int) + (i : Nat)), rfl, row, i + 1, ?_, Nat.le_trans (hrr row hmem) (by decide), haw row hmem, ?_⟩
        · show [V.str (S row), .int ((1 : Int) + (i : Nat))] ++ [] = _
          rw [List.append_nil, show ((1 : Int) + (i : Nat)) = ((i + 1 : Nat) : Int) by omega]
        · intro p H3 ws hp e3 hp3 hT3
          have hL3 : H3 l = some (.lst us) := e3 l _ hLT
          have hlp : l ≠ p := ne_of_none hLT hp
          have hwl : ws.length ≤ 1000 := by
            rw [hT3.len, List.length_map]
            exact Nat.le_trans (lexRow_count row) (hrr row hmem)
          have hsz : us.length + ws.length ≤ sizeLine := by
            refine Nat.le_trans (show us.length + ws.length ≤ 1001000 from ?_) (by decide)
            have : 1000 * i ≤ 1000 * 1000 := Nat.mul_le_mul_left _ (by omega)
            omega
          refine ⟨l, p, us, ws, rfl, rfl, hL3, hp3, hsz, us ++ ws, _, _, rfl, ?_, ?_, upd_same, ?_, ?_⟩
          · exact Ex.mut ((eH.trans eT).trans e3) hl0
          · rw [upd_ne hlc.symm]
            exact e3 c _ (eT c _ hc')
          · have tx := Tx.lst (ys := us ++ ws) hL3
            have h1 := TdAll.tx tx _ _ (TdAll.tx (Tx.of (eT.trans e3)) _ _ hT)
            have h2 := TdAll.tx tx _ _ hT3
            have e : rows.take (i + 1) = rows.take i ++ [row] := by
              rw [List.take_add_one, hr2] <;> rfl
            rw [e, allD_snoc, List.length_take, Nat.min_eq_left (Nat.le_of_lt hi), Nat.add_comm 1 i]
            exact h1.app h2
          · rw [List.length_append]
            omega
    · rintro σ' H' ⟨us, y2, y3, rfl, eH, hc', hL, hT, hlen⟩
      refine s_ret (ev_var rfl) fun H3 e3 => q l H3 us hl0 (eH.trans e3) (e3 l _ hL) ?_
      rw [List.length_map, List.take_of_length_le (Nat.le_refl _)] at hT
      exact TdAll.tx (Tx.of e3) _ _ hT
end
end Wt

set_option Elab.async false
set_option linter.all false
set_option maxRecDepth 100000
set_option maxHeartbeats 4000000
namespace Wt
open PySem PySem.Spec PyProof.Rows L2 SX Evl
open C8 (Def Cal cal0 fnScope_by fnScope)
/-! The dice, likeness, a pick. -/
structure ModsL (K : PySem.W.Frag) (mg : Str → Option Value) : Prop where
  m_len : mg "len" = none
  m_int : mg "int" = none
  m_str : mg "str" = none
  m_bool : mg "bool" = none
  m_tuple : mg "tuple" = none
  m_list : mg "list" = none
  m_range : mg "range" = none
  m_isinstance : mg "isinstance" = none
/-- what is locked stays -/
def Fx (H H' : Hp) : Prop := ∀ b o u, H b = some (.frz o u) → H' b = some (.frz o u)
theorem Fx.of {H H' : Hp} (e : Ex H H') : Fx H H' := fun b o u h => e b _ h
theorem Fx.trans {H H1 H2 : Hp} (a : Fx H H1) (b : Fx H1 H2) : Fx H H2 := fun x o u h => b x o u (a x o u h)
theorem Fx.mut {H : Hp} {d : Addr} {o o2 : HO} (h : H d = some o) (m : Mut (some o)) : Fx H (upd H d o2) := fun b ob u q => by
  rw [upd_ne (ne_of q h (by intro z; subst z; exact m))]
  exact q
/-- the script: locked, or of the written part -/
def Scr (K : PySem.W.Frag) (H : Hp) (a : Addr) (ns : List Int) : Prop := ns.length ≤ 63 ∧ ∀ H', Fx H H' → SqL K H' a (ns.map V.int)
theorem Scr.fx {K : PySem.W.Frag} {H H' : Hp} {a : Addr} {ns : List Int} (f : Fx H H') (h : Scr K H a ns) : Scr K H' a ns := ⟨h.1, fun H2 f2 => h.2 H2 (f.trans f2)⟩
theorem Scr.ex {K : PySem.W.Frag} {H H' : Hp} {a : Addr} {ns : List Int} (e : Ex H H') (h : Scr K H a ns) : Scr K H' a ns := h.fx (Fx.of e)
theorem Scr.sq {K : PySem.W.Frag} {H : Hp} {a : Addr} {ns : List Int} (h : Scr K H a ns) : SqL K H a (ns.map V.int) := h.2 H fun _ _ _ q => q
def Exd (d : Addr) (H H' : Hp) : Prop := ∀ b o, b ≠ d → H b = some o → H' b = some o

section
variable {P : Program} {w : World} {K : PySem.W.Frag} {mg : Str → Option Value} {base : Heap}
/-! ### _law_dice -/
abbrev s__law_dice : Stmt := topS 15
theorem sc__law_dice : FnScope ["_law_script", "_law_mixed", "_law_cell"] ["_law_script"] (fnScope s__law_dice) := fnScope_by (by decide +kernel)
def spDice0 (K : PySem.W.Frag) : Sp := fun vs H Q _ => ∃ (a : Addr) (ns : List Int), vs = [.ref a] ∧ Scr K H a ns ∧ ∀ p H2 m, H p = none → Ex H H2 → 0 ≤ m → m < 2147483647 → H2 p = some (.lst [.ref a, .int 0, .int m, .int 0]) → Q (.ref p) H2
theorem ok_dice0 (T : ModsL K mg) {f : Addr} {fd : FuncData} (F : Def K mg "_law_dice" s__law_dice f fd) (b : Binds K fd ["_law_script"] []) : Cal P w K mg base 1 "_law_dice" (spDice0 K) [] := by
  refine cal0 F b .nil sc__law_dice (fun vs H Q E h => ?_) (fun cdv A outer s H vs Q E hr h => ?_)
  · obtain ⟨_, _, rfl, _⟩ := h
    rfl
  · obtain ⟨a, ns, rfl, hS, q⟩ := h
    have m_int := T.m_int
    have m_len := T.m_len
    refine ⟨_, (pss_cons (ps_set (i := 1) sc__law_dice.nd rfl (.inl rfl) pe_int)
      (pss_cons (ps_for PassesOwn.never rfl (pi_list (pv 0)) (pg_name (i := 2) sc__law_dice.nd rfl (.inl rfl)) (pss_one (ps_set (i := 1) sc__law_dice.nd rfl (.inl rfl) (pe_op op_mod (pe_op op_add (pe_op op_add (pe_op op_mul (pv 1) pe_int) (pe_op op_mul (pe_op op_mod (pv 2) pe_int) pe_int)) pe_int) pe_int))))
      (pss_one (ps_ret (pe_lst (pa_cons (pv 0) (pa_cons pe_int (pa_cons (pe_op op_mul (pv 1) (pe_callTy call_int1 (by rfl) m_int Wt.bt_int (pa_cons (pe_cmpR op_gt (pe_callB call_len_seq (by rfl) m_len PySem.boot_len (pa_cons (pv 0) pa_nil)) pe_int (nomark _)) pa_nil))) (pa_cons pe_int pa_nil))))))))), ?_⟩
    refine q_asg ev_c fun H1 e1 => ?_
    refine q_forLn (ev_var rfl) (hS.ex e1).sq (fun i σ' H' => ∃ (m : Int) (y : Option V), σ' = [some (.ref a), some (.int m), y] ∧ 0 ≤ m ∧ m < 2147483647 ∧ Ex H H')
      (fun H2 e2 => ⟨0, none, rfl, by decide, by decide, e1.trans e2⟩) (fun i σ' H' _ ⟨_, _, _, _, _, e⟩ => (hS.ex e).sq) ?_ ?_
    · rintro i x σ' H' hx ⟨m, y, rfl, h0, h1, eH⟩
      rw [List.getElem?_map] at hx
      obtain ⟨c, rfl⟩ : ∃ c, x = V.int c := by
        cases hc : ns[i]? with
        | none =>
          rw [hc] at hx
          cases hx
        | some c =>
          rw [hc] at hx
          exact ⟨c, (Option.some.inj hx).symm⟩
      have b1 := Int.emod_nonneg c (show (2147483647 : Int) ≠ 0 by decide)
      have b2 := Int.emod_lt_of_pos c (show (0 : Int) < 2147483647 by decide)
      refine s_asg (ev_op (ev_op (ev_op (ev_op (ev_var rfl) ev_c (rv_I (.inl ⟨by omega, by omega⟩))) (ev_op (ev_op (ev_var rfl) ev_c (rv_I (show (0 : Int) < 2147483647 by decide))) ev_c (rv_I (.inl ⟨by omega, by omega⟩))) rv_I0) ev_c rv_I0) ev_c (rv_I (show (0 : Int) < 2147483647 by decide))) fun H2 e2 => ?_
      exact ⟨_, _, rfl, Int.emod_nonneg _ (by decide), Int.emod_lt_of_pos _ (by decide), eH.trans e2⟩
    · rintro σ' H' ⟨m, y, rfl, h0, h1, eH⟩
      have hq := hS.ex eH
      refine s_retL (xs := [.ref a, .int 0, .int (m * (if decide ((2 : Int) < ((ns.map V.int).length : Int)) = true then 1 else 0)), .int 0])
        (el_lst (ea_cons (ev_var rfl) (ea_cons ev_c (ea_cons (ev_op (ev_var rfl) (ev_cb (ea_cons (ev_op (ev_len (K := K) (ev_var rfl) hq.sq) ev_c rv_I0) ea_nil) (fun H1 _ Q q => .inr ⟨_, rfl, q H1 (Ex.refl H1)⟩)) (rv_I (.inl ⟨by omega, by omega⟩))) (ea_cons ev_c ea_nil)))) (by show 4 ≤ 100000; decide))
        fun p H2 hp e2 h2 => q p H2 _ (fresh_back eH hp) (eH.trans e2) ?_ ?_ h2
      · split <;> omega
      · split <;> omega
/-- .. as a dice -/
def spDice (K : PySem.W.Frag) : Sp := fun vs H Q _ => ∃ (a : Addr) (ns : List Int), vs = [.ref a] ∧ Scr K H a ns ∧ ∀ p H2, H p = none → Ex H H2 → H2 p = some (DiceO p a) → Q (.ref p) H2
theorem ok_dice (c : Cal P w K mg base 1 "_law_dice" (spDice0 K) []) : Cal P w K mg base 1 "_law_dice" (spDice K) [] := by
  obtain ⟨f, fd, ps, ds, F, h1, h2, h3, h4⟩ := c.ex
  cases h4
  refine ⟨f, fd, ps, [], fn_seen F (fun vs H Q E h => ?_) (fun vs H Q E h hp ok => ?_), h1, h2, h3, .nil⟩
  · obtain ⟨a, ns, rfl, hS, q⟩ := h
    exact F.len [.ref a] H (fun v H' => True) E ⟨a, ns, rfl, hS, fun _ _ _ _ _ _ _ _ => trivial⟩
  · obtain ⟨a, ns, rfl, hS, q⟩ := h
    refine ⟨H, fun v H2 => ∃ p m, v = .ref p ∧ H p = none ∧ Ex H H2 ∧ 0 ≤ m ∧ m < 2147483647 ∧ H2 p = some (.lst [.ref a, .int 0, .int m, .int 0]), ⟨fun _ h => h, fun _ _ h => h, fun _ _ _ h => h, fun _ _ h => h⟩, ok,
      ⟨a, ns, rfl, hS, fun p H2 m hp2 e h0 h1 h2 => ⟨p, m, rfl, hp2, e, h0, h1, h2⟩⟩, ?_⟩
    rintro v H2 hp2 ok2 ⟨p, m, rfl, hn, e, h0, h1, h2⟩
    obtain ⟨al, ok3⟩ := dice_in ok2 h2 (Int.le_refl 0) h0 h1
    exact ⟨_, al, ok3, q p _ hn (Ex.mut e hn) upd_same⟩

/-! ### _law_next -/
abbrev s__law_next : Stmt := topS 16
theorem sc__law_next : FnScope ["_law_dice_here", "_law_many", "_law_found", "_law_cell"] ["_law_dice_here", "_law_many"] (fnScope s__law_next) := fnScope_by (by decide +kernel)
def spNext0 (K : PySem.W.Frag) : Sp := fun vs H Q _ => ∃ (d a : Addr) (ns : List Int) (many i m r : Int), vs = [.ref d, .int many] ∧ 0 < many ∧ many < 1073741824 ∧ H d = some (.lst [.ref a, .int i, .int m, .int r]) ∧ 0 ≤ i ∧ 0 ≤ m ∧ m < 2147483647 ∧ Scr K H a ns ∧
  ∀ z H2 i' m' r', 0 ≤ z → z < many → 0 ≤ i' → 0 ≤ m' → m' < 2147483647 → H2 d = some (.lst [.ref a, .int i', .int m', .int r']) → Exd d H H2 → Q (.int z) H2
theorem ok_next0 (T : ModsL K mg) {f : Addr} {fd : FuncData} (F : Def K mg "_law_next" s__law_next f fd) (b : Binds K fd ["_law_dice_here", "_law_many"] []) : Cal P w K mg base 1 "_law_next" (spNext0 K) [] := by
  refine cal0 F b .nil sc__law_next (fun vs H Q E h => ?_) (fun cdv A outer s H vs Q E hr h => ?_)
  · obtain ⟨_, _, _, _, _, _, _, rfl, _⟩ := h
    rfl
  · obtain ⟨d, a, ns, many, i, m, r, rfl, hm0, hm1, hd, hi, h0, h1, hS, q⟩ := h
    have m_len := T.m_len
    refine ⟨_, (pss_cons (ps_if (pt_cmpR op_gt (pe_ix ix_list (pv 0) pe_int (fun _ _ => rfl)) pe_int (nomark _)) (pss_cons (ps_set (i := 2) sc__law_next.nd rfl (.inl rfl) (pe_op op_mod (pe_ix ix_list (pv 0) pe_int (fun _ _ => rfl)) (pv 1)))
      (pss_cons (ps_asg (pe_op op_fdiv (pe_ix ix_list (pv 0) pe_int (fun _ _ => rfl)) (pv 1)) (pg_sub (pv 0) pe_int set_list))
      (pss_one (ps_ret (pv 2))))) pss_nil)
      (pss_cons (ps_asg (pe_op op_add (pe_ix ix_list (pv 0) pe_int (fun _ _ => rfl)) pe_int) (pg_sub (pv 0) pe_int set_list))
      (pss_cons (ps_if (pt_cmpR op_le (pe_ix ix_list (pv 0) pe_int (fun _ _ => rfl)) (pe_callB call_len_seq (by rfl) m_len PySem.boot_len (pa_cons (pe_ix ix_list (pv 0) pe_int (fun _ _ => rfl)) pa_nil)) (nomark _)) (pss_cons (ps_set (i := 3) sc__law_next.nd rfl (.inl rfl) (pe_ix ix_list (pe_ix ix_list (pv 0) pe_int (fun _ _ => rfl)) (pe_op op_sub (pe_ix ix_list (pv 0) pe_int (fun _ _ => rfl)) pe_int) (fun _ _ => rfl)))
      (pss_cons (ps_asg (pe_ifExp (pt_cmpR op_ge (pv 3) (pe_op op_pow pe_int pe_int) (nomark _)) (pe_op op_fdiv (pv 3) (pv 1)) pe_int) (pg_sub (pv 0) pe_int set_list))
      (pss_one (ps_ret (pe_op op_mod (pv 3) (pv 1)))))) pss_nil)
      (pss_cons (ps_asg (pe_op op_mod (pe_op op_mul (pe_ix ix_list (pv 0) pe_int (fun _ _ => rfl)) pe_int) pe_int) (pg_sub (pv 0) pe_int set_list))
      (pss_one (ps_ret (pe_op op_mod (pe_op op_fdiv (pe_ix ix_list (pv 0) pe_int (fun _ _ => rfl)) pe_int) (pv 1)))))))), ?_⟩
    have ix : ∀ {H' : Hp} {σ : L2.St} {ta tb : TE} {xs : List V} {j : Nat} {v : V}, Ev ta σ H' (.ref d) → Ev tb σ H' (.int (j : Int)) → H' d = some (.lst xs) → xs[j]? = some v → Ev (tOp (rIxL K) ta tb) σ H' v :=
      fun ha hb h1 h2 => ev_op ha hb (rv_ixL (sq_of h1) (atI_nat h2))
    have c0 : ∀ {H' : Hp} {σ : L2.St}, Ev (tC (.int 0)) σ H' (.int ((0 : Nat) : Int)) := ev_c
    have c1 : ∀ {H' : Hp} {σ : L2.St}, Ev (tC (.int 1)) σ H' (.int ((1 : Nat) : Int)) := ev_c
    have c2 : ∀ {H' : Hp} {σ : L2.St}, Ev (tC (.int 2)) σ H' (.int ((2 : Nat) : Int)) := ev_c
    have c3 : ∀ {H' : Hp} {σ : L2.St}, Ev (tC (.int 3)) σ H' (.int ((3 : Nat) : Int)) := ev_c
    have hdiv : ∀ x : Int, CDiv x many := fun x => ⟨hm0, hm1⟩
    have rz : ∀ x : Int, 0 ≤ x % many ∧ x % many < many := fun x => ⟨Int.emod_nonneg x (by omega), Int.emod_lt_of_pos x hm0⟩
    refine q_when (et_test (ev_op (ix (ev_var rfl) c3 hd rfl) ev_c rv_I0)) (fun hb H1 e1 => ?_) (fun hb H1 e1 => ?_)
    · have hd1 := e1 d _ hd
      refine q_asg (ev_op (ix (ev_var rfl) c3 hd1 rfl) (ev_var rfl) (rv_I hm0)) fun H2 e2 => ?_
      have hd2 := e2 d _ hd1
      refine q_setL (xs := [.ref a, .int i, .int m, .int r]) (j := 3) hd2 (ev_op (ix (ev_var rfl) c3 hd2 rfl) (ev_var rfl) (rv_I (hdiv r))) (ev_var rfl) c3 (by show 3 < 4; decide) fun H3 e3 => ?_
      have x3 : Exd d H (upd H3 d (.lst ([V.ref a, .int i, .int m, .int r].set 3 (.int (r / many))))) := fun b o hb2 ho => by
        rw [upd_ne hb2]
        exact e3 b o (e2 b o (e1 b o ho))
      refine s_ret (ev_var rfl) fun H4 e4 => q _ H4 i m (r / many) (rz r).1 (rz r).2 hi h0 h1 (e4 d _ upd_same) fun b o hb2 ho => e4 b o (x3 b o hb2 ho)
    · have hd1 := e1 d _ hd
      refine q_setL (xs := [.ref a, .int i, .int m, .int r]) (j := 1) hd1 (ev_op (ix (ev_var rfl) c1 hd1 rfl) ev_c rv_I0) (ev_var rfl) c1 (by show 1 < 4; decide) fun H2 e2 => ?_
      have hd2 := e2 d _ hd1
      have hd3 : (upd H2 d (.lst ([V.ref a, .int i, .int m, .int r].set 1 (.int (i + 1))))) d = some (.lst [.ref a, .int (i + 1), .int m, .int r]) := upd_same
      have x3 : Exd d H (upd H2 d (.lst ([V.ref a, .int i, .int m, .int r].set 1 (.int (i + 1))))) := fun b o hb2 ho => by
        rw [upd_ne hb2]
        exact e2 b o (e1 b o ho)
      have hS3 : Scr K (upd H2 d (.lst ([V.ref a, .int i, .int m, .int r].set 1 (.int (i + 1))))) a ns := (hS.ex (e1.trans e2)).fx (Fx.mut hd2 True.intro)
      generalize upd H2 d (.lst ([V.ref a, .int i, .int m, .int r].set 1 (.int (i + 1)))) = H3 at hd3 x3 hS3 ⊢
      refine q_when (et_test (ev_op (ix (ev_var rfl) c1 hd3 rfl) (ev_len (K := K) (ix (ev_var rfl) c0 hd3 rfl) hS3.sq) rv_I0)) (fun hb2 H4 e4 => ?_) (fun hb2 H4 e4 => ?_)
      · have hle := of_decide_eq_true hb2
        rw [List.length_map] at hle
        have hd4 := e4 d _ hd3
        have hlt : i.toNat < ns.length := by omega
        have hg : (ns.map V.int)[i.toNat]? = some (.int ns[i.toNat]) := by
          rw [List.getElem?_map, List.getElem?_eq_getElem hlt] <;> rfl
        refine q_asg (ev_op (ix (ev_var rfl) c0 hd4 rfl) (ev_is (ev_op (ix (ev_var rfl) c1 hd4 rfl) ev_c rv_I0) (show V.int (i + 1 - 1) = V.int ((i.toNat : Nat) : Int) by rw [show i + 1 - 1 = ((i.toNat : Nat) : Int) by omega])) (rv_ixL (hS3.ex e4).sq (atI_nat hg))) fun H5 e5 => ?_
        have hd5 := e5 d _ hd4
        refine q_setL (xs := [.ref a, .int (i + 1), .int m, .int r]) (j := 3) (v := .int (if decide ((10 : Int) ^ (18 : Int).toNat ≤ ns[i.toNat]) = true then ns[i.toNat] / many else 0)) hd5
          (ev_if (et_test (ev_op (ev_var rfl) (ev_op ev_c ev_c (rv_I ⟨by decide, by decide, by decide⟩)) rv_I0)) (fun z => ?_) (fun z => ?_)) (ev_var rfl) c3 (by show 3 < 4; decide) fun H6 e6 => ?_
        · rw [if_pos z]
          exact ev_op (ev_var rfl) (ev_var rfl) (rv_I (hdiv _))
        · rw [if_neg (by rw [z]; exact Bool.false_ne_true)]
          exact ev_c
        · have x6 : Exd d H (upd H6 d (.lst ([V.ref a, .int (i + 1), .int m, .int r].set 3 (.int (if decide ((10 : Int) ^ (18 : Int).toNat ≤ ns[i.toNat]) = true then ns[i.toNat] / many else 0))))) := fun b o hb2 ho => by
            rw [upd_ne hb2]
            exact e6 b o (e5 b o (e4 b o (x3 b o hb2 ho)))
          refine s_ret (ev_op (ev_var rfl) (ev_var rfl) (rv_I hm0)) fun H7 e7 => q _ H7 (i + 1) m _ (rz _).1 (rz _).2 (by omega) h0 h1 (e7 d _ upd_same) fun b o hb2 ho => e7 b o (x6 b o hb2 ho)
      · have hd4 := e4 d _ hd3
        refine q_setL (xs := [.ref a, .int (i + 1), .int m, .int r]) (j := 2) hd4 (ev_op (ev_op (ix (ev_var rfl) c2 hd4 rfl) ev_c (rv_I (.inl ⟨by omega, by omega⟩))) ev_c (rv_I (show (0 : Int) < 2147483647 by decide))) (ev_var rfl) c2 (by show 2 < 4; decide) fun H5 e5 => ?_
        have hd6 : (upd H5 d (.lst ([V.ref a, .int (i + 1), .int m, .int r].set 2 (.int (m * 48271 % 2147483647))))) d = some (.lst [.ref a, .int (i + 1), .int (m * 48271 % 2147483647), .int r]) := upd_same
        have x6 : Exd d H (upd H5 d (.lst ([V.ref a, .int (i + 1), .int m, .int r].set 2 (.int (m * 48271 % 2147483647))))) := fun b o hb2 ho => by
          rw [upd_ne hb2]
          exact e5 b o (e4 b o (x3 b o hb2 ho))
        generalize upd H5 d (.lst ([V.ref a, .int (i + 1), .int m, .int r].set 2 (.int (m * 48271 % 2147483647)))) = H6 at hd6 x6 ⊢
        refine s_ret (ev_op (ev_op (ix (ev_var rfl) c2 hd6 rfl) ev_c (rv_I ⟨by decide, by decide⟩)) (ev_var rfl) (rv_I hm0)) fun H7 e7 => q _ H7 (i + 1) _ r (rz _).1 (rz _).2 (by omega) (Int.emod_nonneg _ (by decide)) (Int.emod_lt_of_pos _ (by decide)) (e7 d _ hd6) fun b o hb2 ho => e7 b o (x6 b o hb2 ho)
/-- .. over a dice: some number below what is handed in, nothing else is told -/
def spNext (K : PySem.W.Frag) : Sp := fun vs H Q _ => ∃ (d a : Addr) (ns : List Int) (many : Int), vs = [.ref d, .int many] ∧ 0 < many ∧ many < 1073741824 ∧ H d = some (DiceO d a) ∧ Scr K H a ns ∧
  ∀ z H2, 0 ≤ z → z < many → Ex H H2 → Q (.int z) H2
theorem ok_next (c : Cal P w K mg base 1 "_law_next" (spNext0 K) []) : Cal P w K mg base 1 "_law_next" (spNext K) [] := by
  obtain ⟨f, fd, ps, ds, F, h1, h2, h3, h4⟩ := c.ex
  cases h4
  refine ⟨f, fd, ps, [], fn_seen F (fun vs H Q E h => ?_) (fun vs H Q E h hp ok => ?_), h1, h2, h3, .nil⟩
  · obtain ⟨d, a, ns, many, rfl, m0, m1, hd, hS, q⟩ := h
    have hS2 : Scr K (upd H d (.lst [.ref a, .int 0, .int 0, .int 0])) a ns := hS.fx (Fx.mut hd True.intro)
    exact F.len [.ref d, .int many] _ (fun v H' => True) E ⟨d, a, ns, many, 0, 0, 0, rfl, m0, m1, upd_same, by decide, by decide, by decide, hS2, fun _ _ _ _ _ _ _ _ _ _ _ _ => trivial⟩
  · obtain ⟨d, a, ns, many, rfl, m0, m1, hd, hS, q⟩ := h
    obtain ⟨i, m, r, b0, b1, b2, al, ok1⟩ := dice_out ok hd
    refine ⟨_, fun v H2 => ∃ z i' m' r', v = .int z ∧ 0 ≤ z ∧ z < many ∧ 0 ≤ i' ∧ 0 ≤ m' ∧ m' < 2147483647 ∧ H2 d = some (.lst [.ref a, .int i', .int m', .int r']) ∧ Exd d (upd H d (.lst [.ref a, .int i, .int m, .int r])) H2, al, ok1,
      ⟨d, a, ns, many, i, m, r, rfl, m0, m1, upd_same, b0, b1, b2, hS.fx (Fx.mut hd True.intro), fun z H2 i' m' r' z0 z1 z2 z3 z4 z5 z6 => ⟨z, i', m', r', rfl, z0, z1, z2, z3, z4, z5, z6⟩⟩, ?_⟩
    rintro v H2 hp2 ok2 ⟨z, i', m', r', rfl, z0, z1, z2, z3, z4, z5, z6⟩
    obtain ⟨al2, ok3⟩ := dice_in ok2 z5 z2 z3 z4
    refine ⟨_, al2, ok3, q z _ z0 z1 fun b o ho => ?_⟩
    by_cases hb : b = d
    · subst hb
      rw [hd] at ho
      cases ho
      exact upd_same
    · rw [upd_ne hb]
      exact z6 b o hb (by rw [upd_ne hb]; exact ho)

/-! ### _law_pick -/
abbrev s__law_pick : Stmt := topS 18
theorem sc__law_pick : FnScope ["_law_d", "_law_some"] ["_law_d", "_law_some"] (fnScope s__law_pick) := fnScope_by (by decide +kernel)
/-- the dice at d over the script at a -/
structure Dc (K : PySem.W.Frag) (H : Hp) (d a : Addr) (ns : List Int) : Prop where
  o : H d = some (DiceO d a)
  s : Scr K H a ns
theorem Dc.ex {H H' : Hp} {d a : Addr} {ns : List Int} (h : Dc K H d a ns) (e : Ex H H') : Dc K H' d a ns := ⟨e d _ h.o, h.s.ex e⟩
theorem sn_next {H : Hp} {d a : Addr} {ns : List Int} {many : Int} (h : Dc K H d a ns) (m0 : 0 < many) (m1 : many < 1073741824) : SpN (spNext K) [.ref d, .int many] H (fun v => ∃ z : Int, v = .int z ∧ 0 ≤ z ∧ z < many) :=
  fun H1 e Q q E => ⟨d, a, ns, many, rfl, m0, m1, e d _ h.o, h.s.ex e, fun z H2 z0 z1 e2 => q _ H2 ⟨z, rfl, z0, z1⟩ e2⟩
theorem en_next {H : Hp} {σ : L2.St} {E : XK} {ta tb : TE} {d a : Addr} {ns : List Int} {many : Int} (h : Dc K H d a ns) (ha : Ev ta σ H (.ref d)) (hb : Ev tb σ H (.int many)) (m0 : 0 < many := by decide) (m1 : many < 1073741824 := by decide) :
    EvN (tCall (spNext K) [] E (tCons ta (tCons tb tNil))) σ H (fun v => ∃ z : Int, v = .int z ∧ 0 ≤ z ∧ z < many) := en_call (ea_cons ha (ea_cons hb ea_nil)) (sn_next h m0 m1)
def spPick (K : PySem.W.Frag) : Sp := fun vs H Q _ => ∃ (d a s : Addr) (ns : List Int) (xs : List V), vs = [.ref d, .ref s] ∧ Dc K H d a ns ∧ SqL K H s xs ∧ 0 < xs.length ∧ xs.length ≤ 1000 ∧ ∀ x H2, x ∈ xs → Ex H H2 → Q x H2
theorem ok_pick (T : ModsL K mg) (c__law_next : Cal P w K mg base 1 "_law_next" (spNext K) []) {f : Addr} {fd : FuncData} (F : Def K mg "_law_pick" s__law_pick f fd) (b : Binds K fd ["_law_d", "_law_some"] []) : Cal P w K mg base 2 "_law_pick" (spPick K) [] := by
  refine cal0 F b .nil sc__law_pick (fun vs H Q E h => ?_) (fun cdv A outer s H vs Q E hr h => ?_)
  · obtain ⟨_, _, _, _, _, rfl, _⟩ := h
    rfl
  · obtain ⟨d, a, sa, ns, xs, rfl, hD, hS, hl0, hl1, q⟩ := h
    have m_len := T.m_len
    refine ⟨_, (pss_one (ps_ret (pe_ix ix_list (pv 1) (C8.pe_c c__law_next hr (by decide) (by rfl) (pa_cons (pv 0) (pa_cons (pe_callB call_len_seq (by rfl) m_len PySem.boot_len (pa_cons (pv 1) pa_nil)) pa_nil))) (fun _ _ => rfl)))), ?_⟩
    refine sn_ret (P := fun x => x ∈ xs) (en_opV (EvN.of (ev_var rfl)) (fun x hx => en_next hD (ev_var rfl) (ev_len (K := K) (ev_var rfl) hS) (by omega) (by omega)) ?_) fun v H1 hv e1 => q v H1 hv e1
    rintro x y rfl ⟨z, rfl, z0, z1⟩
    obtain ⟨k, rfl⟩ : ∃ k : Nat, z = (k : Int) := ⟨z.toNat, by omega⟩
    have hlt : k < xs.length := by omega
    refine ⟨xs[k], List.getElem_mem hlt, ?_⟩
    exact rv_ixL hS (atI_nat (List.getElem?_eq_getElem hlt))
theorem sn_pick {H : Hp} {d a s : Addr} {ns : List Int} {xs : List V} (h : Dc K H d a ns) (hs : SqL K H s xs) (l0 : 0 < xs.length) (l1 : xs.length ≤ 1000) : SpN (spPick K) [.ref d, .ref s] H (fun v => v ∈ xs) :=
  fun H1 e Q q E => ⟨d, a, s, ns, xs, rfl, h.ex e, ex_l e hs, l0, l1, fun x H2 hx e2 => q x H2 hx e2⟩
/-- a pick out of a list made on the way -/
theorem en_pickL {H : Hp} {σ : L2.St} {E : XK} {ta tb : TE} {d a : Addr} {ns : List Int} {xs : List V} (h : Dc K H d a ns) (ha : Ev ta σ H (.ref d)) (hb : EvL tb σ H xs) (l0 : 0 < xs.length) (l1 : xs.length ≤ 1000) :
    EvN (tCall (spPick K) [] E (tCons ta (tCons tb tNil))) σ H (fun v => v ∈ xs) := fun H1 e Q q =>
  ha H1 e _ fun H2 e2 => hb H2 (e.trans e2) _ fun p H3 _ e3 hp => ⟨d, a, p, ns, xs, rfl, h.ex ((e.trans e2).trans e3), sq_of hp, l0, l1, fun x H4 hx e4 => q x H4 hx ((e2.trans e3).trans e4)⟩
end
end Wt

set_option Elab.async false
set_option linter.all false
set_option maxRecDepth 100000
set_option maxHeartbeats 4000000
namespace Wt
open PySem PySem.Spec PyProof.Rows L2 SX Evl
open C8 (Def Cal cal0 fnScope_by fnScope)
/-! Likeness: of two of the same data it tells True. -/
def tyN : PyData → String
  | .none => "NoneType"
  | .bool _ => "bool"
  | .int _ => "int"
  | .str _ => "str"
  | .list _ => "list"
  | .tuple _ => "tuple"
  | .dict _ => "dict"
theorem dp_ty {K : PySem.W.Frag} {H : Hp} {v : V} {d : PyData} (h : Dp K H v d) : TyX K H v (.type (tyN d)) := by
  cases h with
  | non => exact .base .non
  | bl b => exact .base (.bl b)
  | int i => exact .base (.int i)
  | str x => exact .base (.str x)
  | lst h1 _ =>
    rcases h1 with (h1 | ⟨o, h1⟩) | ⟨o, its, n, h1, h2, _⟩
    · exact .base (.lst h1)
    · exact .base (.frz h1)
    · exact .kList h1 h2
  | tup h1 _ =>
    rcases h1 with (h1 | ⟨o, h1⟩) | ⟨o, its, n, h1, h2, _⟩
    · exact .base (.tup h1)
    · exact .fTuple h1
    · exact .kTuple h1 h2
mutual
def wideD : PyData → Bool
  | .list xs => decide (xs.length ≤ 40000) && wideAll xs
  | .tuple xs => decide (xs.length ≤ 40000) && wideAll xs
  | .dict _ => false
  | .none => true
  | .bool _ => true
  | .int _ => true
  | .str _ => true
def wideAll : List PyData → Bool
  | [] => true
  | d :: ds => wideD d && wideAll ds
end
theorem wide_get : ∀ {ds : List PyData} {i : Nat} {d : PyData}, wideAll ds = true → ds[i]? = some d → wideD d = true
  | [], _, _, _, h => by simp at h
  | x :: ds, 0, d, h, e => by
    have e2 : x = d := Option.some.inj e
    subst e2
    unfold wideAll at h
    exact (Bool.and_eq_true_iff.mp h).1
  | x :: ds, i + 1, d, h, e => by
    unfold wideAll at h
    exact wide_get (Bool.and_eq_true_iff.mp h).2 e
theorem depth_get : ∀ {ds : List PyData} {i : Nat} {d : PyData}, ds[i]? = some d → d.depth ≤ PyData.depthAll ds
  | [], _, _, h => by simp at h
  | x :: ds, 0, d, e => by
    have e2 : x = d := Option.some.inj e
    subst e2
    unfold PyData.depthAll
    exact Nat.le_max_left _ _
  | x :: ds, i + 1, d, e => by
    unfold PyData.depthAll
    exact Nat.le_trans (depth_get (ds := ds) (i := i) e) (Nat.le_max_right _ _)
section
variable {K : PySem.W.Frag} {σ : L2.St} {H H' : Hp} {ta tb te tx : TE} {t u : TT} {x y z v : V}
theorem ev_isi {d : PyData} {n : String} {b : Bool} (ha : Ev ta σ H x) (hb : Ev tb σ H (.ty n)) (hx : Dp K H x d) (hk : kitB (tyN d) n = some b) : Ev (tCB (rIsi K) (tCons ta (tCons tb tNil))) σ H (.bl b) :=
  ev_cb (ea_cons ha (ea_cons hb ea_nil)) fun H1 e Q q => ⟨x, .ty n, .type (tyN d), .type n, b, rfl, .ty n, dp_ty (Dp.ex e d x hx), kit_ty hk, q H1 (Ex.refl H1)⟩
theorem ev_lenD {p : Addr} {xs : List V} (ha : Ev ta σ H (.ref p)) (h : SqL K H p xs ∨ SqT K H p xs) : Ev (tCB (rLenS K) (tCons ta tNil)) σ H (.int (xs.length : Int)) := fun H1 e Q q =>
  ha H1 e _ fun H2 e2 => ⟨p, xs, rfl, h.imp (ex_l (e.trans e2)) (ex_t (e.trans e2)), q H2 e2⟩
theorem ev_ixD {p : Addr} {xs : List V} {i : Nat} (ha : Ev ta σ H (.ref p)) (hb : Ev tb σ H (.int (i : Int))) (h : SqL K H p xs ∨ SqT K H p xs) (hv : xs[i]? = some v) : Ev (tOp (rIx K) ta tb) σ H v :=
  ev_op ha hb fun H1 e Q q => by
    rcases h with h | h
    · exact .inl ⟨p, xs, (i : Int), v, rfl, rfl, ex_l e h, atI_nat hv, q H1 (Ex.refl H1)⟩
    · exact .inr (.inl ⟨p, xs, (i : Int), v, rfl, rfl, ex_t e h, atI_nat hv, q H1 (Ex.refl H1)⟩)
theorem given_none (n : Nat) (v : Nat → V) : given n (fun _ => false) v = [] := by
  unfold given
  have e : (List.range n).filter (fun _ => false) = [] := by simp
  rw [e] <;> rfl
/-- [..] == [] where nothing was given -/
theorem ev_eqNil (ha : EvL ta σ H []) : Ev (tOp (rEqD K) ta (tLst tNil)) σ H (.bl true) := ev_opLL ha (el_lst ea_nil (Nat.zero_le _)) fun p q H1 h1 h2 _ H2 e2 Q q2 =>
  ⟨.list [], .list [], .lst (sq_of (e2 p _ h1)) .nil, .lst (sq_of (e2 q _ h2)) .nil, by decide +kernel, by decide +kernel, by
    have e : PyData.eqv (.list []) (.list []) = true := by decide +kernel
    rw [e]
    exact q2 H2 (Ex.refl H2)⟩
end
section
variable {P : Program} {w : World} {K : PySem.W.Frag} {mg : Str → Option Value} {base : Heap}
abbrev s__law_like : Stmt := topS 17
theorem sc__law_like : FnScope ["_law_found", "_law_due", "_law_k"] ["_law_found", "_law_due"] (fnScope s__law_like) := fnScope_by (by decide +kernel)
def spLike (K : PySem.W.Frag) (n : Nat) : Sp := fun vs H Q _ => ∃ (x y : V) (d : PyData), vs = [x, y] ∧ Dp K H x d ∧ Dp K H y d ∧ d.depth < n ∧ wideD d = true ∧ RetV (.bl true) H Q
/-- two of the same data, a list or a tuple -/
theorem like_seq {H : Hp} {x y : V} {ds : List PyData} {d : PyData} (hd : d = .list ds ∨ d = .tuple ds) (hx : Dp K H x d) (hy : Dp K H y d) :
    ∃ p xs q ys, x = .ref p ∧ y = .ref q ∧ (SqL K H p xs ∨ SqT K H p xs) ∧ (SqL K H q ys ∨ SqT K H q ys) ∧ DpAll K H xs ds ∧ DpAll K H ys ds := by
  rcases hd with rfl | rfl
  · cases hx with
    | lst h1 h2 =>
      cases hy with
      | lst g1 g2 => exact ⟨_, _, _, _, rfl, rfl, .inl h1, .inl g1, h2, g2⟩
  · cases hx with
    | tup h1 h2 =>
      cases hy with
      | tup g1 g2 => exact ⟨_, _, _, _, rfl, rfl, .inr h1, .inr g1, h2, g2⟩
theorem like_flat {H : Hp} {x y : V} {d : PyData} (h1 : ∀ ds, d ≠ .list ds) (h2 : ∀ ds, d ≠ .tuple ds) (hx : Dp K H x d) (hy : Dp K H y d) : x = y ∧ scal x y = true := by
  cases hx with
  | non => cases hy; exact ⟨rfl, rfl⟩
  | bl b => cases hy; exact ⟨rfl, rfl⟩
  | int i => cases hy; exact ⟨rfl, rfl⟩
  | str z => cases hy; exact ⟨rfl, rfl⟩
  | lst _ _ => exact absurd rfl (h1 _)
  | tup _ _ => exact absurd rfl (h2 _)
theorem ok_like1 (T : ModsL K mg) (n : Nat) (c__law_like : Cal P w K mg base n "_law_like" (spLike K n) []) {f : Addr} {fd : FuncData} (F : Def K mg "_law_like" s__law_like f fd) (b : Binds K fd ["_law_found", "_law_due"] []) : Cal P w K mg base (n + 1) "_law_like" (spLike K (n + 1)) [] := by
  refine cal0 F b .nil sc__law_like (fun vs H Q E h => ?_) (fun cdv A outer s H vs Q E hr h => ?_)
  · obtain ⟨_, _, _, rfl, _⟩ := h
    rfl
  · obtain ⟨x, y, d, rfl, hx, hy, hdep, hwd, q⟩ := h
    have m_isinstance := T.m_isinstance
    have m_tuple := T.m_tuple
    have m_list := T.m_list
    have m_len := T.m_len
    have m_range := T.m_range
    have m_bool := T.m_bool
    have m_int := T.m_int
    have m_str := T.m_str
    have hu64 := hr.units
    refine ⟨_, (pss_cons (ps_if (PW.pt (pw_or (pt_val (pe_callB call_isi (by rfl) m_isinstance Wt.bt_isinstance (pa_cons (pv 1) (pa_cons (pe_bltn (v := .ty "tuple") (by rfl) m_tuple Wt.bt_tuple rfl) pa_nil)))) (pw_or1 (pt_val (pe_callB call_isi (by rfl) m_isinstance Wt.bt_isinstance (pa_cons (pv 1) (pa_cons (pe_bltn (v := .ty "list") (by rfl) m_list Wt.bt_list rfl) pa_nil))))))) (pss_cons (ps_if (pt_cmpR op_ne (pe_callB call_isi (by rfl) m_isinstance Wt.bt_isinstance (pa_cons (pv 0) (pa_cons (pe_bltn (v := .ty "tuple") (by rfl) m_tuple Wt.bt_tuple rfl) pa_nil))) (pe_callB call_isi (by rfl) m_isinstance Wt.bt_isinstance (pa_cons (pv 1) (pa_cons (pe_bltn (v := .ty "tuple") (by rfl) m_tuple Wt.bt_tuple rfl) pa_nil))) (nomark _)) (pss_one (ps_ret pe_bl)) pss_nil)
      (pss_cons (ps_if (PW.pt (pw_or (pt_cmpR op_ne (pe_callB call_isi (by rfl) m_isinstance Wt.bt_isinstance (pa_cons (pv 0) (pa_cons (pe_bltn (v := .ty "list") (by rfl) m_list Wt.bt_list rfl) pa_nil))) (pe_callB call_isi (by rfl) m_isinstance Wt.bt_isinstance (pa_cons (pv 1) (pa_cons (pe_bltn (v := .ty "list") (by rfl) m_list Wt.bt_list rfl) pa_nil))) (nomark _)) (pw_or1 (pt_cmpR op_ne (pe_callB call_len_seq (by rfl) m_len PySem.boot_len (pa_cons (pv 0) pa_nil)) (pe_callB call_len_seq (by rfl) m_len PySem.boot_len (pa_cons (pv 1) pa_nil)) (nomark _))))) (pss_one (ps_ret pe_bl)) pss_nil)
      (pss_one (ps_ret (pe_cmpR (op_eqD hu64) (pe_lc (own := [("_law_k", 2)]) (g := (gName 2)) rfl sc__law_like.nd (pi_range1 (by rfl) m_range (pa_cons (pe_callB call_len_seq (by rfl) m_len PySem.boot_len (pa_cons (pv 1) pa_nil)) pa_nil)) (blkOk_by (N := ["_law_found", "_law_due", "_law_k"]) (sc := C8.fnScope s__law_like) (by decide +kernel)) (fun _ _ _ _ _ => pg_name (i := 2) sc__law_like.nd rfl (Or.inl rfl)) (fun _ _ _ _ _ => pts_one (pt_not (pt_val (C8.pe_c c__law_like hr (by first | decide | exact Nat.le_refl _ | omega) (by rfl) (pa_cons (pe_ix (show IxR _ (rIx K) from ix_seq) (pv 0) (pv 2) (fun _ _ => rfl)) (pa_cons (pe_ix (show IxR _ (rIx K) from ix_seq) (pv 1) (pv 2) (fun _ _ => rfl)) pa_nil)))))) (fun _ _ _ _ _ => (pv 2))) (pe_lst pa_nil) (nomark _)))))) pss_nil)
      (pss_cons (ps_if (pt_cmpR op_ne (pe_callB call_isi (by rfl) m_isinstance Wt.bt_isinstance (pa_cons (pv 0) (pa_cons (pe_bltn (v := .ty "bool") (by rfl) m_bool Wt.bt_bool rfl) pa_nil))) (pe_callB call_isi (by rfl) m_isinstance Wt.bt_isinstance (pa_cons (pv 1) (pa_cons (pe_bltn (v := .ty "bool") (by rfl) m_bool Wt.bt_bool rfl) pa_nil))) (nomark _)) (pss_one (ps_ret pe_bl)) pss_nil)
      (pss_cons (ps_if (PW.pt (pw_or (pt_cmpR op_ne (pe_callB call_isi (by rfl) m_isinstance Wt.bt_isinstance (pa_cons (pv 0) (pa_cons (pe_bltn (v := .ty "int") (by rfl) m_int Wt.bt_int rfl) pa_nil))) (pe_callB call_isi (by rfl) m_isinstance Wt.bt_isinstance (pa_cons (pv 1) (pa_cons (pe_bltn (v := .ty "int") (by rfl) m_int Wt.bt_int rfl) pa_nil))) (nomark _)) (pw_or1 (pt_cmpR op_ne (pe_callB call_isi (by rfl) m_isinstance Wt.bt_isinstance (pa_cons (pv 0) (pa_cons (pe_bltn (v := .ty "str") (by rfl) m_str Wt.bt_str rfl) pa_nil))) (pe_callB call_isi (by rfl) m_isinstance Wt.bt_isinstance (pa_cons (pv 1) (pa_cons (pe_bltn (v := .ty "str") (by rfl) m_str Wt.bt_str rfl) pa_nil))) (nomark _))))) (pss_one (ps_ret pe_bl)) pss_nil)
      (pss_one (ps_ret (pe_cmpR op_eq (pv 0) (pv 1) (nomark _))))))), ?_⟩
    by_cases hs : ∃ ds, d = .list ds ∨ d = .tuple ds
    · obtain ⟨ds, hd⟩ := hs
      obtain ⟨p, xs, pq, ys, rfl, rfl, gx, gy, ax, ay⟩ := like_seq hd hx hy
      have lx := dpa_len ax
      have ly := dpa_len ay
      have hw2 : ds.length ≤ 40000 ∧ wideAll ds = true ∧ PyData.depthAll ds < n := by
        rcases hd with rfl | rfl
        · unfold wideD at hwd
          rw [Bool.and_eq_true] at hwd
          unfold PyData.depth at hdep
          exact ⟨of_decide_eq_true hwd.1, hwd.2, by omega⟩
        · unfold wideD at hwd
          rw [Bool.and_eq_true] at hwd
          unfold PyData.depth at hdep
          exact ⟨of_decide_eq_true hwd.1, hwd.2, by omega⟩
      obtain ⟨bt, bl, kt, kl, hor⟩ : ∃ bt bl : Bool, kitB (tyN d) "tuple" = some bt ∧ kitB (tyN d) "list" = some bl ∧ (bt || bl) = true := by
        rcases hd with rfl | rfl
        · exact ⟨false, true, (show kitB "list" "tuple" = some false by decide +kernel), (show kitB "list" "list" = some true by decide +kernel), rfl⟩
        · exact ⟨true, false, (show kitB "tuple" "tuple" = some true by decide +kernel), (show kitB "tuple" "list" = some false by decide +kernel), rfl⟩
      refine q_when (et_is (et_or (et_B (ev_isi (ev_var rfl) ev_c hy kt)) fun _ => et_B (ev_isi (ev_var rfl) ev_c hy kl)) hor) (fun _ H1 e1 => ?_) (fun z => by cases z)
      have hx1 := Dp.ex e1 d _ hx
      have hy1 := Dp.ex e1 d _ hy
      refine q_when (b := false) (et_is (et_test (ev_op (ev_isi (ev_var rfl) ev_c hx1 kt) (ev_isi (ev_var rfl) ev_c hy1 kt) (rv_ne rfl))) (by simp)) (fun z => by cases z) (fun _ H2 e2 => ?_)
      have hx2 := Dp.ex e2 d _ hx1
      have hy2 := Dp.ex e2 d _ hy1
      have e12 := e1.trans e2
      refine q_when (b := false) (et_is (et_or (et_test (ev_op (ev_isi (ev_var rfl) ev_c hx2 kl) (ev_isi (ev_var rfl) ev_c hy2 kl) (rv_ne rfl))) fun _ =>
        et_test (ev_op (ev_lenD (K := K) (ev_var rfl) (gx.imp (ex_l e12) (ex_t e12))) (ev_lenD (K := K) (ev_var rfl) (gy.imp (ex_l e12) (ex_t e12))) (rv_ne rfl))) (by simp [lx, ly])) (fun z => by cases z) (fun _ H3 e3 => ?_)
      have e13 := e12.trans e3
      have gx3 := gx.imp (ex_l e13) (ex_t e13)
      have gy3 := gy.imp (ex_l e13) (ex_t e13)
      refine s_ret (ev_eqNil (K := K) ?_) fun H4 e4 => q.go (e13.trans e4)
      have lc := el_lcR1 (j := 2) (vs := [2]) (n := (ys.length : Int)) (σ := [some (V.ref p), some (V.ref pq), none]) (H := H3) (fun _ => false) (fun _ => V.non)
        (ta := tCons (tCB (rLenS K) (tCons (tVar 1) tNil)) tNil) (te := tVar 2)
        (t := tNot (tB (tCall (spLike K n) [] C8.E0 (tCons (tOp (rIx K) (tVar 0) (tVar 2)) (tCons (tOp (rIx K) (tVar 1) (tVar 2)) tNil)))))
        (ea_cons (ev_lenD (K := K) (ev_var rfl) gy3) ea_nil) ⟨by omega, by rw [ly]; omega⟩ (fun _ => rfl) (fun i H4 e4 hi => ?_) (fun i H4 e4 hi z => by cases z)
      · rw [Int.toNat_natCast, given_none] at lc
        exact lc
      · have hid : i < ds.length := by omega
        obtain ⟨vx, d1, g1, g2, g3⟩ := dpa_get ax hid
        obtain ⟨vy, d2, k1, k2, k3⟩ := dpa_get ay hid
        rw [g2] at k2
        cases k2
        have e14 := e13.trans e4
        refine et_not (et_B (b := true) ?_)
        refine ev_call (dvs := []) (vs := [vx, vy]) (ea_cons (ev_ixD (ev_var rfl) (ev_var rfl) (gx.imp (ex_l e14) (ex_t e14)) g1) (ea_cons (ev_ixD (ev_var rfl) (ev_var rfl) (gy.imp (ex_l e14) (ex_t e14)) k1) ea_nil)) fun H5 e5 Q5 q5 E5 => ?_
        have e15 := e14.trans e5
        exact ⟨vx, vy, d1, rfl, Dp.ex e15 d1 _ g3, Dp.ex e15 d1 _ k3, Nat.lt_of_le_of_lt (depth_get g2) hw2.2.2, wide_get hw2.2.1 g2, fun H6 e6 => q5 H6 e6⟩
    · have n1 : ∀ ds, d ≠ .list ds := fun ds e => hs ⟨ds, .inl e⟩
      have n2 : ∀ ds, d ≠ .tuple ds := fun ds e => hs ⟨ds, .inr e⟩
      obtain ⟨rfl, hsc⟩ := like_flat n1 n2 hx hy
      obtain ⟨bb, bi, bs, kt, kl, kb, ki, ks⟩ : ∃ bb bi bs : Bool, kitB (tyN d) "tuple" = some false ∧ kitB (tyN d) "list" = some false ∧ kitB (tyN d) "bool" = some bb ∧ kitB (tyN d) "int" = some bi ∧ kitB (tyN d) "str" = some bs := by
        cases d with
        | none => exact ⟨false, false, false, (show kitB "NoneType" "tuple" = some false by decide +kernel), (show kitB "NoneType" "list" = some false by decide +kernel), (show kitB "NoneType" "bool" = some false by decide +kernel), (show kitB "NoneType" "int" = some false by decide +kernel), (show kitB "NoneType" "str" = some false by decide +kernel)⟩
        | bool _ => exact ⟨true, true, false, (show kitB "bool" "tuple" = some false by decide +kernel), (show kitB "bool" "list" = some false by decide +kernel), (show kitB "bool" "bool" = some true by decide +kernel), (show kitB "bool" "int" = some true by decide +kernel), (show kitB "bool" "str" = some false by decide +kernel)⟩
        | int _ => exact ⟨false, true, false, (show kitB "int" "tuple" = some false by decide +kernel), (show kitB "int" "list" = some false by decide +kernel), (show kitB "int" "bool" = some false by decide +kernel), (show kitB "int" "int" = some true by decide +kernel), (show kitB "int" "str" = some false by decide +kernel)⟩
        | str _ => exact ⟨false, false, true, (show kitB "str" "tuple" = some false by decide +kernel), (show kitB "str" "list" = some false by decide +kernel), (show kitB "str" "bool" = some false by decide +kernel), (show kitB "str" "int" = some false by decide +kernel), (show kitB "str" "str" = some true by decide +kernel)⟩
        | list ds => exact absurd rfl (n1 ds)
        | tuple ds => exact absurd rfl (n2 ds)
        | dict _ => cases hx
      refine q_when (et_is (et_or (et_B (ev_isi (ev_var rfl) ev_c hy kt)) fun _ => et_B (ev_isi (ev_var rfl) ev_c hy kl)) rfl) (fun z => by cases z) (fun _ H1 e1 => ?_)
      have hx1 := Dp.ex e1 d _ hx
      refine q_when (b := false) (et_is (et_test (ev_op (ev_isi (ev_var rfl) ev_c hx1 kb) (ev_isi (ev_var rfl) ev_c hx1 kb) (rv_ne rfl))) (by simp)) (fun z => by cases z) (fun _ H2 e2 => ?_)
      have hx2 := Dp.ex e2 d _ hx1
      refine q_when (b := false) (et_is (et_or (et_test (ev_op (ev_isi (ev_var rfl) ev_c hx2 ki) (ev_isi (ev_var rfl) ev_c hx2 ki) (rv_ne rfl))) fun _ =>
        et_test (ev_op (ev_isi (ev_var rfl) ev_c hx2 ks) (ev_isi (ev_var rfl) ev_c hx2 ks) (rv_ne rfl))) (by simp)) (fun z => by cases z) (fun _ H3 e3 => ?_)
      refine s_ret (ev_is (ev_op (ev_var rfl) (ev_var rfl) (rv_eq hsc)) (show V.bl (decide (x = x)) = .bl true by rw [decide_eq_true rfl])) fun H4 e4 => q.go (((e1.trans e2).trans e3).trans e4)
/-- to any depth -/
theorem ok_like (T : ModsL K mg) {f : Addr} {fd : FuncData} (F : Def K mg "_law_like" s__law_like f fd) (b : Binds K fd ["_law_found", "_law_due"] []) : ∀ n, Cal P w K mg base n "_law_like" (spLike K n) []
  | 0 => ⟨f, fd, _, [], ⟨fun vs H Q E ⟨_, _, d, _, _, _, h, _⟩ => absurd h (Nat.not_lt_zero _), fun A outer s H args us vs Q E _ _ _ _ ⟨_, _, d, _, _, _, h, _⟩ => absurd h (Nat.not_lt_zero _)⟩, F.mgf, F.kp, b, .nil⟩
  | n + 1 => ok_like1 T n (ok_like T F b n) F b
end
end Wt

set_option Elab.async false
set_option linter.all false
set_option maxRecDepth 100000
set_option maxHeartbeats 4000000
/-! A row of words that is written word by word is read so. -/
namespace Wt
open PySem PySem.Spec PyProof.Rows L2 SX Evl

/-- a sign that makes a word longer -/
def lastL (w : List Nat) : Bool := w.getLast?.any isL
def lastF (w : List Nat) : Bool := w.getLast?.any isF
def cont (w : List Nat) (c : Nat) : Bool := (lastL w && isL c) || (lastF w && isF c) || (decide (w = [60]) && (decide (c = 61) || decide (c = 62)))
def Bnd (w rest : List Nat) : Prop := ∀ c r, rest = c :: r → cont w c = false
inductive Good : List Nat → List Nat → Prop
  | name {w : List Nat} (a : w.all isL = true) (n : w ≠ []) (l : w.length ≤ 6) (o : w ∉ owns) : Good kName w
  | own {w : List Nat} (o : w ∈ owns) : Good kOwn w
  | num {w : List Nat} (a : w.all isF = true) (n : w ≠ []) (l : w.length ≤ 6) (z : w.headD 0 = 48 → w = [48]) : Good kNum w
  | sign {w : List Nat} (s : w ∈ signs) : Good kSign w

theorem owns_let : ∀ w ∈ owns, w.all isL = true ∧ w ≠ [] ∧ w.length ≤ 6 := by decide +kernel
theorem isL_isF : ∀ c, isL c = true → isF c = false := by
  intro c h
  unfold isL at h
  unfold isF
  have h1 := of_decide_eq_true h
  have : ∀ c ∈ letters, c ∉ figures := by decide +kernel
  exact decide_eq_false (this c h1)
theorem isF_isL (c : Nat) (h : isF c = true) : isL c = false := by
  cases h2 : isL c with
  | false => rfl
  | true =>
    rw [isL_isF c h2] at h
    cases h
theorem isL_32 : isL 32 = false := by decide +kernel
theorem isF_32 : isF 32 = false := by decide +kernel
theorem cont_32 (w : List Nat) : cont w 32 = false := by
  unfold cont
  rw [isL_32, isF_32]
  simp
theorem takeWhile_app {p : Nat → Bool} : ∀ {w rest : List Nat}, w.all p = true → (∀ c r, rest = c :: r → p c = false) → (w ++ rest).takeWhile p = w
  | [], [], _, _ => rfl
  | [], c :: r, _, h => by
    rw [List.nil_append, List.takeWhile_cons, if_neg (by rw [h c r rfl]; exact Bool.false_ne_true)]
  | c :: w, rest, a, h => by
    rw [List.all_cons, Bool.and_eq_true] at a
    rw [List.cons_append, List.takeWhile_cons, if_pos a.1, takeWhile_app a.2 h]
theorem last_all {p : Nat → Bool} : ∀ {w : List Nat}, w ≠ [] → w.all p = true → w.getLast?.any p = true
  | [], h, _ => absurd rfl h
  | [c], _, a => by
    rw [List.all_cons, Bool.and_eq_true] at a
    exact a.1
  | c :: d :: w, _, a => by
    rw [List.all_cons, Bool.and_eq_true] at a
    rw [List.getLast?_cons_cons]
    exact last_all (List.cons_ne_nil _ _) a.2
theorem wordAt_let {w rest : List Nat} (a : w.all isL = true) (n : w ≠ []) (b : Bnd w rest) : wordAt (w ++ rest) = w := by
  obtain ⟨c, r, rfl⟩ : ∃ c r, w = c :: r := by
    cases w with
    | nil => exact absurd rfl n
    | cons c r => exact ⟨c, r, rfl⟩
  have hc : isL c = true := by
    rw [List.all_cons, Bool.and_eq_true] at a
    exact a.1
  rw [List.cons_append, wordAt_cons, if_pos hc, ← List.cons_append]
  refine takeWhile_app a fun d q e => ?_
  have z := b d q e
  unfold cont at z
  have l : lastL (c :: r) = true := last_all n a
  rw [l, Bool.true_and, Bool.or_eq_false_iff, Bool.or_eq_false_iff] at z
  exact z.1.1
theorem wordAt_fig {w rest : List Nat} (a : w.all isF = true) (n : w ≠ []) (b : Bnd w rest) : wordAt (w ++ rest) = w := by
  obtain ⟨c, r, rfl⟩ : ∃ c r, w = c :: r := by
    cases w with
    | nil => exact absurd rfl n
    | cons c r => exact ⟨c, r, rfl⟩
  have hc : isF c = true := by
    rw [List.all_cons, Bool.and_eq_true] at a
    exact a.1
  rw [List.cons_append, wordAt_cons, if_neg (by rw [isF_isL c hc]; exact Bool.false_ne_true), if_pos hc, ← List.cons_append]
  refine takeWhile_app a fun d q e => ?_
  have z := b d q e
  unfold cont at z
  have l : lastF (c :: r) = true := last_all n a
  rw [l, Bool.true_and, Bool.or_eq_false_iff, Bool.or_eq_false_iff] at z
  exact z.1.2
theorem wordAt_sign {w rest : List Nat} (s : w ∈ signs) (b : Bnd w rest) : wordAt (w ++ rest) = w := by
  have hw : ∀ w ∈ signs, w ≠ [] ∧ isL (w.headD 0) = false ∧ isF (w.headD 0) = false := by decide +kernel
  obtain ⟨h0, h1, h2⟩ := hw w s
  obtain ⟨c, r, rfl⟩ : ∃ c r, w = c :: r := by
    cases w with
    | nil => exact absurd rfl h0
    | cons c r => exact ⟨c, r, rfl⟩
  have h1' : isL c = false := h1
  have h2' : isF c = false := h2
  rw [List.cons_append, wordAt_cons, if_neg (by rw [h1']; exact Bool.false_ne_true), if_neg (by rw [h2']; exact Bool.false_ne_true), ← List.cons_append]
  unfold signs at s
  simp only [List.mem_cons, List.not_mem_nil, or_false] at s
  rcases s with e | e | e | e | e | e | e | e | e | e | e | e
  all_goals
    rw [e] at b ⊢
    cases rest with
    | nil => decide +kernel
    | cons d q =>
      first
        | (unfold signs; simp [List.find?]; done)
        | (have z := b d q rfl
           have z1 : ¬ d = 61 := fun y => by subst y; exact absurd z (by decide +kernel)
           have z2 : ¬ d = 62 := fun y => by subst y; exact absurd z (by decide +kernel)
           unfold signs; simp [List.find?, z1, z2])
theorem wordAt_good {k w rest : List Nat} (g : Good k w) (b : Bnd w rest) : wordAt (w ++ rest) = w := by
  cases g with
  | name a n l o => exact wordAt_let a n b
  | own o => exact wordAt_let (owns_let w o).1 (owns_let w o).2.1 b
  | num a n l z => exact wordAt_fig a n b
  | sign s => exact wordAt_sign s b
theorem signs_no : ∀ w ∈ signs, w ∉ owns := by decide +kernel
theorem head_all {p : Nat → Bool} {w : List Nat} (n : w ≠ []) (a : w.all p = true) : p (w.headD 0) = true := by
  cases w with
  | nil => exact absurd rfl n
  | cons c r =>
    rw [List.all_cons, Bool.and_eq_true] at a
    exact a.1
theorem signs_head : ∀ w ∈ signs, isL (w.headD 0) = false ∧ isF (w.headD 0) = false := by decide +kernel
theorem kind_good {k w : List Nat} (g : Good k w) : kindOf w = k := by
  unfold kindOf
  cases g with
  | name a n l o =>
    have hs : w ∉ signs := fun s => by
      have := (signs_head w s).1
      rw [head_all n a] at this
      cases this
    rw [if_neg o, if_neg hs, if_neg (by rintro (z | z); exact n z; omega), if_pos (head_all n a)]
  | own o => rw [if_pos o]
  | num a n l z =>
    have hs : w ∉ signs := fun s => by
      have := (signs_head w s).2
      rw [head_all n a] at this
      cases this
    have ho : w ∉ owns := fun o => by
      have := isL_isF _ (head_all n (owns_let w o).1)
      rw [head_all n a] at this
      cases this
    rw [if_neg ho, if_neg hs, if_neg (by rintro (z | z); exact n z; omega), if_neg (by rw [isF_isL _ (head_all n a)]; exact Bool.false_ne_true), if_neg]
    rintro ⟨z1, z2⟩
    rw [z z1] at z2
    exact absurd z2 (by decide)
  | sign s => rw [if_neg (signs_no w s), if_pos s]
theorem good_ne {k w : List Nat} (g : Good k w) : w ≠ [] := by
  cases g with
  | name a n l o => exact n
  | own o => exact (owns_let w o).2.1
  | num a n l z => exact n
  | sign s =>
    have : ∀ w ∈ signs, w ≠ [] := by decide +kernel
    exact this w s
theorem good_len {k w : List Nat} (g : Good k w) : w.length ≤ 6 := by
  cases g with
  | name a n l o => exact l
  | own o => exact (owns_let w o).2.2
  | num a n l z => exact l
  | sign s =>
    have : ∀ w ∈ signs, w.length ≤ 6 := by decide +kernel
    exact this w s
/-- no remark, no line end, no blank within -/
theorem good_plain {k w : List Nat} (g : Good k w) : 35 ∉ w ∧ 10 ∉ w ∧ 32 ∉ w := by
  have hl : ∀ w : List Nat, w.all isL = true → 35 ∉ w ∧ 10 ∉ w ∧ 32 ∉ w := fun w a =>
    ⟨fun h => absurd (List.all_eq_true.mp a 35 h) (by decide +kernel), fun h => absurd (List.all_eq_true.mp a 10 h) (by decide +kernel), fun h => absurd (List.all_eq_true.mp a 32 h) (by decide +kernel)⟩
  have hf : ∀ w : List Nat, w.all isF = true → 35 ∉ w ∧ 10 ∉ w ∧ 32 ∉ w := fun w a =>
    ⟨fun h => absurd (List.all_eq_true.mp a 35 h) (by decide +kernel), fun h => absurd (List.all_eq_true.mp a 10 h) (by decide +kernel), fun h => absurd (List.all_eq_true.mp a 32 h) (by decide +kernel)⟩
  cases g with
  | name a n l o => exact hl w a
  | own o => exact hl w (owns_let w o).1
  | num a n l z => exact hf w a
  | sign s =>
    have : ∀ w ∈ signs, 35 ∉ w ∧ 10 ∉ w ∧ 32 ∉ w := by decide +kernel
    exact this w s
theorem kinds_ne {k w : List Nat} (g : Good k w) : k ≠ [] := by
  cases g <;> decide
theorem good_head {k w : List Nat} (g : Good k w) : ∃ c r, w = c :: r ∧ c ≠ 32 := by
  have h := good_ne g
  cases w with
  | nil => exact absurd rfl h
  | cons c r => exact ⟨c, r, rfl, fun e => (good_plain g).2.2 (e ▸ List.mem_cons_self ..)⟩

/-! ### the row so far -/
/-- r is a row's beginning that holds the words ds, the last one is last -/
structure PL (r : List Nat) (ds : List Word) (last : List Nat) : Prop where
  plain : 35 ∉ r ∧ 10 ∉ r
  lex : ∀ rest, Bnd last rest → lexR 0 (r ++ rest) = (ds ++ (lexR r.length rest).1, (lexR r.length rest).2)
theorem pl_start : PL [] [] [] := ⟨⟨by simp, by simp⟩, fun rest _ => rfl⟩
theorem lexR_blanks : ∀ (g i : Nat) (l : List Nat), lexR i (List.replicate g 32 ++ l) = lexR (i + g) l
  | 0, i, l => rfl
  | g + 1, i, l => by
    rw [List.replicate_succ, List.cons_append, lexR_blank, lexR_blanks g (i + 1) l, show i + 1 + g = i + (g + 1) by omega]
theorem pl_step {r last k w : List Nat} {ds : List Word} {g : Nat} (p : PL r ds last) (gd : Good k w) (hg : g = 0 → ∀ c q, w = c :: q → cont last c = false) :
    PL (r ++ List.replicate g 32 ++ w) (ds ++ [(k, w, r.length + g + 1)]) w := by
  obtain ⟨p1, p2, p3⟩ := good_plain gd
  refine ⟨⟨?_, ?_⟩, fun rest b => ?_⟩
  · intro h
    rcases List.mem_append.mp h with h | h
    · rcases List.mem_append.mp h with h | h
      · exact p.plain.1 h
      · have := List.eq_of_mem_replicate h
        omega
    · exact p1 h
  · intro h
    rcases List.mem_append.mp h with h | h
    · rcases List.mem_append.mp h with h | h
      · exact p.plain.2 h
      · have := List.eq_of_mem_replicate h
        omega
    · exact p2 h
  · obtain ⟨c, q, ew, hc⟩ := good_head gd
    have hb : Bnd last (List.replicate g 32 ++ (w ++ rest)) := fun d s e => by
      cases g with
      | zero =>
        rw [List.replicate_zero, List.nil_append, ew, List.cons_append] at e
        injection e with e1 e2
        rw [← e1]
        exact hg rfl c q ew
      | succ g =>
        rw [List.replicate_succ, List.cons_append] at e
        injection e with e1 e2
        rw [← e1]
        exact cont_32 last
    have e0 : r ++ List.replicate g 32 ++ w ++ rest = r ++ (List.replicate g 32 ++ (w ++ rest)) := by rw [List.append_assoc, List.append_assoc]
    have hw : wordAt (w ++ rest) = w := wordAt_good gd b
    have hk : kindOf w = k := kind_good gd
    have hl : (r ++ List.replicate g 32 ++ w).length = r.length + g + w.length := by rw [List.length_append, List.length_append, List.length_replicate]
    have ec : w ++ rest = c :: (q ++ rest) := by rw [ew] <;> rfl
    have step : lexR (r.length + g) (w ++ rest) = ((k, w, r.length + g + 1) :: (lexR (r.length + g + w.length) rest).1, (lexR (r.length + g + w.length) rest).2) := by
      rw [ec, lexR_word hc (by rw [← ec, hw, hk]; exact kinds_ne gd), ← ec, hw, hk, List.drop_left]
    rw [e0, p.lex _ hb, lexR_blanks, step, hl, List.append_assoc] <;> rfl
/-- tails of rows, rows without words -/
theorem told_app {r t : List Nat} (h : 35 ∉ r) : told (r ++ t) = r ++ told t := by
  unfold told
  induction r with
  | nil => rfl
  | cons c r ih =>
    have hc : c ≠ 35 := fun e => h (e ▸ List.mem_cons_self ..)
    rw [List.cons_append, List.takeWhile_cons, if_pos (by simp [hc]), ih fun z => h (List.mem_cons_of_mem _ z)] <;> rfl
theorem pl_end {r last t : List Nat} {ds : List Word} (p : PL r ds last) {g : Nat} (ht : told t = List.replicate g 32) : lexRow (r ++ t) = (ds, none) := by
  rw [lexRow_R, told_app p.plain.1, ht]
  have hb : Bnd last (List.replicate g 32) := fun d s e => by
    cases g with
    | zero => cases e
    | succ g =>
      rw [List.replicate_succ] at e
      injection e with e1 e2
      rw [← e1]
      exact cont_32 last
  rw [p.lex _ hb]
  have e := lexR_blanks g r.length []
  rw [List.append_nil] at e
  rw [e, lexR_nil, List.append_nil]
/-- numbers -/
theorem numL_good {n : Nat} (h : n < 1000000) : Good kNum (TL.numL n) := by
  have hd := TL.numL_digits n
  refine .num ?_ (TL.numL_ne n) (TL.numL_len (by decide) (by simpa using h)) ?_
  · rw [List.all_eq_true]
    intro c hc
    obtain ⟨h1, h2⟩ := hd c hc
    unfold isF figures
    refine decide_eq_true ?_
    have : c = 48 ∨ c = 49 ∨ c = 50 ∨ c = 51 ∨ c = 52 ∨ c = 53 ∨ c = 54 ∨ c = 55 ∨ c = 56 ∨ c = 57 := by omega
    rcases this with e | e | e | e | e | e | e | e | e | e <;> subst e <;> decide
  · have key : ∀ n : Nat, (TL.numL n).headD 0 = 48 → n = 0 := fun n => by
      induction n using Nat.strongRecOn with
      | _ n ih =>
        intro hz
        by_cases hn : n < 10
        · rw [TL.numL_lt hn] at hz
          have : 48 + n = 48 := hz
          omega
        · rw [TL.numL_step (by omega)] at hz
          have hne := TL.numL_ne (n / 10)
          have hh : (TL.numL (n / 10) ++ [48 + n % 10]).headD 0 = (TL.numL (n / 10)).headD 0 := by
            cases hq : TL.numL (n / 10) with
            | nil => exact absurd hq hne
            | cons c r => rfl
          rw [hh] at hz
          have := ih (n / 10) (by omega) hz
          omega
    intro hz
    rw [key n hz]
    decide +kernel
end Wt

set_option Elab.async false
set_option linter.all false
set_option maxRecDepth 100000
set_option maxHeartbeats 4000000
namespace Wt
open PySem PySem.Spec PyProof.Rows L2 SX Evl
open C8 (Def Cal cal0 fnScope_by fnScope)
/-! The writer: a word, its place, a row's end. -/
/-- a new list, known by what is true of its items -/
def EvNL (te : TE) (σ : L2.St) (H : Hp) (P : List V → Prop) : Prop := ∀ H1, Ex H H1 → ∀ Q : VK, (∀ p H2 xs, P xs → H1 p = none → Ex H1 H2 → H2 p = some (.lst xs) → Q (.ref p) H2) → te σ H1 Q
section
variable {K : PySem.W.Frag} {σ : L2.St} {H H' : Hp} {ta tb te tx : TE} {t u : TT} {x y z v : V}
/-- [e for k in range(n)], n and e known by what is true of them -/
theorem en_lcR {j : Nat} {vs : List Nat} {N : Nat} {P : V → Prop} (h : EvN ta σ H (fun v => ∃ z : Int, v = .int z ∧ 0 ≤ z ∧ z ≤ (N : Int))) (hN : N ≤ 10000) (hw : ∀ x, wipe ((wipe σ vs).set j (some x)) vs = wipe σ vs)
    (he : ∀ (i : Nat) H1, Ex H H1 → EvN te ((wipe σ vs).set j (some (.int (i : Int)))) H1 P) : EvNL (tLc (iRng1 (tCons ta tNil)) (gName j) tYes te vs) σ H (fun xs => xs.length ≤ N ∧ ∀ x ∈ xs, P x) := fun H0 e Q q =>
  h H0 e _ fun v H1 hv e1 => by
    obtain ⟨z, rfl, z0, z1⟩ := hv
    refine ⟨z, rfl, by omega, by omega, fun Dl hD => ?_⟩
    refine lc_range (lo := 0) (n := z.toNat) (fun i H2 => ∃ xs, Ex H1 H2 ∧ H2 Dl = some (.lst xs) ∧ xs.length = i ∧ ∀ x ∈ xs, P x) ⟨[], Ex.new hD, upd_same, rfl, fun _ h => absurd h (by simp)⟩ ?_ ?_
    · rintro i H2 hi ⟨xs, e2, h2, hl, hP⟩
      have e0 : (0 : Int) + (i : Int) = (i : Int) := Int.zero_add _
      show wipe ((wipe σ vs).set j (some (.int ((0 : Int) + (i : Int))))) vs = wipe σ vs ∧ tYes ((wipe σ vs).set j (some (.int ((0 : Int) + (i : Int))))) H2 _
      rw [e0]
      refine ⟨hw _, ?_⟩
      show te ((wipe σ vs).set j (some (.int (i : Int)))) H2 _
      refine he i H2 ((e.trans e1).trans e2) H2 (Ex.refl H2) _ fun y H3 py e3 => ⟨xs, e3 Dl _ h2, sz_lt (by omega), xs ++ [y], ?_, upd_same, by rw [List.length_append, hl] <;> rfl, fun x hx => ?_⟩
      · exact Ex.mut (e2.trans e3) hD
      · rcases List.mem_append.mp hx with h | h
        · exact hP x h
        · rw [List.mem_singleton.mp h]
          exact py
    · rintro H2 ⟨xs, e2, h2, hl, hP⟩
      exact q Dl H2 xs ⟨by omega, hP⟩ (fresh_back e1 hD) (e1.trans e2) h2
theorem ev_dget {kvs : List (Key × V)} {a : Addr} {k : Str} (ha : Ev ta σ H (.ref a)) (hb : Ev tb σ H (.str k)) (h : H a = some (.dK kvs)) (hv : valV kvs (Sum.inr k : Key) = some v) : Ev (tDGet ta tb) σ H v := fun H1 e Q q =>
  ha H1 e _ fun H2 e2 => hb H2 (e.trans e2) _ fun H3 e3 => ⟨a, v, rfl, by
    have g := DGet.k (k := (Sum.inr k : Key)) (((e.trans e2).trans e3) a _ h)
    rw [hv] at g
    exact g, q H3 (e2.trans e3)⟩
theorem rv_addS {a b : List Nat} (h : a.length + b.length ≤ 100000) : RV (fun x y H Q => ∃ i j, x = .str i ∧ y = .str j ∧ i.length + j.length ≤ sizeLine ∧ Q (.str (i ++ j)) H) (.str (S a)) (.str (S b)) H (.str (S (a ++ b))) := fun H1 _ Q q =>
  ⟨S a, S b, rfl, rfl, by rw [S_len, S_len]; exact sz_of h, by rw [S_cat]; exact q H1 (Ex.refl H1)⟩
theorem rv_repS {a : List Nat} {k : Nat} (h : a.length ≤ 16) (hk : k ≤ 100000) : RV rRepS (.str (S a)) (.int (k : Int)) H (.str (S (List.replicate k a).flatten)) := fun H1 _ Q q => ⟨a, k, rfl, rfl, h, hk, q H1 (Ex.refl H1)⟩
end
theorem joinL_nil : ∀ l : List Nat, TL.joinL [] (l.map fun c => [c]) = l
  | [] => rfl
  | [c] => rfl
  | c :: d :: r => by
    show [c] ++ ([] ++ TL.joinL [] ((d :: r).map fun c => [c])) = _
    rw [joinL_nil (d :: r)] <;> rfl
section
variable {P : Program} {w : World} {K : PySem.W.Frag} {mg : Str → Option Value} {base : Heap}
/-! ### _law_word, over nothing used -/
abbrev s__law_word : Stmt := topS 19
theorem sc__law_word : FnScope ["_law_d", "_law_used", "_law_found", "_law_k"] ["_law_d", "_law_used"] (fnScope s__law_word) := fnScope_by (by decide +kernel)
def firsts : List Nat := [98, 102, 104, 106, 112, 113, 114, 116, 118, 120, 122]
def nexts : List Nat := [97, 98, 100, 101, 102, 105, 108, 109, 110, 111, 115, 116, 117, 119, 121]
def Namely (w : List Nat) : Prop := ∃ c cs, w = c :: cs ∧ c ∈ firsts ∧ (∀ d ∈ cs, d ∈ nexts) ∧ cs.length ≤ 2
theorem namely_good {w : List Nat} (h : Namely w) : Good kName w := by
  obtain ⟨c, cs, rfl, h1, h2, h3⟩ := h
  have f1 : ∀ c ∈ firsts, isL c = true := by decide +kernel
  have f2 : ∀ c ∈ nexts, isL c = true := by decide +kernel
  have f3 : ∀ o ∈ owns, o.headD 0 ∉ firsts := by decide +kernel
  refine .name ?_ (List.cons_ne_nil _ _) ?_ fun o => f3 _ o h1
  · rw [List.all_cons, f1 c h1, Bool.true_and, List.all_eq_true]
    exact fun d hd => f2 d (h2 d hd)
  · rw [List.length_cons]
    omega
def spWord (K : PySem.W.Frag) : Sp := fun vs H Q _ => ∃ (d a u : Addr) (ns : List Int), vs = [.ref d, .ref u] ∧ Dc K H d a ns ∧ H u = some (.lst []) ∧ ∀ w H2, Namely w → Ex H (upd H2 u (.lst [])) → H2 u = some (.lst [.str (S w)]) → Q (.str (S w)) H2
theorem lit_firsts : Str.ofString "bfhjpqrtvxz" = S firsts := by decide +kernel
theorem lit_nexts : Str.ofString "abdefilmnostuwy" = S nexts := by decide +kernel
/-- one sign of a written text -/
theorem en_sign {H : Hp} {σ : L2.St} {tb : TE} {x : Str} {l : List Nat} (e : x = S l) (hl : l.length ≤ 1000) (hb : EvN tb σ H (fun v => ∃ z : Int, v = .int z ∧ 0 ≤ z ∧ z < (l.length : Int))) :
    EvN (tOp rIxS (tC (.str x)) tb) σ H (fun v => ∃ c, v = .str (S [c]) ∧ c ∈ l) := by
  subst e
  refine en_opV (EvN.of ev_c) (fun _ _ => hb) ?_
  rintro x y rfl ⟨z, rfl, z0, z1⟩
  obtain ⟨k, rfl⟩ : ∃ k : Nat, z = (k : Int) := ⟨z.toNat, by omega⟩
  have hlt : k < l.length := by omega
  exact ⟨.str (S [l[k]]), ⟨l[k], rfl, List.getElem_mem hlt⟩, rv_at (by omega) (List.getElem?_eq_getElem hlt)⟩
theorem ok_word (T : ModsL K mg) (c__law_next : Cal P w K mg base 1 "_law_next" (spNext K) []) {f : Addr} {fd : FuncData} (F : Def K mg "_law_word" s__law_word f fd) (b : Binds K fd ["_law_d", "_law_used"] []) : Cal P w K mg base 2 "_law_word" (spWord K) [] := by
  refine cal0 F b .nil sc__law_word (fun vs H Q E h => ?_) (fun cdv A outer s H vs Q E hr h => ?_)
  · obtain ⟨_, _, _, _, rfl, _⟩ := h
    rfl
  · obtain ⟨d, a, u, ns, rfl, hD, hu0, q⟩ := h
    have m_range := T.m_range
    refine ⟨_, (pss_cons (ps_set (i := 2) sc__law_word.nd rfl (.inl rfl) (pe_ix ix_str pe_str (C8.pe_c c__law_next hr (by first | decide | exact Nat.le_refl _ | omega) (by rfl) (pa_cons (pv 0) (pa_cons pe_int pa_nil))) (fun _ _ => rfl)))
      (pss_cons (ps_set (i := 2) sc__law_word.nd rfl (.inl rfl) (pe_op op_add_str (pv 2) (pe_join pe_str (pe_lc (own := [("_law_k", 3)]) (g := (gName 3)) (tt := tYes) rfl sc__law_word.nd (pi_range1 (by rfl) m_range (pa_cons (pe_op op_fdiv (C8.pe_c c__law_next hr (by first | decide | exact Nat.le_refl _ | omega) (by rfl) (pa_cons (pv 0) (pa_cons pe_int pa_nil))) pe_int) pa_nil)) (blkOk_by (N := ["_law_d", "_law_used", "_law_found", "_law_k"]) (sc := C8.fnScope s__law_word) (by decide +kernel)) (fun _ _ _ _ _ => pg_name (i := 3) sc__law_word.nd rfl (Or.inl rfl)) (fun _ _ _ _ _ => pts_nil) (fun _ _ _ _ _ => (pe_ix ix_str pe_str (C8.pe_c c__law_next hr (by first | decide | exact Nat.le_refl _ | omega) (by rfl) (pa_cons (pv 0) (pa_cons pe_int pa_nil))) (fun _ _ => rfl)))))))
      (pss_cons (ps_set (i := 3) sc__law_word.nd rfl (.inl rfl) pe_int)
      (pss_cons (ps_while PassesOwn.never (pt_cmpR op_in_seq (pv 2) (pv 1) (by with_unfolding_all rfl)) (pss_cons (ps_set (i := 2) sc__law_word.nd rfl (.inl rfl) (pe_op op_add_str (pe_ix ix_str pe_str (pe_op op_mod (pv 3) pe_int) (fun _ _ => rfl)) (pe_op Wt.op_rep_str (pe_ix ix_str pe_str (pe_op op_mod (pe_op op_fdiv (pv 3) pe_int) pe_int) (fun _ _ => rfl)) (pe_op op_add pe_int (pe_op op_fdiv (pv 3) pe_int)))))
      (pss_one (ps_set (i := 3) sc__law_word.nd rfl (.inl rfl) (pe_op op_add (pv 3) pe_int)))))
      (pss_cons (ps_expr (pe_bm PySem.F.plainAttrs_list PySem.F.slot_list_append PySem.F.type_list_append mt_append (pv 1) (pa_cons (pv 2) pa_nil)))
      (pss_one (ps_ret (pv 2)))))))), ?_⟩
    refine qn_asg (P := fun v => ∃ c, v = .str (S [c]) ∧ c ∈ firsts) (en_sign lit_firsts (by decide) (en_next hD (ev_var rfl) ev_c)) fun v H1 hv e1 => ?_
    obtain ⟨c, rfl, hc⟩ := hv
    have hD1 := hD.ex e1
    refine qn_asg (P := fun v => ∃ w, v = .str (S w) ∧ Namely w) (en_op (P := (· = .str (S [c]))) (P2 := fun v => ∃ cs : List Nat, v = .str (S cs) ∧ (∀ d ∈ cs, d ∈ nexts) ∧ cs.length ≤ 2) (EvN.of (ev_var rfl)) (fun _ _ => ?_) ?_) fun v H2 hv e2 => ?_
    · -- "".join([.. for k in range(..)])
      intro H2 e2 Q2 q2
      refine ⟨⟨_, rfl⟩, ?_⟩
      refine en_lcR (N := 2) (P := fun v => ∃ c, v = .str (S [c]) ∧ c ∈ nexts) (EvN.imp (P := fun v => ∃ z : Int, v = .int z ∧ 0 ≤ z ∧ z ≤ 2) (en_opV (en_next hD1 (ev_var rfl) ev_c) (fun _ _ => EvN.of ev_c) ?_) (fun v h => h)) (by decide) (fun _ => rfl) (fun i H3 e3 => en_sign lit_nexts (by decide) (en_next (hD1.ex e3) (ev_var rfl) ev_c)) H2 e2 _ ?_
      · rintro x y ⟨z, rfl, z0, z1⟩ rfl
        exact ⟨_, ⟨z / 4, rfl, by omega, by omega⟩, rv_I ⟨by decide, by decide⟩⟩
      · intro p H3 xs hxs hp e3 h3
        obtain ⟨hlen, hall⟩ := hxs
        obtain ⟨cs, rfl, hcs⟩ : ∃ cs : List Nat, xs = cs.map (fun c => V.str (S [c])) ∧ ∀ d ∈ cs, d ∈ nexts := by
          clear h3 hlen
          induction xs with
          | nil => exact ⟨[], rfl, fun _ h => absurd h (by simp)⟩
          | cons x xs ih =>
            obtain ⟨cs, e, h⟩ := ih fun y hy => hall y (List.mem_cons_of_mem _ hy)
            obtain ⟨c2, e2, h2⟩ := hall x (List.mem_cons_self ..)
            refine ⟨c2 :: cs, by rw [List.map_cons, ← e, ← e2], fun d hd => ?_⟩
            rcases List.mem_cons.mp hd with z | z
            · rw [z]
              exact h2
            · exact h d z
        rw [List.length_map] at hlen
        have ej : Txt.join (S []) ((cs.map fun c => [c]).map S) = S cs := by rw [join_S, joinL_nil]
        refine ⟨S [], p, (cs.map fun c => [c]).map S, congrArg V.str lit0, rfl, .inl (sq_of ?_), ?_, ?_⟩
        · rw [List.map_map, List.map_map]
          exact h3
        · rw [lens, List.map_map]
          have hone : (cs.map (List.length ∘ fun c => [c])).sum = cs.length := by
            clear hlen hcs h3 ej hall
            induction cs with
            | nil => rfl
            | cons c cs ih =>
              rw [List.map_cons, List.sum_cons, ih, List.length_cons]
              show 1 + cs.length = _
              omega
          rw [hone, List.length_map, List.length_map, S_len]
          simp
          omega
        · rw [ej]
          exact q2 _ H3 ⟨cs, rfl, hcs, hlen⟩ e3
    · rintro x y H2 rfl ⟨cs, rfl, h1, h2⟩ e2 Q2 q2
      exact rv_addS (a := [c]) (b := cs) (by rw [List.length_singleton]; omega) H2 (Ex.refl H2) Q2 fun H3 e3 => q2 _ H3 ⟨c :: cs, rfl, c, cs, rfl, hc, h1, h2⟩ e3
    obtain ⟨wd, rfl, hw⟩ := hv
    have e12 := e1.trans e2
    refine q_asg ev_c fun H3 e3 => ?_
    have hu3 := e3 u _ (e12 u _ hu0)
    refine q_while (fun m σ' H' => σ' = [some (.ref d), some (.ref u), some (.str (S wd)), some (.int 0)] ∧ Ex H H' ∧ H' u = some (.lst [])) 0 ⟨rfl, e12.trans e3, hu3⟩ ?_
    rintro m σ' H' ⟨rfl, eH, hu⟩
    refine ⟨false, et_is (et_test (ev_op (ev_var rfl) (ev_var rfl) (rv_isL (K := K) (xs := []) (sq_of hu) rfl rfl))) rfl, (fun z => by cases z), fun _ H4 e4 => ?_⟩
    refine q_app (e4 u _ hu) (ev_var rfl) (ev_var rfl) (by decide) fun H5 e5 => ?_
    have e45 := eH.trans (e4.trans e5)
    refine s_ret (ev_var rfl) fun H6 e6 => q wd H6 hw (fun b o ho => ?_) (e6 u _ upd_same)
    by_cases hb : b = u
    · subst hb
      rw [hu0] at ho
      cases ho
      exact upd_same
    · rw [upd_ne hb]
      refine e6 b o ?_
      rw [upd_ne hb]
      exact e45 b o ho

/-! ### the writer's dict -/
def kR : Key := Sum.inr (Str.ofString "rows")
def kW : Key := Sum.inr (Str.ofString "row")
def kL : Key := Sum.inr (Str.ofString "last")
theorem kRW : kR ≠ kW := by decide +kernel
theorem kRL : kR ≠ kL := by decide +kernel
theorem kWL : kW ≠ kL := by decide +kernel
def wd3 (rl : Addr) (row last : List Nat) : List (Key × V) := [(kR, .ref rl), (kW, .str (S row)), (kL, .str (S last))]
theorem wd_rows (rl : Addr) (row last : List Nat) : valV (wd3 rl row last) kR = some (.ref rl) := valV_pos (p := (kR, V.ref rl)) rfl
theorem wd_row (rl : Addr) (row last : List Nat) : valV (wd3 rl row last) kW = some (.str (S row)) := by
  unfold wd3
  rw [valV_neg (p := (kR, V.ref rl)) kRW, valV_pos (p := (kW, V.str (S row))) rfl]
theorem wd_last (rl : Addr) (row last : List Nat) : valV (wd3 rl row last) kL = some (.str (S last)) := by
  unfold wd3
  rw [valV_neg (p := (kR, V.ref rl)) kRL, valV_neg (p := (kW, V.str (S row))) kWL, valV_pos (p := (kL, V.str (S last))) rfl]
theorem wd_made (rl : Addr) (row last : List Nat) : mergeK [] (wd3 rl row last) = wd3 rl row last := by
  unfold wd3 mergeK
  simp only [List.foldl_cons, List.foldl_nil, putK, List.any_nil, List.any_cons, Bool.or_false, Bool.false_eq_true, if_false, List.nil_append, decide_eq_true_eq, kRW, kRL, kWL, List.cons_append, Bool.or_self, decide_false]
theorem wd_two (row last : List Nat) : mergeK [] [(kW, V.str (S row)), (kL, .str (S last))] = [(kW, V.str (S row)), (kL, .str (S last))] := by
  unfold mergeK
  simp only [List.foldl_cons, List.foldl_nil, putK, List.any_nil, List.any_cons, Bool.or_false, Bool.false_eq_true, if_false, List.nil_append, decide_eq_true_eq, kWL, List.cons_append, Bool.or_self, decide_false]
theorem wd_put (rl : Addr) (row last row' last' : List Nat) : mergeK (wd3 rl row last) [(kW, V.str (S row')), (kL, .str (S last'))] = wd3 rl row' last' := by
  have h1 : ¬ kL = kW := fun e => kWL e.symm
  unfold wd3 mergeK
  simp only [List.foldl_cons, List.foldl_nil, putK, List.any_nil, List.any_cons, Bool.or_false, Bool.false_eq_true, if_false, decide_eq_true_eq, kRW, kRL, kWL, h1, Bool.or_self, decide_false, decide_true, Bool.true_or, Bool.or_true, Bool.false_or, if_true, List.map_cons, List.map_nil]
/-- a writer at wa: its rows at rl, the row so far, its last word -/
structure Wr (H : Hp) (wa rl : Addr) (rows : List (List Nat)) (row last : List Nat) : Prop where
  d : H wa = some (.dK (wd3 rl row last))
  r : H rl = some (.lst (rows.map fun z => V.str (S z)))
theorem Wr.ex {H H' : Hp} {wa rl : Addr} {rows : List (List Nat)} {row last : List Nat} (h : Wr H wa rl rows row last) (e : Ex H H') : Wr H' wa rl rows row last := ⟨e _ _ h.d, e _ _ h.r⟩
/-- w.update({"row": .., "last": ..}), both known -/
theorem q_upd {H : Hp} {σ : L2.St} {ta t1 t2 : TE} {D : Ends} {tz : TS} {wa rl : Addr} {rows : List (List Nat)} {row last row' last' : List Nat} (h : Wr H wa rl rows row last) (ha : Ev ta σ H (.ref wa))
    (h1 : Ev t1 σ H (.str (S row'))) (h2 : Ev t2 σ H (.str (S last'))) (k : ∀ H1, Ex H H1 → tz D σ (upd H1 wa (.dK (wd3 rl row' last')))) :
    tSeq (tDrop (tBM K "dict" rDUpd ta (tCons (tDisp [(tC (.str (Str.ofString "row")), t1), (tC (.str (Str.ofString "last")), t2)]) tNil))) tz D σ H :=
  ha H (Ex.refl H) _ fun H1 e1 => ⟨.inr (.inr (.inl ⟨rfl, .inl ⟨_, e1 _ _ h.d⟩⟩)), fun p hp => h1 _ (e1.trans (Ex.new hp)) _ fun H2 e2 => h2 H2 ((e1.trans (Ex.new hp)).trans e2) _ fun H3 e3 => by
    have e13 := (Ex.new (o := .dK []) hp).trans (e2.trans e3)
    refine ⟨e3 p _ (e2 p _ upd_same), [(kW, V.str (S row')), (kL, .str (S last'))], rfl, by show 2 ≤ 15; decide, ?_⟩
    have hwp : wa ≠ p := ne_of_none (e1 _ _ h.d) hp
    have e4 : Ex H (upd H3 p (.dK (mergeK [] [(kW, V.str (S row')), (kL, .str (S last'))]))) := Ex.mut (e1.trans e13) (fresh_back e1 hp)
    refine ⟨wa, p, _, [(kW, V.str (S row')), (kL, .str (S last'))], rfl, rfl, hwp, e4 _ _ h.d, by rw [wd_two]; exact upd_same, by show 3 + 2 ≤ sizeLine; decide, ?_⟩
    rw [wd_put]
    exact k _ e4⟩
theorem s_upd {H : Hp} {σ : L2.St} {ta t1 t2 : TE} {D : Ends} {wa rl : Addr} {rows : List (List Nat)} {row last row' last' : List Nat} (h : Wr H wa rl rows row last) (ha : Ev ta σ H (.ref wa))
    (h1 : Ev t1 σ H (.str (S row'))) (h2 : Ev t2 σ H (.str (S last'))) (k : ∀ H1, Ex H H1 → D.nx σ (upd H1 wa (.dK (wd3 rl row' last')))) :
    tDrop (tBM K "dict" rDUpd ta (tCons (tDisp [(tC (.str (Str.ofString "row")), t1), (tC (.str (Str.ofString "last")), t2)]) tNil)) D σ H :=
  q_upd (D := D) (tz := tNext) h ha h1 h2 k

/-! ### _law_emit -/
abbrev s__law_emit : Stmt := topS 20
theorem sc__law_emit : FnScope ["_law_d", "_law_w", "_law_word_here", "_law_last", "_law_some", "_law_close", "_law_gap", "_law_place", "_law_signs"] ["_law_d", "_law_w", "_law_word_here"] (fnScope s__law_emit) := fnScope_by (by decide +kernel)
/-- all but what stands at wa -/
def ExB (wa : Addr) (H H' : Hp) : Prop := ∀ b o, b ≠ wa → H b = some o → H' b = some o
/-- a word is laid behind so many blanks, none only where it does not make the last one longer (letters, figures, = and > behind <) -/
def spEmit (K : PySem.W.Frag) : Sp := fun vs H Q _ => ∃ (d a wa rl : Addr) (ns : List Int) (rows : List (List Nat)) (row last w : List Nat), vs = [.ref d, .ref wa, .str (S w)] ∧ Dc K H d a ns ∧ Wr H wa rl rows row last ∧
  rows.length ≤ 1000 ∧ row.length ≤ 1000 ∧ last.length ≤ 6 ∧ w ≠ [] ∧ w.length ≤ 6 ∧
  ∀ (g : Nat) p H2, g ≤ 3 → (g = 0 → ∀ c q, w = c :: q → cont last c = false) → H p = none → ExB wa H H2 → Wr H2 wa rl rows (row ++ List.replicate g 32 ++ w) w → H2 p = some (.tup [.int ((rows.length + 1 : Nat) : Int), .int ((row.length + g + 1 : Nat) : Int)]) → Q (.ref p) H2
theorem rep_blank (g : Nat) : (List.replicate g [32]).flatten = List.replicate g 32 := by
  induction g with
  | zero => rfl
  | succ g ih => rw [List.replicate_succ, List.replicate_succ, List.flatten_cons, ih] <;> rfl
theorem last_at {l : List Nat} {c : Nat} (h : l.getLast? = some c) : atI l (-1) = some c := by
  obtain ⟨ys, rfl⟩ := List.getLast?_eq_some_iff.mp h
  exact atI_last _ _
theorem rv_last {H : Hp} {l : List Nat} {c : Nat} (hl : l.length ≤ 100000) (h : l.getLast? = some c) : RV rIxS (.str (S l)) (.int (-1)) H (.str (S [c])) := fun H1 _ Q q =>
  ⟨S l, -1, c, rfl, rfl, by rw [S_len]; exact sz_of hl, by rw [S_list]; exact last_at h, q H1 (Ex.refl H1)⟩
theorem given_nil {n : Nat} {f : Nat → Bool} {v : Nat → V} : (given n f v = []) ↔ ∀ i, i < n → f i = false := by
  unfold given
  rw [List.map_eq_nil_iff, List.filter_eq_nil_iff]
  constructor
  · intro h i hi
    have := h i (List.mem_range.mpr hi)
    simpa using this
  · intro h i hi
    rw [h i (List.mem_range.mp hi)]
    exact Bool.false_ne_true
/-- [1, ..] != [] -/
theorem eqvAll_nil : ∀ ds : List PyData, PyData.eqvAll ds [] = decide (ds = [])
  | [] => by decide +kernel
  | d :: ds => by
    have e : PyData.eqvAll (d :: ds) [] = false := by
      unfold PyData.eqvAll
      rfl
    rw [e]
    exact (decide_eq_false (List.cons_ne_nil _ _)).symm
end
end Wt

set_option Elab.async false
set_option linter.all false
set_option maxRecDepth 100000
set_option maxHeartbeats 4000000
namespace Wt
open PySem PySem.Spec PyProof.Rows L2 SX Evl
open C8 (Def Cal cal0 fnScope_by fnScope)
/-! _law_emit, _law_line. -/
/-- arguments known by what is true of them -/
def EAN (ta : TA) (σ : L2.St) (H : Hp) (P : List V → Prop) : Prop := ∀ H1, Ex H H1 → ∀ Q : List V → Hp → Prop, (∀ vs H2, P vs → Ex H1 H2 → Q vs H2) → ta σ H1 Q
section
variable {K : PySem.W.Frag} {σ : L2.St} {H H' : Hp} {ta tb te tx t1 t2 : TE} {t u : TT} {x y z v : V} {P : V → Prop} {L : List V → Prop} {D : Ends} {tz : TS}
theorem ean_nil : EAN tNil σ H (· = []) := fun H1 _ _ q => q [] H1 rfl (Ex.refl H1)
theorem ean_cons {tr : TA} (h : EvN te σ H P) (hr : EAN tr σ H L) : EAN (tCons te tr) σ H (fun l => ∃ v r, l = v :: r ∧ P v ∧ L r) := fun H1 e Q q =>
  h H1 e _ fun v H2 pv e2 => hr H2 (e.trans e2) _ fun r H3 pr e3 => q (v :: r) H3 ⟨v, r, rfl, pv, pr⟩ (e2.trans e3)
theorem ean_one {tr : TA} (h : Ev te σ H v) (hr : EAN tr σ H L) : EAN (tCons te tr) σ H (fun l => ∃ r, l = v :: r ∧ L r) := fun H1 e Q q =>
  h H1 e _ fun H2 e2 => hr H2 (e.trans e2) _ fun r H3 pr e3 => q (v :: r) H3 ⟨r, rfl, pr⟩ (e2.trans e3)
theorem enl_lst {ta : TA} (h : EAN ta σ H L) (hl : ∀ l, L l → l.length ≤ 100000) : EvNL (tLst ta) σ H L := fun H1 e Q q =>
  h H1 e _ fun vs H2 pv e2 => ⟨sz_of (hl vs pv), fun p hp => q p _ vs pv (fresh_back e2 hp) (e2.trans (Ex.new hp)) upd_same⟩
theorem EvNL.of {xs : List V} (h : EvL te σ H xs) : EvNL te σ H (· = xs) := fun H1 e Q q => h H1 e Q fun p H2 hp e2 h2 => q p H2 xs rfl hp e2 h2
/-- an item of such a list at a number below its length -/
theorem en_ixNL {n : Nat} (ha : EvNL ta σ H L) (hb : EvN tb σ H (fun v => ∃ z : Int, v = .int z ∧ 0 ≤ z ∧ z < (n : Int))) (hl : ∀ l, L l → l.length = n ∧ ∀ v ∈ l, P v) : EvN (tOp (rIxL K) ta tb) σ H P := fun H1 e Q q =>
  ha H1 e _ fun p H2 xs hL hp e2 h2 => hb H2 (e.trans e2) _ fun v H3 hv e3 => by
    obtain ⟨z, rfl, z0, z1⟩ := hv
    obtain ⟨k, rfl⟩ : ∃ k : Nat, z = (k : Int) := ⟨z.toNat, by omega⟩
    obtain ⟨h5, h6⟩ := hl xs hL
    have hlt : k < xs.length := by omega
    exact ⟨p, xs, (k : Int), xs[k], rfl, rfl, sq_of (e3 p _ h2), atI_nat (List.getElem?_eq_getElem hlt), q _ H3 (h6 _ (List.getElem_mem hlt)) (e2.trans e3)⟩
/-- a, b = e, a new list -/
theorem q_tupL {i j : Nat} {xs : List V} (h1 : Ev t1 σ H v) (h2 : EvL t2 σ H xs) (k : ∀ p H1, H p = none → Ex H H1 → H1 p = some (.lst xs) → tz D ((σ.set i (some v)).set j (some (.ref p))) H1) :
    tSeq (tAsg (tTup (tCons t1 (tCons t2 tNil))) (gTup K 2 (gCons (gName i) (gCons (gName j) gNil)))) tz D σ H :=
  h1 H (Ex.refl H) _ fun H1 e1 => h2 H1 e1 _ fun p H2 hp e2 hpl => ⟨by show 2 ≤ sizeLine; decide, fun c hc =>
    ⟨c, [v, .ref p], rfl, st_of upd_same, rfl, v, [.ref p], rfl, .ref p, [], rfl, rfl, k p _ (fresh_back e1 hp) ((e1.trans e2).trans (Ex.new hc)) (by
      rw [upd_ne (ne_of_none hpl hc)]
      exact hpl)⟩⟩
/-- a new list of flat data is not empty -/
theorem ev_neNil {n : Nat} {f : Nat → Bool} (ha : EvL ta σ H (given n f fun _ => .int 1)) (hn : n ≤ 60) : Ev (tOp (rNeD K) ta (tLst tNil)) σ H (.bl ((List.range n).any f)) := ev_opLL ha (el_lst ea_nil (Nat.zero_le _)) fun p q H1 h1 h2 _ H2 e2 Q q2 => by
  obtain ⟨m, hm, em⟩ : ∃ m, m ≤ n ∧ (given n f fun _ => V.int 1) = List.replicate m (V.int 1) := by
    have hl := given_len n f fun _ => V.int 1
    refine ⟨_, hl, List.eq_replicate_iff.mpr ⟨rfl, fun b hb => ?_⟩⟩
    unfold given at hb
    obtain ⟨_, _, e⟩ := List.mem_map.mp hb
    exact e.symm
  have hall : ∀ m : Nat, DpAll K H2 (List.replicate m (V.int 1)) (List.replicate m (PyData.int 1)) := fun m => by
    induction m with
    | zero => exact .nil
    | succ m ih => exact .cons (.int 1) ih
  have hany : (List.range n).any f = !decide (m = 0) := by
    have h3 : (m = 0) ↔ ∀ i, i < n → f i = false := by
      rw [← given_nil (v := fun _ => V.int 1), em]
      cases m with
      | zero => exact ⟨fun _ => rfl, fun _ => rfl⟩
      | succ m => exact ⟨fun z => absurd z (Nat.succ_ne_zero m), fun z => by rw [List.replicate_succ] at z; cases z⟩
    cases hb : (List.range n).any f with
    | false =>
      rw [List.any_eq_false] at hb
      have hm0 : m = 0 := h3.mpr fun i hi => by
        have := hb i (List.mem_range.mpr hi)
        simpa using this
      rw [decide_eq_true hm0] <;> rfl
    | true =>
      rw [List.any_eq_true] at hb
      obtain ⟨i, hi, hfi⟩ := hb
      have hm0 : ¬ m = 0 := fun z => by
        have := h3.mp z i (List.mem_range.mp hi)
        rw [hfi] at this
        cases this
      rw [decide_eq_false hm0] <;> rfl
  rw [em] at h1
  have hsh : ∀ m, m ≤ 60 → SeqAt.shaped (.list (List.replicate m (PyData.int 1))) = true := by decide +kernel
  refine ⟨.list (List.replicate m (.int 1)), .list [], .lst (sq_of (e2 p _ h1)) (hall m), .lst (sq_of (e2 q _ h2)) .nil, hsh m (by omega), by decide +kernel, ?_⟩
  have e : PyData.eqv (.list (List.replicate m (PyData.int 1))) (.list []) = decide (m = 0) := by
    refine (eqvAll_nil _).trans ?_
    cases m with
    | zero => rfl
    | succ m =>
      rw [decide_eq_false (Nat.succ_ne_zero m), List.replicate_succ]
      exact decide_eq_false (List.cons_ne_nil _ _)
  rw [e, ← hany]
  exact q2 H2 (Ex.refl H2)
end
section
variable {P : Program} {w : World} {K : PySem.W.Frag} {mg : Str → Option Value} {base : Heap}
theorem lit_lt : Str.ofString "<" = S [60] := by decide +kernel
theorem lit_eg : Str.ofString "=>" = S [61, 62] := by decide +kernel
/-- what the writer asks of the last word and the next one's first sign -/
def fits (last : List Nat) (c : Nat) (i : Nat) : Bool := (!decide (last = [])) && (decide (last.getLastD 0 ∈ [letters, figures].getD i []) && decide (c ∈ [letters, figures].getD i []))
theorem close_cont (last : List Nat) (c : Nat) : ((List.range 2).any (fits last c) || (decide (last = [60]) && decide (c ∈ [61, 62]))) = cont last c := by
  have hl : ∀ l : List Nat, ((!decide (last = [])) && (decide (last.getLastD 0 ∈ l) && decide (c ∈ l))) = (last.getLast?.any (fun d => decide (d ∈ l)) && decide (c ∈ l)) := fun l => by
    cases h : last.getLast? with
    | none =>
      have e : last = [] := List.getLast?_eq_none_iff.mp h
      subst e
      rfl
    | some d =>
      have hne : last ≠ [] := fun e => by subst e; cases h
      have hd : last.getLastD 0 = d := by
        rw [List.getLastD_eq_getLast?, h] <;> rfl
      rw [hd, decide_eq_false hne] <;> rfl
  have e : (List.range 2).any (fits last c) = ((lastL last && isL c) || (lastF last && isF c)) := by
    have e0 : (List.range 2).any (fits last c) = (fits last c 0 || (fits last c 1 || false)) := rfl
    rw [e0, Bool.or_false]
    have a : fits last c 0 = (lastL last && isL c) := hl letters
    have b : fits last c 1 = (lastF last && isF c) := hl figures
    rw [a, b]
  rw [e]
  unfold cont
  congr 2
  by_cases h1 : c = 61
  · subst h1
    rfl
  · by_cases h3 : c = 62
    · subst h3
      rfl
    · rw [decide_eq_false h1, decide_eq_false h3]
      exact decide_eq_false (by simp [h1, h3])
theorem ok_emit (T : ModsL K mg) (c__law_next : Cal P w K mg base 1 "_law_next" (spNext K) []) {f : Addr} {fd : FuncData} (F : Def K mg "_law_emit" s__law_emit f fd) (b : Binds K fd ["_law_d", "_law_w", "_law_word_here"] []) : Cal P w K mg base 2 "_law_emit" (spEmit K) [] := by
  refine cal0 F b .nil sc__law_emit (fun vs H Q E h => ?_) (fun cdv A outer s H vs Q E hr h => ?_)
  · obtain ⟨_, _, _, _, _, _, _, _, _, rfl, _⟩ := h
    rfl
  · obtain ⟨d, a, wa, rl, ns, rows, row, last, wd, rfl, hD, hW, hrl, hwl, hll, hne, hwd, q⟩ := h
    have m_int := T.m_int
    have m_len := T.m_len
    have hu := hu_of hr
    have hu64 := hr.units
    refine ⟨_, (pss_cons (ps_asg (pe_tup (pa_cons (pe_dget hu (pv 1) pe_str (fun _ _ => rfl)) (pa_cons (pe_lst (pa_cons pe_str (pa_cons pe_str pa_nil))) pa_nil))) (pg_tup rfl (pgs_cons (pg_name (i := 3) sc__law_emit.nd rfl (.inr rfl)) (pgs_cons (pg_name (i := 4) sc__law_emit.nd rfl (.inl rfl)) pgs_nil))))
      (pss_cons (ps_set (i := 5) sc__law_emit.nd rfl (.inl rfl) (pe_cmpR (op_neD hu64) (pe_lc (own := [("_law_signs", 8)]) (g := (gName 8)) rfl sc__law_emit.nd (pi_list (pv 4)) (blkOk_by (N := ["_law_d", "_law_w", "_law_word_here", "_law_last", "_law_some", "_law_close", "_law_gap", "_law_place", "_law_signs"]) (sc := C8.fnScope s__law_emit) (by decide +kernel)) (fun _ _ _ _ _ => pg_name (i := 8) sc__law_emit.nd rfl (Or.inl rfl)) (fun _ _ _ _ _ => pts_one (PW.pt (pw_and (pt_cmpR op_ne (pv 3) pe_str (nomark _)) (pw_and (pt_cmpR op_in_sign (pe_ix ix_str (pv 3) (pe_un un_neg pe_int) (fun _ _ => rfl)) (pv 8) (by with_unfolding_all rfl)) (pw_and1 (pt_cmpR op_in_sign (pe_ix ix_str (pv 2) pe_int (fun _ _ => rfl)) (pv 8) (by with_unfolding_all rfl))))))) (fun _ _ _ _ _ => pe_int)) (pe_lst pa_nil) (nomark _)))
      (pss_cons (ps_set (i := 5) sc__law_emit.nd rfl (.inl rfl) (pe_callTy call_int1 (by rfl) m_int Wt.bt_int (pa_cons (pe_or (pv 5) (pe_one (pe_and (pe_cmpR op_eq (pv 3) pe_str (nomark _)) (pe_one (pe_cmpR op_in_sign (pe_ix ix_str (pv 2) pe_int (fun _ _ => rfl)) pe_str (by with_unfolding_all rfl)))))) pa_nil)))
      (pss_cons (ps_set (i := 6) sc__law_emit.nd rfl (.inl rfl) (pe_ifExp (pt_cmpR op_ne (pv 3) pe_str (nomark _)) (pe_ix ix_list (pe_lst (pa_cons pe_int (pa_cons pe_int (pa_cons pe_int (pa_cons (pv 5) (pa_cons (pe_op op_add (pv 5) (C8.pe_c c__law_next hr (by first | decide | exact Nat.le_refl _ | omega) (by rfl) (pa_cons (pv 0) (pa_cons pe_int pa_nil)))) pa_nil)))))) (C8.pe_c c__law_next hr (by first | decide | exact Nat.le_refl _ | omega) (by rfl) (pa_cons (pv 0) (pa_cons pe_int pa_nil))) (fun _ _ => rfl)) (pe_op op_fdiv (C8.pe_c c__law_next hr (by first | decide | exact Nat.le_refl _ | omega) (by rfl) (pa_cons (pv 0) (pa_cons pe_int pa_nil))) pe_int)))
      (pss_cons (ps_set (i := 7) sc__law_emit.nd rfl (.inl rfl) (pe_tup (pa_cons (pe_op op_add (pe_callB call_len_seq (by rfl) m_len PySem.boot_len (pa_cons (pe_dget hu (pv 1) pe_str (fun _ _ => rfl)) pa_nil)) pe_int) (pa_cons (pe_op op_add (pe_op op_add (pe_callB call_len_str (by rfl) m_len PySem.boot_len (pa_cons (pe_dget hu (pv 1) pe_str (fun _ _ => rfl)) pa_nil)) (pv 6)) pe_int) pa_nil))))
      (pss_cons (ps_expr (pe_bm PySem.F.plainAttrs_dict PySem.F.slot_dict_update PySem.F.type_dict_update Wt.mt_dupdate (pv 1) (pa_cons (pe_disp (pps_cons pe_str (pe_op op_add_str (pe_op op_add_str (pe_dget hu (pv 1) pe_str (fun _ _ => rfl)) (pe_op Wt.op_rep_str pe_str (pv 6))) (pv 2)) (pps_cons pe_str (pv 2) pps_nil)) (by rfl) (by rfl) (by simp) (by decide)) pa_nil)))
      (pss_one (ps_ret (pv 7))))))))), ?_⟩
    obtain ⟨c, cs, rfl⟩ : ∃ c cs, wd = c :: cs := by
      cases wd with
      | nil => exact absurd rfl hne
      | cons c cs => exact ⟨c, cs, rfl⟩
    refine q_tupL (ev_dget (ev_var rfl) ev_c hW.d (wd_last rl row last)) (el_lst (ea_cons ev_c (ea_cons ev_c ea_nil)) (by show 2 ≤ 100000; decide)) fun ps H1 hps e1 hpl => ?_
    have c0 : ∀ {H : Hp} {σ : L2.St}, Ev (tC (.str (Str.ofString ""))) σ H (.str (S [])) := ev_is ev_c (congrArg V.str lit0)
    have at0 : ∀ {H : Hp} {σ : L2.St} {i : Nat}, σ[i]? = some (some (.str (S (c :: cs)))) → Ev (tOp rIxS (tVar i) (tC (.int 0))) σ H (.str (S [c])) := fun h => ev_op (ev_var h) ev_c (rv_at (i := 0) (by omega) rfl)
    -- close = [1 for ..] != []
    refine q_asg (ev_neNil (K := K) (n := 2) (f := fits last c)
      (el_lcL (K := K) (vs := [8]) _ (fun _ => .int 1) (ev_var rfl) (sq_of hpl) (by show 2 ≤ 40000; decide) (fun _ => rfl) (fun i x H2 e2 hx => ?_) (fun i x H2 e2 hx _ => ev_c)) (by decide)) fun H2 e2 => ?_
    · obtain ⟨z, rfl, hz⟩ : ∃ z, x = .str (S z) ∧ [letters, figures].getD i [] = z := by
        match i, hx with
        | 0, hx => exact ⟨letters, (Option.some.inj hx).symm.trans (congrArg V.str lit_letters), rfl⟩
        | 1, hx => exact ⟨figures, (Option.some.inj hx).symm.trans (congrArg V.str lit_figures), rfl⟩
        | i + 2, hx => cases hx
      unfold fits
      rw [hz]
      refine et_and (et_test (ev_neS (ev_var rfl) c0)) fun hl => et_and (et_test (ev_inSg (ev_op (ev_var rfl) (ev_un ev_c ru_neg) (rv_last (c := last.getLastD 0) (by omega) ?_)) (ev_var rfl))) fun _ => et_test (ev_inSg (at0 rfl) (ev_var rfl))
      have hne2 : last ≠ [] := of_decide_eq_false (by simpa using hl)
      rw [List.getLastD_eq_getLast?, List.getLast?_eq_some_getLast hne2] <;> rfl
    -- close = int(close or ..)
    refine q_asg (v := .int (if cont last c = true then 1 else 0)) (ev_cb (ea_cons (ev_orV (ev_var rfl) fun _ => ev_andV (ev_eqS (ev_var rfl) (ev_is ev_c (congrArg V.str lit_lt))) fun _ => ev_inSg (at0 rfl) (ev_is ev_c (congrArg V.str lit_eg))) ea_nil) (fun H3 _ Q3 q3 => .inr ⟨_, rfl, ?_⟩)) fun H3 e3 => ?_
    · have e := close_cont last c
      rw [e]
      exact q3 H3 (Ex.refl H3)
    have hD3 := hD.ex ((e1.trans e2).trans e3)
    have hW3 := hW.ex ((e1.trans e2).trans e3)
    have e13 := (e1.trans e2).trans e3
    -- gap
    refine qn_asg (P := fun v => ∃ g : Nat, v = .int (g : Int) ∧ g ≤ 3 ∧ (g = 0 → cont last c = false)) (en_if (et_test (ev_neS (ev_var rfl) c0)) (fun _ => ?_) (fun hb => ?_)) fun v H4 hv e4 => ?_
    · refine en_ixNL (K := K) (n := 5) (enl_lst (ean_one ev_c (ean_one ev_c (ean_one ev_c (ean_one (ev_var rfl) (ean_cons (P := fun v => ∃ z : Int, v = .int ((if cont last c = true then 1 else 0) + z) ∧ 0 ≤ z ∧ z < 3)
        (en_opV (EvN.of (ev_var rfl)) (fun _ _ => en_next hD3 (ev_var rfl) ev_c) ?_) ean_nil))))) ?_) (en_next hD3 (ev_var rfl) ev_c) ?_
      · rintro x y rfl ⟨z, rfl, z0, z1⟩
        exact ⟨_, ⟨z, rfl, z0, z1⟩, rv_I0⟩
      · rintro l ⟨r, rfl, r2, rfl, r3, rfl, r4, rfl, v, r5, rfl, _, rfl⟩
        show 5 ≤ 100000
        decide
      · rintro l ⟨r, rfl, r2, rfl, r3, rfl, r4, rfl, v, r5, rfl, ⟨z, rfl, z0, z1⟩, rfl⟩
        refine ⟨rfl, fun u hu2 => ?_⟩
        have one : ∃ g : Nat, V.int 1 = .int (g : Int) ∧ g ≤ 3 ∧ (g = 0 → cont last c = false) := ⟨1, rfl, by decide, fun z => by cases z⟩
        simp only [List.mem_cons, List.not_mem_nil, or_false] at hu2
        rcases hu2 with rfl | rfl | rfl | rfl | rfl
        · exact one
        · exact one
        · exact one
        · cases hc : cont last c with
          | true => exact ⟨1, rfl, by decide, fun z => by cases z⟩
          | false => exact ⟨0, rfl, by decide, fun _ => rfl⟩
        · cases hc : cont last c with
          | true => exact ⟨z.toNat + 1, congrArg V.int (by show (1 : Int) + z = _; omega), by omega, fun y => by cases y⟩
          | false => exact ⟨z.toNat, congrArg V.int (by show (0 : Int) + z = _; omega), by omega, fun _ => rfl⟩
    · have hl0 : last = [] := of_decide_eq_true (by simpa using hb)
      refine en_opV (en_next hD3 (ev_var rfl) ev_c) (fun _ _ => EvN.of ev_c) ?_
      rintro x y ⟨z, rfl, z0, z1⟩ rfl
      refine ⟨_, ⟨(z / 3).toNat, congrArg V.int (by omega), by omega, fun _ => ?_⟩, rv_I ⟨by decide, by decide⟩⟩
      subst hl0
      rfl
    obtain ⟨g, rfl, hg3, hg0⟩ := hv
    have hW4 := hW3.ex e4
    -- place
    refine q_asgU (xs := [.int ((rows.length + 1 : Nat) : Int), .int ((row.length + g + 1 : Nat) : Int)]) (eu_tup (ea_cons (ev_is (ev_op (ev_lenD (K := K) (ev_dget (ev_var rfl) ev_c hW4.d (wd_rows rl row last)) (.inl (sq_of hW4.r))) ev_c rv_I0) (by
        rw [List.length_map, Int.natCast_add] <;> rfl))
      (ea_cons (ev_is (ev_op (ev_op (ev_lenS (ev_dget (ev_var rfl) ev_c hW4.d (wd_row rl row last)) (by omega)) (ev_var rfl) rv_I0) ev_c rv_I0) (by
        rw [Int.natCast_add, Int.natCast_add] <;> rfl)) ea_nil)) (by show 2 ≤ 100000; decide)) fun p H5 hp5 e5 hpl5 => ?_
    have hW5 := hW4.ex e5
    refine q_upd hW5 (ev_var rfl) (ev_op (ev_op (ev_dget (ev_var rfl) ev_c hW5.d (wd_row rl row last)) (ev_is (ev_op (ev_is ev_c (congrArg V.str (show Str.ofString " " = S [32] by decide +kernel))) (ev_var rfl) (rv_repS (a := [32]) (k := g) (by decide) (by omega))) (by rw [rep_blank])) (rv_addS (by rw [List.length_replicate]; omega))) (ev_var rfl) (rv_addS (by
      rw [List.length_append, List.length_replicate]
      omega))) (ev_var rfl) fun H6 e6 => ?_
    have e15 := (e13.trans e4).trans e5
    have hpw : p ≠ wa := (ne_of_none (hW4.d) hp5).symm
    have hrw : rl ≠ wa := ne_of hW.r hW.d (by intro z; cases z)
    refine s_ret (ev_var rfl) fun H7 e7 => q g p H7 hg3 (fun h c2 q2 e => ?_) (fresh_back (e13.trans e4) hp5) (fun b o hb ho => e7 b o (by rw [upd_ne hb]; exact e6 b o (e15 b o ho))) ⟨e7 _ _ upd_same, e7 _ _ (by rw [upd_ne hrw]; exact e6 _ _ hW5.r)⟩ (e7 _ _ (by rw [upd_ne hpw]; exact e6 _ _ hpl5))
    injection e with e8 _
    rw [← e8]
    exact hg0 h

/-! ### _law_line -/
abbrev s__law_line : Stmt := topS 21
theorem sc__law_line : FnScope ["_law_d", "_law_w"] ["_law_d", "_law_w"] (fnScope s__law_line) := fnScope_by (by decide +kernel)
/-- what may stand behind a row's words, and rows without words -/
def tails : List (List Nat) := [[], [32], [32, 32, 35, 32, 105, 102, 32, 120]]
def empties : List (List Nat) := [[], [32, 32, 32], [35, 32, 101, 110, 100]]
def Ex2 (wa rl : Addr) (H H' : Hp) : Prop := ∀ b o, b ≠ wa → b ≠ rl → H b = some o → H' b = some o
def spLine (K : PySem.W.Frag) : Sp := fun vs H Q _ => ∃ (d a wa rl : Addr) (ns : List Int) (rows : List (List Nat)) (row last : List Nat), vs = [.ref d, .ref wa] ∧ Dc K H d a ns ∧ Wr H wa rl rows row last ∧ rows.length ≤ 1000 ∧ row.length ≤ 1000 ∧
  ∀ (t : List Nat) (more : List (List Nat)) H2, t ∈ tails → (more = [] ∨ ∃ m ∈ empties, more = [m]) → Ex2 wa rl H H2 → Wr H2 wa rl (rows ++ [row ++ t] ++ more) [] [] → Q .non H2
/-- xs.append(e) where e is known by what is true of it -/
theorem qn_app {H : Hp} {σ : L2.St} {ta te : TE} {D : Ends} {tz : TS} {l : Addr} {xs : List V} {C : V → Prop} (hl : H l = some (.lst xs)) (ha : Ev ta σ H (.ref l)) (h : EvN te σ H C) (hz : xs.length < 100000)
    (k : ∀ v H1, C v → Ex H H1 → tz D σ (upd H1 l (.lst (xs ++ [v])))) : tSeq (tDrop (tBM K "list" rAppend ta (tCons te tNil))) tz D σ H :=
  ha H (Ex.refl H) _ fun H1 e1 => ⟨Or.inl ⟨rfl, xs, sq_of (e1 l _ hl)⟩, h H1 e1 _ fun v H2 pv e2 => ⟨l, xs, v, rfl, rfl, e2 l _ (e1 l _ hl), sz_lt hz, k v H2 pv (e1.trans e2)⟩⟩
theorem sn_app {H : Hp} {σ : L2.St} {ta te : TE} {D : Ends} {l : Addr} {xs : List V} {C : V → Prop} (hl : H l = some (.lst xs)) (ha : Ev ta σ H (.ref l)) (h : EvN te σ H C) (hz : xs.length < 100000)
    (k : ∀ v H1, C v → Ex H H1 → D.nx σ (upd H1 l (.lst (xs ++ [v])))) : tDrop (tBM K "list" rAppend ta (tCons te tNil)) D σ H := qn_app (D := D) (tz := tNext) hl ha h hz k
theorem etn_and {H : Hp} {σ : L2.St} {t u : TT} {B C : Bool → Prop} (h1 : EvTN t σ H B) (h2 : EvTN u σ H C) : EvTN (tAnd t u) σ H (fun _ => True) := fun H1 e Q q => h1 H1 e _ fun b H2 _ e2 => by
  cases b with
  | true =>
    show u σ H2 Q
    exact h2 H2 (e.trans e2) Q fun c H3 _ e3 => q c H3 trivial (e2.trans e3)
  | false =>
    show Q false H2
    exact q false H2 trivial e2
theorem EvTN.of {H : Hp} {σ : L2.St} {t : TT} {b : Bool} (h : EvT t σ H b) : EvTN t σ H (· = b) := fun H1 e Q q => h H1 e Q fun H2 e2 => q b H2 rfl e2
theorem ok_line (T : ModsL K mg) (c__law_next : Cal P w K mg base 1 "_law_next" (spNext K) []) (c__law_pick : Cal P w K mg base 2 "_law_pick" (spPick K) []) {f : Addr} {fd : FuncData} (F : Def K mg "_law_line" s__law_line f fd) (b : Binds K fd ["_law_d", "_law_w"] []) :
    Cal P w K mg base 3 "_law_line" (spLine K) [] := by
  refine cal0 F b .nil sc__law_line (fun vs H Q E h => ?_) (fun cdv A outer s H vs Q E hr h => ?_)
  · obtain ⟨_, _, _, _, _, _, _, _, rfl, _⟩ := h
    rfl
  · obtain ⟨d, a, wa, rl, ns, rows, row, last, rfl, hD, hW, hrl, hwl, q⟩ := h
    have m_len := T.m_len
    have hu := hu_of hr
    have hr1 : Room 1 _ := hr.mono (by decide)
    refine ⟨_, (pss_cons (ps_expr (pe_bm PySem.F.plainAttrs_list PySem.F.slot_list_append PySem.F.type_list_append mt_append (pe_dget hu (pv 1) pe_str (fun _ _ => rfl)) (pa_cons (pe_op op_add_str (pe_dget hu (pv 1) pe_str (fun _ _ => rfl)) (C8.pe_c c__law_pick hr (by first | decide | exact Nat.le_refl _ | omega) (by rfl) (pa_cons (pv 0) (pa_cons (pe_lst (pa_cons pe_str (pa_cons pe_str (pa_cons pe_str (pa_cons pe_str (pa_cons pe_str pa_nil)))))) pa_nil)))) pa_nil)))
      (pss_cons (ps_if (PW.pt (pw_and (pt_cmpR op_eq (C8.pe_c c__law_next hr (by first | decide | exact Nat.le_refl _ | omega) (by rfl) (pa_cons (pv 0) (pa_cons pe_int pa_nil))) pe_int (nomark _)) (pw_and1 (pt_cmpR op_lt (pe_callB call_len_seq (by rfl) m_len PySem.boot_len (pa_cons (pe_dget hu (pv 1) pe_str (fun _ _ => rfl)) pa_nil)) pe_int (nomark _))))) (pss_one (ps_expr (pe_bm PySem.F.plainAttrs_list PySem.F.slot_list_append PySem.F.type_list_append mt_append (pe_dget hu (pv 1) pe_str (fun _ _ => rfl)) (pa_cons (pe_ix ix_list (pe_lst (pa_cons pe_str (pa_cons pe_str (pa_cons pe_str pa_nil)))) (C8.pe_c c__law_next hr (by first | decide | exact Nat.le_refl _ | omega) (by rfl) (pa_cons (pv 0) (pa_cons pe_int pa_nil))) (fun _ _ => rfl)) pa_nil)))) pss_nil)
      (pss_one (ps_expr (pe_bm PySem.F.plainAttrs_dict PySem.F.slot_dict_update PySem.F.type_dict_update Wt.mt_dupdate (pv 1) (pa_cons (pe_disp (pps_cons pe_str pe_str (pps_cons pe_str pe_str pps_nil)) (by rfl) (by rfl) (by simp) (by decide)) pa_nil)))))), ?_⟩
    have hrw : rl ≠ wa := ne_of hW.r hW.d (by intro z; cases z)
    have hdw : d ≠ wa := ne_of hD.o hW.d (by intro z; cases z)
    have hdr : d ≠ rl := ne_of hD.o hW.r (by intro z; cases z)
    -- rows.append(row + pick)
    refine qn_app (C := fun v => ∃ t ∈ tails, v = .str (S (row ++ t))) hW.r (ev_dget (ev_var rfl) ev_c hW.d (wd_rows rl row last)) (en_op (P := (· = .str (S row))) (P2 := fun v => ∃ t ∈ tails, v = .str (S t)) (EvN.of (ev_dget (ev_var rfl) ev_c hW.d (wd_row rl row last)))
      (fun _ _ => EvN.imp (en_pickL hD (ev_var rfl) (el_lst (ea_cons ev_c (ea_cons ev_c (ea_cons ev_c (ea_cons ev_c (ea_cons ev_c ea_nil))))) (by show 5 ≤ 100000; decide)) (by show 0 < 5; decide) (by show 5 ≤ 1000; decide)) ?_) ?_) (by rw [List.length_map]; omega) fun v H1 hv e1 => ?_
    · intro v hv
      simp only [List.mem_cons, List.not_mem_nil, or_false] at hv
      rcases hv with rfl | rfl | rfl | rfl | rfl
      · exact ⟨[], by decide, congrArg V.str lit0⟩
      · exact ⟨[], by decide, congrArg V.str lit0⟩
      · exact ⟨[], by decide, congrArg V.str lit0⟩
      · exact ⟨[32], by decide, congrArg V.str (by decide +kernel)⟩
      · exact ⟨[32, 32, 35, 32, 105, 102, 32, 120], by decide, congrArg V.str (by decide +kernel)⟩
    · rintro x y H2 rfl ⟨t, ht, rfl⟩ e2 Q2 q2
      have htl : t.length ≤ 8 := by
        have : ∀ t ∈ tails, t.length ≤ 8 := by decide
        exact this t ht
      exact rv_addS (a := row) (b := t) (by omega) H2 (Ex.refl H2) Q2 fun H3 e3 => q2 _ H3 ⟨t, ht, rfl⟩ e3
    obtain ⟨t, ht, rfl⟩ := hv
    have hW1 := hW.ex e1
    have hD1 := hD.ex e1
    have tr : (rows.map fun z => V.str (S z)) ++ [V.str (S (row ++ t))] = (rows ++ [row ++ t]).map fun z => V.str (S z) := by rw [List.map_append] <;> rfl
    rw [tr]
    have hW2 : Wr (upd H1 rl (.lst ((rows ++ [row ++ t]).map fun z => V.str (S z)))) wa rl (rows ++ [row ++ t]) row last := ⟨by rw [upd_ne hrw.symm]; exact hW1.d, upd_same⟩
    have hD2 : Dc K (upd H1 rl (.lst ((rows ++ [row ++ t]).map fun z => V.str (S z)))) d a ns := ⟨by rw [upd_ne hdr]; exact hD1.o, hD1.s.fx (Fx.mut hW1.r True.intro)⟩
    have x2 : Ex2 wa rl H (upd H1 rl (.lst ((rows ++ [row ++ t]).map fun z => V.str (S z)))) := fun b o h1 h2 ho => by
      rw [upd_ne h2]
      exact e1 b o ho
    generalize upd H1 rl (.lst ((rows ++ [row ++ t]).map fun z => V.str (S z))) = H2 at hW2 hD2 x2 ⊢
    have fin : ∀ (more : List (List Nat)) (H3 : Hp), (more = [] ∨ ∃ m ∈ empties, more = [m]) → Ex2 wa rl H H3 → Wr H3 wa rl (rows ++ [row ++ t] ++ more) row last → (tDrop (tBM K "dict" rDUpd (tVar 1) (tCons (tDisp [(tC (.str (Str.ofString "row")), tC (.str (Str.ofString ""))), (tC (.str (Str.ofString "last")), tC (.str (Str.ofString "")))]) tNil))) { nx := fun _ H' => Q .non H', rt := Q } [some (.ref d), some (.ref wa)] H3 := fun more H3 hm x3 hW3 =>
      s_upd hW3 (ev_var rfl) (ev_is ev_c (congrArg V.str lit0)) (ev_is ev_c (congrArg V.str lit0)) fun H4 e4 => q t more _ ht hm (fun b o h1 h2 ho => by
        rw [upd_ne h1]
        exact e4 b o (x3 b o h1 h2 ho)) ⟨upd_same, by rw [upd_ne hrw]; exact e4 _ _ hW3.r⟩
    refine qn_if (B := fun _ => True) (etn_and (B := fun _ => True) (etn_test (en_opV (P := fun v => ∃ z : Int, v = .int z ∧ 0 ≤ z ∧ z < 8) (P3 := fun v => ∃ b, v = .bl b) (en_next hD2 (ev_var rfl) ev_c) (fun _ _ => EvN.of ev_c) ?_) (fun v hv => ?_)) (EvTN.of (b := decide ((((rows ++ [row ++ t]).map fun z => V.str (S z)).length : Int) < 12)) (et_test (ev_op (ev_lenD (K := K) (ev_dget (ev_var rfl) ev_c hW2.d (wd_rows rl row last)) (.inl (sq_of hW2.r))) ev_c rv_I0)))) (fun _ H3 e3 => ?_) (fun _ H3 e3 => ?_)
    · rintro x y ⟨z, rfl, _⟩ rfl
      exact ⟨_, ⟨_, rfl⟩, rv_eq rfl⟩
    · obtain ⟨b, rfl⟩ := hv
      exact ⟨b, rfl, trivial⟩
    · have hW3 := hW2.ex e3
      have hD3 := hD2.ex e3
      refine sn_app (C := fun v => ∃ m ∈ empties, v = .str (S m)) hW3.r (ev_dget (ev_var rfl) ev_c hW3.d (wd_rows rl row last)) (en_ixNL (K := K) (n := 3) (EvNL.of (el_lst (ea_cons ev_c (ea_cons ev_c (ea_cons ev_c ea_nil))) (by show 3 ≤ 100000; decide))) (en_next hD3 (ev_var rfl) ev_c) ?_) (by rw [List.length_map, List.length_append]; show rows.length + 1 < 100000; omega) fun v H4 hv e4 => ?_
      · rintro l rfl
        refine ⟨rfl, fun v hv => ?_⟩
        simp only [List.mem_cons, List.not_mem_nil, or_false] at hv
        rcases hv with rfl | rfl | rfl
        · exact ⟨[], by decide, congrArg V.str lit0⟩
        · exact ⟨[32, 32, 32], by decide, congrArg V.str (by decide +kernel)⟩
        · exact ⟨[35, 32, 101, 110, 100], by decide, congrArg V.str (by decide +kernel)⟩
      · obtain ⟨m, hm, rfl⟩ := hv
        have tr2 : ((rows ++ [row ++ t]).map fun z => V.str (S z)) ++ [V.str (S m)] = (rows ++ [row ++ t] ++ [m]).map fun z => V.str (S z) := by simp only [List.map_append, List.map_cons, List.map_nil]
        rw [tr2]
        have hW4 := hW3.ex e4
        exact fin [m] _ (.inr ⟨m, hm, rfl⟩) (fun b o h1 h2 ho => by
          rw [upd_ne h2]
          exact e4 b o (e3 b o (x2 b o h1 h2 ho))) ⟨by rw [upd_ne hrw.symm]; exact hW4.d, upd_same⟩
    · have hW3 := hW2.ex e3
      refine fin [] H3 (.inl rfl) (fun b o h1 h2 ho => e3 b o (x2 b o h1 h2 ho)) ⟨hW3.d, ?_⟩
      rw [List.append_nil]
      exact hW3.r
end
end Wt

set_option Elab.async false
set_option linter.all false
set_option maxRecDepth 100000
set_option maxHeartbeats 4000000
namespace Wt
open PySem PySem.Spec PyProof.Rows L2 SX Evl
open C8 (Def Cal cal0 fnScope_by fnScope)
/-! The law itself. -/
section
variable {K : PySem.W.Frag} {σ : L2.St} {H H' : Hp} {ta tb te tx t1 t2 : TE} {t u : TT} {x y z v : V} {P : V → Prop} {L : List V → Prop} {D : Ends} {tz tu : TS}
theorem el_cat {l : Addr} {xs zs : List V} (ha : Ev ta σ H (.ref l)) (hl : H l = some (.lst xs)) (hb : EvL tb σ H zs) (hz : xs.length + zs.length ≤ 100000) : EvL (tOp rCat ta tb) σ H (xs ++ zs) := fun H1 e Q q =>
  ha H1 e _ fun H2 e2 => hb H2 (e.trans e2) _ fun p H3 hp e3 h3 => ⟨l, p, xs, zs, rfl, rfl, e3 l _ (e2 l _ (e l _ hl)), h3, sz_of hz, fun c hc => q c _ (fresh_back (e2.trans e3) hc) ((e2.trans e3).trans (Ex.new hc)) upd_same⟩
theorem en_callN {sp : Sp} {dvs : List V} {E : XK} {ta : TA} (h : EAN ta σ H L) (hs : ∀ vs, L vs → SpN sp (vs ++ dvs) H P) : EvN (tCall sp dvs E ta) σ H P := fun H1 e Q q =>
  h H1 e _ fun vs H2 hv e2 => hs vs hv H2 (e.trans e2) Q (fun v H3 p e3 => q v H3 p (e2.trans e3)) E
/-- a loop over range(n), n known by what is true of it -/
theorem q_forRN {j N : Nat} (h : EvN te σ H (fun v => ∃ z : Int, v = .int z ∧ 0 ≤ z ∧ z < (N : Int))) (hN : N ≤ 10000) (Pv : Nat → L2.St → Hp → Prop) (h0 : ∀ H1, Ex H H1 → Pv 0 σ H1)
    (hs : ∀ (i : Nat) σ' H', i < N → Pv i σ' H' → tu { D with nx := Pv (i + 1), ct := Pv (i + 1), bk := tz D } (σ'.set j (some (.int (i : Int)))) H') (hd : ∀ n σ' H', n < N → Pv n σ' H' → tz D σ' H') :
    tSeq (tFor (iRng1 (tCons te tNil)) (gName j) tu) tz D σ H := h H (Ex.refl H) _ fun v H1 hv e1 => by
  obtain ⟨z, rfl, z0, z1⟩ := hv
  refine ⟨z, rfl, by omega, by omega, for_range (D := { D with nx := tz D }) (lo := 0) (n := z.toNat) Pv (h0 H1 e1) (fun i σ' H' hi p => ?_) fun σ' H' p => hd z.toNat σ' H' (by omega) p⟩
  have e0 : (0 : Int) + (i : Int) = (i : Int) := Int.zero_add _
  show tu { D with nx := Pv (i + 1), ct := Pv (i + 1), bk := tz D } (σ'.set j (some (.int ((0 : Int) + (i : Int))))) H'
  rw [e0]
  exact hs i σ' H' (by omega) p
theorem s_forRN {j N : Nat} (h : EvN te σ H (fun v => ∃ z : Int, v = .int z ∧ 0 ≤ z ∧ z < (N : Int))) (hN : N ≤ 10000) (Pv : Nat → L2.St → Hp → Prop) (h0 : ∀ H1, Ex H H1 → Pv 0 σ H1)
    (hs : ∀ (i : Nat) σ' H', i < N → Pv i σ' H' → tu { D with nx := Pv (i + 1), ct := Pv (i + 1), bk := D.nx } (σ'.set j (some (.int (i : Int)))) H') (hd : ∀ n σ' H', n < N → Pv n σ' H' → D.nx σ' H') :
    tFor (iRng1 (tCons te tNil)) (gName j) tu D σ H := q_forRN (D := D) (tz := tNext) h hN Pv h0 hs hd
end
theorem wide_word (n : Nat) (w : Word) : wideD (wordD n w) = true := by
  unfold wordD
  simp [wideD, wideAll]
theorem depth_word (n : Nat) (w : Word) : (wordD n w).depth = 2 := by
  unfold wordD
  simp [PyData.depth, PyData.depthAll]
theorem wide_map (n : Nat) : ∀ (ws : List Word) (ds : List PyData), wideAll ds = true → wideAll (ws.map (wordD n) ++ ds) = true
  | [], ds, h => h
  | w :: ws, ds, h => by
    show (wideD (wordD n w) && wideAll (ws.map (wordD n) ++ ds)) = true
    rw [wide_word, wide_map n ws ds h] <;> rfl
theorem wide_all : ∀ (n : Nat) (rows : List (List Nat)), wideAll (allD n rows) = true
  | _, [] => rfl
  | n, r :: rows => wide_map n _ _ (wide_all (n + 1) rows)
theorem depth_map (n : Nat) : ∀ (ws : List Word) (ds : List PyData), PyData.depthAll ds ≤ 2 → PyData.depthAll (ws.map (wordD n) ++ ds) ≤ 2
  | [], ds, h => h
  | w :: ws, ds, h => by
    have ih := depth_map n ws ds h
    show PyData.depthAll (wordD n w :: (ws.map (wordD n) ++ ds)) ≤ 2
    unfold PyData.depthAll
    rw [depth_word]
    exact Nat.max_le.mpr ⟨Nat.le_refl _, ih⟩
theorem depth_all : ∀ (n : Nat) (rows : List (List Nat)), PyData.depthAll (allD n rows) ≤ 2
  | _, [] => by
    show PyData.depthAll [] ≤ 2
    unfold PyData.depthAll
    decide
  | n, r :: rows => depth_map n _ _ (depth_all (n + 1) rows)
theorem len_all {B : Nat} : ∀ (n : Nat) (rows : List (List Nat)), (∀ r ∈ rows, r.length ≤ B) → (allD n rows).length ≤ B * rows.length
  | _, [], _ => Nat.zero_le _
  | n, r :: rows, h => by
    have ih := len_all (n + 1) rows fun q hq => h q (List.mem_cons_of_mem _ hq)
    have h1 := Nat.le_trans (lexRow_count r) (h r (List.mem_cons_self ..))
    show ((lexRow r).1.map (wordD n) ++ allD (n + 1) rows).length ≤ _
    rw [List.length_append, List.length_map, List.length_cons, Nat.mul_succ]
    omega
theorem join_len {B : Nat} : ∀ rows : List (List Nat), (∀ r ∈ rows, r.length ≤ B) → (TL.joinL [10] rows).length ≤ (B + 1) * rows.length
  | [], _ => Nat.zero_le _
  | [r], h => by
    have h1 := h r (List.mem_cons_self ..)
    show r.length ≤ (B + 1) * 1
    omega
  | r :: s :: rows, h => by
    have ih := join_len (s :: rows) fun q hq => h q (List.mem_cons_of_mem _ hq)
    have h1 := h r (List.mem_cons_self ..)
    show (r ++ ([10] ++ TL.joinL [10] (s :: rows))).length ≤ _
    rw [List.length_append, List.length_append, List.length_cons (a := r), Nat.mul_succ]
    show r.length + (1 + _) ≤ _
    omega
theorem sum_len {B : Nat} : ∀ rows : List (List Nat), (∀ r ∈ rows, r.length ≤ B) → (rows.map List.length).sum ≤ B * rows.length
  | [], _ => Nat.zero_le _
  | r :: rows, h => by
    have ih := sum_len rows fun q hq => h q (List.mem_cons_of_mem _ hq)
    have h1 := h r (List.mem_cons_self ..)
    rw [List.map_cons, List.sum_cons, List.length_cons, Nat.mul_succ]
    omega

/-- what stands between two words: the writer, what is due -/
structure Mid (K : PySem.W.Frag) (H : Hp) (d a ow wa rl du : Addr) (ns : List Int) (rows : List (List Nat)) (row last : List Nat) (ds : List Word) : Prop where
  dc : Dc K H d a ns
  ow : H ow = some (.lst (owns.map fun z => V.str (S z)))
  wr : Wr H wa rl rows row last
  due : ∃ dv, H du = some (.lst dv) ∧ TdAll H dv (allD 1 rows ++ ds.map (wordD (rows.length + 1)))
theorem Mid.ex {K : PySem.W.Frag} {H H' : Hp} {d a ow wa rl du : Addr} {ns : List Int} {rows : List (List Nat)} {row last : List Nat} {ds : List Word} (h : Mid K H d a ow wa rl du ns rows row last ds) (e : Ex H H') : Mid K H' d a ow wa rl du ns rows row last ds := by
  obtain ⟨h1, h2, h3, dv, h4, h5⟩ := h
  exact ⟨h1.ex e, e _ _ h2, h3.ex e, dv, e _ _ h4, TdAll.tx (Tx.of e) _ _ h5⟩
/-- rows that are written whole -/
def RowsOk (rows : List (List Nat)) : Prop := AllWords rows ∧ ∀ r ∈ rows, 10 ∉ r ∧ r.length ≤ 200

section
variable {P : Program} {w : World} {K : PySem.W.Frag} {mg : Str → Option Value} {base : Heap}
abbrev s_law : Stmt := topS 22
theorem sc_law : FnScope ["_law_script", "_law_d", "_law_own", "_law_w", "_law_due", "_law_row", "_law_k", "_law_kind", "_law_word_here", "_law_signs", "_law_text", "_law_again", "_law_found"] ["_law_script"] (fnScope s_law) := fnScope_by (by decide +kernel)
def spLaw (K : PySem.W.Frag) : Sp := fun vs H Q _ => ∃ (a : Addr) (ns : List Int), vs = [.ref a] ∧ Scr K H a ns ∧ ∀ H', Q (.bl true) H'
def sigma (a d ow wa du : Addr) (y5 y6 y7 y8 y9 y10 y11 y12 : Option V) : L2.St := [some (.ref a), some (.ref d), some (.ref ow), some (.ref wa), some (.ref du), y5, y6, y7, y8, y9, y10, y11, y12]
theorem lit_name : Str.ofString "name" = S kName := by decide +kernel
theorem lit_num : Str.ofString "num" = S kNum := by decide +kernel
theorem lit_own : Str.ofString "own" = S kOwn := by decide +kernel
theorem lit_sign : Str.ofString "sign" = S kSign := by decide +kernel
theorem ok_law (T : ModsL K mg) (c__law_dice : Cal P w K mg base 1 "_law_dice" (spDice K) []) (c__law_next : Cal P w K mg base 1 "_law_next" (spNext K) []) (c__law_pick : Cal P w K mg base 2 "_law_pick" (spPick K) [])
    (c__law_word : Cal P w K mg base 2 "_law_word" (spWord K) []) (c__law_emit : Cal P w K mg base 2 "_law_emit" (spEmit K) []) (c__law_line : Cal P w K mg base 3 "_law_line" (spLine K) [])
    (c_words_of : Cal P w K mg base 4 "words_of" spWordsOf []) (c__law_like : Cal P w K mg base 4 "_law_like" (spLike K 4) [])
    {f : Addr} {fd : FuncData} (F : Def K mg "law" s_law f fd) : FnOk P w K mg base C8.CX0 5 f fd ["_law_script"] (spLaw K) := by
  refine C8.fn0 F.fn sc_law (fun vs H Q E h => ?_) (fun cdv A outer s H vs Q E hr h => ?_)
  · obtain ⟨_, _, rfl, _⟩ := h
    rfl
  · obtain ⟨a, ns, rfl, hS, q⟩ := h
    have m_range := T.m_range
    have m_str := T.m_str
    have hu := hu_of hr
    refine ⟨_, (pss_cons (ps_set (i := 1) sc_law.nd rfl (.inl rfl) (C8.pe_c c__law_dice hr (by first | decide | exact Nat.le_refl _ | omega) (by rfl) (pa_cons (pv 0) pa_nil)))
      (pss_cons (ps_set (i := 2) sc_law.nd rfl (.inl rfl) (pe_lst (pa_cons pe_str (pa_cons pe_str (pa_cons pe_str (pa_cons pe_str (pa_cons pe_str (pa_cons pe_str (pa_cons pe_str (pa_cons pe_str (pa_cons pe_str (pa_cons pe_str (pa_cons pe_str (pa_cons pe_str (pa_cons pe_str (pa_cons pe_str pa_nil))))))))))))))))
      (pss_cons (ps_set (i := 2) sc_law.nd rfl (.inl rfl) (pe_op op_cat (pv 2) (pe_lst (pa_cons pe_str (pa_cons pe_str (pa_cons pe_str (pa_cons pe_str (pa_cons pe_str (pa_cons pe_str pa_nil)))))))))
      (pss_cons (ps_par (i := 3) (j := 4) rfl sc_law.nd rfl rfl (by decide) (by rfl) (by rfl) (pa_cons (pe_disp (pps_cons pe_str (pe_lst pa_nil) (pps_cons pe_str pe_str (pps_cons pe_str pe_str pps_nil))) (by rfl) (by rfl) (by simp) (by decide)) (pa_cons (pe_lst pa_nil) pa_nil)) (by rfl))
      (pss_cons (ps_for PassesOwn.never rfl (pi_range1 (by rfl) m_range (pa_cons (C8.pe_c c__law_next hr (by first | decide | exact Nat.le_refl _ | omega) (by rfl) (pa_cons (pv 1) (pa_cons pe_int pa_nil))) pa_nil)) (pg_name (i := 5) sc_law.nd rfl (.inl rfl)) (pss_cons (ps_for PassesOwn.never rfl (pi_range1 (by rfl) m_range (pa_cons (C8.pe_c c__law_next hr (by first | decide | exact Nat.le_refl _ | omega) (by rfl) (pa_cons (pv 1) (pa_cons pe_int pa_nil))) pa_nil)) (pg_name (i := 6) sc_law.nd rfl (.inl rfl)) (pss_cons (ps_set (i := 7) sc_law.nd rfl (.inl rfl) (C8.pe_c c__law_pick hr (by first | decide | exact Nat.le_refl _ | omega) (by rfl) (pa_cons (pv 1) (pa_cons (pe_lst (pa_cons pe_str (pa_cons pe_str (pa_cons pe_str (pa_cons pe_str (pa_cons pe_str pa_nil)))))) pa_nil))))
      (pss_cons (ps_set (i := 8) sc_law.nd rfl (.inl rfl) (pe_ifExp (pt_cmpR op_eq (pv 7) pe_str (nomark _)) (C8.pe_c c__law_word hr (by first | decide | exact Nat.le_refl _ | omega) (by rfl) (pa_cons (pv 1) (pa_cons (pe_lst pa_nil) pa_nil))) (pe_callTy call_str_int (by rfl) m_str Wt.bt_str (pa_cons (C8.pe_c c__law_next hr (by first | decide | exact Nat.le_refl _ | omega) (by rfl) (pa_cons (pv 1) (pa_cons (pe_ix ix_list (pe_lst (pa_cons pe_int (pa_cons pe_int pa_nil))) (C8.pe_c c__law_next hr (by first | decide | exact Nat.le_refl _ | omega) (by rfl) (pa_cons (pv 1) (pa_cons pe_int pa_nil))) (fun _ _ => rfl)) pa_nil))) pa_nil))))
      (Evl.pss_cut (ps_if (PW.pt (pw_or (pt_cmpR op_eq (pv 7) pe_str (nomark _)) (pw_or1 (pt_cmpR op_eq (pv 7) pe_str (nomark _))))) (pss_cons (ps_set (i := 9) sc_law.nd rfl (.inl rfl) (pe_lst (pa_cons pe_str (pa_cons pe_str (pa_cons pe_str (pa_cons pe_str (pa_cons pe_str (pa_cons pe_str (pa_cons pe_str (pa_cons pe_str (pa_cons pe_str (pa_cons pe_str (pa_cons pe_str (pa_cons pe_str pa_nil))))))))))))))
      (pss_one (ps_set (i := 8) sc_law.nd rfl (.inl rfl) (C8.pe_c c__law_pick hr (by first | decide | exact Nat.le_refl _ | omega) (by rfl) (pa_cons (pv 1) (pa_cons (pe_ifExp (pt_cmpR op_eq (pv 7) pe_str (nomark _)) (pv 2) (pv 9)) pa_nil)))))) pss_nil)
      (pss_one (ps_if (pt_not (PW.pt (pw_and (pt_cmpR op_eq (pe_dget hu (pv 3) pe_str (fun _ _ => rfl)) pe_str (nomark _)) (pw_and1 (pt_cmpR op_in_sign (pe_ix ix_str (pv 8) pe_int (fun _ _ => rfl)) pe_str (by with_unfolding_all rfl)))))) (pss_one (ps_expr (pe_bm PySem.F.plainAttrs_list PySem.F.slot_list_append PySem.F.type_list_append mt_append (pv 4) (pa_cons (pe_tup (pa_cons (pv 7) (pa_cons (pv 8) (pa_cons (C8.pe_c c__law_emit hr (by first | decide | exact Nat.le_refl _ | omega) (by rfl) (pa_cons (pv 1) (pa_cons (pv 3) (pa_cons (pv 8) pa_nil)))) pa_nil)))) pa_nil)))) pss_nil))))))
      (pss_one (ps_expr (C8.pe_c c__law_line hr (by first | decide | exact Nat.le_refl _ | omega) (by rfl) (pa_cons (pv 1) (pa_cons (pv 3) pa_nil)))))))
      (pss_cons (ps_set (i := 10) sc_law.nd rfl (.inl rfl) (pe_join pe_str (pe_dget hu (pv 3) pe_str (fun _ _ => rfl))))
      (pss_cons (ps_for PassesOwn.never rfl (pi_range1 (by rfl) m_range (pa_cons pe_int pa_nil)) (pg_name (i := 11) sc_law.nd rfl (.inl rfl)) (pss_cons (ps_set (i := 12) sc_law.nd rfl (.inl rfl) (C8.pe_c c_words_of hr (by first | decide | exact Nat.le_refl _ | omega) (by rfl) (pa_cons (pv 10) pa_nil)))
      (pss_cons (ps_if (pt_not (pt_val (C8.pe_c c__law_like hr (by first | decide | exact Nat.le_refl _ | omega) (by rfl) (pa_cons (pv 12) (pa_cons (pv 4) pa_nil))))) (pss_one (ps_ret pe_bl)) pss_nil)
      (pss_one (ps_expr (pe_bm PySem.F.plainAttrs_list PySem.F.slot_list_append PySem.F.type_list_append mt_append (pv 12) (pa_cons pe_int pa_nil)))))))
      (pss_one (ps_ret pe_bl))))))))), ?_⟩
    -- d = _law_dice(script)
    refine ⟨_, rfl, a, ns, rfl, hS, fun d H1 hd0 e1 hd1 => ?_⟩
    have hD1 : Dc K H1 d a ns := ⟨hd1, hS.ex e1⟩
    -- own = [..], own + [..]
    refine q_asgL (el_lst (ea_cons ev_c (ea_cons ev_c (ea_cons ev_c (ea_cons ev_c (ea_cons ev_c (ea_cons ev_c (ea_cons ev_c (ea_cons ev_c (ea_cons ev_c (ea_cons ev_c (ea_cons ev_c (ea_cons ev_c (ea_cons ev_c (ea_cons ev_c ea_nil)))))))))))))) (by show 14 ≤ 100000; decide)) fun o1 H2 ho1 e2 ho2 => ?_
    refine q_asgL (el_cat (ev_var rfl) ho2 (el_lst (ea_cons ev_c (ea_cons ev_c (ea_cons ev_c (ea_cons ev_c (ea_cons ev_c (ea_cons ev_c ea_nil)))))) (by show 6 ≤ 100000; decide)) (by show 14 + 6 ≤ 100000; decide)) fun ow H3 ho3 e3 ho4 => ?_
    have hown : H3 ow = some (.lst (owns.map fun z => V.str (S z))) := ho4.trans (congrArg (fun l => some (HO.lst l)) (by decide +kernel))
    clear ho4
    -- w, due = ({..}, [])
    intro wa hwa
    refine ⟨Nat.zero_le _, fun rl hrl => ?_⟩
    have hrw : rl ≠ wa := fun z => by
      rw [z, upd_same] at hrl
      cases hrl
    refine ⟨by rw [upd_ne hrw.symm]; exact upd_same, wd3 rl [] [], by unfold wd3 kR kW kL; rw [← lit0] <;> rfl, by show 3 ≤ 15; decide, ?_⟩
    rw [wd_made]
    refine ⟨Nat.zero_le _, fun du hdu => ⟨_, _, rfl, ?_⟩⟩
    have e34 : Ex H3 (upd (upd (upd (upd H3 wa (.dK [])) rl (.lst [])) wa (.dK (wd3 rl [] []))) du (.lst [])) :=
      (Ex.mut ((Ex.new hwa).trans (Ex.new hrl)) hwa).trans (Ex.new hdu)
    have hduw : du ≠ wa := fun z => by
      rw [z, upd_same] at hdu
      cases hdu
    have hdur : du ≠ rl := fun z => by
      rw [z, upd_ne hrw, upd_same] at hdu
      cases hdu
    have hrl3 : H3 rl = none := by
      rw [upd_ne hrw] at hrl
      exact hrl
    have hrlow : rl ≠ ow := (ne_of_none hown hrl3).symm
    have hdu3 : H3 du = none := by
      rw [upd_ne hduw, upd_ne hdur, upd_ne hduw] at hdu
      exact hdu
    have hduow : du ≠ ow := (ne_of_none hown hdu3).symm
    have M0 : Mid K (upd (upd (upd (upd H3 wa (.dK [])) rl (.lst [])) wa (.dK (wd3 rl [] []))) du (.lst [])) d a ow wa rl du ns [] [] [] [] := by
      refine ⟨hD1.ex ((e2.trans e3).trans e34), e34 _ _ hown, ⟨?_, ?_⟩, [], upd_same, .nil⟩
      · rw [upd_ne hduw.symm]
        exact upd_same
      · rw [upd_ne hdur.symm, upd_ne hrw]
        exact upd_same
    generalize upd (upd (upd (upd H3 wa (.dK [])) rl (.lst [])) wa (.dK (wd3 rl [] []))) du (.lst []) = H4 at M0 ⊢
    clear e34 hdu3 hrl3 hdu hrl hwa hown
    show tSeq _ _ _ (sigma a d ow wa du none none none none none none none none) H4
    -- what parts the objects
    have parts : ∀ {H' : Hp} {rows : List (List Nat)} {row last : List Nat} {ds : List Word}, Mid K H' d a ow wa rl du ns rows row last ds → d ≠ wa ∧ d ≠ rl ∧ d ≠ du ∧ ow ≠ wa := fun h => by
      obtain ⟨h1, h2, h3, dv, h4, _⟩ := h
      exact ⟨ne_of h1.o h3.d (by intro z; cases z), ne_of h1.o h3.r (by intro z; cases z), ne_of h1.o h4 (by intro z; cases z), ne_of h2 h3.d (by intro z; cases z)⟩
    -- for row in range(..)
    refine q_forRN (N := 9) (en_next M0.dc (ev_var rfl) ev_c) (by decide) (fun i σ' H' => ∃ (rows : List (List Nat)) (y5 y6 y7 y8 y9 y10 y11 y12 : Option V), σ' = sigma a d ow wa du y5 y6 y7 y8 y9 y10 y11 y12 ∧ Mid K H' d a ow wa rl du ns rows [] [] [] ∧ RowsOk rows ∧ rows.length ≤ 2 * i)
      (fun H5 e5 => ⟨[], none, none, none, none, none, none, none, none, rfl, M0.ex e5, ⟨fun r h => absurd h (by simp), fun r h => absurd h (by simp)⟩, Nat.le_refl _⟩) ?_ ?_
    · rintro i σ' H5 hi ⟨rows, y5, y6, y7, y8, y9, y10, y11, y12, rfl, M5, hR, hlen⟩
      have hrows : rows.length ≤ 18 := by omega
      show tSeq _ _ _ (sigma a d ow wa du (some (.int (i : Int))) y6 y7 y8 y9 y10 y11 y12) H5
      -- for k in range(..)
      refine q_forRN (N := 12) (en_next M5.dc (ev_var rfl) ev_c) (by decide) (fun k σ' H' => ∃ (row last : List Nat) (ds : List Word) (z5 z6 z7 z8 z9 z10 z11 z12 : Option V), σ' = sigma a d ow wa du z5 z6 z7 z8 z9 z10 z11 z12 ∧
        Mid K H' d a ow wa rl du ns rows row last ds ∧ PL row ds last ∧ row.length ≤ 9 * k ∧ last.length ≤ 6 ∧ ds.length ≤ k)
        (fun H6 e6 => ⟨[], [], [], _, _, _, _, _, _, _, _, rfl, M5.ex e6, pl_start, Nat.zero_le _, Nat.zero_le _, Nat.zero_le _⟩) ?_ ?_
      · rintro k σ' H6 hk ⟨row, last, ds, z5, z6, z7, z8, z9, z10, z11, z12, rfl, M6, hP, hrow, hlast, hdsl⟩
        show tSeq _ _ _ (sigma a d ow wa du z5 (some (.int (k : Int))) z7 z8 z9 z10 z11 z12) H6
        -- kind
        refine qn_asg (P := fun v => ∃ kd ∈ [kName, kNum, kOwn, kSign], v = .str (S kd)) (EvN.imp (en_pickL M6.dc (ev_var rfl) (el_lst (ea_cons ev_c (ea_cons ev_c (ea_cons ev_c (ea_cons ev_c (ea_cons ev_c ea_nil))))) (by show 5 ≤ 100000; decide)) (by show 0 < 5; decide) (by show 5 ≤ 1000; decide)) fun v hv => ?_) fun v H7 hv e7 => ?_
        · simp only [List.mem_cons, List.not_mem_nil, or_false] at hv
          rcases hv with rfl | rfl | rfl | rfl | rfl
          · exact ⟨kName, by decide, congrArg V.str lit_name⟩
          · exact ⟨kNum, by decide, congrArg V.str lit_num⟩
          · exact ⟨kOwn, by decide, congrArg V.str lit_own⟩
          · exact ⟨kSign, by decide, congrArg V.str lit_sign⟩
          · exact ⟨kSign, by decide, congrArg V.str lit_sign⟩
        obtain ⟨kd, hkd, rfl⟩ := hv
        have M7 := M6.ex e7
        show tSeq _ _ _ (sigma a d ow wa du z5 (some (.int (k : Int))) (some (.str (S kd))) z8 z9 z10 z11 z12) H7
        -- word
        refine qn_asg (P := fun v => ∃ wd, v = .str (S wd) ∧ (kd = kName → Good kName wd) ∧ (kd ≠ kName → Good kNum wd)) (en_if (et_test (ev_eqS (ev_var rfl) (ev_is ev_c (congrArg V.str lit_name)))) (fun hb => ?_) (fun hb => ?_)) fun v H8 hv e8 => ?_
        · have hkn : kd = kName := of_decide_eq_true hb
          intro H8 e8 Q8 q8
          refine ⟨_, rfl, Nat.zero_le _, fun u hu8 => ?_⟩
          refine ⟨d, a, u, ns, rfl, (M7.dc.ex e8).ex (Ex.new hu8), upd_same, fun wd H9 hw e9 h9 => q8 _ H9 ⟨wd, rfl, fun _ => namely_good hw, fun z => absurd hkn z⟩ fun b o ho => ?_⟩
          have hbu : b ≠ u := ne_of_none ho hu8
          have := e9 b o (by rw [upd_ne hbu]; exact ho)
          rw [upd_ne hbu] at this
          exact this
        · have hkn : kd ≠ kName := of_decide_eq_false hb
          intro H8 e8 Q8 q8
          have M8 := M7.ex e8
          refine en_callN (L := fun l => ∃ m : Int, l = [.ref d, .int m] ∧ 0 < m ∧ m ≤ 1000000) (P := fun v => ∃ z : Int, v = .int z ∧ 0 ≤ z ∧ z < 1000000) (E := C8.E0) (dvs := []) (ta := tCons (tVar 1) (tCons (tOp (rIxL K) (tLst (tCons (tC (.int 10)) (tCons (tC (.int 1000000)) tNil))) (tCall (spNext K) [] C8.E0 (tCons (tVar 1) (tCons (tC (.int 2)) tNil)))) tNil))
            (σ := sigma a d ow wa du z5 (some (.int (k : Int))) (some (.str (S kd))) z8 z9 z10 z11 z12) (H := H8) ?_ ?_ H8 (Ex.refl H8) _ ?_
          · have hx := en_ixNL (K := K) (n := 2) (P := fun v => ∃ m : Int, v = .int m ∧ 0 < m ∧ m ≤ 1000000) (EvNL.of (el_lst (ea_cons (x := .int 10) (σ := sigma a d ow wa du z5 (some (.int (k : Int))) (some (.str (S kd))) z8 z9 z10 z11 z12) (H := H8) ev_c (ea_cons (x := .int 1000000) ev_c ea_nil)) (by show 2 ≤ 100000; decide)))
              (en_next (E := C8.E0) (ta := tVar 1) (tb := tC (.int 2)) (many := 2) M8.dc (ev_var rfl) ev_c) (fun l hl => by
                subst hl
                refine ⟨rfl, fun v hv => ?_⟩
                simp only [List.mem_cons, List.not_mem_nil, or_false] at hv
                rcases hv with rfl | rfl
                · exact ⟨10, rfl, by decide, by decide⟩
                · exact ⟨1000000, rfl, by decide, by decide⟩)
            intro H9 e9 Q9 q9
            refine ean_one (v := .ref d) (ev_var rfl) (ean_cons hx ean_nil) H9 e9 _ fun vs H10 hv e10 => q9 vs H10 ?_ e10
            obtain ⟨r, rfl, v2, r2, rfl, ⟨m, rfl, m0, m1⟩, rfl⟩ := hv
            exact ⟨m, rfl, m0, m1⟩
          · rintro vs ⟨m, rfl, m0, m1⟩
            intro H9 e9 Q9 q9 E9
            exact sn_next M8.dc m0 (by omega) H9 e9 Q9 (fun v H10 hv e10 => by
              obtain ⟨z, rfl, z0, z1⟩ := hv
              exact q9 _ H10 ⟨z, rfl, z0, by omega⟩ e10) E9
          · rintro v H9 ⟨z, rfl, z0, z1⟩ e9
            obtain ⟨n, rfl⟩ : ∃ n : Nat, z = (n : Int) := ⟨z.toNat, by omega⟩
            refine ⟨(n : Int), rfl, ?_, ?_⟩
            · have h1 : ((n : Int)).natAbs = n := Int.natAbs_natCast n
              rw [h1]
              by_cases h0 : n = 0
              · subst h0
                decide
              · exact Nat.lt_trans ((Nat.log2_lt h0).mpr (show n < 2 ^ 20 by omega)) (by decide)
            · rw [num_S]
              exact q8 _ H9 ⟨TL.numL n, rfl, fun z => absurd z hkn, fun _ => numL_good (by omega)⟩ e9
        obtain ⟨wd, rfl, hgn, hgm⟩ := hv
        have M8 := M7.ex e8
        show tCut _ _ _ (sigma a d ow wa du z5 (some (.int (k : Int))) (some (.str (S kd))) (some (.str (S wd))) z9 z10 z11 z12) H8
        refine q_cut (M := fun σ' H' => ∃ wd9 u9, Good kd wd9 ∧ σ' = sigma a d ow wa du z5 (some (.int (k : Int))) (some (.str (S kd))) (some (.str (S wd9))) u9 z10 z11 z12 ∧ Ex H8 H') ?_ ?_
        · refine s_when (b := decide (kd = kOwn) || decide (kd = kSign)) (et_or (et_test (ev_eqS (ev_var rfl) (ev_is ev_c (congrArg V.str lit_own)))) fun _ => et_test (ev_eqS (ev_var rfl) (ev_is ev_c (congrArg V.str lit_sign)))) (fun hb H9 e9 => ?_) (fun hb H9 e9 => ?_)
          · have M9 := M8.ex e9
            refine q_asgL (el_lst (ea_cons ev_c (ea_cons ev_c (ea_cons ev_c (ea_cons ev_c (ea_cons ev_c (ea_cons ev_c (ea_cons ev_c (ea_cons ev_c (ea_cons ev_c (ea_cons ev_c (ea_cons ev_c (ea_cons ev_c ea_nil)))))))))))) (by show 12 ≤ 100000; decide)) fun sg H10 hsg e10 hsl => ?_
            have M10 := M9.ex e10
            refine sn_asg (P := fun v => ∃ wd9, v = .str (S wd9) ∧ Good kd wd9) ?_ fun v H11 hv e11 => ?_
            · intro H11 e11 Q11 q11
              refine ⟨_, rfl, ?_⟩
              refine ev_eqS (ev_var rfl) (ev_is ev_c (congrArg V.str lit_own)) H11 e11 _ fun H12 e12 => ⟨_, rfl, ?_⟩
              have M12 := (M10.ex e11).ex e12
              cases hc : decide (kd = kOwn) with
              | true =>
                have hko : kd = kOwn := of_decide_eq_true hc
                refine ⟨_, rfl, sn_pick M12.dc (sq_of M12.ow) (by decide) (by decide) H12 (Ex.refl H12) _ (fun v H13 hv e13 => ?_) C8.E0⟩
                obtain ⟨z, hz, rfl⟩ := List.mem_map.mp hv
                exact q11 _ H13 ⟨z, rfl, by rw [hko]; exact .own hz⟩ (e12.trans e13)
              | false =>
                have hko : kd ≠ kOwn := of_decide_eq_false hc
                have hks : kd = kSign := by
                  rw [hc, Bool.false_or] at hb
                  exact of_decide_eq_true hb
                have hsl12 := e12 _ _ (e11 _ _ hsl)
                refine ⟨_, rfl, sn_pick M12.dc (sq_of hsl12) (by show 0 < 12; decide) (by show 12 ≤ 1000; decide) H12 (Ex.refl H12) _ (fun v H13 hv e13 => ?_) C8.E0⟩
                have hv2 : v ∈ signs.map fun z => V.str (S z) := by
                  have e : signs.map (fun z => V.str (S z)) = [V.str (Str.ofString "("), .str (Str.ofString ")"), .str (Str.ofString ","), .str (Str.ofString "."), .str (Str.ofString "="), .str (Str.ofString "<>"), .str (Str.ofString "<"), .str (Str.ofString "<="), .str (Str.ofString "+"), .str (Str.ofString "-"), .str (Str.ofString "*"), .str (Str.ofString "/")] → False := fun z => by
                    revert z
                    decide +kernel
                  have hall : ∀ v ∈ [V.str (Str.ofString "("), .str (Str.ofString ")"), .str (Str.ofString ","), .str (Str.ofString "."), .str (Str.ofString "="), .str (Str.ofString "<>"), .str (Str.ofString "<"), .str (Str.ofString "<="), .str (Str.ofString "+"), .str (Str.ofString "-"), .str (Str.ofString "*"), .str (Str.ofString "/")], v ∈ signs.map fun z => V.str (S z) := by decide +kernel
                  exact hall v hv
                obtain ⟨z, hz, rfl⟩ := List.mem_map.mp hv2
                exact q11 _ H13 ⟨z, rfl, by rw [hks]; exact .sign hz⟩ (e12.trans e13)
            · obtain ⟨wd9, rfl, hg⟩ := hv
              exact ⟨wd9, _, hg, rfl, (e9.trans e10).trans e11⟩
          · rw [Bool.or_eq_false_iff] at hb
            have n1 : kd ≠ kOwn := of_decide_eq_false hb.1
            have n2 : kd ≠ kSign := of_decide_eq_false hb.2
            refine ⟨wd, z9, ?_, rfl, e9⟩
            simp only [List.mem_cons, List.not_mem_nil, or_false] at hkd
            rcases hkd with rfl | rfl | rfl | rfl
            · exact hgn rfl
            · exact hgm (by decide)
            · exact absurd rfl n1
            · exact absurd rfl n2
        · rintro σ' H9 ⟨wd9, u9, hg, rfl, e9⟩
          have M9 := M8.ex e9
          have hgne := good_ne hg
          have hgl := good_len hg
          obtain ⟨c, cs, hwc⟩ : ∃ c cs, wd9 = c :: cs := by
            cases wd9 with
            | nil => exact absurd rfl hgne
            | cons c cs => exact ⟨c, cs, rfl⟩
          refine s_when (et_not (et_and (et_test (ev_eqS (ev_dget (ev_var rfl) ev_c M9.wr.d (wd_last rl row last)) (ev_is ev_c (congrArg V.str lit_lt)))) fun _ => et_test (ev_inSg (ev_op (ev_var rfl) ev_c (rv_at (i := 0) (c := c) (by omega) (by rw [hwc] <;> rfl))) (ev_is ev_c (congrArg V.str (show Str.ofString "=><" = S [61, 62, 60] by decide +kernel)))))) (fun _ H10 e10 => ?_) (fun _ H10 e10 => ?_)
          · -- due.append((kind, word, emit(..)))
            have M10 := M9.ex e10
            obtain ⟨dv, hdv, hdT⟩ := M10.due
            obtain ⟨p1, p2, p3, p4⟩ := parts M10
            refine ⟨_, rfl, .inl ⟨rfl, dv, sq_of hdv⟩, _, rfl, _, rfl, _, rfl, _, rfl, _, rfl, d, a, wa, rl, ns, rows, row, last, wd9, rfl, M10.dc, M10.wr, by omega, by omega, hlast, hgne, hgl, fun g p H11 hg3 hg0 hp eB hW11 hp11 => ?_⟩
            refine ⟨by show 3 ≤ sizeLine; decide, fun tt htt => ?_⟩
            have hdu11 : H11 du = some (.lst dv) := eB _ _ hduw hdv
            have ett : Ex H11 (upd H11 tt (.tup [.str (S kd), .str (S wd9), .ref p])) := Ex.new htt
            have hdvl : dv.length < 100000 := by
              have h1 := hdT.len
              rw [List.length_append, List.length_map] at h1
              have h2 := len_all (B := 200) 1 rows fun r hr2 => (hR.2 r hr2).2
              have h3 : 200 * rows.length ≤ 200 * 18 := Nat.mul_le_mul_left _ hrows
              omega
            refine ⟨du, dv, .ref tt, rfl, rfl, ett _ _ hdu11, sz_lt hdvl, row ++ List.replicate g 32 ++ wd9, wd9, ds ++ [(kd, wd9, row.length + g + 1)], _, _, _, _, _, _, _, _, rfl, ?_, pl_step hP hg hg0, ?_, hgl, ?_⟩
            · have hdu12 := ett _ _ hdu11
              have mv : ∀ b o, b ≠ wa → b ≠ du → H10 b = some o → (upd (upd H11 tt (.tup [.str (S kd), .str (S wd9), .ref p])) du (.lst (dv ++ [.ref tt]))) b = some o := fun b o h1 h2 ho => by
                rw [upd_ne h2]
                exact ett b o (eB b o h1 ho)
              refine ⟨⟨mv _ _ p1 p3 M10.dc.o, M10.dc.s.fx fun b o u hb => mv b _ (ne_of hb M10.wr.d (by intro z; cases z)) (ne_of hb hdv (by intro z; cases z)) hb⟩, mv _ _ p4 hduow.symm M10.ow, ⟨?_, ?_⟩, dv ++ [.ref tt], upd_same, ?_⟩
              · rw [upd_ne hduw.symm]
                exact ett _ _ hW11.d
              · rw [upd_ne hdur.symm]
                exact ett _ _ hW11.r
              · have txa : Tx H10 (upd (upd H11 tt (.tup [.str (S kd), .str (S wd9), .ref p])) du (.lst (dv ++ [.ref tt]))) := fun b xs hb => mv b _ (ne_of hb M10.wr.d (by intro z; cases z)) (ne_of hb hdv (by intro z; cases z)) hb
                have txb := Tx.lst (ys := dv ++ [.ref tt]) hdu12
                rw [List.map_append, ← List.append_assoc]
                refine (TdAll.tx txa _ _ hdT).snoc (Td.tx txb _ _ ?_)
                exact .tup upd_same (.cons (.str _) (.cons (.str _) (.cons (.tup (ett _ _ hp11) (.cons (.int _) (.cons (.int _) .nil))) .nil)))
            · rw [List.length_append, List.length_append, List.length_replicate]
              omega
            · rw [List.length_append]
              show ds.length + 1 ≤ k + 1
              omega
          · exact ⟨row, last, ds, _, _, _, _, _, _, _, _, rfl, M9.ex e10, hP, by omega, hlast, by omega⟩
      · -- the row's end
        rintro k σ' H6 hk ⟨row, last, ds, z5, z6, z7, z8, z9, z10, z11, z12, rfl, M6, hP, hrow, hlast, hdsl⟩
        obtain ⟨dv, hdv, hdT⟩ := M6.due
        obtain ⟨p1, p2, p3, p4⟩ := parts M6
        refine ⟨_, rfl, _, rfl, d, a, wa, rl, ns, rows, row, last, rfl, M6.dc, M6.wr, by omega, by omega, fun t more H7 ht hm x7 hW7 => ?_⟩
        have hrowT : row.length ≤ 99 := by omega
        have tl1 : ∀ t ∈ tails, 10 ∉ t ∧ t.length ≤ 8 ∧ ∃ g, told t = List.replicate g 32 := by
          intro t ht
          simp only [tails, List.mem_cons, List.not_mem_nil, or_false] at ht
          rcases ht with rfl | rfl | rfl
          · exact ⟨by decide, by decide, 0, by decide⟩
          · exact ⟨by decide, by decide, 1, by decide⟩
          · exact ⟨by decide, by decide, 2, by decide⟩
        have tl2 : ∀ m ∈ empties, 10 ∉ m ∧ m.length ≤ 8 ∧ lexRow m = ([], none) := by decide +kernel
        obtain ⟨t1, t2, g, t3⟩ := tl1 t ht
        have hend : lexRow (row ++ t) = (ds, none) := pl_end hP t3
        have hM : ∀ m ∈ more, 10 ∉ m ∧ m.length ≤ 8 ∧ lexRow m = ([], none) := by
          rcases hm with rfl | ⟨m, hm, rfl⟩
          · intro m h
            cases h
          · intro m2 h
            rw [List.mem_singleton.mp h]
            exact tl2 m hm
        have hml : more.length ≤ 1 := by
          rcases hm with rfl | ⟨m, hm, rfl⟩
          · exact Nat.zero_le _
          · exact Nat.le_refl _
        have hall : allD 1 (rows ++ [row ++ t] ++ more) = allD 1 rows ++ ds.map (wordD (rows.length + 1)) := by
          have e1 : allD 1 (rows ++ [row ++ t]) = allD 1 rows ++ ds.map (wordD (rows.length + 1)) := by
            rw [allD_snoc, hend, Nat.add_comm 1 rows.length]
          rcases hm with rfl | ⟨m, hm, rfl⟩
          · rw [List.append_nil, e1]
          · rw [allD_snoc, (tl2 m hm).2.2, e1]
            exact List.append_nil _
        refine ⟨rows ++ [row ++ t] ++ more, _, _, _, _, _, _, _, _, rfl, ⟨⟨x7 _ _ p1 p2 M6.dc.o, M6.dc.s.fx fun b o u hb => x7 b _ (ne_of hb M6.wr.d (by intro z; cases z)) (ne_of hb M6.wr.r (by intro z; cases z)) hb⟩, x7 _ _ p4 hrlow.symm M6.ow, hW7, dv, x7 _ _ hduw hdur hdv, ?_⟩, ⟨fun r hr2 => ?_, fun r hr2 => ?_⟩, ?_⟩
        · rw [hall]
          show TdAll H7 dv (_ ++ [])
          rw [List.append_nil]
          exact TdAll.tx (fun b xs hb => x7 b _ (ne_of hb M6.wr.d (by intro z; cases z)) (ne_of hb M6.wr.r (by intro z; cases z)) hb) _ _ hdT
        · rcases List.mem_append.mp hr2 with h | h
          · rcases List.mem_append.mp h with h | h
            · exact hR.1 r h
            · rw [List.mem_singleton.mp h, hend]
          · rw [(hM r h).2.2]
        · rcases List.mem_append.mp hr2 with h | h
          · rcases List.mem_append.mp h with h | h
            · exact hR.2 r h
            · rw [List.mem_singleton.mp h]
              refine ⟨fun z => ?_, ?_⟩
              · rcases List.mem_append.mp z with z | z
                · exact hP.plain.2 z
                · exact t1 z
              · rw [List.length_append]
                omega
          · exact ⟨(hM r h).1, Nat.le_trans (hM r h).2.1 (by decide)⟩
        · rw [List.length_append, List.length_append]
          show rows.length + 1 + more.length ≤ 2 * (i + 1)
          omega
    · rintro n σ' H5 hn ⟨rows, y5, y6, y7, y8, y9, y10, y11, y12, rfl, M5, hR, hlen⟩
      have hrows : rows.length ≤ 16 := by omega
      -- text = "\n".join(rows)
      have hj : Txt.join (Str.ofString "\n") (rows.map S) = S (TL.joinL [10] rows) := by rw [show Str.ofString "\n" = S [10] by decide +kernel, join_S]
      have hjl := join_len (B := 200) rows fun r hr2 => (hR.2 r hr2).2
      have hsl : (rows.map fun x => x.length).sum ≤ 200 * rows.length := sum_len (B := 200) rows fun r hr2 => (hR.2 r hr2).2
      have h201 : 201 * rows.length ≤ 201 * 16 := Nat.mul_le_mul_left _ hrows
      have h200 : 200 * rows.length ≤ 200 * 16 := Nat.mul_le_mul_left _ hrows
      refine q_asg (v := .str (S (TL.joinL [10] rows))) ?_ fun H6 e6 => ?_
      · intro H6 e6 Q6 q6
        refine ⟨⟨_, rfl⟩, ev_dget (ev_var rfl) ev_c M5.wr.d (wd_rows rl [] []) H6 e6 _ fun H7 e7 => ⟨_, rl, rows.map S, rfl, rfl, .inl ?_, ?_, ?_⟩⟩
        · have := (M5.wr.ex (e6.trans e7)).r
          rw [List.map_map]
          exact sq_of this
        · rw [lens, List.length_map, show (Str.ofString "\n").length = 1 by decide +kernel]
          omega
        · rw [hj]
          exact q6 H7 e7
      have M6 := M5.ex e6
      obtain ⟨dv, hdv, hdT⟩ := M6.due
      rw [List.map_nil, List.append_nil] at hdT
      have hdvl : (allD 1 rows).length ≤ 200 * rows.length := len_all (B := 200) 1 rows fun r hr2 => (hR.2 r hr2).2
      -- the rows of the text
      have hspl : ∃ rs, rs = TL.spl [10] 0 [] (TL.joinL [10] rows) ∧ rs.length ≤ 1000 ∧ (∀ r ∈ rs, r.length ≤ 1000) ∧ AllWords rs ∧ allD 1 rs = allD 1 rows := by
        cases hrs : rows with
        | nil => exact ⟨[[]], rfl, by decide, by decide, fun r h => by rw [List.mem_singleton.mp h] <;> rfl, rfl⟩
        | cons r0 rest =>
          rw [← hrs]
          exact ⟨rows, (SX.spl_join (by rw [hrs]; exact List.cons_ne_nil _ _) fun r hr2 => (hR.2 r hr2).1).symm, by omega, fun r hr2 => Nat.le_trans (hR.2 r hr2).2 (by decide), hR.1, rfl⟩
      obtain ⟨rs, hrs, hrl1, hrl2, haw, hall⟩ := hspl
      refine q_forR1 (n := 2) (ea_cons ev_c ea_nil) ⟨by decide, by decide⟩ (fun i σ' H' => ∃ (w5 w6 w7 w8 w9 w11 w12 : Option V), σ' = sigma a d ow wa du w5 w6 w7 w8 w9 (some (.str (S (TL.joinL [10] rows)))) w11 w12 ∧ H' du = some (.lst dv) ∧ TdAll H' dv (allD 1 rows))
        (fun H7 e7 => ⟨_, _, _, _, _, _, _, rfl, e7 _ _ hdv, TdAll.tx (Tx.of e7) _ _ hdT⟩) ?_ ?_
      · rintro i σ' H7 hi ⟨w5, w6, w7, w8, w9, w11, w12, rfl, hdv7, hdT7⟩
        -- found = words_of(text)
        refine ⟨_, rfl, TL.joinL [10] rows, rs, rfl, by omega, hrs, hrl1, hrl2, haw, fun p H8 vs hp e8 hp8 hT8 => ?_⟩
        have hdv8 := e8 _ _ hdv7
        have hdT8 := TdAll.tx (Tx.of e8) _ _ hdT7
        rw [hall] at hT8
        refine q_when (b := false) (et_not (a := true) (et_B (ev_call (dvs := []) (vs := [.ref p, .ref du]) (ea_cons (ev_var rfl) (ea_cons (ev_var rfl) ea_nil)) fun H9 e9 Q9 q9 E9 =>
          ⟨.ref p, .ref du, .list (allD 1 rows), rfl, Dp.ex e9 _ _ (.lst (sq_of hp8) (TdAll.dp _ _ hT8)), Dp.ex e9 _ _ (.lst (sq_of hdv8) (TdAll.dp _ _ hdT8)), ?_, ?_, fun H10 e10 => q9 H10 e10⟩))) (fun z => by cases z) (fun _ H9 e9 => ?_)
        · have hpd : p ≠ du := (ne_of_none hdv7 hp).symm
          refine s_app (e9 _ _ hp8) (ev_var rfl) ev_c (by
            have := hT8.len
            omega) fun H10 e10 => ⟨_, _, _, _, _, _, _, rfl, by rw [upd_ne hpd.symm]; exact e10 _ _ (e9 _ _ hdv8), TdAll.tx ((Tx.of (e9.trans e10)).trans (Tx.lst (e10 _ _ (e9 _ _ hp8)))) _ _ hdT8⟩
        · have := depth_all 1 rows
          unfold PyData.depth
          omega
        · unfold wideD
          rw [Bool.and_eq_true]
          exact ⟨decide_eq_true (by omega), wide_all 1 rows⟩
      · rintro σ' H7 ⟨w5, w6, w7, w8, w9, w11, w12, rfl, hdv7, hdT7⟩
        exact s_ret ev_c fun H8 e8 => q H8
end
end Wt

set_option Elab.async false
set_option linter.all false
set_option maxRecDepth 100000
set_option maxHeartbeats 4000000
namespace Wt
open PySem PySem.Spec PyProof.Rows L2 SX Evl
open C8 (Def Cal cal0 fnScope_by fnScope)
/-! What the top leaves; the end. -/
def absS : Value → Option (List Nat)
  | .str x _ => some x.cps.toList
  | _ => none
theorem vals_abs : ∀ (us : List Value) (ws : List (List Nat)), us.map absS = ws.map some → Vals (ws.map fun z => V.str (S z)) us
  | [], [], _ => .nil
  | [], _ :: _, h => by cases h
  | _ :: _, [], h => by cases h
  | u :: us, w :: ws, h => by
    rw [List.map_cons, List.map_cons] at h
    injection h with h1 h2
    refine .cons ?_ (vals_abs us ws h2)
    cases u with
    | str x t =>
      have e : x.cps.toList = w := Option.some.inj h1
      subst e
      exact ⟨t, by rw [S_tl]⟩
    | _ => cases h1
theorem tup_written {K : PySem.W.Frag} {a : Addr} {od : Option Addr} {its : Array Value} {n : Nat} {sl : Array (Option Value)} {ws : List (List Nat)} (l : K.lookup a = some ⟨.type "tuple", od, .seq its n, sl⟩) (v : its.toList.map absS = ws.map some) (hl : ws.length ≤ 1000) (H : Hp) :
    SqT K H a (ws.map fun z => V.str (S z)) := by
  have r := vals_abs _ _ v
  refine .inr ⟨_, its, n, l, rfl, rfl, ?_, r⟩
  have e := r.length
  rw [List.length_map] at e
  rw [← Array.length_toList, ← e]
  exact Nat.le_of_lt (small1000 hl)
theorem str_written {mg : Str → Option Value} {x y : Str} {t : Tok} {l : List Nat} (h : mg x = some (.str y t)) (e : y = S l) : ∃ u, mg x = some u ∧ RelV (.str (S l)) u := ⟨_, h, t, by rw [e]⟩
theorem all_mk {l : PySem.W.OpenLaw} {w : World} {K : PySem.W.Frag} {h : Heap} {mg : Str → Option Value} {fa : Addr} (X : K.In h) (G : h.Ns mainGlobals mg) (hfa : mg "law" = some (.ref fa))
    {od_run_at an_run_at : Option Addr} {sl_run_at : Array (Option Value)} {oc_run_at kV_run_at dc_run_at pm_run_at cd_run_at ct_run_at : Value} {f_run_at : Addr}
    (a_run_at : PySem.W.nsIn K mainGlobals "run_at" = some (some (.ref f_run_at))) (l_run_at : K.lookup f_run_at = some ⟨oc_run_at, od_run_at, .func (PySem.W.fnOf "run_at" "run_at" (C8.fnArgs s_run_at) (C8.fnBody s_run_at) (C8.fnScope s_run_at) .none kV_run_at dc_run_at pm_run_at an_run_at cd_run_at ct_run_at), sl_run_at⟩)
    (c_run_at : PySem.W.codeIn K cd_run_at "run_at" = true) (k_run_at : PySem.W.keepIn K (.ref f_run_at) = true)
    {od_kind_of an_kind_of : Option Addr} {sl_kind_of : Array (Option Value)} {oc_kind_of kV_kind_of dc_kind_of pm_kind_of cd_kind_of ct_kind_of : Value} {f_kind_of : Addr}
    (a_kind_of : PySem.W.nsIn K mainGlobals "kind_of" = some (some (.ref f_kind_of))) (l_kind_of : K.lookup f_kind_of = some ⟨oc_kind_of, od_kind_of, .func (PySem.W.fnOf "kind_of" "kind_of" (C8.fnArgs s_kind_of) (C8.fnBody s_kind_of) (C8.fnScope s_kind_of) .none kV_kind_of dc_kind_of pm_kind_of an_kind_of cd_kind_of ct_kind_of), sl_kind_of⟩)
    (c_kind_of : PySem.W.codeIn K cd_kind_of "kind_of" = true) (k_kind_of : PySem.W.keepIn K (.ref f_kind_of) = true)
    {od_word_at an_word_at : Option Addr} {sl_word_at : Array (Option Value)} {oc_word_at kV_word_at dc_word_at pm_word_at cd_word_at ct_word_at : Value} {f_word_at : Addr}
    (a_word_at : PySem.W.nsIn K mainGlobals "word_at" = some (some (.ref f_word_at))) (l_word_at : K.lookup f_word_at = some ⟨oc_word_at, od_word_at, .func (PySem.W.fnOf "word_at" "word_at" (C8.fnArgs s_word_at) (C8.fnBody s_word_at) (C8.fnScope s_word_at) .none kV_word_at dc_word_at pm_word_at an_word_at cd_word_at ct_word_at), sl_word_at⟩)
    (c_word_at : PySem.W.codeIn K cd_word_at "word_at" = true) (k_word_at : PySem.W.keepIn K (.ref f_word_at) = true)
    {od_words_in an_words_in : Option Addr} {sl_words_in : Array (Option Value)} {oc_words_in kV_words_in dc_words_in pm_words_in cd_words_in ct_words_in : Value} {f_words_in : Addr}
    (a_words_in : PySem.W.nsIn K mainGlobals "words_in" = some (some (.ref f_words_in))) (l_words_in : K.lookup f_words_in = some ⟨oc_words_in, od_words_in, .func (PySem.W.fnOf "words_in" "words_in" (C8.fnArgs s_words_in) (C8.fnBody s_words_in) (C8.fnScope s_words_in) .none kV_words_in dc_words_in pm_words_in an_words_in cd_words_in ct_words_in), sl_words_in⟩)
    (c_words_in : PySem.W.codeIn K cd_words_in "words_in" = true) (k_words_in : PySem.W.keepIn K (.ref f_words_in) = true)
    {od_words_of an_words_of : Option Addr} {sl_words_of : Array (Option Value)} {oc_words_of kV_words_of dc_words_of pm_words_of cd_words_of ct_words_of : Value} {f_words_of : Addr}
    (a_words_of : PySem.W.nsIn K mainGlobals "words_of" = some (some (.ref f_words_of))) (l_words_of : K.lookup f_words_of = some ⟨oc_words_of, od_words_of, .func (PySem.W.fnOf "words_of" "words_of" (C8.fnArgs s_words_of) (C8.fnBody s_words_of) (C8.fnScope s_words_of) .none kV_words_of dc_words_of pm_words_of an_words_of cd_words_of ct_words_of), sl_words_of⟩)
    (c_words_of : PySem.W.codeIn K cd_words_of "words_of" = true) (k_words_of : PySem.W.keepIn K (.ref f_words_of) = true)
    {od__law_dice an__law_dice : Option Addr} {sl__law_dice : Array (Option Value)} {oc__law_dice kV__law_dice dc__law_dice pm__law_dice cd__law_dice ct__law_dice : Value} {f__law_dice : Addr}
    (a__law_dice : PySem.W.nsIn K mainGlobals "_law_dice" = some (some (.ref f__law_dice))) (l__law_dice : K.lookup f__law_dice = some ⟨oc__law_dice, od__law_dice, .func (PySem.W.fnOf "_law_dice" "_law_dice" (C8.fnArgs s__law_dice) (C8.fnBody s__law_dice) (C8.fnScope s__law_dice) .none kV__law_dice dc__law_dice pm__law_dice an__law_dice cd__law_dice ct__law_dice), sl__law_dice⟩)
    (c__law_dice : PySem.W.codeIn K cd__law_dice "_law_dice" = true) (k__law_dice : PySem.W.keepIn K (.ref f__law_dice) = true)
    {od__law_next an__law_next : Option Addr} {sl__law_next : Array (Option Value)} {oc__law_next kV__law_next dc__law_next pm__law_next cd__law_next ct__law_next : Value} {f__law_next : Addr}
    (a__law_next : PySem.W.nsIn K mainGlobals "_law_next" = some (some (.ref f__law_next))) (l__law_next : K.lookup f__law_next = some ⟨oc__law_next, od__law_next, .func (PySem.W.fnOf "_law_next" "_law_next" (C8.fnArgs s__law_next) (C8.fnBody s__law_next) (C8.fnScope s__law_next) .none kV__law_next dc__law_next pm__law_next an__law_next cd__law_next ct__law_next), sl__law_next⟩)
    (c__law_next : PySem.W.codeIn K cd__law_next "_law_next" = true) (k__law_next : PySem.W.keepIn K (.ref f__law_next) = true)
    {od__law_like an__law_like : Option Addr} {sl__law_like : Array (Option Value)} {oc__law_like kV__law_like dc__law_like pm__law_like cd__law_like ct__law_like : Value} {f__law_like : Addr}
    (a__law_like : PySem.W.nsIn K mainGlobals "_law_like" = some (some (.ref f__law_like))) (l__law_like : K.lookup f__law_like = some ⟨oc__law_like, od__law_like, .func (PySem.W.fnOf "_law_like" "_law_like" (C8.fnArgs s__law_like) (C8.fnBody s__law_like) (C8.fnScope s__law_like) .none kV__law_like dc__law_like pm__law_like an__law_like cd__law_like ct__law_like), sl__law_like⟩)
    (c__law_like : PySem.W.codeIn K cd__law_like "_law_like" = true) (k__law_like : PySem.W.keepIn K (.ref f__law_like) = true)
    {od__law_pick an__law_pick : Option Addr} {sl__law_pick : Array (Option Value)} {oc__law_pick kV__law_pick dc__law_pick pm__law_pick cd__law_pick ct__law_pick : Value} {f__law_pick : Addr}
    (a__law_pick : PySem.W.nsIn K mainGlobals "_law_pick" = some (some (.ref f__law_pick))) (l__law_pick : K.lookup f__law_pick = some ⟨oc__law_pick, od__law_pick, .func (PySem.W.fnOf "_law_pick" "_law_pick" (C8.fnArgs s__law_pick) (C8.fnBody s__law_pick) (C8.fnScope s__law_pick) .none kV__law_pick dc__law_pick pm__law_pick an__law_pick cd__law_pick ct__law_pick), sl__law_pick⟩)
    (c__law_pick : PySem.W.codeIn K cd__law_pick "_law_pick" = true) (k__law_pick : PySem.W.keepIn K (.ref f__law_pick) = true)
    {od__law_word an__law_word : Option Addr} {sl__law_word : Array (Option Value)} {oc__law_word kV__law_word dc__law_word pm__law_word cd__law_word ct__law_word : Value} {f__law_word : Addr}
    (a__law_word : PySem.W.nsIn K mainGlobals "_law_word" = some (some (.ref f__law_word))) (l__law_word : K.lookup f__law_word = some ⟨oc__law_word, od__law_word, .func (PySem.W.fnOf "_law_word" "_law_word" (C8.fnArgs s__law_word) (C8.fnBody s__law_word) (C8.fnScope s__law_word) .none kV__law_word dc__law_word pm__law_word an__law_word cd__law_word ct__law_word), sl__law_word⟩)
    (c__law_word : PySem.W.codeIn K cd__law_word "_law_word" = true) (k__law_word : PySem.W.keepIn K (.ref f__law_word) = true)
    {od__law_emit an__law_emit : Option Addr} {sl__law_emit : Array (Option Value)} {oc__law_emit kV__law_emit dc__law_emit pm__law_emit cd__law_emit ct__law_emit : Value} {f__law_emit : Addr}
    (a__law_emit : PySem.W.nsIn K mainGlobals "_law_emit" = some (some (.ref f__law_emit))) (l__law_emit : K.lookup f__law_emit = some ⟨oc__law_emit, od__law_emit, .func (PySem.W.fnOf "_law_emit" "_law_emit" (C8.fnArgs s__law_emit) (C8.fnBody s__law_emit) (C8.fnScope s__law_emit) .none kV__law_emit dc__law_emit pm__law_emit an__law_emit cd__law_emit ct__law_emit), sl__law_emit⟩)
    (c__law_emit : PySem.W.codeIn K cd__law_emit "_law_emit" = true) (k__law_emit : PySem.W.keepIn K (.ref f__law_emit) = true)
    {od__law_line an__law_line : Option Addr} {sl__law_line : Array (Option Value)} {oc__law_line kV__law_line dc__law_line pm__law_line cd__law_line ct__law_line : Value} {f__law_line : Addr}
    (a__law_line : PySem.W.nsIn K mainGlobals "_law_line" = some (some (.ref f__law_line))) (l__law_line : K.lookup f__law_line = some ⟨oc__law_line, od__law_line, .func (PySem.W.fnOf "_law_line" "_law_line" (C8.fnArgs s__law_line) (C8.fnBody s__law_line) (C8.fnScope s__law_line) .none kV__law_line dc__law_line pm__law_line an__law_line cd__law_line ct__law_line), sl__law_line⟩)
    (c__law_line : PySem.W.codeIn K cd__law_line "_law_line" = true) (k__law_line : PySem.W.keepIn K (.ref f__law_line) = true)
    {od_law an_law : Option Addr} {sl_law : Array (Option Value)} {oc_law kV_law dc_law pm_law cd_law ct_law : Value} {f_law : Addr}
    (a_law : PySem.W.nsIn K mainGlobals "law" = some (some (.ref f_law))) (l_law : K.lookup f_law = some ⟨oc_law, od_law, .func (PySem.W.fnOf "law" "law" (C8.fnArgs s_law) (C8.fnBody s_law) (C8.fnScope s_law) .none kV_law dc_law pm_law an_law cd_law ct_law), sl_law⟩)
    (c_law : PySem.W.codeIn K cd_law "law" = true) (k_law : PySem.W.keepIn K (.ref f_law) = true)
    (z_len : PySem.W.nsIn K mainGlobals "len" = some none)
    (z_enumerate : PySem.W.nsIn K mainGlobals "enumerate" = some none)
    (z_int : PySem.W.nsIn K mainGlobals "int" = some none)
    (z_str : PySem.W.nsIn K mainGlobals "str" = some none)
    (z_bool : PySem.W.nsIn K mainGlobals "bool" = some none)
    (z_tuple : PySem.W.nsIn K mainGlobals "tuple" = some none)
    (z_list : PySem.W.nsIn K mainGlobals "list" = some none)
    (z_range : PySem.W.nsIn K mainGlobals "range" = some none)
    (z_isinstance : PySem.W.nsIn K mainGlobals "isinstance" = some none)
    {aS aO : Addr} {odS odO : Option Addr} {itS itO : Array Value} {nS nO : Nat} {slS slO : Array (Option Value)} {tL tF tN : Tok}
    (gL : PySem.W.nsIn K mainGlobals "LETTERS" = some (some (.str (Str.ofString "abcdefghijklmnopqrstuvwxyz") tL))) (gF : PySem.W.nsIn K mainGlobals "FIGURES" = some (some (.str (Str.ofString "0123456789") tF)))
    (gN : PySem.W.nsIn K mainGlobals "LONGEST" = some (some (.int 6 tN))) (gS : PySem.W.nsIn K mainGlobals "SIGNS" = some (some (.ref aS))) (gO : PySem.W.nsIn K mainGlobals "OWN_WORDS" = some (some (.ref aO)))
    (lS : K.lookup aS = some ⟨.type "tuple", odS, .seq itS nS, slS⟩) (lO : K.lookup aO = some ⟨.type "tuple", odO, .seq itO nO, slO⟩) (vS : itS.toList.map absS = signs.map some) (vO : itO.toList.map absS = owns.map some) :
    ∃ fd : FuncData, (∀ (s : Shared) (v : Value), BindsTo s fd ⟨[v], []⟩ [("_law_script", v)]) ∧ ∀ base : Heap, K.In base → base.Ns mainGlobals mg → FnOk l.prog w K mg base C8.CX0 5 fa fd ["_law_script"] (spLaw K) := by
  have e : f_law = fa := by
    have z := (PySem.W.mg_of X G a_law).symm.trans hfa
    injection z with z
    injection z
  subst e
  have D_run_at : Def K mg "run_at" s_run_at f_run_at _ := ⟨⟨_, _, _, _, _, _, _, _, _, _, rfl, l_run_at, c_run_at⟩, PySem.W.mg_of X G a_run_at, k_run_at⟩
  have b_run_at := C8.Fun.binds D_run_at.fn rfl (ps := ["row", "at", "characters"]) fun _ _ _ _ _ _ us hl => match us, hl with | [_, _, _], _ => rfl
  have D_kind_of : Def K mg "kind_of" s_kind_of f_kind_of _ := ⟨⟨_, _, _, _, _, _, _, _, _, _, rfl, l_kind_of, c_kind_of⟩, PySem.W.mg_of X G a_kind_of, k_kind_of⟩
  have b_kind_of := C8.Fun.binds D_kind_of.fn rfl (ps := ["word"]) fun _ _ _ _ _ _ us hl => match us, hl with | [_], _ => rfl
  have D_word_at : Def K mg "word_at" s_word_at f_word_at _ := ⟨⟨_, _, _, _, _, _, _, _, _, _, rfl, l_word_at, c_word_at⟩, PySem.W.mg_of X G a_word_at, k_word_at⟩
  have b_word_at := C8.Fun.binds D_word_at.fn rfl (ps := ["row", "at"]) fun _ _ _ _ _ _ us hl => match us, hl with | [_, _], _ => rfl
  have D_words_in : Def K mg "words_in" s_words_in f_words_in _ := ⟨⟨_, _, _, _, _, _, _, _, _, _, rfl, l_words_in, c_words_in⟩, PySem.W.mg_of X G a_words_in, k_words_in⟩
  have b_words_in := C8.Fun.binds D_words_in.fn rfl (ps := ["row", "number"]) fun _ _ _ _ _ _ us hl => match us, hl with | [_, _], _ => rfl
  have D_words_of : Def K mg "words_of" s_words_of f_words_of _ := ⟨⟨_, _, _, _, _, _, _, _, _, _, rfl, l_words_of, c_words_of⟩, PySem.W.mg_of X G a_words_of, k_words_of⟩
  have b_words_of := C8.Fun.binds D_words_of.fn rfl (ps := ["text"]) fun _ _ _ _ _ _ us hl => match us, hl with | [_], _ => rfl
  have D__law_dice : Def K mg "_law_dice" s__law_dice f__law_dice _ := ⟨⟨_, _, _, _, _, _, _, _, _, _, rfl, l__law_dice, c__law_dice⟩, PySem.W.mg_of X G a__law_dice, k__law_dice⟩
  have b__law_dice := C8.Fun.binds D__law_dice.fn rfl (ps := ["_law_script"]) fun _ _ _ _ _ _ us hl => match us, hl with | [_], _ => rfl
  have D__law_next : Def K mg "_law_next" s__law_next f__law_next _ := ⟨⟨_, _, _, _, _, _, _, _, _, _, rfl, l__law_next, c__law_next⟩, PySem.W.mg_of X G a__law_next, k__law_next⟩
  have b__law_next := C8.Fun.binds D__law_next.fn rfl (ps := ["_law_dice_here", "_law_many"]) fun _ _ _ _ _ _ us hl => match us, hl with | [_, _], _ => rfl
  have D__law_like : Def K mg "_law_like" s__law_like f__law_like _ := ⟨⟨_, _, _, _, _, _, _, _, _, _, rfl, l__law_like, c__law_like⟩, PySem.W.mg_of X G a__law_like, k__law_like⟩
  have b__law_like := C8.Fun.binds D__law_like.fn rfl (ps := ["_law_found", "_law_due"]) fun _ _ _ _ _ _ us hl => match us, hl with | [_, _], _ => rfl
  have D__law_pick : Def K mg "_law_pick" s__law_pick f__law_pick _ := ⟨⟨_, _, _, _, _, _, _, _, _, _, rfl, l__law_pick, c__law_pick⟩, PySem.W.mg_of X G a__law_pick, k__law_pick⟩
  have b__law_pick := C8.Fun.binds D__law_pick.fn rfl (ps := ["_law_d", "_law_some"]) fun _ _ _ _ _ _ us hl => match us, hl with | [_, _], _ => rfl
  have D__law_word : Def K mg "_law_word" s__law_word f__law_word _ := ⟨⟨_, _, _, _, _, _, _, _, _, _, rfl, l__law_word, c__law_word⟩, PySem.W.mg_of X G a__law_word, k__law_word⟩
  have b__law_word := C8.Fun.binds D__law_word.fn rfl (ps := ["_law_d", "_law_used"]) fun _ _ _ _ _ _ us hl => match us, hl with | [_, _], _ => rfl
  have D__law_emit : Def K mg "_law_emit" s__law_emit f__law_emit _ := ⟨⟨_, _, _, _, _, _, _, _, _, _, rfl, l__law_emit, c__law_emit⟩, PySem.W.mg_of X G a__law_emit, k__law_emit⟩
  have b__law_emit := C8.Fun.binds D__law_emit.fn rfl (ps := ["_law_d", "_law_w", "_law_word_here"]) fun _ _ _ _ _ _ us hl => match us, hl with | [_, _, _], _ => rfl
  have D__law_line : Def K mg "_law_line" s__law_line f__law_line _ := ⟨⟨_, _, _, _, _, _, _, _, _, _, rfl, l__law_line, c__law_line⟩, PySem.W.mg_of X G a__law_line, k__law_line⟩
  have b__law_line := C8.Fun.binds D__law_line.fn rfl (ps := ["_law_d", "_law_w"]) fun _ _ _ _ _ _ us hl => match us, hl with | [_, _], _ => rfl
  have D_law : Def K mg "law" s_law f_law _ := ⟨⟨_, _, _, _, _, _, _, _, _, _, rfl, l_law, c_law⟩, PySem.W.mg_of X G a_law, k_law⟩
  have b_law := C8.Fun.binds D_law.fn rfl (ps := ["_law_script"]) fun _ _ _ _ _ _ us hl => match us, hl with | [_], _ => rfl
  have TW : ModsW K mg aS aO := ⟨PySem.W.mg_none_of X G z_len, PySem.W.mg_none_of X G z_enumerate, str_written (PySem.W.mg_of X G gL) lit_letters, str_written (PySem.W.mg_of X G gF) lit_figures, ⟨_, PySem.W.mg_of X G gN, _, rfl⟩,
    ⟨_, PySem.W.mg_of X G gS, rfl⟩, ⟨_, PySem.W.mg_of X G gO, rfl⟩, tup_written lS vS (by decide), tup_written lO vO (by decide)⟩
  have TL : ModsL K mg := ⟨PySem.W.mg_none_of X G z_len, PySem.W.mg_none_of X G z_int, PySem.W.mg_none_of X G z_str, PySem.W.mg_none_of X G z_bool, PySem.W.mg_none_of X G z_tuple, PySem.W.mg_none_of X G z_list, PySem.W.mg_none_of X G z_range, PySem.W.mg_none_of X G z_isinstance⟩
  refine ⟨PySem.W.fnOf "law" "law" (C8.fnArgs s_law) (C8.fnBody s_law) (C8.fnScope s_law) .none kV_law dc_law pm_law an_law cd_law ct_law, fun s v => .of_eq rfl, fun base _ _ => ?_⟩
  have cr := ok_run_at (P := l.prog) (w := w) (base := base) TW D_run_at b_run_at
  have ck := ok_kind_of (P := l.prog) (w := w) (base := base) TW D_kind_of b_kind_of
  have cw := ok_word_at TW cr D_word_at b_word_at
  have ci := ok_words_in TW cw ck D_words_in b_words_in
  have co := ok_words_of TW ci D_words_of b_words_of
  have cd := ok_dice (ok_dice0 (P := l.prog) (w := w) (base := base) TL D__law_dice b__law_dice)
  have cn := ok_next (ok_next0 (P := l.prog) (w := w) (base := base) TL D__law_next b__law_next)
  have cp := ok_pick TL cn D__law_pick b__law_pick
  have cl := ok_like (P := l.prog) (w := w) (base := base) TL D__law_like b__law_like 4
  have cwd := ok_word TL cn D__law_word b__law_word
  have ce := ok_emit TL cn D__law_emit b__law_emit
  have cln := ok_line TL cn cp D__law_line b__law_line
  exact ok_law TL cd cn cp cwd ce cln co cl D_law
theorem scr_of {K : PySem.W.Frag} {H : Hp} {a : Addr} {ns : List Int} (hl : ns.length ≤ 63) (o : Only H) (h : SqL K H a (ns.map V.int)) : Scr K H a ns := by
  refine ⟨hl, fun H' f => ?_⟩
  rcases h with (h | ⟨ob, h⟩) | h
  · rcases o a with z | ⟨ob, xs, z⟩
    · rw [z] at h
      cases h
    · rw [z] at h
      cases h
  · exact .inl (.inr ⟨ob, f a ob _ h⟩)
  · exact .inr h
end Wt
open PySem PySem.W PyProof.Rows
set_option maxRecDepth 100000 in
set_option maxHeartbeats 0 in
theorem PySem.Challenge.cw_wholetongue_k01_words_told_holds : PySem.Challenge.rw_wholetongue_k01_words_told.Holds := by
  w_on; o_law; k_head; (case hw => w_witness2)
  k_fill
  refine L2.walk_of (l := PySem.Challenge.rw_wholetongue_k01_words_told) (n := 63) (k := 5) (x := "_law_script") (CX := fun _ => C8.CX0) (sp := fun w => Wt.spLaw _) rfl (by decide) rfl ⟨rfl, by decide, by decide⟩ (fun w h Y => PySem.W.kIn_of Y) ?F (fun _ _ a ns hl ho hS => ⟨a, ns, rfl, Wt.scr_of hl ho hS, fun _ => rfl⟩) (fun _ _ _ _ _ h => h)
  case F =>
    intro w mg fa h KX G hmg
    refine' Wt.all_mk KX G hmg ?a_run_at ?l_run_at ?c_run_at ?k_run_at ?a_kind_of ?l_kind_of ?c_kind_of ?k_kind_of ?a_word_at ?l_word_at ?c_word_at ?k_word_at ?a_words_in ?l_words_in ?c_words_in ?k_words_in ?a_words_of ?l_words_of ?c_words_of ?k_words_of ?a__law_dice ?l__law_dice ?c__law_dice ?k__law_dice ?a__law_next ?l__law_next ?c__law_next ?k__law_next ?a__law_like ?l__law_like ?c__law_like ?k__law_like ?a__law_pick ?l__law_pick ?c__law_pick ?k__law_pick ?a__law_word ?l__law_word ?c__law_word ?k__law_word ?a__law_emit ?l__law_emit ?c__law_emit ?k__law_emit ?a__law_line ?l__law_line ?c__law_line ?k__law_line ?a_law ?l_law ?c_law ?k_law ?z_len ?z_enumerate ?z_int ?z_str ?z_bool ?z_tuple ?z_list ?z_range ?z_isinstance ?gL ?gF ?gN ?gS ?gO ?lS ?lO ?vS ?vO
    (case a_run_at => k_is); (case l_run_at => k_is); (case c_run_at => k_is); (case k_run_at => k_is)
    (case a_kind_of => k_is); (case l_kind_of => k_is); (case c_kind_of => k_is); (case k_kind_of => k_is)
    (case a_word_at => k_is); (case l_word_at => k_is); (case c_word_at => k_is); (case k_word_at => k_is)
    (case a_words_in => k_is); (case l_words_in => k_is); (case c_words_in => k_is); (case k_words_in => k_is)
    (case a_words_of => k_is); (case l_words_of => k_is); (case c_words_of => k_is); (case k_words_of => k_is)
    (case a__law_dice => k_is); (case l__law_dice => k_is); (case c__law_dice => k_is); (case k__law_dice => k_is)
    (case a__law_next => k_is); (case l__law_next => k_is); (case c__law_next => k_is); (case k__law_next => k_is)
    (case a__law_like => k_is); (case l__law_like => k_is); (case c__law_like => k_is); (case k__law_like => k_is)
    (case a__law_pick => k_is); (case l__law_pick => k_is); (case c__law_pick => k_is); (case k__law_pick => k_is)
    (case a__law_word => k_is); (case l__law_word => k_is); (case c__law_word => k_is); (case k__law_word => k_is)
    (case a__law_emit => k_is); (case l__law_emit => k_is); (case c__law_emit => k_is); (case k__law_emit => k_is)
    (case a__law_line => k_is); (case l__law_line => k_is); (case c__law_line => k_is); (case k__law_line => k_is)
    (case a_law => k_is); (case l_law => k_is); (case c_law => k_is); (case k_law => k_is)
    (case z_len => k_is)
    (case z_enumerate => k_is)
    (case z_int => k_is)
    (case z_str => k_is)
    (case z_bool => k_is)
    (case z_tuple => k_is)
    (case z_list => k_is)
    (case z_range => k_is)
    (case z_isinstance => k_is)
    (case gL => k_is); (case gF => k_is); (case gN => k_is); (case gS => k_is); (case gO => k_is); (case lS => k_is); (case lO => k_is)
    (case vS => decide +kernel); (case vO => decide +kernel)
