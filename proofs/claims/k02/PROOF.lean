import PyProof.Rows.All
import Wide.All
import OpenK.AllK
import Wide.FinOn
import HandS.ForMost
import HandS.Codes
import HandS.Evl
import HandS.IsInst
import KE.GoesEnumKw
import KE.GoesMore
import HandS.SortKw
import HandS.ExcOwn
import HandS.ExcInit
import HandS.ExcField
import HandS.Lambda
import HandS.EndTab
import KE.KNestM
import PySem.Challenge.RW_wholetongue_k02_no_words
set_option Elab.async false
set_option linter.all false
set_option maxRecDepth 100000
/-! What is general: texts as lists of signs, readings of further rules. -/
namespace Wt
open PySem PySem.Spec PyProof.Rows L2 SX Evl

/-! ### texts -/
theorem slice_mid {a : List Nat} {i j : Nat} (h : i ≤ j) (hj : j ≤ a.length) : Txt.slice (S a) (some (i : Int)) (some (j : Int)) = S ((a.drop i).take (j - i)) := by
  have hl : (S a).length = a.length := S_len a
  have e := beq_iff_eq.mp (PyProof.Rows.slice_closesL (x := S a) (i := (i : Int)) (j := (j : Int)) (by omega) (by omega) (by rw [hl]; omega))
  refine e.trans (TL.ext_tl ?_)
  show (a.drop (i : Int).toNat).take ((j : Int) - (i : Int)).toNat = (a.drop i).take (j - i)
  rw [Int.toNat_natCast, show ((j : Int) - (i : Int)).toNat = j - i by omega]
theorem S1 (c : Nat) : (⟨#[c]⟩ : Str) = S [c] := rfl
theorem S_list (a : List Nat) : (S a).cps.toList = a := by simp [S]

/-! ### readings -/
section
variable {K : PySem.W.Frag} {σ : L2.St} {H H' : Hp} {ta tb te tx : TE} {t u : TT} {x y z v : V}
theorem rc_lenS {a : List Nat} (h : a.length ≤ 100000) : RC (fun xs H Q => ∃ z, xs = [.str z] ∧ z.length ≤ sizeLine ∧ Q (.int z.length) H) [.str (S a)] H (.int (a.length : Int)) := fun H1 _ Q q => by
  refine ⟨S a, rfl, ?_, ?_⟩
  · rw [S_len]
    exact sz_of h
  · rw [S_len]
    exact q H1 (Ex.refl H1)
theorem ev_lenS {a : List Nat} (ha : Ev ta σ H (.str (S a))) (h : a.length ≤ 100000) : Ev (tCB (fun xs H Q => ∃ z, xs = [.str z] ∧ z.length ≤ sizeLine ∧ Q (.int z.length) H) (tCons ta tNil)) σ H (.int (a.length : Int)) :=
  ev_cb (ea_cons ha ea_nil) (rc_lenS h)
theorem rv_inSign {c : Nat} {w : List Nat} : RV (fun x y H Q => ∃ (c : Nat) (z : Str), x = .str ⟨#[c]⟩ ∧ y = .str z ∧ Q (.bl (decide (c ∈ z.cps.toList))) H) (.str (S [c])) (.str (S w)) H (.bl (decide (c ∈ w))) := fun H1 _ Q q => by
  refine ⟨c, S w, rfl, rfl, ?_⟩
  rw [S_list]
  exact q H1 (Ex.refl H1)
/-- a text's sign -/
theorem rv_at {w : List Nat} {i : Nat} {c : Nat} (h : w.length ≤ 100000) (ha : w[i]? = some c) : RV rIxS (.str (S w)) (.int (i : Int)) H (.str (S [c])) := fun H1 _ Q q =>
  ⟨S w, (i : Int), c, rfl, rfl, by rw [S_len]; exact sz_of h, by rw [S_list]; exact atI_nat ha, q H1 (Ex.refl H1)⟩
theorem ev_sl {te : TE} {tl th : TO} {a : List Nat} {i j : Nat} (h : Ev te σ H (.str (S a))) (h1 : EvO tl σ H (some (i : Int))) (h2 : EvO th σ H (some (j : Int))) (hl : a.length ≤ 100000) (hi : i ≤ j) (hj : j ≤ a.length) :
    Ev (tSl C8.rSlX te tl th) σ H (.str (S ((a.drop i).take (j - i)))) := fun H1 e Q q =>
  h H1 e _ fun H2 e2 => h1 H2 (e.trans e2) _ fun H3 e3 => h2 H3 ((e.trans e2).trans e3) _ fun H4 e4 => by
    refine ⟨S a, rfl, ?_, ?_⟩
    · rw [S_len]
      exact sz_of hl
    · rw [slice_mid hi hj]
      exact q H4 ((e2.trans e3).trans e4)
end
end Wt

set_option Elab.async false
set_option linter.all false
set_option maxRecDepth 100000
set_option maxHeartbeats 4000000
/-! Rules of ours: enumerate from a start, dict.update, a text many times. -/
namespace Wt
open PySem PySem.Spec PyProof.Rows L2 SX Evl

theorem bt_int : bootBuiltins "int" = some (.type "int") := by decide +kernel
theorem bt_str : bootBuiltins "str" = some (.type "str") := by decide +kernel
theorem bt_bool : bootBuiltins "bool" = some (.type "bool") := by decide +kernel
theorem bt_list : bootBuiltins "list" = some (.type "list") := by decide +kernel
theorem bt_tuple : bootBuiltins "tuple" = some (.type "tuple") := by decide +kernel
theorem bt_enum : bootBuiltins "enumerate" = some (.type "enumerate") := by decide +kernel
theorem bt_isinstance : bootBuiltins "isinstance" = some (.builtin "isinstance") := by decide +kernel

/-! ### d.update(e) -/
def rDUpd : V → List V → Hp → VK → Prop := fun x vs H Q =>
  ∃ (a b : Addr) (ks ls : List (Key × V)), x = .ref a ∧ vs = [.ref b] ∧ a ≠ b ∧ H a = some (.dK ks) ∧ H b = some (.dK ls) ∧ ks.length + ls.length ≤ sizeLine ∧
    Q .non (upd H a (.dK (mergeK ks ls)))
theorem mt_dupdate {X : Cx} : MtR X "dict.update" rDUpd := by
  intro pins s σ H x vs v us Q I rx rv hyp
  obtain ⟨a, b, ks, ls, rfl, rfl, hab, ea, eb, hz, q⟩ := hyp
  obtain rfl : v = Value.ref a := rx
  obtain ⟨u, rfl, ru⟩ := rv.one
  obtain rfl : u = Value.ref b := ru
  obtain ⟨za, ha, va, ra, da⟩ := dk_of I.hok ea
  obtain ⟨zb, hb, vb, rb, db⟩ := dk_of I.hok eb
  have hsum : va.length + vb.length ≤ sizeLine := by
    rw [← ra.length, ← rb.length]
    exact hz
  refine call_meetsIn PySem.F.slot_dict_update da.typeIs PySem.F.entry_dict_update (PySem.F.args_dict_update_2 _ _)
    (meets_dict_update (mixKind X.prog X.w) a b hab hb) ⟨va, vb, da, db, hsum, fun h2 dd2 _ hs => ?_⟩
  have there : ∃ q, h2.get? a = some q := by
    obtain ⟨q, _, _, hq, _⟩ := dd2
    exact ⟨q, hq⟩
  have hl : (mergeK ks ls).length ≤ sizeLine := Nat.le_trans (length_mergeK ls ks) hz
  exact ⟨.non, _, d_write (t' := s.toks) I (by rw [ea]; exact True.intro) hs there (dk_new hl ha (KV.merge rb ra) dd2), rfl, q⟩

/-! ### a text many times -/
theorem mul_S {a : List Nat} {k : Nat} : Txt.mul (S a) (k : Int) = S (List.replicate k a).flatten := by
  unfold Txt.mul
  by_cases h0 : (k : Int) < 1
  · have e : k = 0 := by omega
    subst e
    rw [if_pos (by decide)]
    rfl
  · rw [if_neg h0]
    by_cases h1 : ((k : Int) == 1 || (S a).length == 0) = true
    · rw [if_pos h1]
      rw [Bool.or_eq_true] at h1
      rcases h1 with h1 | h1
      · have e : k = 1 := by
          have := eq_of_beq h1
          omega
        subst e
        show S a = S (a ++ [])
        rw [List.append_nil]
      · have e : a = [] := by
          have := eq_of_beq h1
          rw [S_len] at this
          exact List.length_eq_zero_iff.mp this
        subst e
        refine congrArg S ?_
        have : ∀ n : Nat, (List.replicate n ([] : List Nat)).flatten = [] := fun n => by
          induction n with
          | zero => rfl
          | succ n ih => rw [List.replicate_succ, List.flatten_cons, ih] <;> rfl
        rw [this]
    · rw [if_neg h1]
      have go : ∀ (n : Nat) (acc : List Nat), (List.replicate n (S a).cps).foldl (· ++ ·) acc.toArray = (acc ++ (List.replicate n a).flatten).toArray := fun n => by
        induction n with
        | zero =>
          intro acc
          show acc.toArray = (acc ++ []).toArray
          rw [List.append_nil]
        | succ n ih =>
          intro acc
          rw [List.replicate_succ, List.replicate_succ, List.foldl_cons, List.flatten_cons]
          have e : acc.toArray ++ (S a).cps = (acc ++ a).toArray := by simp [S]
          rw [e, ih, List.append_assoc]
      have e2 := go ((k : Int).toNat) []
      rw [Int.toNat_natCast] at e2 ⊢
      have e3 : (List.replicate k (S a).cps).foldl (· ++ ·) #[] = ((List.replicate k a).flatten).toArray := by
        refine Eq.trans ?_ (e2.trans ?_)
        · rfl
        · rw [List.nil_append]
      rw [e3]
def rRepS : R2 := fun x y H Q => ∃ (a : List Nat) (k : Nat), x = .str (S a) ∧ y = .int (k : Int) ∧ a.length ≤ 16 ∧ k ≤ 100000 ∧ Q (.str (S (List.replicate k a).flatten)) H
theorem op_rep_str {X : Cx} : OpR X (binaryOp .Mult) rRepS := by
  intro pins s σ H x y v u Q I rx ry hyp
  obtain ⟨a, k, rfl, rfl, ha, hk, q⟩ := hyp
  obtain ⟨t, rfl⟩ := rx
  obtain ⟨t2, rfl⟩ := ry
  refine SB.mul (mulOk_of 16 100000 (by rw [S_len]; exact ha) (by omega) (by omega) (by decide) (by decide)) fun t3 k3 => ?_
  rw [mul_S]
  exact ⟨.str (S (List.replicate k a).flatten), H, I.tok _, ⟨_, rfl⟩, q⟩

/-! ### enumerate(xs, start=k) -/
/-- the list at a as it stands at each turn, each item behind its number, from k on -/
def Itk0 (K : PySem.W.Frag) (a : Addr) (k : Int) : It where
  go := fun i H => ∃ (xs : List V) (x : V), SqL K H a xs ∧ xs[i]? = some x
  yld := fun i H v H' => ∃ (T : Addr) (x : V), v = .ref T ∧ H T = none ∧ H' = upd H T (.tup [.int (k + (i : Nat)), x]) ∧ ∀ xs, SqL K H a xs → xs[i]? = some x
  stop := fun i H => ∃ xs : List V, SqL K H a xs ∧ xs.length ≤ i
theorem turn_from {P : Program} {w : World} {K : PySem.W.Frag} {elts : List Expr} {kk : Nat} {tpos : Pos} (a e it : Addr) (k : Int) (hai : a ≠ it) (hae : a ≠ e) :
    Turn P w K (.Tuple elts kk tpos) (Itk0 K a k) [e, it] e (fun i h => (∃ old, IsEnum h e it (k + (i : Nat)) old) ∧ h.IsListIter it a i ∧ e ≠ it) where
  mem := List.mem_cons_self ..
  obj := by
    rintro i h ⟨⟨old, he⟩, ⟨o, ho, hc, hd⟩, _⟩ b hb
    rcases List.mem_cons.mp hb with rfl | hb
    · exact ⟨_, he, fun v q => nomatch q⟩
    · rw [List.mem_singleton.mp hb]
      exact ⟨o, ho, fun v q => by rw [hd] at q; cases q⟩
  keep := by
    rintro i h h2 ⟨⟨old, he⟩, hi, hne⟩ kp
    exact ⟨⟨old, kp e (List.mem_cons_self ..) _ he⟩, hi.at fun o q => kp it (List.mem_cons_of_mem _ (List.mem_singleton.mpr rfl)) o q, hne⟩
  item := by
    intro X hP hw hK hc i pins s σ H E I hf st hg
    subst hP hw hK
    obtain ⟨⟨old, he⟩, hit, hne⟩ := st
    obtain ⟨xs, x, hq, hx⟩ := hg
    obtain ⟨its, rv, p, hz⟩ := I.list hq
    obtain ⟨u, hu, ru⟩ := rv.get hx
    have hel : e < s.heap.objs.size := Heap.lt_size he
    have hil : it < s.heap.objs.size := by
      obtain ⟨_, q, _⟩ := hit
      exact Heap.lt_size q
    have hlt : i < its.toArray.size := by
      have := (List.getElem?_eq_some_iff.mp hu).1
      rw [List.size_toArray]
      exact this
    refine wpAny_pyNext_enum_itemC (Draws.list (prog := X.prog) (w := X.w) (A := X.A.in1) (show X.A.in1.handled = none from I.ok.hd hc) it a hai its.toArray) he ⟨hit, p.isList⟩ hlt hne (fun m => ?_) fun y h2 tk hy ho st2 hT hsz hk => ?_
    · rcases List.mem_cons.mp m with z | z
      · exact hne z
      · exact hae (List.mem_singleton.mp z).symm
    have hyu : y = u := by
      have z : its[i]? = some y := by simpa using hy
      rw [hu] at z
      exact (Option.some.inj z).symm
    subst hyu
    refine ⟨_, rfl, wpAny_letOwnedTupleGo_enum (s := { s with heap := h2, toks := tk + 1 }) ho fun h3 he3 sb => ?_⟩
    have hT2 := (sb.2 s.heap.objs.size (Nat.ne_of_gt hel)).trans hT
    have new : ObjOk X.prog X.w (upd H s.heap.objs.size (.tup [.int (k + (i : Nat)), x])) h3 s.heap.objs.size (.tup [.int (k + (i : Nat)), x]) :=
      ⟨by show 2 ≤ sizeLine; decide, [.int (k + (i : Nat)) tk, y], .cons ⟨_, rfl⟩ (.cons ru .nil), ⟨_, hT2, rfl, _, rfl⟩⟩
    have I1 := I.turnedNew (h' := h3) (t' := tk + 1) (ch := [e, it]) (fun b ob hb q => by
      have n1 : b ≠ e := fun z => hb (z ▸ List.mem_cons_self ..)
      have n2 : b ≠ it := fun z => hb (z ▸ List.mem_cons_of_mem _ (List.mem_singleton.mpr rfl))
      exact (sb.2 b n1).trans (hk b ob n1 n2 q)) hf (Nat.le_refl _) new
    refine ⟨.ref s.heap.objs.size, _, I1, rfl, ⟨_, x, rfl, I.hok.fresh (Nat.le_refl _), rfl, fun ys hy2 => ?_⟩, ⟨⟨y, ?_⟩, ?_, hne⟩, fun b hb => ?_⟩
    · rw [I.list_inj hy2 hq]
      exact hx
    · have e1 : k + ((i + 1 : Nat) : Int) = k + (i : Int) + 1 := by omega
      rw [e1]
      exact he3
    · exact st2.1.at fun o q => (sb.2 it (Ne.symm hne)).trans q
    · have hb2 : b < s.heap.objs.size := by
        rcases List.mem_cons.mp hb with rfl | z
        · exact hel
        · rw [List.mem_singleton.mp z]
          exact hil
      rw [upd_ne (Nat.ne_of_lt hb2)]
      exact (hf b hb).1
  done := by
    intro X hP hw hK hc i pins s σ H E I hf st hg
    subst hP hw hK
    obtain ⟨⟨old, he⟩, hit, hne⟩ := st
    obtain ⟨xs, hq, hx⟩ := hg
    obtain ⟨its, rv, p, hz⟩ := I.list hq
    obtain ⟨f0, f1, f2, f3, f4, f5⟩ := hf it (List.mem_cons_of_mem _ (List.mem_singleton.mpr rfl))
    have hl := rv.length
    have hT : s.TypeIs (.ref e) "enumerate" := ⟨_, he, rfl⟩
    have hnone : its.toArray[i]? = none := by
      simp
      omega
    unfold pyNext
    refine wpAny_bind (wpAny_attempt (wpAny_callSpecial?_slot (name := Str.ofString "__next__") hT PySem.F.slot_enumerate_next
      (wpAny_call_entry PySem.F.slot_enumerate_next hT PySem.F.entry_enumerate_next ?_ (PySem.F.args_enumerate_next_1 _))))
    show wpAny _ _ (field (.ref e) 2 >>= _) _ _ _
    refine wpAny_bind (wpAny_field he rfl (x := .ref it) rfl (wpAny_bind (wpAny_nextOf_list_end (I.ok.hd hc) hit p.isList hnone fun h2 x2 hE2 hx2 => ?_)))
    obtain ⟨o2, ho2, hc2⟩ := hx2
    exact wpAny_bind (wpAny_isInstance (T := "StopIteration") (b := true) ⟨o2, ho2, hc2⟩ isSubtype_stop
      (wpAny_pure ⟨rfl, I.turned (t' := s.toks) (fun b o hb q => hE2 b o hb q) f0 f1 f3 f4 f5⟩))
  self := by
    rintro A i s Q E ⟨⟨_, he⟩, _⟩ h
    exact wpAny_pyIter_enum he h
/-- a built-in class called with keywords -/
theorem callWith_tyKw {M : Model} {A : Around} {E : Value → Shared → Prop} {s : Shared} {env : Env} {pos : Pos} {T : String} {e : Expr} {rest : List Expr} {kws : List Keyword} {Q : Value → Shared → Prop}
    (h : wpAny M A (spliced (backTo pos (starEach (e :: rest) env))) (fun vs s1 => wpAny M A (evalAll ((backToKw pos (keywordEach kws env)).map (·.2)))
      (fun ks s2 => wpAny M A (call (.type T) vs (((backToKw pos (keywordEach kws env)).filterMap (·.1)).zip ks)) Q E s2) E s1) E s)
    (he : backTo pos (starEach (e :: rest) env) = (false, eval e env) :: backTo pos (starEach rest env) := by rfl)
    (hpl : (backTo pos (starEach (e :: rest) env)).any (·.1) = false := by rfl)
    (hall : (backToKw pos (keywordEach kws env)).all (·.1.isSome) = true := by rfl)
    (hkw : (backToKw pos (keywordEach kws env)).any (·.1.isNone) = false := by rfl) :
    wpAny M A (callWith pos (.type T) [] (backTo pos (starEach (e :: rest) env)) (backToKw pos (keywordEach kws env))) Q E s := by
  unfold callWith
  have h2 : wpAny M A (evalArgs (.type T) true (backTo pos (starEach (e :: rest) env)) (backToKw pos (keywordEach kws env))) (fun a s1 => wpAny M A (call (.type T) a.pos a.kw) Q E s1) E s := by
    rw [he] at h ⊢
    exact evalArgs_kwB hall h
  refine wpAny_bind (wpAny_holding (wpAny_mono h2 (fun a s1 h1 => wpAny_bind (wpAny_standAt ?_)) fun _ _ x => x))
  rw [hpl, hkw]
  refine wpAny_bind (wpAny_pure ?_)
  refine wpAny_bind (wpAny_mono h1 (fun r s2 hr => ?_) fun _ _ x => x)
  exact wpAny_bind (wpAny_holding (wpAny_point (wpAny_pure hr)))
def iFrom (K : PySem.W.Frag) (k : Int) (ta : TA) : TI := fun σ H R => ta σ H fun vs H1 => ∃ a xs, vs = [.ref a] ∧ SqL K H1 a xs ∧ R (Itk0 K a k) H1
theorem pi_enumS {X : Cx} {e : Expr} {ta : TA} {p pos tpos p1 p2 : Pos} {elts : List Expr} {kk j : Nat} {k : Int} (hg : Gl X "enumerate") (hm : X.mg "enumerate" = none) (ha : PA X [e] ta)
    (hk0 : -(2 ^ 63) ≤ k := by decide) (hk1 : k < 2 ^ 63 := by decide)
    (he : backTo pos (starEach [e] X.env) = (false, eval e X.env) :: backTo pos (starEach [] X.env) := by rfl) (hpl : (backTo pos (starEach [e] X.env)).any (·.1) = false := by rfl)
    (hall : (backToKw pos (keywordEach [⟨some "start", .Constant (.int k) j p1, p2⟩] X.env)).all (·.1.isSome) = true := by rfl)
    (hkw : (backToKw pos (keywordEach [⟨some "start", .Constant (.int k) j p1, p2⟩] X.env)).any (·.1.isNone) = false := by rfl)
    (hks : (backToKw pos (keywordEach [⟨some "start", .Constant (.int k) j p1, p2⟩] X.env)).filterMap (·.1) = [Str.ofString "start"] := by rfl) :
    PI X (.Tuple elts kk tpos) (.Call (.Name "enumerate" p) [e] [⟨some "start", .Constant (.int k) j p1, p2⟩] pos) (iFrom X.K k ta) := by
  refine ⟨fun pins s σ H R I h => wpAny_Call_Name_kw (ld_blt I hg hm bt_enum ?_ (by decide))⟩
  refine callWith_tyKw (thn (ha.run pos pins s σ H _ I h) fun us s1 ⟨vs, H1, I1, r1, q1⟩ => ?_) he hpl hall hkw
  refine thn ((pk_cons (pe_int (X := X) (pos := p1) (j := j) (i := k)) pk_nil).run pos pins s1 σ H1 (fun zs H2 => zs = [.int k] ∧ H2 = H1) I1 ⟨rfl, rfl⟩) fun ws s2 ⟨zs, H2, I2, r2, q2⟩ => ?_
  rw [hks]
  obtain ⟨rfl, rfl⟩ := q2
  obtain ⟨a, xs, rfl, hq, q⟩ := q1
  obtain ⟨u, rfl, ru⟩ := r1.one
  cases ru
  obtain ⟨u2, rfl, t2, rfl⟩ := r2.one
  obtain ⟨its, rv, p3, hz⟩ := I2.list hq
  refine enum_begins_start (begins_list a its.toArray) p3.isList hk0 hk1 fun h2 he2 hit hsz hk => wpAny_pyIter_enum he2 ?_
  have I3 : Inv X pins σ H2 { s2 with heap := h2 } := I2.kept (t' := s2.toks) hk
  have hal : a < s2.heap.objs.size := by
    obtain ⟨o, n, ho, _⟩ := p3
    exact Heap.lt_size ho
  refine ⟨s2.heap.objs.size + 1, [s2.heap.objs.size + 1, s2.heap.objs.size], _, _, H2, rfl, I3,
    turn_from a (s2.heap.objs.size + 1) s2.heap.objs.size k (Nat.ne_of_lt hal) (Nat.ne_of_lt (Nat.lt_succ_of_lt hal)), ⟨⟨.none, ?_⟩, ⟨_, hit, rfl, rfl⟩, Nat.succ_ne_self _⟩, fun b hb => ?_, q⟩
  · show IsEnum h2 (s2.heap.objs.size + 1) s2.heap.objs.size (k + ((0 : Nat) : Int)) .none
    rw [show k + ((0 : Nat) : Int) = k by omega]
    exact he2
  · have hle : s2.heap.objs.size ≤ b := by
      rcases List.mem_cons.mp hb with rfl | z
      · exact Nat.le_succ _
      · rw [List.mem_singleton.mp z]
        exact Nat.le_refl _
    exact I2.fpOk hle (I2.hok.fresh hle)
/-- a walk of it by its invariant -/
theorem for_from {K : PySem.W.Frag} {a : Addr} {xs : List V} {k : Int} {g : TG} {tb : TS} {D : Ends} {σ : L2.St} {H : Hp} (Pv : Nat → L2.St → Hp → Prop) (h0 : Pv 0 σ H) (hl : ∀ i σ H, i ≤ xs.length → Pv i σ H → SqL K H a xs)
    (hs : ∀ i x T σ H, xs[i]? = some x → Pv i σ H → H T = none → g (.ref T) σ (upd H T (.tup [.int (k + (i : Nat)), x])) fun σ2 H2 => tb { D with nx := Pv (i + 1), ct := Pv (i + 1), bk := D.nx } σ2 H2)
    (hd : ∀ σ H, Pv xs.length σ H → D.nx σ H) :
    ∃ W : Nat → Nat → L2.St → Hp → Prop, (∃ m, W 0 m σ H) ∧ ∀ i m σ H, W i m σ H →
      ((Itk0 K a k).stop i H ∧ D.nx σ H) ∨ ((Itk0 K a k).go i H ∧ ∃ N : L2.St → Hp → Prop, (∀ σ' H', N σ' H' → ∃ m', m' < m ∧ W (i + 1) m' σ' H') ∧
        ∀ x H', (Itk0 K a k).yld i H x H' → g x σ H' fun σ2 H2 => tb { D with nx := N, ct := N, bk := D.nx } σ2 H2) := by
  refine ⟨fun i m σ H => i + m = xs.length ∧ Pv i σ H, ⟨xs.length, by omega, h0⟩, ?_⟩
  rintro i m σ H ⟨hm, p⟩
  have hq := hl i σ H (by omega) p
  by_cases hi : i < xs.length
  · have hx : xs[i]? = some xs[i] := List.getElem?_eq_getElem hi
    refine .inr ⟨⟨xs, _, hq, hx⟩, fun σ' H' => Pv (i + 1) σ' H', fun σ' H' p2 => ⟨m - 1, by omega, by omega, p2⟩, ?_⟩
    rintro v H' ⟨T, x, rfl, hT, rfl, hf⟩
    exact hs i x T σ H (hf xs hq) p hT
  · have e : i = xs.length := by omega
    subst e
    exact .inl ⟨⟨xs, hq, Nat.le_refl _⟩, hd σ H p⟩
end Wt

set_option Elab.async false
set_option linter.all false
set_option maxRecDepth 100000
set_option maxHeartbeats 4000000
/-! Data; values that are not known but by what is true of them; the dice. -/
namespace Wt
open PySem PySem.Spec PyProof.Rows L2 SX Evl

/-! ### data -/
mutual
theorem Dp.ex {K : PySem.W.Frag} {H H' : Hp} (e : Ex H H') : ∀ (d : PyData) (v : V), Dp K H v d → Dp K H' v d
  | .none, _, h => by
    cases h
    exact .non
  | .bool b, _, h => by
    cases h
    exact .bl b
  | .int i, _, h => by
    cases h
    exact .int i
  | .str x, _, h => by
    cases h
    exact .str x
  | .list ds, _, h => by
    cases h with
    | lst h1 h2 => exact .lst (ex_l e h1) (DpAll.ex e ds _ h2)
  | .tuple ds, _, h => by
    cases h with
    | tup h1 h2 => exact .tup (ex_t e h1) (DpAll.ex e ds _ h2)
  | .dict kvs, _, h => by cases h
theorem DpAll.ex {K : PySem.W.Frag} {H H' : Hp} (e : Ex H H') : ∀ (ds : List PyData) (vs : List V), DpAll K H vs ds → DpAll K H' vs ds
  | [], _, h => by
    cases h
    exact .nil
  | d :: ds, _, h => by
    cases h with
    | cons h1 h2 => exact .cons (Dp.ex e d _ h1) (DpAll.ex e ds _ h2)
end
theorem dpa_len {K : PySem.W.Frag} {H : Hp} : ∀ {vs : List V} {ds : List PyData}, DpAll K H vs ds → vs.length = ds.length
  | _, _, .nil => rfl
  | _, _, .cons _ h => congrArg (· + 1) (dpa_len h)
theorem dpa_get {K : PySem.W.Frag} {H : Hp} : ∀ {vs : List V} {ds : List PyData} {i : Nat}, DpAll K H vs ds → i < ds.length → ∃ v d, vs[i]? = some v ∧ ds[i]? = some d ∧ Dp K H v d
  | _, _, _, .nil, h => absurd h (Nat.not_lt_zero _)
  | _, _, 0, .cons h _, _ => ⟨_, _, rfl, rfl, h⟩
  | _, _, i + 1, .cons _ t, h => by
    obtain ⟨v, d, h1, h2, h3⟩ := dpa_get t (i := i) (Nat.lt_of_succ_lt_succ h)
    exact ⟨v, d, h1, h2, h3⟩
theorem dpa_app {K : PySem.W.Frag} {H : Hp} : ∀ {vs : List V} {ds : List PyData} {us : List V} {es : List PyData}, DpAll K H vs ds → DpAll K H us es → DpAll K H (vs ++ us) (ds ++ es)
  | _, _, _, _, .nil, h => h
  | _, _, _, _, .cons h t, g => .cons h (dpa_app t g)
theorem dpa_snoc {K : PySem.W.Frag} {H : Hp} {vs : List V} {ds : List PyData} {v : V} {d : PyData} (h : DpAll K H vs ds) (g : Dp K H v d) : DpAll K H (vs ++ [v]) (ds ++ [d]) := dpa_app h (.cons g .nil)

/-- what stands in tuples alone: it stays whatever else changes -/
def Tx (H H' : Hp) : Prop := ∀ a xs, H a = some (.tup xs) → H' a = some (.tup xs)
theorem Tx.refl (H : Hp) : Tx H H := fun _ _ h => h
theorem Tx.trans {H H1 H2 : Hp} (a : Tx H H1) (b : Tx H1 H2) : Tx H H2 := fun x xs h => b x xs (a x xs h)
theorem Tx.of {H H' : Hp} (e : Ex H H') : Tx H H' := fun a xs h => e a _ h
theorem Tx.lst {H : Hp} {l : Addr} {xs ys : List V} (h : H l = some (.lst xs)) : Tx H (upd H l (.lst ys)) := fun a zs q => by
  rw [upd_ne (ne_of q h (by intro z; cases z))]
  exact q
theorem Tx.dK {H : Hp} {l : Addr} {ks ls : List (Key × V)} (h : H l = some (.dK ks)) : Tx H (upd H l (.dK ls)) := fun a zs q => by
  rw [upd_ne (ne_of q h (by intro z; cases z))]
  exact q
mutual
inductive Td (H : Hp) : V → PyData → Prop
  | non : Td H .non .none
  | bl (b : Bool) : Td H (.bl b) (.bool b)
  | int (i : Int) : Td H (.int i) (.int i)
  | str (x : Str) : Td H (.str x) (.str x)
  | tup {a : Addr} {xs : List V} {ds : List PyData} : H a = some (.tup xs) → TdAll H xs ds → Td H (.ref a) (.tuple ds)
inductive TdAll (H : Hp) : List V → List PyData → Prop
  | nil : TdAll H [] []
  | cons {v : V} {vs : List V} {d : PyData} {ds : List PyData} : Td H v d → TdAll H vs ds → TdAll H (v :: vs) (d :: ds)
end
mutual
theorem Td.tx {H H' : Hp} (e : Tx H H') : ∀ (d : PyData) (v : V), Td H v d → Td H' v d
  | .none, _, h => by
    cases h
    exact .non
  | .bool b, _, h => by
    cases h
    exact .bl b
  | .int i, _, h => by
    cases h
    exact .int i
  | .str x, _, h => by
    cases h
    exact .str x
  | .list ds, _, h => by cases h
  | .tuple ds, _, h => by
    cases h with
    | tup h1 h2 => exact .tup (e _ _ h1) (TdAll.tx e ds _ h2)
  | .dict kvs, _, h => by cases h
theorem TdAll.tx {H H' : Hp} (e : Tx H H') : ∀ (ds : List PyData) (vs : List V), TdAll H vs ds → TdAll H' vs ds
  | [], _, h => by
    cases h
    exact .nil
  | d :: ds, _, h => by
    cases h with
    | cons h1 h2 => exact .cons (Td.tx e d _ h1) (TdAll.tx e ds _ h2)
end
mutual
theorem Td.dp {K : PySem.W.Frag} {H : Hp} : ∀ (d : PyData) (v : V), Td H v d → Dp K H v d
  | .none, _, h => by
    cases h
    exact .non
  | .bool b, _, h => by
    cases h
    exact .bl b
  | .int i, _, h => by
    cases h
    exact .int i
  | .str x, _, h => by
    cases h
    exact .str x
  | .list ds, _, h => by cases h
  | .tuple ds, _, h => by
    cases h with
    | tup h1 h2 => exact .tup (st_of h1) (TdAll.dp ds _ h2)
  | .dict kvs, _, h => by cases h
theorem TdAll.dp {K : PySem.W.Frag} {H : Hp} : ∀ (ds : List PyData) (vs : List V), TdAll H vs ds → DpAll K H vs ds
  | [], _, h => by
    cases h
    exact .nil
  | d :: ds, _, h => by
    cases h with
    | cons h1 h2 => exact .cons (Td.dp d _ h1) (TdAll.dp ds _ h2)
end
theorem TdAll.app {H : Hp} : ∀ {vs : List V} {ds : List PyData} {us : List V} {es : List PyData}, TdAll H vs ds → TdAll H us es → TdAll H (vs ++ us) (ds ++ es)
  | _, _, _, _, .nil, h => h
  | _, _, _, _, .cons h t, g => .cons h (t.app g)
theorem TdAll.snoc {H : Hp} {vs : List V} {ds : List PyData} {v : V} {d : PyData} (h : TdAll H vs ds) (g : Td H v d) : TdAll H (vs ++ [v]) (ds ++ [d]) := h.app (.cons g .nil)
theorem TdAll.len {H : Hp} : ∀ {vs : List V} {ds : List PyData}, TdAll H vs ds → vs.length = ds.length
  | _, _, .nil => rfl
  | _, _, .cons _ h => congrArg (· + 1) h.len

/-! ### a value that is known by what is true of it -/
def EvN (te : TE) (σ : L2.St) (H : Hp) (P : V → Prop) : Prop := ∀ H1, Ex H H1 → ∀ Q : VK, (∀ v H2, P v → Ex H1 H2 → Q v H2) → te σ H1 Q
def SpN (sp : Sp) (vs : List V) (H : Hp) (P : V → Prop) : Prop := ∀ H1, Ex H H1 → ∀ Q : VK, (∀ v H2, P v → Ex H1 H2 → Q v H2) → ∀ E : XK, sp vs H1 Q E
def EvTN (tt : TT) (σ : L2.St) (H : Hp) (P : Bool → Prop) : Prop := ∀ H1, Ex H H1 → ∀ Q : Bool → Hp → Prop, (∀ b H2, P b → Ex H1 H2 → Q b H2) → tt σ H1 Q
section
variable {K : PySem.W.Frag} {σ : L2.St} {H H' : Hp} {ta tb te tx : TE} {t u : TT} {x y z v : V} {r : R2} {P P2 : V → Prop}
theorem EvN.of (h : Ev te σ H v) : EvN te σ H (· = v) := fun H1 e Q q => h H1 e Q fun H2 e2 => q v H2 rfl e2
theorem EvN.mono (e : Ex H H') (h : EvN te σ H P) : EvN te σ H' P := fun H1 e1 Q q => h H1 (e.trans e1) Q q
theorem EvN.imp (h : EvN te σ H P) (i : ∀ v, P v → P2 v) : EvN te σ H P2 := fun H1 e Q q => h H1 e Q fun v H2 p e2 => q v H2 (i v p) e2
theorem EvN.one (h : EvN te σ H P) (i : ∀ w, P w → w = v) : Ev te σ H v := fun H1 e Q q => h H1 e Q fun w H2 p e2 => by
  rw [i w p]
  exact q H2 e2
theorem en_op (ha : EvN ta σ H P) (hb : ∀ x, P x → EvN tb σ H P2) {P3 : V → Prop} (hr : ∀ x y H1, P x → P2 y → Ex H H1 → ∀ Q : VK, (∀ z H2, P3 z → Ex H1 H2 → Q z H2) → r x y H1 Q) : EvN (tOp r ta tb) σ H P3 := fun H1 e Q q =>
  ha H1 e _ fun x H2 px e2 => hb x px H2 (e.trans e2) _ fun y H3 py e3 => hr x y H3 px py ((e.trans e2).trans e3) Q fun z H4 pz e4 => q z H4 pz ((e2.trans e3).trans e4)
/-- both operands, then a value -/
theorem en_opV (ha : EvN ta σ H P) (hb : ∀ x, P x → EvN tb σ H P2) {P3 : V → Prop} (hr : ∀ x y, P x → P2 y → ∃ z, P3 z ∧ RV r x y H z) : EvN (tOp r ta tb) σ H P3 := en_op ha hb fun x y H1 px py e Q q => by
  obtain ⟨z, pz, rz⟩ := hr x y px py
  exact rz H1 e Q fun H2 e2 => q z H2 pz e2
theorem en_call {sp : Sp} {dvs vs : List V} {E : XK} {ta : TA} (h : EvA ta σ H vs) (hs : SpN sp (vs ++ dvs) H P) : EvN (tCall sp dvs E ta) σ H P := fun H1 e Q q =>
  h H1 e _ fun H2 e2 => hs H2 (e.trans e2) Q (fun v H3 p e3 => q v H3 p (e2.trans e3)) E
theorem etn_test (h : EvN te σ H P) {B : Bool → Prop} (i : ∀ v, P v → ∃ b, v = .bl b ∧ B b) : EvTN (tTest te) σ H B := fun H1 e Q q => h H1 e _ fun v H2 p e2 => by
  obtain ⟨b, rfl, pb⟩ := i v p
  exact ⟨b, rfl, q b H2 pb e2⟩
theorem en_if {b : Bool} (h : EvT t σ H b) (h1 : b = true → EvN ta σ H P) (h2 : b = false → EvN tb σ H P) : EvN (tIf t ta tb) σ H P := fun H1 e Q q => h H1 e _ fun H2 e2 => by
  cases b with
  | true =>
    show ta σ H2 Q
    exact h1 rfl H2 (e.trans e2) Q fun v H3 p e3 => q v H3 p (e2.trans e3)
  | false =>
    show tb σ H2 Q
    exact h2 rfl H2 (e.trans e2) Q fun v H3 p e3 => q v H3 p (e2.trans e3)
variable {D : Ends} {tu tw tz : TS} {g : TG}
theorem sn_asg {i : Nat} (h : EvN te σ H P) (k : ∀ v H1, P v → Ex H H1 → D.nx (σ.set i (some v)) H1) : tAsg te (gName i) D σ H := h H (Ex.refl H) _ fun v H1 p e => k v H1 p e
theorem qn_asg {i : Nat} (h : EvN te σ H P) (k : ∀ v H1, P v → Ex H H1 → tz D (σ.set i (some v)) H1) : tSeq (tAsg te (gName i)) tz D σ H := sn_asg (D := { D with nx := tz D }) h k
theorem sn_ret (h : EvN te σ H P) (k : ∀ v H1, P v → Ex H H1 → D.rt v H1) : tRet te D σ H := h H (Ex.refl H) _ k
theorem sn_if (h : EvTN t σ H B) (h1 : B true → ∀ H1, Ex H H1 → tu D σ H1) (h2 : B false → ∀ H1, Ex H H1 → tw D σ H1) : tIfS t tu tw D σ H := h H (Ex.refl H) _ fun b H1 p e => by
  cases b with
  | true =>
    show tu D σ H1
    exact h1 p H1 e
  | false =>
    show tw D σ H1
    exact h2 p H1 e
theorem qn_if (h : EvTN t σ H B) (h1 : B true → ∀ H1, Ex H H1 → tu { D with nx := tz D } σ H1) (h2 : B false → ∀ H1, Ex H H1 → tw { D with nx := tz D } σ H1) : tSeq (tIfS t tu tw) tz D σ H := sn_if (D := { D with nx := tz D }) h h1 h2
end

/-! ### a promise seen through other words of the heap -/
/-- B tells of the same heap otherwise -/
structure Alike (A B : Hp) : Prop where
  free : ∀ b, A b = none → B b = none
  tups : ∀ b xs, A b = some (.tup xs) → B b = some (.tup xs)
  frzs : ∀ b o u, A b = some (.frz o u) → B b = some (.frz o u)
  tbls : ∀ b ps, A b = some (.tbl ps) → B b = some (.tbl ps)
section
variable {P : Program} {w : World} {K : PySem.W.Frag} {mg : Str → Option Value} {base : Heap}
theorem fn_seen {k : Nat} {f : Addr} {fd : FuncData} {ps : List Str} {sp sp' : Sp} (F : FnOk P w K mg base CX0 k f fd ps sp) (hlen : ∀ vs H Q E, sp' vs H Q E → vs.length = ps.length)
    (h : ∀ vs H Q E, sp' vs H Q E → ∀ hp : Heap, HOk P w H hp → ∃ (H1 : Hp) (Q1 : VK), Alike H H1 ∧ HOk P w H1 hp ∧ sp vs H1 Q1 E ∧
      ∀ v H2 (hp2 : Heap), HOk P w H2 hp2 → Q1 v H2 → ∃ H3, Alike H2 H3 ∧ HOk P w H3 hp2 ∧ Q v H3) : FnOk P w K mg base CX0 k f fd ps sp' := by
  refine ⟨hlen, fun A outer s H args us vs Q E hr e0 hb hv hs => ?_⟩
  obtain ⟨H1, Q1, al, ok1, hs1, back⟩ := h vs H Q E hs s.heap e0.hok
  have e1 : Env0 P w K mg base A outer s H1 := ⟨e0.frames, e0.mod, fun b o e => ⟨(e0.bs b o e).1, al.free b (e0.bs b o e).2⟩, e0.bsz, e0.funs, fun b hb => al.free b (e0.frf b hb), ok1, e0.bare⟩
  refine codeAny_mono (F.run A outer s H1 args us vs Q1 E hr e1 hb hv hs1) fun r s' hr' => ?_
  cases r with
  | error e => exact hr'
  | ok fl =>
    cases fl with
    | ret u =>
      obtain ⟨v, H2, os, br, un, ok2, rv, q⟩ := hr'
      obtain ⟨H3, al2, ok3, q3⟩ := back v H2 s'.heap ok2 q
      exact ⟨v, H3, os, br, ⟨fun b o e n h1 h2 => un.keep b o e (al.free b n) h1 h2, fun b o e n h1 h2 => un.slot b o e (al.free b n) h1 h2, fun b o e n h1 => al2.free b (un.free b o e (al.free b n) h1), un.there,
        fun b xs e => al2.tups b xs (un.tups b xs (al.tups b xs e)), fun b o u e => al2.frzs b o u (un.frzs b o u (al.frzs b o u e)), fun b ps e => by
          obtain ⟨more, e2⟩ := un.tbls b ps (al.tbls b ps e)
          exact ⟨more, al2.tbls b _ e2⟩⟩, ok3, rv, q3⟩
    | _ => exact hr'.elim
/-- one changing object told otherwise -/
theorem alike_at {H : Hp} {d : Addr} {o o2 : HO} (h : H d = some o) (m : Mut (some o)) (h1 : ∀ xs, o2 ≠ .tup xs) (h2 : ∀ ob u, o2 ≠ .frz ob u) (h3 : ∀ ps, o2 ≠ .tbl ps) : Alike H (upd H d o2) where
  free := fun b n => by
    rw [upd_ne (ne_of_none h n).symm]
    exact n
  tups := fun b xs e => by
    rw [upd_ne (ne_of e h (by intro z; subst z; exact m))]
    exact e
  frzs := fun b ob u e => by
    rw [upd_ne (ne_of e h (by intro z; subst z; exact m))]
    exact e
  tbls := fun b ps e => by
    rw [upd_ne (ne_of e h (by intro z; subst z; exact m))]
    exact e
theorem hok_at {H : Hp} {hp : Heap} {d : Addr} {o o2 : HO} (ok : HOk P w H hp) (h : H d = some o) (m : Mut (some o)) (new : ObjOk P w (upd H d o2) hp d o2) : HOk P w (upd H d o2) hp := fun b u e => by
  by_cases hb : b = d
  · subst hb
    rw [upd_same] at e
    cases e
    exact new
  · rw [upd_ne hb] at e
    refine (ok b u e).stay (fun c z _ q => q) (fun c q => ?_) (fun c xs q => ?_)
    · rw [upd_ne (ne_of q h (by intro z; subst z; exact m))]
      exact q
    · rw [upd_ne (ne_of q h (by intro z; subst z; exact m))]
      exact q
end

/-! ### the dice: the list of the script, a place, a mixed number, a rest -/
def diceP (d a : Addr) (h : Heap) : Prop := ∃ (i m r : Int) (t1 t2 t3 : Tok) (n : Nat), h.get? d = some { cls := .type "list", data := .seq #[.ref a, .int i t1, .int m t2, .int r t3] n } ∧ 0 ≤ i ∧ 0 ≤ m ∧ m < 2147483647
/-- a dice over the script at a -/
def DiceO (d a : Addr) : HO := .ext (diceP d a)
theorem dice_ok {P : Program} {w : World} {H : Hp} {hp : Heap} {d a : Addr} (h : diceP d a hp) : ObjOk P w H hp d (DiceO d a) := by
  refine ⟨h, ?_, ?_⟩
  · obtain ⟨i, m, r, t1, t2, t3, n, e, _⟩ := h
    exact ⟨_, e⟩
  · rintro h1 h2 ⟨i, m, r, t1, t2, t3, n, e, z⟩ k
    exact ⟨i, m, r, t1, t2, t3, n, k _ e, z⟩
theorem dice_of {P : Program} {w : World} {H : Hp} {hp : Heap} {d a : Addr} {i m r : Int} (ok : HOk P w H hp) (h : H d = some (.lst [.ref a, .int i, .int m, .int r])) (h0 : 0 ≤ i) (h1 : 0 ≤ m) (h2 : m < 2147483647) : diceP d a hp := by
  obtain ⟨_, its, n, rv, e⟩ := (show ObjOk P w H hp d (.lst [.ref a, .int i, .int m, .int r]) from ok d _ h)
  cases rv with
  | cons ra rest =>
    cases ra
    cases rest with
    | cons ri rest =>
      obtain ⟨t1, rfl⟩ := ri
      cases rest with
      | cons rm rest =>
        obtain ⟨t2, rfl⟩ := rm
        cases rest with
        | cons rr rest =>
          obtain ⟨t3, rfl⟩ := rr
          cases rest
          exact ⟨i, m, r, t1, t2, t3, n, e, h0, h1, h2⟩
theorem dice_out {P : Program} {w : World} {H : Hp} {hp : Heap} {d a : Addr} (ok : HOk P w H hp) (h : H d = some (DiceO d a)) : ∃ i m r, 0 ≤ i ∧ 0 ≤ m ∧ m < 2147483647 ∧
    Alike H (upd H d (.lst [.ref a, .int i, .int m, .int r])) ∧ HOk P w (upd H d (.lst [.ref a, .int i, .int m, .int r])) hp := by
  obtain ⟨⟨i, m, r, t1, t2, t3, n, e, z0, z1, z2⟩, _⟩ := (show ObjOk P w H hp d (DiceO d a) from ok d _ h)
  refine ⟨i, m, r, z0, z1, z2, alike_at h True.intro (fun _ z => nomatch z) (fun _ _ z => nomatch z) (fun _ z => nomatch z), hok_at ok h True.intro ⟨(by show 4 ≤ sizeLine; decide), [.ref a, .int i t1, .int m t2, .int r t3], n, ?_, e⟩⟩
  exact .cons rfl (.cons ⟨_, rfl⟩ (.cons ⟨_, rfl⟩ (.cons ⟨_, rfl⟩ .nil)))
theorem dice_in {P : Program} {w : World} {H : Hp} {hp : Heap} {d a : Addr} {i m r : Int} (ok : HOk P w H hp) (h : H d = some (.lst [.ref a, .int i, .int m, .int r])) (h0 : 0 ≤ i) (h1 : 0 ≤ m) (h2 : m < 2147483647) :
    Alike H (upd H d (DiceO d a)) ∧ HOk P w (upd H d (DiceO d a)) hp :=
  ⟨alike_at h True.intro (fun _ z => nomatch z) (fun _ _ z => nomatch z) (fun _ z => nomatch z), hok_at ok h True.intro (dice_ok (dice_of ok h h0 h1 h2))⟩
end Wt

set_option Elab.async false
set_option linter.all false
set_option maxRecDepth 100000
set_option maxHeartbeats 4000000
/-! Words of a row: the plain functions. -/
namespace Wt
open PySem PySem.Spec PyProof.Rows L2 SX Evl

def letters : List Nat := [97, 98, 99, 100, 101, 102, 103, 104, 105, 106, 107, 108, 109, 110, 111, 112, 113, 114, 115, 116, 117, 118, 119, 120, 121, 122]
def figures : List Nat := [48, 49, 50, 51, 52, 53, 54, 55, 56, 57]
def signs : List (List Nat) := [[60, 62], [60, 61], [40], [41], [44], [46], [61], [60], [43], [45], [42], [47]]
def owns : List (List Nat) := [[117, 115, 101], [99, 111, 110, 115, 116], [107, 101, 101, 112], [111, 117, 116], [100, 101, 102], [110, 117, 109], [121, 101, 115], [110, 111], [108, 101, 116], [105, 102],
  [101, 108, 115, 101], [119, 104, 105, 108, 101], [101, 110, 100], [103, 105, 118, 101], [115, 97, 121], [100, 111], [111, 114], [97, 110, 100], [110, 111, 116], [109, 111, 100]]
def kName : List Nat := [110, 97, 109, 101]
def kNum : List Nat := [110, 117, 109]
def kSign : List Nat := [115, 105, 103, 110]
def kOwn : List Nat := [111, 119, 110]
def isL (c : Nat) : Bool := decide (c ∈ letters)
def isF (c : Nat) : Bool := decide (c ∈ figures)
/-- the longest word that begins what is left -/
def wordAt : List Nat → List Nat
  | [] => []
  | c :: r => if isL c = true then (c :: r).takeWhile isL else if isF c = true then (c :: r).takeWhile isF else (signs.find? fun s => decide ((c :: r).take s.length = s)).getD []
def kindOf (w : List Nat) : List Nat :=
  if w ∈ owns then kOwn else if w ∈ signs then kSign else if w = [] ∨ 6 < w.length then [] else
  if isL (w.headD 0) = true then kName else if w.headD 0 = 48 ∧ 1 < w.length then [] else kNum
/-- a word: kind, word, column -/
abbrev Word := List Nat × List Nat × Nat
/-- the words of what is left of a row, which stands behind so many signs; where the first that is none begins -/
def lexAt : Nat → Nat → List Nat → List Word × Option Nat
  | 0, _, _ => ([], none)
  | _ + 1, _, [] => ([], none)
  | f + 1, i, c :: r => if c = 32 then lexAt f (i + 1) r else
    if kindOf (wordAt (c :: r)) = [] then ([], some (i + 1)) else
      ((kindOf (wordAt (c :: r)), wordAt (c :: r), i + 1) :: (lexAt f (i + (wordAt (c :: r)).length) ((c :: r).drop (wordAt (c :: r)).length)).1,
        (lexAt f (i + (wordAt (c :: r)).length) ((c :: r).drop (wordAt (c :: r)).length)).2)
def told (row : List Nat) : List Nat := row.takeWhile fun c => decide (c ≠ 35)
def lexRow (row : List Nat) : List Word × Option Nat := lexAt (told row).length 0 (told row)

/-! ### facts -/
theorem takeWhile_len {p : Nat → Bool} : ∀ l : List Nat, (l.takeWhile p).length ≤ l.length
  | [] => Nat.le_refl _
  | c :: r => by
    rw [List.takeWhile_cons]
    split
    · exact Nat.succ_le_succ (takeWhile_len r)
    · exact Nat.zero_le _
theorem find_len {l s : List Nat} {ss : List (List Nat)} (h : ss.find? (fun s => decide (l.take s.length = s)) = some s) : s.length ≤ l.length := by
  have e := List.find?_some h
  have e2 : l.take s.length = s := of_decide_eq_true e
  have e3 := congrArg List.length e2
  rw [List.length_take] at e3
  omega
theorem wordAt_cons (c : Nat) (r : List Nat) : wordAt (c :: r) = if isL c = true then (c :: r).takeWhile isL else if isF c = true then (c :: r).takeWhile isF else (signs.find? fun s => decide ((c :: r).take s.length = s)).getD [] := rfl
theorem lexAt_cons (f i c : Nat) (r : List Nat) : lexAt (f + 1) i (c :: r) = if c = 32 then lexAt f (i + 1) r else
    if kindOf (wordAt (c :: r)) = [] then ([], some (i + 1)) else
      ((kindOf (wordAt (c :: r)), wordAt (c :: r), i + 1) :: (lexAt f (i + (wordAt (c :: r)).length) ((c :: r).drop (wordAt (c :: r)).length)).1,
        (lexAt f (i + (wordAt (c :: r)).length) ((c :: r).drop (wordAt (c :: r)).length)).2) := rfl
theorem wordAt_len : ∀ l : List Nat, (wordAt l).length ≤ l.length
  | [] => Nat.le_refl _
  | c :: r => by
    rw [wordAt_cons]
    split
    · exact takeWhile_len _
    · split
      · exact takeWhile_len _
      · cases h : signs.find? (fun s => decide ((c :: r).take s.length = s)) with
        | none => exact Nat.zero_le _
        | some s => exact find_len h
/-- what is a word is not empty -/
theorem kind_ne {w : List Nat} (h : kindOf w ≠ []) : w ≠ [] := fun e => by
  subst e
  exact h (by decide +kernel)
theorem kind_pos {w : List Nat} (h : kindOf w ≠ []) : 0 < w.length := List.length_pos_iff.mpr (kind_ne h)
/-- enough turns are enough -/
theorem lexAt_fuel : ∀ (f g i : Nat) (l : List Nat), l.length ≤ f → l.length ≤ g → lexAt f i l = lexAt g i l
  | 0, 0, _, _, _, _ => rfl
  | 0, g + 1, _, [], _, _ => rfl
  | 0, _ + 1, _, _ :: _, h, _ => absurd h (Nat.not_succ_le_zero _)
  | f + 1, 0, _, [], _, _ => rfl
  | _ + 1, 0, _, _ :: _, _, h => absurd h (Nat.not_succ_le_zero _)
  | _ + 1, _ + 1, _, [], _, _ => rfl
  | f + 1, g + 1, i, c :: r, hf, hg => by
    have hf1 : r.length ≤ f := Nat.le_of_succ_le_succ hf
    have hg1 : r.length ≤ g := Nat.le_of_succ_le_succ hg
    rw [lexAt_cons, lexAt_cons]
    by_cases h1 : c = 32
    · rw [if_pos h1, if_pos h1]
      exact lexAt_fuel f g _ r hf1 hg1
    · rw [if_neg h1, if_neg h1]
      by_cases h2 : kindOf (wordAt (c :: r)) = []
      · rw [if_pos h2, if_pos h2]
      · rw [if_neg h2, if_neg h2]
        have hp := kind_pos h2
        have hl : ((c :: r).drop (wordAt (c :: r)).length).length ≤ r.length := by
          rw [List.length_drop, List.length_cons]
          omega
        rw [lexAt_fuel f g _ _ (Nat.le_trans hl hf1) (Nat.le_trans hl hg1)]
/-- with just enough turns: the equations -/
def lexR (i : Nat) (l : List Nat) : List Word × Option Nat := lexAt l.length i l
theorem lexR_nil (i : Nat) : lexR i [] = ([], none) := rfl
theorem lexR_blank (i : Nat) (r : List Nat) : lexR i (32 :: r) = lexR (i + 1) r := by
  unfold lexR
  show lexAt (r.length + 1) i (32 :: r) = _
  rw [lexAt_cons, if_pos rfl]
theorem lexR_bad {i c : Nat} {r : List Nat} (h1 : c ≠ 32) (h2 : kindOf (wordAt (c :: r)) = []) : lexR i (c :: r) = ([], some (i + 1)) := by
  unfold lexR
  show lexAt (r.length + 1) i (c :: r) = _
  rw [lexAt_cons, if_neg h1, if_pos h2]
theorem lexR_word {i c : Nat} {r : List Nat} (h1 : c ≠ 32) (h2 : kindOf (wordAt (c :: r)) ≠ []) :
    lexR i (c :: r) = ((kindOf (wordAt (c :: r)), wordAt (c :: r), i + 1) :: (lexR (i + (wordAt (c :: r)).length) ((c :: r).drop (wordAt (c :: r)).length)).1,
      (lexR (i + (wordAt (c :: r)).length) ((c :: r).drop (wordAt (c :: r)).length)).2) := by
  have hp := kind_pos h2
  have hl : ((c :: r).drop (wordAt (c :: r)).length).length ≤ r.length := by
    rw [List.length_drop, List.length_cons]
    omega
  have e : lexR i (c :: r) = lexAt (r.length + 1) i (c :: r) := rfl
  rw [e, lexAt_cons, if_neg h1, if_neg h2]
  unfold lexR
  rw [lexAt_fuel r.length _ _ _ hl (Nat.le_refl _)]
theorem lexRow_R (row : List Nat) : lexRow row = lexR 0 (told row) := rfl
theorem lexR_count : ∀ (n i : Nat) (l : List Nat), l.length ≤ n → (lexR i l).1.length ≤ l.length
  | _, i, [], _ => by
    rw [lexR_nil]
    exact Nat.le_refl _
  | 0, _, _ :: _, h => absurd h (Nat.not_succ_le_zero _)
  | n + 1, i, c :: r, h => by
    by_cases h1 : c = 32
    · subst h1
      rw [lexR_blank]
      exact Nat.le_succ_of_le (lexR_count n _ r (Nat.le_of_succ_le_succ h))
    · by_cases h2 : kindOf (wordAt (c :: r)) = []
      · rw [lexR_bad h1 h2]
        exact Nat.zero_le _
      · rw [lexR_word h1 h2]
        have hp := kind_pos h2
        have hl : ((c :: r).drop (wordAt (c :: r)).length).length ≤ r.length := by
          rw [List.length_drop, List.length_cons]
          omega
        have ih := lexR_count n (i + (wordAt (c :: r)).length) _ (Nat.le_trans hl (Nat.le_of_succ_le_succ h))
        show _ + 1 ≤ r.length + 1
        exact Nat.succ_le_succ (Nat.le_trans ih hl)
theorem lexRow_count (row : List Nat) : (lexRow row).1.length ≤ row.length := by
  rw [lexRow_R]
  exact Nat.le_trans (lexR_count _ 0 _ (Nat.le_refl _)) (takeWhile_len _)

/-- a word as data, in a row of this number -/
def wordD (n : Nat) (w : Word) : PyData := .tuple [.str (S w.1), .str (S w.2.1), .tuple [.int (n : Int), .int (w.2.2 : Nat)]]
/-- all words of rows numbered from n on -/
def allD (n : Nat) : List (List Nat) → List PyData
  | [] => []
  | row :: rest => (lexRow row).1.map (wordD n) ++ allD (n + 1) rest
end Wt

set_option Elab.async false
set_option linter.all false
set_option maxRecDepth 100000
set_option maxHeartbeats 4000000
/-! What stands ahead of a remark; words told, row by row. -/
namespace Wt
open PySem PySem.Spec PyProof.Rows L2 SX Evl
/-- a new list of what is told -/
def RetTd (ds : List PyData) (H : Hp) (Q : VK) : Prop := ∀ p H2 vs, H p = none → Ex H H2 → H2 p = some (.lst vs) → TdAll H2 vs ds → Q (.ref p) H2
theorem told_split (row : List Nat) : (35 ∉ row ∧ told row = row) ∨ ∃ r, row = told row ++ 35 :: r ∧ 35 ∉ told row := by
  have hno : ∀ l : List Nat, 35 ∉ told l := fun l => by
    induction l with
    | nil => intro h; cases h
    | cons c r ih =>
      unfold told at ih ⊢
      rw [List.takeWhile_cons]
      by_cases h : c = 35
      · rw [if_neg (by simp [h])]
        intro z
        cases z
      · rw [if_pos (by simp [h])]
        intro z
        rcases List.mem_cons.mp z with z | z
        · exact h z.symm
        · exact ih z
  have hsp : ∀ l : List Nat, 35 ∈ l → ∃ r, l = told l ++ 35 :: r := fun l => by
    induction l with
    | nil => intro h; cases h
    | cons c r ih =>
      intro h
      unfold told at ih ⊢
      rw [List.takeWhile_cons]
      by_cases hc : c = 35
      · rw [if_neg (by simp [hc])]
        exact ⟨r, by rw [hc] <;> rfl⟩
      · rw [if_pos (by simp [hc])]
        rcases List.mem_cons.mp h with z | z
        · exact absurd z.symm hc
        · obtain ⟨q, e⟩ := ih z
          exact ⟨q, by rw [List.cons_append, ← e]⟩
  by_cases h : 35 ∈ row
  · obtain ⟨r, e⟩ := hsp row h
    exact .inr ⟨r, e, hno row⟩
  · refine .inl ⟨h, ?_⟩
    have all : ∀ l : List Nat, 35 ∉ l → told l = l := fun l => by
      induction l with
      | nil => intro _; rfl
      | cons c r ih =>
        intro hn
        unfold told at ih ⊢
        have hc : c ≠ 35 := fun z => hn (z ▸ List.mem_cons_self ..)
        rw [List.takeWhile_cons, if_pos (by simp [hc]), ih fun z => hn (List.mem_cons_of_mem _ z)]
    exact all row h
theorem part_told (row : List Nat) : (Txt.partition (S row) (S [35])).1 = S (told row) := by
  rcases told_split row with ⟨h, e⟩ | ⟨r, e, h⟩
  · rw [SX.partition_none (by simp) (par_head_none h), e]
  · have z : TL.par [35] [] row = some (told row, r) := by
      have q := par_head (c := 35) (sep := []) r h
      rw [show told row ++ ([35] ++ r) = row from e.symm] at q
      exact q
    rw [SX.partition_some (by simp) z]
theorem told_len (row : List Nat) : (told row).length ≤ row.length := takeWhile_len row
section
variable {K : PySem.W.Frag} {σ : L2.St} {H H' : Hp} {ta tb te tx : TE} {t u : TT} {x y z v : V}
/-- t.partition("#")[0] -/
theorem ev_told {row : List Nat} (ha : Ev ta σ H (.str (S row))) (hb : Ev tb σ H (.str (S [35]))) (hl : row.length ≤ 100000) :
    Ev (tOp (rIxT K) (tM1 (fun x xs H Q => ∃ a b, x = .str a ∧ xs = [.str b] ∧ (b.length == 0) = false ∧ a.length ≤ sizeLine ∧
      ∀ p, H p = none → Q (.ref p) (upd H p (.tup [.str (Txt.partition a b).1, .str (Txt.partition a b).2.1, .str (Txt.partition a b).2.2]))) ta tb) (tC (.int 0))) σ H (.str (S (told row))) := fun H1 e Q q =>
  ha H1 e _ fun H2 e2 => ⟨⟨S row, rfl⟩, hb H2 (e.trans e2) _ fun H3 e3 => ⟨S row, S [35], rfl, rfl, by decide +kernel, by rw [S_len]; exact sz_of hl, fun p hp =>
    ⟨p, _, 0, _, rfl, rfl, st_of upd_same, atI_nat (j := 0) rfl, by
      rw [part_told]
      exact q _ ((e2.trans e3).trans (Ex.new hp))⟩⟩⟩
end
/-- all rows are words -/
def AllWords (rows : List (List Nat)) : Prop := ∀ r ∈ rows, (lexRow r).2 = none
theorem allD_snoc : ∀ (n : Nat) (rs : List (List Nat)) (r : List Nat), allD n (rs ++ [r]) = allD n rs ++ (lexRow r).1.map (wordD (n + rs.length))
  | n, [], r => by
    show (lexRow r).1.map (wordD n) ++ [] = [] ++ _
    rw [List.append_nil, List.nil_append] <;> rfl
  | n, x :: rs, r => by
    show (lexRow x).1.map (wordD n) ++ allD (n + 1) (rs ++ [r]) = ((lexRow x).1.map (wordD n) ++ allD (n + 1) rs) ++ _
    rw [allD_snoc, List.append_assoc, show n + 1 + rs.length = n + (x :: rs).length by rw [List.length_cons]; omega]
end Wt

set_option Elab.async false
set_option linter.all false
set_option maxRecDepth 100000
set_option maxHeartbeats 4000000
/-! Lists, arguments, loops known by what is true of them. -/
namespace Wt
open PySem PySem.Spec PyProof.Rows L2 SX Evl
/-- a new list, known by what is true of its items -/
def EvNL (te : TE) (σ : L2.St) (H : Hp) (P : List V → Prop) : Prop := ∀ H1, Ex H H1 → ∀ Q : VK, (∀ p H2 xs, P xs → H1 p = none → Ex H1 H2 → H2 p = some (.lst xs) → Q (.ref p) H2) → te σ H1 Q
section
variable {K : PySem.W.Frag} {σ : L2.St} {H H' : Hp} {ta tb te tx : TE} {t u : TT} {x y z v : V}
/-- [e for k in range(n)], n and e known by what is true of them -/
theorem en_lcR {j : Nat} {vs : List Nat} {N : Nat} {P : V → Prop} (h : EvN ta σ H (fun v => ∃ z : Int, v = .int z ∧ 0 ≤ z ∧ z ≤ (N : Int))) (hN : N ≤ 10000) (hw : ∀ x, wipe ((wipe σ vs).set j (some x)) vs = wipe σ vs)
    (he : ∀ (i : Nat) H1, Ex H H1 → EvN te ((wipe σ vs).set j (some (.int (i : Int)))) H1 P) : EvNL (tLc (iRng1 (tCons ta tNil)) (gName j) tYes te vs) σ H (fun xs => xs.length ≤ N ∧ ∀ x ∈ xs, P x) := fun H0 e Q q =>
  h H0 e _ fun v H1 hv e1 => by
    obtain ⟨z, rfl, z0, z1⟩ := hv
    refine ⟨z, rfl, by omega, by omega, fun Dl hD => ?_⟩
    refine lc_range (lo := 0) (n := z.toNat) (fun i H2 => ∃ xs, Ex H1 H2 ∧ H2 Dl = some (.lst xs) ∧ xs.length = i ∧ ∀ x ∈ xs, P x) ⟨[], Ex.new hD, upd_same, rfl, fun _ h => absurd h (by simp)⟩ ?_ ?_
    · rintro i H2 hi ⟨xs, e2, h2, hl, hP⟩
      have e0 : (0 : Int) + (i : Int) = (i : Int) := Int.zero_add _
      show wipe ((wipe σ vs).set j (some (.int ((0 : Int) + (i : Int))))) vs = wipe σ vs ∧ tYes ((wipe σ vs).set j (some (.int ((0 : Int) + (i : Int))))) H2 _
      rw [e0]
      refine ⟨hw _, ?_⟩
      show te ((wipe σ vs).set j (some (.int (i : Int)))) H2 _
      refine he i H2 ((e.trans e1).trans e2) H2 (Ex.refl H2) _ fun y H3 py e3 => ⟨xs, e3 Dl _ h2, sz_lt (by omega), xs ++ [y], ?_, upd_same, by rw [List.length_append, hl] <;> rfl, fun x hx => ?_⟩
      · exact Ex.mut (e2.trans e3) hD
      · rcases List.mem_append.mp hx with h | h
        · exact hP x h
        · rw [List.mem_singleton.mp h]
          exact py
    · rintro H2 ⟨xs, e2, h2, hl, hP⟩
      exact q Dl H2 xs ⟨by omega, hP⟩ (fresh_back e1 hD) (e1.trans e2) h2
theorem ev_dget {kvs : List (Key × V)} {a : Addr} {k : Str} (ha : Ev ta σ H (.ref a)) (hb : Ev tb σ H (.str k)) (h : H a = some (.dK kvs)) (hv : valV kvs (Sum.inr k : Key) = some v) : Ev (tDGet ta tb) σ H v := fun H1 e Q q =>
  ha H1 e _ fun H2 e2 => hb H2 (e.trans e2) _ fun H3 e3 => ⟨a, v, rfl, by
    have g := DGet.k (k := (Sum.inr k : Key)) (((e.trans e2).trans e3) a _ h)
    rw [hv] at g
    exact g, q H3 (e2.trans e3)⟩
theorem rv_addS {a b : List Nat} (h : a.length + b.length ≤ 100000) : RV (fun x y H Q => ∃ i j, x = .str i ∧ y = .str j ∧ i.length + j.length ≤ sizeLine ∧ Q (.str (i ++ j)) H) (.str (S a)) (.str (S b)) H (.str (S (a ++ b))) := fun H1 _ Q q =>
  ⟨S a, S b, rfl, rfl, by rw [S_len, S_len]; exact sz_of h, by rw [S_cat]; exact q H1 (Ex.refl H1)⟩
theorem rv_repS {a : List Nat} {k : Nat} (h : a.length ≤ 16) (hk : k ≤ 100000) : RV rRepS (.str (S a)) (.int (k : Int)) H (.str (S (List.replicate k a).flatten)) := fun H1 _ Q q => ⟨a, k, rfl, rfl, h, hk, q H1 (Ex.refl H1)⟩
end
theorem joinL_nil : ∀ l : List Nat, TL.joinL [] (l.map fun c => [c]) = l
  | [] => rfl
  | [c] => rfl
  | c :: d :: r => by
    show [c] ++ ([] ++ TL.joinL [] ((d :: r).map fun c => [c])) = _
    rw [joinL_nil (d :: r)] <;> rfl
theorem given_nil {n : Nat} {f : Nat → Bool} {v : Nat → V} : (given n f v = []) ↔ ∀ i, i < n → f i = false := by
  unfold given
  rw [List.map_eq_nil_iff, List.filter_eq_nil_iff]
  constructor
  · intro h i hi
    have := h i (List.mem_range.mpr hi)
    simpa using this
  · intro h i hi
    rw [h i (List.mem_range.mp hi)]
    exact Bool.false_ne_true
/-- [1, ..] != [] -/
theorem eqvAll_nil : ∀ ds : List PyData, PyData.eqvAll ds [] = decide (ds = [])
  | [] => by decide +kernel
  | d :: ds => by
    have e : PyData.eqvAll (d :: ds) [] = false := by
      unfold PyData.eqvAll
      rfl
    rw [e]
    exact (decide_eq_false (List.cons_ne_nil _ _)).symm
/-- arguments known by what is true of them -/
def EAN (ta : TA) (σ : L2.St) (H : Hp) (P : List V → Prop) : Prop := ∀ H1, Ex H H1 → ∀ Q : List V → Hp → Prop, (∀ vs H2, P vs → Ex H1 H2 → Q vs H2) → ta σ H1 Q
section
variable {K : PySem.W.Frag} {σ : L2.St} {H H' : Hp} {ta tb te tx t1 t2 : TE} {t u : TT} {x y z v : V} {P : V → Prop} {L : List V → Prop} {D : Ends} {tz : TS}
theorem ean_nil : EAN tNil σ H (· = []) := fun H1 _ _ q => q [] H1 rfl (Ex.refl H1)
theorem ean_cons {tr : TA} (h : EvN te σ H P) (hr : EAN tr σ H L) : EAN (tCons te tr) σ H (fun l => ∃ v r, l = v :: r ∧ P v ∧ L r) := fun H1 e Q q =>
  h H1 e _ fun v H2 pv e2 => hr H2 (e.trans e2) _ fun r H3 pr e3 => q (v :: r) H3 ⟨v, r, rfl, pv, pr⟩ (e2.trans e3)
theorem ean_one {tr : TA} (h : Ev te σ H v) (hr : EAN tr σ H L) : EAN (tCons te tr) σ H (fun l => ∃ r, l = v :: r ∧ L r) := fun H1 e Q q =>
  h H1 e _ fun H2 e2 => hr H2 (e.trans e2) _ fun r H3 pr e3 => q (v :: r) H3 ⟨r, rfl, pr⟩ (e2.trans e3)
theorem enl_lst {ta : TA} (h : EAN ta σ H L) (hl : ∀ l, L l → l.length ≤ 100000) : EvNL (tLst ta) σ H L := fun H1 e Q q =>
  h H1 e _ fun vs H2 pv e2 => ⟨sz_of (hl vs pv), fun p hp => q p _ vs pv (fresh_back e2 hp) (e2.trans (Ex.new hp)) upd_same⟩
theorem EvNL.of {xs : List V} (h : EvL te σ H xs) : EvNL te σ H (· = xs) := fun H1 e Q q => h H1 e Q fun p H2 hp e2 h2 => q p H2 xs rfl hp e2 h2
/-- an item of such a list at a number below its length -/
theorem en_ixNL {n : Nat} (ha : EvNL ta σ H L) (hb : EvN tb σ H (fun v => ∃ z : Int, v = .int z ∧ 0 ≤ z ∧ z < (n : Int))) (hl : ∀ l, L l → l.length = n ∧ ∀ v ∈ l, P v) : EvN (tOp (rIxL K) ta tb) σ H P := fun H1 e Q q =>
  ha H1 e _ fun p H2 xs hL hp e2 h2 => hb H2 (e.trans e2) _ fun v H3 hv e3 => by
    obtain ⟨z, rfl, z0, z1⟩ := hv
    obtain ⟨k, rfl⟩ : ∃ k : Nat, z = (k : Int) := ⟨z.toNat, by omega⟩
    obtain ⟨h5, h6⟩ := hl xs hL
    have hlt : k < xs.length := by omega
    exact ⟨p, xs, (k : Int), xs[k], rfl, rfl, sq_of (e3 p _ h2), atI_nat (List.getElem?_eq_getElem hlt), q _ H3 (h6 _ (List.getElem_mem hlt)) (e2.trans e3)⟩
/-- a, b = e, a new list -/
theorem q_tupL {i j : Nat} {xs : List V} (h1 : Ev t1 σ H v) (h2 : EvL t2 σ H xs) (k : ∀ p H1, H p = none → Ex H H1 → H1 p = some (.lst xs) → tz D ((σ.set i (some v)).set j (some (.ref p))) H1) :
    tSeq (tAsg (tTup (tCons t1 (tCons t2 tNil))) (gTup K 2 (gCons (gName i) (gCons (gName j) gNil)))) tz D σ H :=
  h1 H (Ex.refl H) _ fun H1 e1 => h2 H1 e1 _ fun p H2 hp e2 hpl => ⟨by show 2 ≤ sizeLine; decide, fun c hc =>
    ⟨c, [v, .ref p], rfl, st_of upd_same, rfl, v, [.ref p], rfl, .ref p, [], rfl, rfl, k p _ (fresh_back e1 hp) ((e1.trans e2).trans (Ex.new hc)) (by
      rw [upd_ne (ne_of_none hpl hc)]
      exact hpl)⟩⟩
/-- a new list of flat data is not empty -/
theorem ev_neNil {n : Nat} {f : Nat → Bool} (ha : EvL ta σ H (given n f fun _ => .int 1)) (hn : n ≤ 60) : Ev (tOp (rNeD K) ta (tLst tNil)) σ H (.bl ((List.range n).any f)) := ev_opLL ha (el_lst ea_nil (Nat.zero_le _)) fun p q H1 h1 h2 _ H2 e2 Q q2 => by
  obtain ⟨m, hm, em⟩ : ∃ m, m ≤ n ∧ (given n f fun _ => V.int 1) = List.replicate m (V.int 1) := by
    have hl := given_len n f fun _ => V.int 1
    refine ⟨_, hl, List.eq_replicate_iff.mpr ⟨rfl, fun b hb => ?_⟩⟩
    unfold given at hb
    obtain ⟨_, _, e⟩ := List.mem_map.mp hb
    exact e.symm
  have hall : ∀ m : Nat, DpAll K H2 (List.replicate m (V.int 1)) (List.replicate m (PyData.int 1)) := fun m => by
    induction m with
    | zero => exact .nil
    | succ m ih => exact .cons (.int 1) ih
  have hany : (List.range n).any f = !decide (m = 0) := by
    have h3 : (m = 0) ↔ ∀ i, i < n → f i = false := by
      rw [← given_nil (v := fun _ => V.int 1), em]
      cases m with
      | zero => exact ⟨fun _ => rfl, fun _ => rfl⟩
      | succ m => exact ⟨fun z => absurd z (Nat.succ_ne_zero m), fun z => by rw [List.replicate_succ] at z; cases z⟩
    cases hb : (List.range n).any f with
    | false =>
      rw [List.any_eq_false] at hb
      have hm0 : m = 0 := h3.mpr fun i hi => by
        have := hb i (List.mem_range.mpr hi)
        simpa using this
      rw [decide_eq_true hm0] <;> rfl
    | true =>
      rw [List.any_eq_true] at hb
      obtain ⟨i, hi, hfi⟩ := hb
      have hm0 : ¬ m = 0 := fun z => by
        have := h3.mp z i (List.mem_range.mp hi)
        rw [hfi] at this
        cases this
      rw [decide_eq_false hm0] <;> rfl
  rw [em] at h1
  have hsh : ∀ m, m ≤ 60 → SeqAt.shaped (.list (List.replicate m (PyData.int 1))) = true := by decide +kernel
  refine ⟨.list (List.replicate m (.int 1)), .list [], .lst (sq_of (e2 p _ h1)) (hall m), .lst (sq_of (e2 q _ h2)) .nil, hsh m (by omega), by decide +kernel, ?_⟩
  have e : PyData.eqv (.list (List.replicate m (PyData.int 1))) (.list []) = decide (m = 0) := by
    refine (eqvAll_nil _).trans ?_
    cases m with
    | zero => rfl
    | succ m =>
      rw [decide_eq_false (Nat.succ_ne_zero m), List.replicate_succ]
      exact decide_eq_false (List.cons_ne_nil _ _)
  rw [e, ← hany]
  exact q2 H2 (Ex.refl H2)
end
section
variable {K : PySem.W.Frag} {σ : L2.St} {H H' : Hp} {ta tb te tx t1 t2 : TE} {t u : TT} {x y z v : V} {P : V → Prop} {L : List V → Prop} {D : Ends} {tz tu : TS}
theorem el_cat {l : Addr} {xs zs : List V} (ha : Ev ta σ H (.ref l)) (hl : H l = some (.lst xs)) (hb : EvL tb σ H zs) (hz : xs.length + zs.length ≤ 100000) : EvL (tOp rCat ta tb) σ H (xs ++ zs) := fun H1 e Q q =>
  ha H1 e _ fun H2 e2 => hb H2 (e.trans e2) _ fun p H3 hp e3 h3 => ⟨l, p, xs, zs, rfl, rfl, e3 l _ (e2 l _ (e l _ hl)), h3, sz_of hz, fun c hc => q c _ (fresh_back (e2.trans e3) hc) ((e2.trans e3).trans (Ex.new hc)) upd_same⟩
theorem en_callN {sp : Sp} {dvs : List V} {E : XK} {ta : TA} (h : EAN ta σ H L) (hs : ∀ vs, L vs → SpN sp (vs ++ dvs) H P) : EvN (tCall sp dvs E ta) σ H P := fun H1 e Q q =>
  h H1 e _ fun vs H2 hv e2 => hs vs hv H2 (e.trans e2) Q (fun v H3 p e3 => q v H3 p (e2.trans e3)) E
/-- a loop over range(n), n known by what is true of it -/
theorem q_forRN {j N : Nat} (h : EvN te σ H (fun v => ∃ z : Int, v = .int z ∧ 0 ≤ z ∧ z < (N : Int))) (hN : N ≤ 10000) (Pv : Nat → L2.St → Hp → Prop) (h0 : ∀ H1, Ex H H1 → Pv 0 σ H1)
    (hs : ∀ (i : Nat) σ' H', i < N → Pv i σ' H' → tu { D with nx := Pv (i + 1), ct := Pv (i + 1), bk := tz D } (σ'.set j (some (.int (i : Int)))) H') (hd : ∀ n σ' H', n < N → Pv n σ' H' → tz D σ' H') :
    tSeq (tFor (iRng1 (tCons te tNil)) (gName j) tu) tz D σ H := h H (Ex.refl H) _ fun v H1 hv e1 => by
  obtain ⟨z, rfl, z0, z1⟩ := hv
  refine ⟨z, rfl, by omega, by omega, for_range (D := { D with nx := tz D }) (lo := 0) (n := z.toNat) Pv (h0 H1 e1) (fun i σ' H' hi p => ?_) fun σ' H' p => hd z.toNat σ' H' (by omega) p⟩
  have e0 : (0 : Int) + (i : Int) = (i : Int) := Int.zero_add _
  show tu { D with nx := Pv (i + 1), ct := Pv (i + 1), bk := tz D } (σ'.set j (some (.int ((0 : Int) + (i : Int))))) H'
  rw [e0]
  exact hs i σ' H' (by omega) p
theorem s_forRN {j N : Nat} (h : EvN te σ H (fun v => ∃ z : Int, v = .int z ∧ 0 ≤ z ∧ z < (N : Int))) (hN : N ≤ 10000) (Pv : Nat → L2.St → Hp → Prop) (h0 : ∀ H1, Ex H H1 → Pv 0 σ H1)
    (hs : ∀ (i : Nat) σ' H', i < N → Pv i σ' H' → tu { D with nx := Pv (i + 1), ct := Pv (i + 1), bk := D.nx } (σ'.set j (some (.int (i : Int)))) H') (hd : ∀ n σ' H', n < N → Pv n σ' H' → D.nx σ' H') :
    tFor (iRng1 (tCons te tNil)) (gName j) tu D σ H := q_forRN (D := D) (tz := tNext) h hN Pv h0 hs hd
/-- a, b = x, y -/
theorem q_par {i j : Nat} {ta : TA} {a b : V} (h : EvA ta σ H [a, b]) (k : ∀ H1, Ex H H1 → tz D ((σ.set i (some a)).set j (some b)) H1) : tSeq (tPar i j ta) tz D σ H := h H (Ex.refl H) _ fun H1 e1 => ⟨_, _, rfl, k H1 e1⟩
end
end Wt

set_option Elab.async false
set_option linter.all false
set_option maxRecDepth 100000
set_option maxHeartbeats 4000000
/-! What raises: a def that may, its call; a Fault that is made; try with several clauses, the first one taken; a lambda handed in. -/
namespace Wt
open PySem PySem.Spec PyProof.Rows L2 SX Evl
open C8 (Def fnBody fnScope)
section
variable {P : Program} {w : World} {K : PySem.W.Frag} {mg : Str → Option Value} {base : Heap}
/-! ### defs that may raise -/
structure CalX (P : Program) (w : World) (K : PySem.W.Frag) (mg : Str → Option Value) (base : Heap) (k : Nat) (x : Str) (sp : Sp) : Prop where
  ex : ∃ (f : Addr) (fd : FuncData) (ps : List Str), FnOk P w K mg base (L2.CX P w) k f fd ps sp ∧ mg x = some (.ref f) ∧ PySem.W.keepIn K (.ref f) = true ∧ Binds K fd ps []
theorem calX {x : Str} {st : Stmt} {f : Addr} {fd : FuncData} {N ps : List Str} {k : Nat} {sp : Sp} (F : Def K mg x st f fd) (b : Binds K fd ps []) (S : FnScope N ps (fnScope st)) (len : ∀ vs H Q E, sp vs H Q E → vs.length = ps.length)
    (body : ∀ (cdv : Value) (A : Around) (outer : List Env) (s : Shared) (H : Hp) (vs : List V) (Q : VK) (E : XK), Room k (A.deeper (envOfC x (fnScope st) s.heap.objs.size f cdv)) → sp vs H Q E →
      ∃ t, PSs (cxOf (L2.CX P w) P w K mg base N x (fnScope st) f cdv A outer s H E) (fnBody st) t ∧ t { nx := fun _ H' => Q .non H', rt := Q } (start N vs) H) : CalX P w K mg base (k + 1) x sp := by
  obtain ⟨oc, od, dV, kV, doc, pm, an, cdv, ct, osl, rfl, lk, hcd⟩ := F.fn.ex
  exact ⟨f, _, ps, fn_of lk hcd S len fun A outer s H vs Q E hr hsp => body cdv A outer s H vs Q E hr hsp, F.mgf, F.kp, b⟩
/-- what such a def lets out -/
theorem tk_cx {N : List Str} {q : Str} {sc : Scope} {f : Addr} {cdv : Value} {A : Around} {outer : List Env} {s : Shared} {H : Hp} {E : XK} : Takes (cxOf (L2.CX P w) P w K mg base N q sc f cdv A outer s H E) (fun cls d _ H' => E cls d H') :=
  takes_of (E := E) rfl rfl rfl rfl
end
section
variable {X : Cx} {k j : Nat} {x : Str} {sp : Sp} {p pos : Pos} {e : Expr} {es : List Expr} {t : TA} {W : WX}
theorem pe_cX (c : CalX X.prog X.w X.K X.mg X.base k x sp) (tk : Takes X W) (hr : Room j X.A) (hk : k ≤ j) (hg : Gl X x) (ha : PA X (e :: es) t)
    (hdb : (x == ("__debug__" : Str)) = false := by decide) (he : starEach (e :: es) X.env = (false, eval e X.env) :: starEach es X.env := by rfl) (hpl : (backTo pos (starEach es X.env)).any (·.1) = false := by rfl) :
    PE X (.Call (.Name x p) (e :: es) [] pos) (tCallS sp (WE W) t) := by
  obtain ⟨f, fd, ps, F, hm, kp, b⟩ := c.ex
  exact pe_callS F (hr.mono hk) hg hm kp b (fun σ => passAt tk σ) ha hdb he hpl
end

/-! ### an exception of four fields, made by its own __init__ -/
def spFault (C : Addr) : Sp := fun vs H Q _ => ∃ (a : Addr) (v1 v2 v3 v4 : V), vs = [.ref a, v1, v2, v3, v4] ∧ H a = some (exo a C none) ∧
  ∀ dx H2, H dx = none → dx ≠ a → (∀ b, b ≠ a → b ≠ dx → H2 b = H b) → H2 a = some (exo a C (some dx)) → H2 dx = some (exd dx [("why", v4), ("place", v3), ("file", v2), ("stage", v1)]) → Q .non H2
theorem mk_fault {C : Addr} {ta : TA} {σ : L2.St} {H : Hp} {Q : XK} {v1 v2 v3 v4 : V} (h : EvA ta σ H [v1, v2, v3, v4]) (q : ∀ d H2, Ex H H2 → H2 d = some (.xd [("why", v4), ("place", v3), ("file", v2), ("stage", v1)]) → Q (.ref C) (some d) H2) :
    tMkO C (spFault C) [] ta σ H Q := h H (Ex.refl H) _ fun H1 e1 => by
  refine ⟨by show 4 ≤ 1000; decide, fun a ha => ⟨a, v1, v2, v3, v4, rfl, upd_same, fun dx H2 hdx hne hb h2a h2d => ⟨rfl, dx, _, h2a, h2d, ?_, q dx _ (fun b o ho => ?_) upd_same⟩⟩⟩
  · rw [upd_ne hne] at hdx
    exact hdx
  · have h1 := e1 b o ho
    have nba : b ≠ a := ne_of_none h1 ha
    have nbd : b ≠ dx := by
      rw [upd_ne hne] at hdx
      exact ne_of_none h1 hdx
    rw [upd_ne nbd, del_ne nba, hb b nba nbd, upd_ne nba]
    exact h1
/-- the class that makes it -/
structure MakF (P : Program) (w : World) (K : PySem.W.Frag) (mg : Str → Option Value) (base : Heap) (k : Nat) (x : Str) (C : Addr) : Prop where
  ex : ∃ (fI : Addr) (fd : FuncData) (ps : List Str), OexC K C ∧ PySem.W.findIn K (.ref C) "__init__" = some (some (.ref fI)) ∧ PySem.W.typeIn K (.ref fI) = some (.type "function") ∧ FnOk P w K mg base C8.CX0 k fI fd ps (spFault C) ∧ Binds K fd ps [] ∧ mg x = some (.ref C)
theorem ps_fault {X : Cx} {k j : Nat} {x : Str} {C : Addr} {p pos pos' : Pos} {e : Expr} {es : List Expr} {ta : TA} {W : WX} (c : MakF X.prog X.w X.K X.mg X.base k x C) (hr : Room j X.A) (hk : k + 1 ≤ j) (hc : X.calm = true) (tk : Takes X W) (hg : Gl X x) (ha : PA X (e :: es) ta)
    (hdb : (x == ("__debug__" : Str)) = false := by decide) (he : starEach (e :: es) X.env = (false, eval e X.env) :: starEach es X.env := by rfl) (hpl : (backTo pos (starEach es X.env)).any (·.1) = false := by rfl) :
    PS X (.Raise (some (.Call (.Name x p) (e :: es) [] pos)) none pos') (fun _ σ H => tMkO C (spFault C) [] ta σ H fun cls d H' => W cls d σ H') := by
  obtain ⟨fI, fd, ps, T, iC, tI, F, b, hm⟩ := c.ex
  exact ps_raise hc tk (pmk_oex T iC tI F (hr.mono hk) b .nil C8.pass0 hg hm ha hdb he hpl)
/-- self.f = v, four times -/
theorem init4 {K : PySem.W.Frag} {C a : Addr} {σ : L2.St} {H : Hp} {D : Ends} {f1 f2 f3 f4 : Str} {v1 v2 v3 v4 : V} (T : OexC K C) (n1 : PySem.W.findIn K (.ref C) f1 = some none) (n2 : PySem.W.findIn K (.ref C) f2 = some none) (n3 : PySem.W.findIn K (.ref C) f3 = some none) (n4 : PySem.W.findIn K (.ref C) f4 = some none)
    (s0 : σ[0]? = some (some (.ref a))) (s1 : σ[1]? = some (some v1)) (s2 : σ[2]? = some (some v2)) (s3 : σ[3]? = some (some v3)) (s4 : σ[4]? = some (some v4)) (ha : H a = some (exo a C none))
    (q : ∀ dx H2, H dx = none → dx ≠ a → (∀ b, b ≠ a → b ≠ dx → H2 b = H b) → H2 a = some (exo a C (some dx)) → H2 dx = some (exd dx [(f4, v4), (f3, v3), (f2, v2), (f1, v1)]) → D.nx σ H2) :
    tSeq (tOst K f1 (tVar 0) (tVar 1)) (tSeq (tOst K f2 (tVar 0) (tVar 2)) (tSeq (tOst K f3 (tVar 0) (tVar 3)) (tOst K f4 (tVar 0) (tVar 4)))) D σ H := by
  refine ⟨_, s1, _, s0, a, C, rfl, T, n1, .inl ⟨ha, fun dx hdx hne => ?_⟩⟩
  refine ⟨_, s2, _, s0, a, C, rfl, T, n2, .inr ⟨dx, _, upd_same, by rw [upd_ne hne]; exact upd_same, by show 1 ≤ 900; decide, ?_⟩⟩
  refine ⟨_, s3, _, s0, a, C, rfl, T, n3, .inr ⟨dx, _, by rw [upd_ne hne.symm]; exact upd_same, upd_same, by show 2 ≤ 900; decide, ?_⟩⟩
  refine ⟨_, s4, _, s0, a, C, rfl, T, n4, .inr ⟨dx, _, by rw [upd_ne hne.symm, upd_ne hne.symm]; exact upd_same, upd_same, by show 3 ≤ 900; decide, ?_⟩⟩
  refine q dx _ hdx hne (fun b h1 h2 => by rw [upd_ne h2, upd_ne h2, upd_ne h2, upd_ne h1, upd_ne h2]) ?_ upd_same
  rw [upd_ne hne.symm, upd_ne hne.symm, upd_ne hne.symm]
  exact upd_same

/-! ### try: body, several clauses, the first one taken -/
/-- only what the first clause takes comes out of the body; slot i is the clause's name -/
def wHit (K : PySem.W.Frag) (m : Nat) (c : Value) (i : Nat) (ts : Addr → Value → Option Addr → TS) (D : Ends) : WX := fun cls d σ H => PySem.W.exmOne K cls c = some true ∧ ∀ a, H a = none → σ.length = m →
  ts a cls d { nx := fun σ' H' => D.nx (σ'.set i none) H', rt := D.rt, bk := fun σ' H' => D.bk (σ'.set i none) H', ct := fun σ' H' => D.ct (σ'.set i none) H' } (σ.set i (some (.ref a))) H
section
variable {X : Cx} {x n : Str} {c : Value} {i : Nat} {body suite : List Stmt} {b₀ : Stmt} {hds : List ExceptHandler} {np pos pos' : Pos} {tb : WX → TS} {ts : Addr → Value → Option Addr → TS}
/-- a caught one stands at no frame -/
theorem caught_off {B h : Heap} {l : List Env} {a : Addr} {o : Obj} {vs : Array Value} (ff : h.FunFrames B l) (e : h.get? a = some o) (dd : o.data = .fields vs) : a ∉ frs l := fun hm => by
  obtain ⟨_, u, eu, no⟩ := ff.mem hm
  have z : o = u := Option.some.inj (e.symm.trans eu)
  exact no vs (z ▸ dd)
theorem ps_try_hit (hs : X.stack = X.env :: X.outer) (hf : X.env.frame = some X.env.locals) (hN : X.N.Nodup) (hi : X.N[i]? = some n) (hln : X.env.kindOf n = some .local) (hc : Names X x c)
    (hb : ∀ (W : WX) (pn : List (Addr × Obj)) (xe : Value → Shared → Prop), Takes (X.tr pn xe) W → PassesOwn (model X.prog X.w) X.A X.env xe → PSs (X.tr pn xe) body (tb W))
    (hsu : ∀ (a : Addr) (oe : Obj) (cls : Value) (d : Option Addr) (pn : List (Addr × Obj)), Zc cls d oe → (∃ vs, oe.data = .fields vs) → PSs (X.suite a ((a, oe) :: pn)) (b₀ :: suite) (ts a cls d)) :
    PS X (.Try body (.ExceptHandler (some (.Name x np)) (some n) (b₀ :: suite) pos' :: hds) [] [] pos) (fun D σ H => tb (wHit X.K X.N.length c i ts D) D σ H) := by
  refine ⟨fun pins s σ H D I h => ?_⟩
  have ok := I.ok
  have frames : X.A.frames = some (X.env :: X.outer) := by rw [ok.frames, hs]
  -- what the clauses do with what comes out
  have caught : ∀ u s', XE (X.tr (X.pn ++ pins) (fun e s₁ => wpAny (model X.prog X.w) X.A (noteFrame e X.env) (fun _ s₂ => wpAny (model X.prog X.w) X.A (setFlight e none) (fun _ s₃ =>
      wpAny (model X.prog X.w) X.A (handleBy e X.env (.ExceptHandler (some (.Name x np)) (some n) (b₀ :: suite) pos' :: hds)) (SP X pins D) X.xe s₃) X.xe s₂) X.xe s₁)) (wHit X.K X.N.length c i ts D) u s' →
      wpAny (model X.prog X.w) X.A (noteFrame u X.env) (fun _ s₂ => wpAny (model X.prog X.w) X.A (setFlight u none) (fun _ s₃ =>
        wpAny (model X.prog X.w) X.A (handleBy u X.env (.ExceptHandler (some (.Name x np)) (some n) (b₀ :: suite) pos' :: hds)) (SP X pins D) X.xe s₃) X.xe s₂) X.xe s' := by
    rintro u s' ⟨a, B, sI, pins', σ', H', cls, d, rfl, J0, ground, up, sky, na, os, ag, hit, go⟩
    have J : Inv X pins σ' H' sI := J0.ofTry ok
    refine Sky.land Zc.steady frames hf (by rw [← hs]; exact sky) fun h1 fl1 up1 => ?_
    have J1 : Inv X pins σ' H' { s' with heap := h1 } := J.landed ground fl1.1 (up.trans up1) os ag
    obtain ⟨o1, vs1, g1, z1, d1⟩ := fl1.there
    have off := caught_off fl1.2.2.1 g1 d1
    have offL : a ≠ X.env.locals := fun z => off (List.mem_filterMap.mpr ⟨X.env, List.mem_cons_self, by rw [hf, z]⟩)
    have offF : a ∉ X.fs := fun hm => by
      obtain ⟨e, he, q⟩ := List.mem_filterMap.mp hm
      exact off (List.mem_filterMap.mpr ⟨e, List.mem_cons_of_mem _ he, q⟩)
    have T1 := J1.suite g1 d1 na offL offF
    refine wpAny_handleBy_cons (codeAny_handlers_test ?_) (fun q => by cases q)
    have look : PySem.W.Looks (model X.prog X.w) h1 (excMatches (.ref a) c) true := PySem.W.exm_one J1.kIn (fun A Q E s k q => wpAny_typeOf_ref (k _ _ g1) (by rw [z1.1]; exact q)) hit
    have named : ∀ {Q : Value → Shared → Prop} {E : Value → Shared → Prop}, Q c { s' with heap := h1 } → wpAny (model X.prog X.w) (X.A.mark (some (.ref a))) (eval (.Name x np) X.env) Q E { s' with heap := h1 } := fun {Q E} q => by
      obtain ⟨hg, hdb, hm | ⟨hm, hv, hnn⟩⟩ := hc
      · exact ld_glob (X := X.suite a ((a, o1) :: (X.pn ++ pins))) T1 hg hm q hdb
      · exact ld_blt (X := X.suite a ((a, o1) :: (X.pn ++ pins))) T1 hg hm hv q hnn hdb
    refine named (look.here (codeAny_handlers_suite_as ?_))
    refine HandSPX.lands_againZ fl1 fun h2 fl2 up2 => ?_
    have J2 : Inv X pins σ' H' { s' with heap := h2 } := J.landed ground fl2.1 ((up.trans up1).trans up2) os ag
    obtain ⟨o2, vs2, g2, z2, d2⟩ := fl2.there
    have T2 := J2.suite g2 d2 na offL offF
    refine store_ok (X := X.suite a ((a, o2) :: (X.pn ++ pins))) (v := .ref a) T2 hN hi (.inl hln) rfl (fun s3 T3 => ?_) (.inr hln)
    refine wpAny_mono ((hsu a o2 cls d (X.pn ++ pins) z2 ⟨_, d2⟩).run [] s3 _ H' _ T3 (go a na J.len)) (fun fl s4 hsp => ?_) fun _ _ z => z.elim
    have done : ∀ {σ4 : L2.St} {H4 : Hp} {Q : Shared → Prop}, Inv (X.suite a ((a, o2) :: (X.pn ++ pins))) [] σ4 H4 s4 → (∀ s5, Inv X pins (σ4.set i none) H4 s5 → Q s5) →
        wpAny (model X.prog X.w) X.A (do bindName X.env n .none; unbindBehindTheSuite X.env n pos') (fun _ s5 => Q s5) X.xe s4 := fun T4 hq => gone_ok (T4.unsuite ok) hN hi hln hq
    match fl, hsp with
    | .next, ⟨_, _, T4, q4⟩ => exact done T4 fun s5 J5 => ⟨_, _, J5, q4⟩
    | .brk, ⟨_, _, T4, q4⟩ => exact done T4 fun s5 J5 => ⟨_, _, J5, q4⟩
    | .cont, ⟨_, _, T4, q4⟩ => exact done T4 fun s5 J5 => ⟨_, _, J5, q4⟩
    | .ret u4, ⟨_, _, _, T4, r4, q4⟩ => exact done T4 fun s5 J5 => ⟨_, _, _, J5, r4, q4⟩
  refine wpAny_Try_except (wpAny_mono ((hb (wHit X.K X.N.length c i ts D) (X.pn ++ pins) _ caught PassesOwn.looking).run [] s σ H D (I.toTry _) h) (fun fl s1 hsp => ?_) fun e s1 he => he)
  match fl, hsp with
  | .next, ⟨σ', H', J', q⟩ => exact wpAny_execs_nil ⟨σ', H', J'.ofTry ok, q⟩
  | .brk, ⟨σ', H', J', q⟩ => exact ⟨σ', H', J'.ofTry ok, q⟩
  | .cont, ⟨σ', H', J', q⟩ => exact ⟨σ', H', J'.ofTry ok, q⟩
  | .ret u, ⟨v, σ', H', J', r, q⟩ => exact ⟨v, σ', H', J'.ofTry ok, r, q⟩
end

/-! ### the harness's _law_told over a lambda -/
/-- what is told of a lambda's reading tl: its result, or a tuple of what the Fault tells -/
def TToldF (K : PySem.W.Frag) (CF : Addr) (ret f1 f2 f3 f4 : Str) : (XK → Hp → VK → Prop) → Hp → VK → Prop := fun tl H Q =>
  tl (fun cls d H' => cls = .ref CF ∧ ∃ (dd : Addr) (fs : List (Str × V)) (v1 v2 v3 v4 : V), d = some dd ∧ H' dd = some (.xd fs) ∧ fs.lookup f1 = some v1 ∧ fs.lookup f2 = some v2 ∧ fs.lookup f3 = some v3 ∧ fs.lookup f4 = some v4 ∧
    ∀ p, H' p = none → Q (.ref p) (upd H' p (.tup [.str ret, v1, v2, v3, v4]))) H Q
/-- what must be known of the exception's class -/
structure FltC (K : PySem.W.Frag) (CF : Addr) (f1 f2 f3 f4 : Str) : Prop where
  x : XfC K CF
  hit : PySem.W.exmOne K (.ref CF) (.ref CF) = some true
  n1 : PySem.W.findIn K (.ref CF) f1 = some none
  n2 : PySem.W.findIn K (.ref CF) f2 = some none
  n3 : PySem.W.findIn K (.ref CF) f3 = some none
  n4 : PySem.W.findIn K (.ref CF) f4 = some none
theorem told_hit {X : Cx} {Ng : List Str} {x a e n q ret f1 f2 f3 f4 : Str} {sg : Scope} {g CF : Addr} {cdg : Value} {j kt : Nat} {hds : List ExceptHandler} {p1 p2 p3 p4 p5 p6 p7 p8 p9 p10 p11 p12 p13 p14 p15 p16 p17 : Pos}
    (T : FltC X.K CF f1 f2 f3 f4) (hN : Ng.Nodup) (hi : Ng[1]? = some n) (hln : sg.names.lookup n = some .local) (hge : sg.names.lookup e = some .globalImplicit) (hme : X.mg e = some (.ref CF)) (h0 : ∀ f : Addr, (L2.start Ng [V.ref f])[0]? = some (some (V.ref f))) (hlen : 1 < Ng.length)
    (hde : (e == ("__debug__" : Str)) = false) (hdn : (n == ("__debug__" : Str)) = false) (hcn : (n == ("__classdict__" : Str)) = false) :
    LamX.GivesTo X Ng x sg g cdg [.Try [.Return (some (.Call (.Name a p1) [] [] p2)) p3] (.ExceptHandler (some (.Name e p4)) (some n) [.Return (some (.Tuple [.Constant (.str ret) j p5, .Attribute (.Name n p6) f1 p7, .Attribute (.Name n p8) f2 p9, .Attribute (.Name n p10) f3 p11, .Attribute (.Name n p12) f4 p13] kt p14)) p15] p16 :: hds) [] [] p17]
      a q (TToldF X.K CF ret f1 f2 f3 f4) := by
  intro f c' s H Q tl act hc h
  have hgl : Gl (cxOf C8.CX0 X.prog X.w X.K X.mg X.base Ng x sg g cdg X.A X.stack s H C8.E0).nox e := hge
  have vis : Vis sg n := .inl hln
  refine ⟨_, pss_one (ps_try_hit (X := (cxOf C8.CX0 X.prog X.w X.K X.mg X.base Ng x sg g cdg X.A X.stack s H C8.E0).nox) (c := .ref CF) (i := 1)
      (tb := fun W D σ H => ∃ Ech : XK, (∀ cls d σ' H', Ech cls d H' → W cls d σ' H') ∧ σ[0]? = some (some (.ref f)) ∧ H c' = some (LamX.CodeO c' q) ∧ tl Ech H D.rt)
      rfl rfl hN hi hln ⟨hgl, hde, .inl hme⟩ (fun W pn xe tk _ => ?_) (fun a oe cls d pn hz hf => pss_one (ps_ret (pe_tup (pa_cons pe_str (pa_cons (pe_xf T.x T.n1 hz hf (pe_var (i := 1) hi vis hdn hcn))
        (pa_cons (pe_xf T.x T.n2 hz hf (pe_var (i := 1) hi vis hdn hcn)) (pa_cons (pe_xf T.x T.n3 hz hf (pe_var (i := 1) hi vis hdn hcn)) (pa_cons (pe_xf T.x T.n4 hz hf (pe_var (i := 1) hi vis hdn hcn)) pa_nil))))))))), ?_⟩
  · refine ⟨fun pins s' σ H' D I h' => ?_⟩
    obtain ⟨Ech, hW, h1, h2, h3⟩ := h'
    exact (pss_one (ps_ret (pos := p3) (act W pn xe Ech p1 p2 tk hW))).run pins s' σ H' D I ⟨h1, h2, h3⟩
  · refine ⟨_, ?_, h0 f, hc, h⟩
    rintro cls d σ' H' ⟨rfl, dd, fs, v1, v2, v3, v4, rfl, hx, l1, l2, l3, l4, go⟩
    refine ⟨T.hit, fun a na hl => ?_⟩
    have sa : (σ'.set 1 (some (.ref a)))[1]? = some (some (.ref a)) := List.getElem?_set_self (by rw [hl]; exact hlen)
    exact ⟨_, sa, rfl, rfl, dd, fs, v1, rfl, hx, l1, _, sa, rfl, rfl, dd, fs, v2, rfl, hx, l2, _, sa, rfl, rfl, dd, fs, v3, rfl, hx, l3, _, sa, rfl, rfl, dd, fs, v4, rfl, hx, l4, (by show 5 ≤ sizeLine; exact sz_of (by decide)), fun p hp => go p hp⟩
/-- _law_told(lambda: body) -/
theorem pe_toldL {X : Cx} {T : List (Addr × Str)} {TT : (XK → Hp → VK → Prop) → Hp → VK → Prop} {x a : Str} {st : Stmt} {g c P : Addr} {fd : FuncData} {k : Nat} {Ng : List Str} {params : Arguments} {body : Expr} {scope : Scope} {t : XK → TE} {p lpos pos : Pos}
    (hg : Gl X x) (F : Def X.K X.mg x st g fd) (hb : L2.Binds X.K fd [a] []) (Sg : FnScope Ng [a] (fnScope st)) (hNg : Ng[0]? = some a) (hva : Vis (fnScope st) a) (hG : ∀ cdv, LamX.GivesTo X Ng x (fnScope st) g cdv (fnBody st) a (X.env.qual ++ "<lambda>") TT)
    (TB : LamX.TabB X.base X.mg c P) (hcode : X.env.code = .ref c) (hmT : (P, X.env.qual ++ "<lambda>") ∈ T) (hu : ∀ p ∈ T, p.1 = P → p.2 = X.env.qual ++ "<lambda>") (hr : Room (k + 2) X.A) (L : LamX.LamS X.env.scope scope) (hdef : defaultsOf params X.env = ([], []))
    (hbind : ∀ (q : Str) (cl : List (Str × Addr)) (pm cv ctv : Value), bindArgs (PySem.W.kla_fn "<lambda>" q params body scope cl pm cv ctv) ⟨[], []⟩ = pure [])
    (hbody : ∀ (A : Around) (outer : List Env) (s : Shared) (H : Hp) (E : XK) (f c' : Addr), Room k (A.deeper (LamX.lamEnv X scope s.heap.objs.size f c')) → PE (LamX.lamCx X A outer s H E scope f c') body (t E))
    (hdb : (x == ("__debug__" : Str)) = false := by decide) (hd : (a == ("__debug__" : Str)) = false := by decide) (hcd : (a == ("__classdict__" : Str)) = false := by decide) :
    PE X (.Call (.Name x p) [.Lambda params body scope lpos] [] pos) (LamX.tLam T TT t) := by
  obtain ⟨oc, od, dV, kV, doc, pm, an, cdv, ct, osl, rfl, lk, hc2⟩ := F.fn.ex
  exact LamX.pe_lamcall hg F.mgf F.kp lk hc2 hb Sg hNg hva (hG cdv) TB hcode hmT hu hr L hdef hbind hbody hdb hd hcd
/-- what a lambda lets out -/
theorem tk_lam {X : Cx} {A : Around} {outer : List Env} {s : Shared} {H : Hp} {E : XK} {scope : Scope} {f c' : Addr} : Takes (LamX.lamCx X A outer s H E scope f c') (fun cls d _ H' => E cls d H') := takes_of (E := E) rfl rfl rfl rfl
end Wt

set_option Elab.async false
set_option linter.all false
set_option maxRecDepth 100000
set_option maxHeartbeats 4000000
namespace Wt
open PySem PySem.Spec PyProof.Rows L2 SX Evl
open C8 (Def Cal cal0 fnScope_by fnScope)
/-! The program's words, by the row's own text. -/
def topS (i : Nat) : Stmt := PySem.Challenge.pw_wholetongue_k02_no_words.main.body.getD i (.Pass ⟨0, 0, 0, 0⟩)

/-! ### further readings -/
theorem lit_letters : Str.ofString "abcdefghijklmnopqrstuvwxyz" = S letters := by decide +kernel
theorem lit_figures : Str.ofString "0123456789" = S figures := by decide +kernel
theorem slice_any {a : List Nat} {i j : Nat} (h : i ≤ j) (hi : i ≤ a.length) : Txt.slice (S a) (some (i : Int)) (some (j : Int)) = S ((a.drop i).take (j - i)) := by
  by_cases hj : j ≤ a.length
  · exact slice_mid h hj
  · have e : Txt.slice (S a) (some (i : Int)) (some (j : Int)) = Txt.slice (S a) (some (i : Int)) (some (a.length : Int)) := by
      unfold Txt.slice
      rw [S_len, idx_hi (by omega)]
    rw [e, slice_mid hi (Nat.le_refl _)]
    refine congrArg S ?_
    rw [List.take_of_length_le (by rw [List.length_drop]; omega), List.take_of_length_le (by rw [List.length_drop]; omega)]
theorem inV_S (w : List Nat) : ∀ ws : List (List Nat), inV (.str (S w)) (ws.map fun z => V.str (S z)) = decide (w ∈ ws)
  | [] => (decide_eq_false (by simp)).symm
  | z :: ws => by
    have ih := inV_S w ws
    have e : inV (.str (S w)) ((z :: ws).map fun z => V.str (S z)) = (eqV (.str (S z)) (.str (S w)) || inV (.str (S w)) (ws.map fun z => V.str (S z))) := rfl
    have e2 : eqV (.str (S z)) (.str (S w)) = decide (z = w) := by
      show (S z == S w) = _
      exact S_beq_eq
    rw [e, ih, e2]
    by_cases h : z = w
    · subst h
      simp
    · have h2 : ¬ w = z := fun q => h q.symm
      simp [h, h2]
theorem flat_S : ∀ ws : List (List Nat), (ws.map fun z => V.str (S z)).all flatV = true
  | [] => rfl
  | z :: ws => by
    rw [List.map_cons, List.all_cons, flat_S ws] <;> rfl
theorem strEq {a b : List Nat} : decide ((V.str (S a)) = V.str (S b)) = decide (a = b) := by
  by_cases h : a = b
  · subst h
    simp
  · rw [decide_eq_false h]
    exact decide_eq_false fun e => h (S_inj (V.str.inj e))
section
variable {K : PySem.W.Frag} {σ : L2.St} {H H' : Hp} {ta tb te tx : TE} {t u : TT} {x y z v : V}
theorem ev_slA {te : TE} {tl th : TO} {a : List Nat} {i j : Nat} (h : Ev te σ H (.str (S a))) (h1 : EvO tl σ H (some (i : Int))) (h2 : EvO th σ H (some (j : Int))) (hl : a.length ≤ 100000) (hi : i ≤ j) (hj : i ≤ a.length) :
    Ev (tSl C8.rSlX te tl th) σ H (.str (S ((a.drop i).take (j - i)))) := fun H1 e Q q =>
  h H1 e _ fun H2 e2 => h1 H2 (e.trans e2) _ fun H3 e3 => h2 H3 ((e.trans e2).trans e3) _ fun H4 e4 => by
    refine ⟨S a, rfl, ?_, ?_⟩
    · rw [S_len]
      exact sz_of hl
    · rw [slice_any hi hj]
      exact q H4 ((e2.trans e3).trans e4)
theorem ev_eqS {a b : List Nat} (ha : Ev ta σ H (.str (S a))) (hb : Ev tb σ H (.str (S b))) : Ev (tOp rEq ta tb) σ H (.bl (decide (a = b))) := ev_is (ev_op ha hb (rv_eq rfl)) (congrArg V.bl strEq)
theorem ev_neS {a b : List Nat} (ha : Ev ta σ H (.str (S a))) (hb : Ev tb σ H (.str (S b))) : Ev (tOp rNe ta tb) σ H (.bl (!decide (a = b))) := ev_is (ev_op ha hb (rv_ne rfl)) (congrArg (fun b => V.bl (!b)) strEq)
theorem ev_inSg {c : Nat} {w : List Nat} (ha : Ev ta σ H (.str (S [c]))) (hb : Ev tb σ H (.str (S w))) :
    Ev (tOp (fun x y H Q => ∃ (c : Nat) (z : Str), x = .str ⟨#[c]⟩ ∧ y = .str z ∧ Q (.bl (decide (c ∈ z.cps.toList))) H) ta tb) σ H (.bl (decide (c ∈ w))) := ev_op ha hb rv_inSign
theorem ev_inTs {w : List Nat} {ws : List (List Nat)} {p : Addr} (ha : Ev ta σ H (.str (S w))) (hb : Ev tb σ H (.ref p)) (hp : SqT K H p (ws.map fun z => V.str (S z))) :
    Ev (tOp (rIn K false) ta tb) σ H (.bl (decide (w ∈ ws))) := ev_is (ev_op ha hb (rv_isT hp rfl (flat_S ws))) (congrArg V.bl (inV_S w ws))
end

/-- what the top leaves of the program's words -/
structure ModsW (K : PySem.W.Frag) (mg : Str → Option Value) (aS aO : Addr) : Prop where
  m_len : mg "len" = none
  m_enumerate : mg "enumerate" = none
  g_LETTERS : ∃ u, mg "LETTERS" = some u ∧ RelV (.str (S letters)) u
  g_FIGURES : ∃ u, mg "FIGURES" = some u ∧ RelV (.str (S figures)) u
  g_LONGEST : ∃ u, mg "LONGEST" = some u ∧ RelV (.int 6) u
  g_SIGNS : ∃ u, mg "SIGNS" = some u ∧ RelV (.ref aS) u
  g_OWN_WORDS : ∃ u, mg "OWN_WORDS" = some u ∧ RelV (.ref aO) u
  signs : ∀ H, SqT K H aS (signs.map fun z => V.str (S z))
  owns : ∀ H, SqT K H aO (owns.map fun z => V.str (S z))

section
variable {P : Program} {w : World} {K : PySem.W.Frag} {mg : Str → Option Value} {base : Heap} {aS aO : Addr}
/-! ### run_at -/
abbrev s_run_at : Stmt := topS 16
theorem sc_run_at : FnScope ["row", "at", "characters", "end"] ["row", "at", "characters"] (fnScope s_run_at) := fnScope_by (by decide +kernel)
def spRun : Sp := fun vs H Q _ => ∃ (row : List Nat) (i : Nat) (cs : List Nat), vs = [.str (S row), .int (i : Int), .str (S cs)] ∧ i ≤ row.length ∧ row.length ≤ 100000 ∧
  RetV (.str (S ((row.drop i).takeWhile fun c => decide (c ∈ cs)))) H Q
theorem ok_run_at (T : ModsW K mg aS aO) {f : Addr} {fd : FuncData} (F : Def K mg "run_at" s_run_at f fd) (b : Binds K fd ["row", "at", "characters"] []) : Cal P w K mg base 1 "run_at" spRun [] := by
  refine cal0 F b .nil sc_run_at (fun vs H Q E h => ?_) (fun cdv A outer s H vs Q E hr h => ?_)
  · obtain ⟨_, _, _, rfl, _⟩ := h
    rfl
  · obtain ⟨row, i, cs, rfl, hi, hl, q⟩ := h
    have m_len := T.m_len
    refine ⟨_, (pss_cons (ps_set (i := 3) sc_run_at.nd rfl (.inl rfl) (pv 1))
      (pss_cons (ps_while PassesOwn.never (PW.pt (pw_and (pt_cmpR op_lt (pv 3) (pe_callB call_len_str (by rfl) m_len PySem.boot_len (pa_cons (pv 0) pa_nil)) (nomark _)) (pw_and1 (pt_cmpR op_in_sign (pe_ix ix_str (pv 0) (pv 3) (fun _ _ => rfl)) (pv 2) (by with_unfolding_all rfl))))) (pss_one (ps_aug (i := 3) sc_run_at.nd rfl (.inl rfl) pe_int ip_add)))
      (pss_one (ps_ret (pe_slice C8.sl_txt (pv 0) (po_some (pv 1)) (po_some (pv 3))))))), ?_⟩
    refine q_asg (ev_var rfl) fun H1 e1 => ?_
    refine q_while (fun m σ' H' => ∃ e : Nat, σ' = [some (.str (S row)), some (.int (i : Int)), some (.str (S cs)), some (.int (e : Int))] ∧ Ex H H' ∧ i ≤ e ∧ e + m = row.length ∧
      (row.drop i).takeWhile (fun c => decide (c ∈ cs)) = (row.drop i).take (e - i) ++ (row.drop e).takeWhile (fun c => decide (c ∈ cs))) (row.length - i) ⟨i, rfl, e1, Nat.le_refl _, by omega, ?_⟩ ?_
    · rw [Nat.sub_self, List.take_zero, List.nil_append]
    · rintro m σ' H' ⟨e, rfl, eH, hie, hm, hw⟩
      by_cases hlt : e < row.length
      · have hg : row[e]? = some row[e] := List.getElem?_eq_getElem hlt
        have hd : row.drop e = row[e] :: row.drop (e + 1) := List.drop_eq_getElem_cons hlt
        refine ⟨true && decide (row[e] ∈ cs), et_and (et_is (et_test (ev_op (ev_var rfl) (ev_lenS (ev_var rfl) hl) rv_I0)) (decide_eq_true (by omega))) fun _ => et_test (ev_inSg (ev_op (ev_var rfl) (ev_var rfl) (rv_at hl hg)) (ev_var rfl)), fun hb H1 e1' => ?_, fun hb H1 e1' => ?_⟩
        · have hc : row[e] ∈ cs := of_decide_eq_true (by simpa using hb)
          refine ⟨fun σ2 H2 => σ2 = [some (.str (S row)), some (.int (i : Int)), some (.str (S cs)), some (.int ((e + 1 : Nat) : Int))] ∧ Ex H H2, fun σ2 H2 hN => ⟨m - 1, by omega, e + 1, hN.1, hN.2, by omega, by omega, ?_⟩, ?_⟩
          · rw [hw, hd, List.takeWhile_cons, if_pos (by simpa using hc)]
            have e2 : (row.drop i).take (e + 1 - i) = (row.drop i).take (e - i) ++ [row[e]] := by
              rw [show e + 1 - i = (e - i) + 1 by omega, List.take_add_one]
              congr 1
              rw [List.getElem?_drop, show i + (e - i) = e by omega, hg]
              rfl
            rw [e2, List.append_assoc]
            rfl
          · refine s_aug (a := (e : Int)) (b := 1) rfl ev_c fun H2 e2 => ⟨?_, (eH.trans e1').trans e2⟩
            show [some (V.str (S row)), some (.int (i : Int)), some (.str (S cs)), some (.int ((e : Int) + 1))] = _
            rw [show ((e + 1 : Nat) : Int) = (e : Int) + 1 by omega]
        · have hc : ¬ row[e] ∈ cs := of_decide_eq_false (by simpa using hb)
          rw [hd, List.takeWhile_cons, if_neg (by simpa using hc), List.append_nil] at hw
          refine s_ret (ev_sl (ev_var rfl) (eo_some (ev_var rfl)) (eo_some (ev_var rfl)) hl hie (by omega)) fun H2 e2 => ?_
          rw [← hw]
          exact q.go ((eH.trans e1').trans e2)
      · refine ⟨false && false, et_and (et_is (et_test (ev_op (ev_var rfl) (ev_lenS (ev_var rfl) hl) rv_I0)) (decide_eq_false (by omega))) (fun z => by cases z), (fun z => by cases z), fun _ H1 e1' => ?_⟩
        have hz : row.drop e = [] := List.drop_eq_nil_of_le (by omega)
        rw [hz, List.takeWhile_nil, List.append_nil] at hw
        refine s_ret (ev_sl (ev_var rfl) (eo_some (ev_var rfl)) (eo_some (ev_var rfl)) hl hie (by omega)) fun H2 e2 => ?_
        rw [← hw]
        exact q.go ((eH.trans e1').trans e2)

/-! ### word_at -/
abbrev s_word_at : Stmt := topS 15
theorem sc_word_at : FnScope ["row", "at", "sign"] ["row", "at"] (fnScope s_word_at) := fnScope_by (by decide +kernel)
def spWordAt : Sp := fun vs H Q _ => ∃ (row : List Nat) (i : Nat), vs = [.str (S row), .int (i : Int)] ∧ i < row.length ∧ row.length ≤ 100000 ∧ RetV (.str (S (wordAt (row.drop i)))) H Q
theorem find_at {l : List Nat} : ∀ (ss : List (List Nat)) (j : Nat) (s : List Nat), ss[j]? = some s → l.take s.length = s → (∀ k s', k < j → ss[k]? = some s' → l.take s'.length ≠ s') →
    ss.find? (fun s => decide (l.take s.length = s)) = some s
  | [], _, _, h, _, _ => by simp at h
  | z :: ss, 0, s, h, h1, _ => by
    have e : z = s := Option.some.inj h
    subst e
    rw [List.find?_cons_of_pos (by simpa using h1)]
  | z :: ss, j + 1, s, h, h1, h2 => by
    rw [List.find?_cons_of_neg (by simpa using h2 0 z (Nat.succ_pos _) rfl)]
    exact find_at ss j s h h1 fun k s' hk e => h2 (k + 1) s' (Nat.succ_lt_succ hk) e
theorem find_no {l : List Nat} {ss : List (List Nat)} (h : ∀ k s', k < ss.length → ss[k]? = some s' → l.take s'.length ≠ s') : ss.find? (fun s => decide (l.take s.length = s)) = none := by
  rw [List.find?_eq_none]
  intro s hs
  obtain ⟨k, hk, e⟩ := List.getElem_of_mem hs
  simpa using h k s hk (by rw [List.getElem?_eq_getElem hk, e])
theorem ok_word_at (T : ModsW K mg aS aO) (c_run_at : Cal P w K mg base 1 "run_at" spRun []) {f : Addr} {fd : FuncData} (F : Def K mg "word_at" s_word_at f fd) (b : Binds K fd ["row", "at"] []) : Cal P w K mg base 2 "word_at" spWordAt [] := by
  refine cal0 F b .nil sc_word_at (fun vs H Q E h => ?_) (fun cdv A outer s H vs Q E hr h => ?_)
  · obtain ⟨_, _, rfl, _⟩ := h
    rfl
  · obtain ⟨row, i, rfl, hi, hl, q⟩ := h
    have g_LETTERS := T.g_LETTERS
    have g_FIGURES := T.g_FIGURES
    have g_SIGNS := T.g_SIGNS
    have m_len := T.m_len
    refine ⟨_, (pss_cons (ps_if (pt_cmpR op_in_sign (pe_ix ix_str (pv 0) (pv 1) (fun _ _ => rfl)) (C8.pe_gc (by rfl) g_LETTERS) (by with_unfolding_all rfl)) (pss_one (ps_ret (C8.pe_c c_run_at hr (by first | decide | exact Nat.le_refl _ | omega) (by rfl) (pa_cons (pv 0) (pa_cons (pv 1) (pa_cons (C8.pe_gc (by rfl) g_LETTERS) pa_nil)))))) pss_nil)
      (pss_cons (ps_if (pt_cmpR op_in_sign (pe_ix ix_str (pv 0) (pv 1) (fun _ _ => rfl)) (C8.pe_gc (by rfl) g_FIGURES) (by with_unfolding_all rfl)) (pss_one (ps_ret (C8.pe_c c_run_at hr (by first | decide | exact Nat.le_refl _ | omega) (by rfl) (pa_cons (pv 0) (pa_cons (pv 1) (pa_cons (C8.pe_gc (by rfl) g_FIGURES) pa_nil)))))) pss_nil)
      (pss_cons (ps_for PassesOwn.never rfl (pi_tup (C8.pe_gc (by rfl) g_SIGNS)) (pg_name (i := 2) sc_word_at.nd rfl (.inl rfl)) (pss_one (ps_if (pt_cmpR op_eq (pe_slice C8.sl_txt (pv 0) (po_some (pv 1)) (po_some (pe_op op_add (pv 1) (pe_callB call_len_str (by rfl) m_len PySem.boot_len (pa_cons (pv 2) pa_nil))))) (pv 2) (nomark _)) (pss_one (ps_ret (pv 2))) pss_nil)))
      (pss_one (ps_ret pe_str))))), ?_⟩
    have hg : row[i]? = some row[i] := List.getElem?_eq_getElem hi
    have hd : row.drop i = row[i] :: row.drop (i + 1) := List.drop_eq_getElem_cons hi
    have hw : wordAt (row.drop i) = if isL row[i] = true then (row.drop i).takeWhile isL else if isF row[i] = true then (row.drop i).takeWhile isF else (signs.find? fun s => decide ((row.drop i).take s.length = s)).getD [] := by
      rw [hd, wordAt_cons]
    rw [hw] at q
    have run : ∀ cs : List Nat, SpV spRun [.str (S row), .int (i : Int), .str (S cs)] H (.str (S ((row.drop i).takeWhile fun c => decide (c ∈ cs)))) := fun cs H1 e Q' q' E' =>
      ⟨row, i, cs, rfl, Nat.le_of_lt hi, hl, fun H2 e2 => q' H2 e2⟩
    refine q_when (et_test (ev_inSg (ev_op (ev_var rfl) (ev_var rfl) (rv_at hl hg)) ev_c)) (fun hb H1 e1 => ?_) (fun hb H1 e1 => ?_)
    · rw [if_pos (show isL row[i] = true from hb)] at q
      exact s_ret (ev_call (dvs := []) (ea_cons (ev_var rfl) (ea_cons (ev_var rfl) (ea_cons ev_c ea_nil))) (fun H2 e2 => run letters H2 (e1.trans e2))) fun H2 e2 => q.go (e1.trans e2)
    · rw [if_neg (show ¬ isL row[i] = true from by unfold isL; rw [hb]; exact Bool.false_ne_true)] at q
      refine q_when (et_test (ev_inSg (ev_op (ev_var rfl) (ev_var rfl) (rv_at hl hg)) ev_c)) (fun hb2 H2 e2 => ?_) (fun hb2 H2 e2 => ?_)
      · rw [if_pos (show isF row[i] = true from hb2)] at q
        exact s_ret (ev_call (dvs := []) (ea_cons (ev_var rfl) (ea_cons (ev_var rfl) (ea_cons ev_c ea_nil))) (fun H3 e3 => run figures H3 ((e1.trans e2).trans e3))) fun H3 e3 => q.go ((e1.trans e2).trans e3)
      · rw [if_neg (show ¬ isF row[i] = true from by unfold isF; rw [hb2]; exact Bool.false_ne_true)] at q
        have e12 := e1.trans e2
        refine q_forT ev_c (T.signs H2) (fun j σ' H' => ∃ y, σ' = [some (.str (S row)), some (.int (i : Int)), y] ∧ Ex H H' ∧ ∀ k s', k < j → signs[k]? = some s' → (row.drop i).take s'.length ≠ s')
          (fun H3 e3 => ⟨none, rfl, e12.trans e3, fun k _ hk => absurd hk (Nat.not_lt_zero _)⟩) (fun j σ' H' _ _ => T.signs H') ?_ ?_
        · rintro j x σ' H' hx ⟨y, rfl, eH, hno⟩
          rw [List.getElem?_map] at hx
          cases hs : signs[j]? with
          | none =>
            rw [hs] at hx
            cases hx
          | some sg =>
            rw [hs] at hx
            have ex : x = .str (S sg) := (Option.some.inj hx).symm
            subst ex
            have hsl : sg.length ≤ 100000 := by
              have hm := List.mem_of_getElem? hs
              have hall : ∀ z ∈ signs, z.length ≤ 2 := by decide
              exact Nat.le_trans (hall _ hm) (by decide)
            refine s_when (et_test (ev_eqS (ev_slA (j := i + sg.length) (ev_var rfl) (eo_some (ev_var rfl)) (eo_some (ev_is (ev_op (ev_var rfl) (ev_lenS (ev_var rfl) hsl) rv_I0) (by
              show V.int ((i : Int) + (sg.length : Int)) = V.int ((i + sg.length : Nat) : Int)
              rw [Int.natCast_add]))) hl (Nat.le_add_right _ _) (Nat.le_of_lt hi)) (ev_var rfl))) (fun hb3 H3 e3 => ?_) (fun hb3 H3 e3 => ?_)
            · have hm : (row.drop i).take sg.length = sg := by
                have z := of_decide_eq_true hb3
                rw [Nat.add_sub_cancel_left] at z
                exact z
              rw [find_at signs j sg hs hm hno] at q
              exact s_ret (ev_var rfl) fun H4 e4 => q.go ((eH.trans e3).trans e4)
            · refine ⟨_, rfl, eH.trans e3, fun k s' hk e => ?_⟩
              by_cases hkj : k < j
              · exact hno k s' hkj e
              · have ek : k = j := by omega
                subst ek
                rw [hs] at e
                cases e
                have z := of_decide_eq_false hb3
                rw [Nat.add_sub_cancel_left] at z
                exact z
        · rintro σ' H' ⟨y, rfl, eH, hno⟩
          rw [find_no (fun k s' hk e => hno k s' (by rw [List.length_map]; exact hk) e)] at q
          exact s_ret ev_c fun H3 e3 => q.go (eH.trans e3)

/-! ### kind_of -/
abbrev s_kind_of : Stmt := topS 17
theorem sc_kind_of : FnScope ["word"] ["word"] (fnScope s_kind_of) := fnScope_by (by decide +kernel)
def spKind : Sp := fun vs H Q _ => ∃ w : List Nat, vs = [.str (S w)] ∧ w.length ≤ 100000 ∧ RetV (.str (S (kindOf w))) H Q
theorem lit0 : (Str.ofString "" : Str) = S [] := by decide +kernel
theorem ok_kind_of (T : ModsW K mg aS aO) {f : Addr} {fd : FuncData} (F : Def K mg "kind_of" s_kind_of f fd) (b : Binds K fd ["word"] []) : Cal P w K mg base 1 "kind_of" spKind [] := by
  refine cal0 F b .nil sc_kind_of (fun vs H Q E h => ?_) (fun cdv A outer s H vs Q E hr h => ?_)
  · obtain ⟨_, rfl, _⟩ := h
    rfl
  · obtain ⟨w, rfl, hl, q⟩ := h
    have g_OWN_WORDS := T.g_OWN_WORDS
    have g_SIGNS := T.g_SIGNS
    have m_len := T.m_len
    have g_LONGEST := T.g_LONGEST
    have g_LETTERS := T.g_LETTERS
    refine ⟨_, (pss_cons (ps_if (pt_cmpR op_in_seq (pv 0) (C8.pe_gc (by rfl) g_OWN_WORDS) (by with_unfolding_all rfl)) (pss_one (ps_ret pe_str)) pss_nil)
      (pss_cons (ps_if (pt_cmpR op_in_seq (pv 0) (C8.pe_gc (by rfl) g_SIGNS) (by with_unfolding_all rfl)) (pss_one (ps_ret pe_str)) pss_nil)
      (pss_cons (ps_if (PW.pt (pw_or (pt_cmpR op_eq (pv 0) pe_str (nomark _)) (pw_or1 (pt_cmpR op_gt (pe_callB call_len_str (by rfl) m_len PySem.boot_len (pa_cons (pv 0) pa_nil)) (C8.pe_gc (by rfl) g_LONGEST) (nomark _))))) (pss_one (ps_ret pe_str)) pss_nil)
      (pss_cons (ps_if (pt_cmpR op_in_sign (pe_ix ix_str (pv 0) pe_int (fun _ _ => rfl)) (C8.pe_gc (by rfl) g_LETTERS) (by with_unfolding_all rfl)) (pss_one (ps_ret pe_str)) pss_nil)
      (pss_cons (ps_if (PW.pt (pw_and (pt_cmpR op_eq (pe_ix ix_str (pv 0) pe_int (fun _ _ => rfl)) pe_str (nomark _)) (pw_and1 (pt_cmpR op_gt (pe_callB call_len_str (by rfl) m_len PySem.boot_len (pa_cons (pv 0) pa_nil)) pe_int (nomark _))))) (pss_one (ps_ret pe_str)) pss_nil)
      (pss_one (ps_ret pe_str))))))), ?_⟩
    unfold kindOf at q
    have c0 : ∀ {H : Hp}, Ev (tC (.str (Str.ofString ""))) [some (V.str (S w))] H (.str (S [])) := ev_is ev_c (congrArg V.str lit0)
    refine q_when (et_test (ev_inTs (ev_var rfl) ev_c (T.owns H))) (fun hb H1 e1 => ?_) (fun hb H1 e1 => ?_)
    · rw [if_pos (of_decide_eq_true hb)] at q
      exact s_ret (ev_is ev_c (congrArg V.str (show Str.ofString "own" = S kOwn by decide +kernel))) fun H2 e2 => q.go (e1.trans e2)
    rw [if_neg (of_decide_eq_false hb)] at q
    refine q_when (et_test (ev_inTs (ev_var rfl) ev_c (T.signs H1))) (fun hb2 H2 e2 => ?_) (fun hb2 H2 e2 => ?_)
    · rw [if_pos (of_decide_eq_true hb2)] at q
      exact s_ret (ev_is ev_c (congrArg V.str (show Str.ofString "sign" = S kSign by decide +kernel))) fun H3 e3 => q.go ((e1.trans e2).trans e3)
    rw [if_neg (of_decide_eq_false hb2)] at q
    have e12 := e1.trans e2
    refine q_when (et_or (et_test (ev_eqS (ev_var rfl) c0)) fun _ => et_test (ev_op (ev_lenS (ev_var rfl) hl) ev_c rv_I0)) (fun hb3 H3 e3 => ?_) (fun hb3 H3 e3 => ?_)
    · have h3 : w = [] ∨ 6 < w.length := by
        rw [Bool.or_eq_true] at hb3
        rcases hb3 with z | z
        · exact .inl (of_decide_eq_true z)
        · have z2 := of_decide_eq_true z
          exact .inr (by omega)
      rw [if_pos h3] at q
      exact s_ret c0 fun H4 e4 => q.go ((e12.trans e3).trans e4)
    have h3 : ¬ (w = [] ∨ 6 < w.length) := by
      rw [Bool.or_eq_false_iff] at hb3
      rintro (z | z)
      · exact of_decide_eq_false hb3.1 z
      · have z2 := of_decide_eq_false hb3.2
        omega
    rw [if_neg h3] at q
    have e13 := e12.trans e3
    obtain ⟨c, r, rfl⟩ : ∃ c r, w = c :: r := by
      cases w with
      | nil => exact absurd (.inl rfl) h3
      | cons c r => exact ⟨c, r, rfl⟩
    have at0 : ∀ {H : Hp}, Ev (tOp rIxS (tVar 0) (tC (.int 0))) [some (V.str (S (c :: r)))] H (.str (S [c])) := ev_op (ev_var rfl) ev_c (rv_at (i := 0) hl rfl)
    refine q_when (et_test (ev_inSg at0 ev_c)) (fun hb4 H4 e4 => ?_) (fun hb4 H4 e4 => ?_)
    · rw [if_pos (show isL ((c :: r).headD 0) = true from hb4)] at q
      exact s_ret (ev_is ev_c (congrArg V.str (show Str.ofString "name" = S kName by decide +kernel))) fun H5 e5 => q.go ((e13.trans e4).trans e5)
    rw [if_neg (show ¬ isL ((c :: r).headD 0) = true from by
      show ¬ decide (c ∈ letters) = true
      rw [hb4]
      exact Bool.false_ne_true)] at q
    refine q_when (et_and (et_test (ev_eqS at0 (ev_is ev_c (congrArg V.str (show Str.ofString "0" = S [48] by decide +kernel))))) fun _ => et_test (ev_op (ev_lenS (ev_var rfl) hl) ev_c rv_I0)) (fun hb5 H5 e5 => ?_) (fun hb5 H5 e5 => ?_)
    · have h5 : (c :: r).headD 0 = 48 ∧ 1 < (c :: r).length := by
        rw [Bool.and_eq_true] at hb5
        have z1 := of_decide_eq_true hb5.1
        have z2 := of_decide_eq_true hb5.2
        exact ⟨by simpa using z1, by omega⟩
      rw [if_pos h5] at q
      exact s_ret c0 fun H6 e6 => q.go (((e13.trans e4).trans e5).trans e6)
    · have h5 : ¬ ((c :: r).headD 0 = 48 ∧ 1 < (c :: r).length) := by
        rintro ⟨z1, z2⟩
        have z1' : c = 48 := z1
        rw [Bool.and_eq_false_iff] at hb5
        rcases hb5 with z | z
        · exact of_decide_eq_false z (by rw [z1'])
        · have := of_decide_eq_false z
          omega
      rw [if_neg h5] at q
      exact s_ret (ev_is ev_c (congrArg V.str (show Str.ofString "num" = S kNum by decide +kernel))) fun H6 e6 => q.go (((e13.trans e4).trans e5).trans e6)
end
end Wt

set_option Elab.async false
set_option linter.all false
set_option maxRecDepth 100000
set_option maxHeartbeats 4000000
namespace Wt
open PySem PySem.Spec PyProof.Rows L2 SX Evl
open C8 (Def Cal cal0 fnScope_by fnScope)
/-! words_in, words_of: all words, or a Fault at the first that is none. -/
section
variable {P : Program} {w : World} {K : PySem.W.Frag} {mg : Str → Option Value} {base : Heap} {aS aO : Addr}
/-- a Fault "words" at a place; what it means to be let out -/
def FaultO (H : Hp) (d : Addr) (n c : Nat) : Prop := ∃ p, H d = some (.xd [("why", .str (Str.ofString "word")), ("place", .ref p), ("file", .str (Str.ofString "")), ("stage", .str (Str.ofString "words"))]) ∧ H p = some (.tup [.int (n : Int), .int (c : Int)])
def RaiseF (CF : Addr) (H : Hp) (E : XK) (n c : Nat) : Prop := ∀ d H2, Ex H H2 → FaultO H2 d n c → E (.ref CF) (some d) H2
/-- the first row that has a sign that begins no word, the sign's column -/
def firstBad : Nat → List (List Nat) → Option (Nat × Nat)
  | _, [] => none
  | n, r :: rs => match (lexRow r).2 with
    | some c => some (n, c)
    | none => firstBad (n + 1) rs
/-! ### words_in -/
abbrev s_words_in : Stmt := topS 14
theorem sc_words_in : FnScope ["row", "number", "told", "words", "at", "word", "kind", "place"] ["row", "number"] (fnScope s_words_in) := fnScope_by (by decide +kernel)
def spWordsIn (CF : Addr) : Sp := fun vs H Q E => ∃ (row : List Nat) (n : Nat), vs = [.str (S row), .int (n : Int)] ∧ row.length ≤ 50000 ∧ ((lexRow row).2 = none → RetTd ((lexRow row).1.map (wordD n)) H Q) ∧ ∀ c, (lexRow row).2 = some c → RaiseF CF H E n c
theorem ok_words_in (T : ModsW K mg aS aO) {CF : Addr} (c_Fault : MakF P w K mg base 1 "Fault" CF) (c_word_at : Cal P w K mg base 2 "word_at" spWordAt []) (c_kind_of : Cal P w K mg base 1 "kind_of" spKind [])
    {f : Addr} {fd : FuncData} (F : Def K mg "words_in" s_words_in f fd) (b : Binds K fd ["row", "number"] []) : CalX P w K mg base 3 "words_in" (spWordsIn CF) := by
  refine calX F b sc_words_in (fun vs H Q E h => ?_) (fun cdv A outer s H vs Q E hr h => ?_)
  · obtain ⟨_, _, rfl, _⟩ := h
    rfl
  · obtain ⟨row, n, rfl, hl, q, qx⟩ := h
    have tk := tk_cx (P := P) (w := w) (K := K) (mg := mg) (base := base) (N := ["row", "number", "told", "words", "at", "word", "kind", "place"]) (q := "words_in") (sc := fnScope s_words_in) (f := f) (cdv := cdv) (A := A) (outer := outer) (s := s) (H := H) (E := E)
    have m_len := T.m_len
    refine ⟨_, (pss_cons (ps_set (i := 2) sc_words_in.nd rfl (.inl rfl) (pe_ix ix_tup (pe_partition (pv 0) pe_str) pe_int (fun _ _ => rfl)))
      (pss_cons (ps_set (i := 3) sc_words_in.nd rfl (.inl rfl) (pe_lst pa_nil))
      (pss_cons (ps_set (i := 4) sc_words_in.nd rfl (.inl rfl) pe_int)
      (pss_cons (ps_while (passes_of rfl) (pt_cmpR op_lt (pv 4) (pe_callB call_len_str (by rfl) m_len PySem.boot_len (pa_cons (pv 2) pa_nil)) (nomark _)) (pss_one (ps_if (pt_cmpR op_eq (pe_ix ix_str (pv 2) (pv 4) (fun _ _ => rfl)) pe_str (nomark _)) (pss_one (ps_aug (i := 4) sc_words_in.nd rfl (.inl rfl) pe_int ip_add)) (pss_cons (ps_set (i := 5) sc_words_in.nd rfl (.inl rfl) (C8.pe_c c_word_at hr (by first | decide | exact Nat.le_refl _ | omega) (by rfl) (pa_cons (pv 2) (pa_cons (pv 4) pa_nil))))
      (pss_cons (ps_set (i := 6) sc_words_in.nd rfl (.inl rfl) (C8.pe_c c_kind_of hr (by first | decide | exact Nat.le_refl _ | omega) (by rfl) (pa_cons (pv 5) pa_nil)))
      (pss_cons (ps_set (i := 7) sc_words_in.nd rfl (.inl rfl) (pe_tup (pa_cons (pv 1) (pa_cons (pe_op op_add (pv 4) pe_int) pa_nil))))
      (pss_cons (ps_if (pt_cmpR op_eq (pv 6) pe_str (nomark _)) (pss_one (Wt.ps_fault c_Fault hr (by first | decide | exact Nat.le_refl _ | omega) rfl tk (by rfl) (pa_cons pe_str (pa_cons pe_str (pa_cons (pv 7) (pa_cons pe_str pa_nil)))))) pss_nil)
      (pss_cons (ps_expr (pe_bm PySem.F.plainAttrs_list PySem.F.slot_list_append PySem.F.type_list_append mt_append (pv 3) (pa_cons (pe_tup (pa_cons (pv 6) (pa_cons (pv 5) (pa_cons (pv 7) pa_nil)))) pa_nil)))
      (pss_one (ps_aug (i := 4) sc_words_in.nd rfl (.inl rfl) (pe_callB call_len_str (by rfl) m_len PySem.boot_len (pa_cons (pv 5) pa_nil)) ip_add))))))))))
      (pss_one (ps_ret (pv 3))))))), ?_⟩
    have htl := told_len row
    have ht : (told row).length ≤ 100000 := by omega
    refine q_asg (ev_told (ev_var rfl) (ev_is ev_c (congrArg V.str (show Str.ofString "#" = S [35] by decide +kernel))) (by omega)) fun H1 e1 => ?_
    refine q_asgL (el_lst ea_nil (Nat.zero_le _)) fun l H2 hl1 e2 hl2 => ?_
    have hl0 : H l = none := fresh_back e1 hl1
    refine q_asg ev_c fun H3 e3 => ?_
    refine q_while (fun m σ' H' => ∃ (i : Nat) (ds : List PyData) (us : List V) (y5 y6 y7 : Option V), σ' = [some (.str (S row)), some (.int (n : Int)), some (.str (S (told row))), some (.ref l), some (.int (i : Int)), y5, y6, y7] ∧
      Ex H H' ∧ H' l = some (.lst us) ∧ TdAll H' us ds ∧ us.length ≤ i ∧ i + m = (told row).length ∧ (lexRow row).1.map (wordD n) = ds ++ (lexR i ((told row).drop i)).1.map (wordD n) ∧ (lexRow row).2 = (lexR i ((told row).drop i)).2)
      (told row).length ⟨0, [], [], none, none, none, rfl, (e1.trans e2).trans e3, e3 l _ hl2, .nil, Nat.le_refl _, Nat.zero_add _, by rw [List.drop_zero, List.nil_append, lexRow_R], by rw [List.drop_zero, lexRow_R]⟩ ?_
    rintro m σ' H' ⟨i, ds, us, y5, y6, y7, rfl, eH, hL, hT, hlen, hm, hlex, hok⟩
    by_cases hlt : i < (told row).length
    · have hg : (told row)[i]? = some (told row)[i] := List.getElem?_eq_getElem hlt
      have hd : (told row).drop i = (told row)[i] :: (told row).drop (i + 1) := List.drop_eq_getElem_cons hlt
      refine ⟨true, et_is (et_test (ev_op (ev_var rfl) (ev_lenS (ev_var rfl) ht) rv_I0)) (decide_eq_true (by omega)), fun _ H4 e4 => ?_, fun z => by cases z⟩
      refine ⟨fun σ2 H5 => ∃ (j : Nat) (ds : List PyData) (us : List V) (y5 y6 y7 : Option V), i < j ∧ σ2 = [some (.str (S row)), some (.int (n : Int)), some (.str (S (told row))), some (.ref l), some (.int (j : Int)), y5, y6, y7] ∧
        Ex H H5 ∧ H5 l = some (.lst us) ∧ TdAll H5 us ds ∧ us.length ≤ j ∧ j ≤ (told row).length ∧ (lexRow row).1.map (wordD n) = ds ++ (lexR j ((told row).drop j)).1.map (wordD n) ∧ (lexRow row).2 = (lexR j ((told row).drop j)).2, ?_, ?_⟩
      · rintro σ2 H5 ⟨j, ds', us', z5, z6, z7, hij, rfl, eH5, hL5, hT5, hlen5, hj, hx5, ho5⟩
        exact ⟨(told row).length - j, by omega, j, ds', us', z5, z6, z7, rfl, eH5, hL5, hT5, hlen5, by omega, hx5, ho5⟩
      · have hL4 : H4 l = some (.lst us) := e4 l _ hL
        have hT4 : TdAll H4 us ds := TdAll.tx (Tx.of e4) _ _ hT
        refine s_if (et_test (ev_eqS (ev_op (ev_var rfl) (ev_var rfl) (rv_at ht hg)) (ev_is ev_c (congrArg V.str (show Str.ofString " " = S [32] by decide +kernel))))) (fun hb H5 e5 => ?_) (fun hb H5 e5 => ?_)
        · have hc : (told row)[i] = 32 := by
            have z := of_decide_eq_true hb
            simpa using z
          rw [hd, hc, lexR_blank] at hlex hok
          refine s_aug (a := (i : Int)) (b := 1) rfl ev_c fun H6 e6 => ⟨i + 1, ds, us, y5, y6, y7, Nat.lt_succ_self i, ?_, ((eH.trans e4).trans e5).trans e6, e6 l _ (e5 l _ hL4), TdAll.tx (Tx.of (e5.trans e6)) _ _ hT4, by omega, hlt, hlex, hok⟩
          show [some (V.str (S row)), some (.int (n : Int)), some (.str (S (told row))), some (.ref l), some (.int ((i : Int) + 1)), y5, y6, y7] = _
          rw [show ((i + 1 : Nat) : Int) = (i : Int) + 1 by omega]
        · have hc : (told row)[i] ≠ 32 := by
            have z := of_decide_eq_false hb
            simpa using z
          have hwl := wordAt_len ((told row).drop i)
          have hwl2 : (wordAt ((told row).drop i)).length ≤ 100000 := by
            rw [List.length_drop] at hwl
            omega
          refine q_asg (ev_call (dvs := []) (ea_cons (ev_var rfl) (ea_cons (ev_var rfl) ea_nil)) fun H6 e6 Q6 q6 E6 => ⟨told row, i, rfl, hlt, ht, fun H7 e7 => q6 H7 e7⟩) fun H6 e6 => ?_
          refine q_asg (ev_call (dvs := []) (ea_cons (ev_var rfl) ea_nil) fun H7 e7 Q7 q7 E7 => ⟨wordAt ((told row).drop i), rfl, hwl2, fun H8 e8 => q7 H8 e8⟩) fun H7 e7 => ?_
          refine q_asgU (eu_tup (ea_cons (ev_var rfl) (ea_cons (ev_op (ev_var rfl) ev_c rv_I0) ea_nil)) (show 2 ≤ 100000 by decide)) fun p H8 hp8 e8 hpl => ?_
          by_cases hk : kindOf (wordAt ((told row).drop i)) = []
          · have hbad : (lexRow row).2 = some (i + 1) := by
              rw [hok, hd, lexR_bad hc (by rw [← hd]; exact hk)]
            refine q_when (et_is (et_test (ev_eqS (ev_var rfl) (ev_is ev_c (congrArg V.str lit0)))) (decide_eq_true hk)) (fun _ H9 e9 => ?_) (fun z => by cases z)
            refine mk_fault (ea_cons ev_c (ea_cons ev_c (ea_cons (ev_var rfl) (ea_cons ev_c ea_nil)))) fun d H10 e10 hd10 => ?_
            have e410 := ((((e5.trans e6).trans e7).trans e8).trans e9).trans e10
            refine qx _ hbad d H10 ((eH.trans e4).trans e410) ⟨p, hd10, ?_⟩
            rw [show ((i + 1 : Nat) : Int) = (i : Int) + 1 by omega]
            exact e10 _ _ (e9 _ _ hpl)
          · have hword := lexR_word (i := i) hc (r := (told row).drop (i + 1)) (by rw [← hd]; exact hk)
            rw [← hd] at hword
            have hpos := kind_pos hk
            refine q_when (et_is (et_test (ev_eqS (ev_var rfl) (ev_is ev_c (congrArg V.str lit0)))) (decide_eq_false hk)) (fun z => by cases z) (fun _ H9 e9 => ?_)
            have e49 := (((e5.trans e6).trans e7).trans e8).trans e9
            have hL9 : H9 l = some (.lst us) := e49 l _ hL4
            have hT9 : TdAll H9 us ds := TdAll.tx (Tx.of e49) _ _ hT4
            refine q_appU hL9 (ev_var rfl) (eu_tup (ea_cons (ev_var rfl) (ea_cons (ev_var rfl) (ea_cons (ev_var rfl) ea_nil))) (show 3 ≤ 100000 by decide)) (by omega) fun t2 H10 ht2 e10 ht3 => ?_
            have hL10 : H10 l = some (.lst us) := e10 l _ hL9
            have tx10 : Tx H10 (upd H10 l (.lst (us ++ [.ref t2]))) := Tx.lst hL10
            have hnew : Td (upd H10 l (.lst (us ++ [.ref t2]))) (.ref t2) (wordD n (kindOf (wordAt ((told row).drop i)), wordAt ((told row).drop i), i + 1)) := by
              refine Td.tx tx10 _ _ (.tup ht3 (.cons (.str _) (.cons (.str _) (.cons ?_ .nil))))
              refine .tup (e10 p _ (e9 p _ hpl)) (.cons (.int _) (.cons ?_ .nil))
              have ei : ((i : Int) + 1) = ((i + 1 : Nat) : Int) := by omega
              show Td H10 (.int ((i : Int) + 1)) (.int ((i + 1 : Nat) : Int))
              rw [ei]
              exact .int _
            refine s_aug (a := (i : Int)) (b := ((wordAt ((told row).drop i)).length : Int)) rfl (ev_lenS (ev_var rfl) hwl2) fun H11 e11 => ⟨i + (wordAt ((told row).drop i)).length, ds ++ [wordD n (kindOf (wordAt ((told row).drop i)), wordAt ((told row).drop i), i + 1)], us ++ [.ref t2], some (.str (S (wordAt ((told row).drop i)))), some (.str (S (kindOf (wordAt ((told row).drop i))))), some (.ref p), by omega, ?_, ?_, e11 l _ upd_same, ?_, ?_, ?_, ?_, ?_⟩
            · rw [Int.natCast_add] <;> rfl
            · exact (Ex.mut ((((eH.trans e4).trans e49).trans e10)) hl0).trans e11
            · exact TdAll.tx (Tx.of e11) _ _ ((TdAll.tx (tx10) _ _ (TdAll.tx (Tx.of e10) _ _ hT9)).snoc hnew)
            · rw [List.length_append]
              show us.length + 1 ≤ _
              omega
            · rw [List.length_drop] at hwl
              omega
            · rw [hlex, hword, List.map_cons, List.append_assoc, List.drop_drop] <;> rfl
            · rw [hword, List.drop_drop] at hok
              exact hok
    · refine ⟨false, et_is (et_test (ev_op (ev_var rfl) (ev_lenS (ev_var rfl) ht) rv_I0)) (decide_eq_false (by omega)), (fun z => by cases z), fun _ H4 e4 => ?_⟩
      have hz : (told row).drop i = [] := List.drop_eq_nil_of_le (by omega)
      rw [hz, lexR_nil] at hlex
      have hlex2 : (lexRow row).1.map (wordD n) = ds := by
        rw [hlex]
        exact List.append_nil _
      refine s_ret (ev_var rfl) fun H5 e5 => q (by rw [hok, hz, lexR_nil]) l H5 us hl0 (eH.trans (e4.trans e5)) ((e4.trans e5) l _ hL) ?_
      rw [hlex2]
      exact TdAll.tx (Tx.of (e4.trans e5)) _ _ hT

/-! ### words_of -/
abbrev s_words_of : Stmt := topS 13
theorem sc_words_of : FnScope ["text", "words", "number", "row"] ["text"] (fnScope s_words_of) := fnScope_by (by decide +kernel)
theorem firstBad_app : ∀ (n : Nat) (rs : List (List Nat)) (r : List Nat) (rest : List (List Nat)), (∀ q ∈ rs, (lexRow q).2 = none) → firstBad n (rs ++ r :: rest) = firstBad (n + rs.length) (r :: rest)
  | n, [], r, rest, _ => rfl
  | n, x :: rs, r, rest, h => by
    have hx := h x (List.mem_cons_self ..)
    have e : firstBad n (x :: (rs ++ r :: rest)) = firstBad (n + 1) (rs ++ r :: rest) := by
      show (match (lexRow x).2 with | some c => some (n, c) | none => firstBad (n + 1) (rs ++ r :: rest)) = _
      rw [hx]
    show firstBad n (x :: (rs ++ r :: rest)) = _
    rw [e, firstBad_app (n + 1) rs r rest fun q hq => h q (List.mem_cons_of_mem _ hq), show n + 1 + rs.length = n + (x :: rs).length by rw [List.length_cons]; omega]
theorem firstBad_at {n c : Nat} {r : List Nat} {rest : List (List Nat)} (h : (lexRow r).2 = some c) : firstBad n (r :: rest) = some (n, c) := by
  show (match (lexRow r).2 with | some c => some (n, c) | none => firstBad (n + 1) rest) = _
  rw [h]
theorem firstBad_all : ∀ (n : Nat) (rs : List (List Nat)), firstBad n rs = none → AllWords rs
  | _, [], _ => fun r h => absurd h (by simp)
  | n, x :: rs, h => by
    cases hx : (lexRow x).2 with
    | some c =>
      rw [firstBad_at hx] at h
      cases h
    | none =>
      have e : firstBad n (x :: rs) = firstBad (n + 1) rs := by
        show (match (lexRow x).2 with | some c => some (n, c) | none => firstBad (n + 1) rs) = _
        rw [hx]
      rw [e] at h
      intro r hr
      rcases List.mem_cons.mp hr with z | z
      · rw [z]
        exact hx
      · exact firstBad_all (n + 1) rs h r z
def spWordsOf (CF : Addr) : Sp := fun vs H Q E => ∃ (text : List Nat) (rows : List (List Nat)), vs = [.str (S text)] ∧ text.length ≤ 40000 ∧ rows = TL.spl [10] 0 [] text ∧ rows.length ≤ 1000 ∧ (∀ r ∈ rows, r.length ≤ 1000) ∧
  (firstBad 1 rows = none → RetTd (allD 1 rows) H Q) ∧ ∀ n c, firstBad 1 rows = some (n, c) → RaiseF CF H E n c
theorem ok_words_of (T : ModsW K mg aS aO) {CF : Addr} (c_words_in : CalX P w K mg base 3 "words_in" (spWordsIn CF)) {f : Addr} {fd : FuncData} (F : Def K mg "words_of" s_words_of f fd) (b : Binds K fd ["text"] []) :
    CalX P w K mg base 4 "words_of" (spWordsOf CF) := by
  refine calX F b sc_words_of (fun vs H Q E h => ?_) (fun cdv A outer s H vs Q E hr h => ?_)
  · obtain ⟨_, _, rfl, _⟩ := h
    rfl
  · obtain ⟨text, rows, rfl, hl, hrows, hrl, hrr, q, qx⟩ := h
    have tk := tk_cx (P := P) (w := w) (K := K) (mg := mg) (base := base) (N := ["text", "words", "number", "row"]) (q := "words_of") (sc := fnScope s_words_of) (f := f) (cdv := cdv) (A := A) (outer := outer) (s := s) (H := H) (E := E)
    have m_enumerate := T.m_enumerate
    refine ⟨_, (pss_cons (ps_set (i := 1) sc_words_of.nd rfl (.inl rfl) (pe_lst pa_nil))
      (pss_cons (ps_for (passes_of rfl) rfl (Wt.pi_enumS (by rfl) m_enumerate (pa_cons (pe_split (pv 0) pe_str) pa_nil)) (pg_tup rfl (pgs_cons (pg_name (i := 2) sc_words_of.nd rfl (.inl rfl)) (pgs_cons (pg_name (i := 3) sc_words_of.nd rfl (.inl rfl)) pgs_nil))) (pss_one (ps_expr (pe_bm PySem.F.plainAttrs_list PySem.F.slot_list_extend PySem.F.type_list_extend mt_extend (pv 1) (pa_cons (Wt.pe_cX c_words_in tk hr (by first | decide | exact Nat.le_refl _ | omega) (by rfl) (pa_cons (pv 3) (pa_cons (pv 2) pa_nil))) pa_nil)))))
      (pss_one (ps_ret (pv 1))))), ?_⟩
    refine q_asgL (el_lst ea_nil (Nat.zero_le _)) fun l H1 hl0 e1 hl1 => ?_
    -- text.split("\n")
    refine ⟨.str (S text), rfl, ⟨S text, rfl⟩, S text, Str.ofString "\n", rfl, rfl, by decide +kernel, by rw [S_len]; exact Nat.le_trans (Nat.add_le_add_right hl 2) (by decide), fun c hc => ?_⟩
    have hsp : (Txt.split (S text) (Str.ofString "\n")).map V.str = rows.map fun z => V.str (S z) := by
      rw [show Str.ofString "\n" = S [10] by decide +kernel, split_S (by simp) (by decide), ← hrows, List.map_map] <;> rfl
    rw [hsp]
    have hlc : l ≠ c := ne_of_none hl1 hc
    have e2 : Ex H1 (upd H1 c (.lst (rows.map fun z => V.str (S z)))) := Ex.new hc
    refine ⟨c, _, rfl, sq_of upd_same, for_from (xs := rows.map fun z => V.str (S z)) (fun i σ' H' => ∃ (us : List V) (y2 y3 : Option V), σ' = [some (.str (S text)), some (.ref l), y2, y3] ∧ Ex H H' ∧
      H' c = some (.lst (rows.map fun z => V.str (S z))) ∧ H' l = some (.lst us) ∧ TdAll H' us (allD 1 (rows.take i)) ∧ us.length ≤ 1000 * i ∧ AllWords (rows.take i))
      ⟨[], none, none, rfl, e1.trans e2, upd_same, e2 l _ hl1, .nil, Nat.zero_le _, fun r h => absurd h (by simp)⟩ (fun i σ' H' _ ⟨us, y2, y3, _, _, hc', _⟩ => sq_of hc') ?_ ?_⟩
    · rintro i x T2 σ' H' hx ⟨us, y2, y3, rfl, eH, hc', hL, hT, hlen, haw⟩ hT2
      rw [List.getElem?_map] at hx
      cases hr2 : rows[i]? with
      | none =>
        rw [hr2] at hx
        cases hx
      | some row =>
        rw [hr2] at hx
        have ex : x = .str (S row) := (Option.some.inj hx).symm
        subst ex
        have hmem : row ∈ rows := List.mem_of_getElem? hr2
        have hi : i < rows.length := (List.getElem?_eq_some_iff.mp hr2).1
        have eT : Ex H' (upd H' T2 (.tup [.int ((1 : Int) + (i : Nat)), .str (S row)])) := Ex.new hT2
        -- number, row
        refine ⟨T2, [.int ((1 : Int) + (i : Nat)), .str (S row)], rfl, st_of upd_same, rfl, _, _, rfl, _, _, rfl, rfl, ?_⟩
        -- words.extend(words_in(row, number))
        have hLT := eT l _ hL
        refine ⟨.ref l, rfl, .inl ⟨rfl, us, sq_of hLT⟩, .str (S row), rfl, .int ((1 : Int) + (i : Nat)), rfl, row, i + 1, ?_, Nat.le_trans (hrr row hmem) (by decide), ?_, ?_⟩
        · show [V.str (S row), .int ((1 : Int) + (i : Nat))] = _
          rw [show ((1 : Int) + (i : Nat)) = ((i + 1 : Nat) : Int) by omega]
        · intro hnone p H3 ws hp e3 hp3 hT3
          have hL3 : H3 l = some (.lst us) := e3 l _ hLT
          have hlp : l ≠ p := ne_of_none hLT hp
          have hwl : ws.length ≤ 1000 := by
            rw [hT3.len, List.length_map]
            exact Nat.le_trans (lexRow_count row) (hrr row hmem)
          have hsz : us.length + ws.length ≤ sizeLine := by
            refine Nat.le_trans (show us.length + ws.length ≤ 1001000 from ?_) (by decide)
            have : 1000 * i ≤ 1000 * 1000 := Nat.mul_le_mul_left _ (by omega)
            omega
          refine ⟨l, p, us, ws, rfl, rfl, hL3, hp3, hsz, us ++ ws, _, _, rfl, ?_, ?_, upd_same, ?_, ?_, ?_⟩
          · exact Ex.mut ((eH.trans eT).trans e3) hl0
          · rw [upd_ne hlc.symm]
            exact e3 c _ (eT c _ hc')
          · have tx := Tx.lst (ys := us ++ ws) hL3
            have h1 := TdAll.tx tx _ _ (TdAll.tx (Tx.of (eT.trans e3)) _ _ hT)
            have h2 := TdAll.tx tx _ _ hT3
            have e : rows.take (i + 1) = rows.take i ++ [row] := by
              rw [List.take_add_one, hr2] <;> rfl
            rw [e, allD_snoc, List.length_take, Nat.min_eq_left (Nat.le_of_lt hi), Nat.add_comm 1 i]
            exact h1.app h2
          · rw [List.length_append]
            omega
          · have e : rows.take (i + 1) = rows.take i ++ [row] := by
              rw [List.take_add_one, hr2] <;> rfl
            rw [e]
            intro r hr
            rcases List.mem_append.mp hr with z | z
            · exact haw r z
            · rw [List.mem_singleton.mp z]
              exact hnone
        · intro c hc d H3 e3 hF
          refine qx (i + 1) c ?_ d H3 ((eH.trans eT).trans e3) hF
          have hcut : rows = rows.take i ++ row :: rows.drop (i + 1) := by
            have e := List.getElem?_eq_some_iff.mp hr2
            obtain ⟨h1, h2⟩ := e
            rw [← h2, ← List.drop_eq_getElem_cons h1, List.take_append_drop]
          rw [hcut, firstBad_app 1 _ _ _ haw, List.length_take, Nat.min_eq_left (Nat.le_of_lt hi), firstBad_at hc, Nat.add_comm 1 i]
    · rintro σ' H' ⟨us, y2, y3, rfl, eH, hc', hL, hT, hlen, haw⟩
      rw [List.length_map, List.take_of_length_le (Nat.le_refl _)] at hT haw
      have hnone : firstBad 1 rows = none := by
        cases hb : firstBad 1 rows with
        | none => rfl
        | some z =>
          exfalso
          have : ∀ (n : Nat) (rs : List (List Nat)), AllWords rs → firstBad n rs = none := fun n rs => by
            induction rs generalizing n with
            | nil => intro _; rfl
            | cons x rs ih =>
              intro h
              have hx := h x (List.mem_cons_self ..)
              show (match (lexRow x).2 with | some c => some (n, c) | none => firstBad (n + 1) rs) = _
              rw [hx]
              exact ih (n + 1) fun r hr => h r (List.mem_cons_of_mem _ hr)
          rw [this 1 rows haw] at hb
          cases hb
      refine s_ret (ev_var rfl) fun H3 e3 => q hnone l H3 us hl0 (eH.trans e3) (e3 l _ hL) ?_
      exact TdAll.tx (Tx.of e3) _ _ hT
end
end Wt

set_option Elab.async false
set_option linter.all false
set_option maxRecDepth 100000
set_option maxHeartbeats 4000000
namespace Wt
open PySem PySem.Spec PyProof.Rows L2 SX Evl
open C8 (Def Cal cal0 fnScope_by fnScope)
/-! The dice, likeness, a pick. -/
structure ModsL (K : PySem.W.Frag) (mg : Str → Option Value) : Prop where
  m_len : mg "len" = none
  m_int : mg "int" = none
  m_str : mg "str" = none
  m_bool : mg "bool" = none
  m_tuple : mg "tuple" = none
  m_list : mg "list" = none
  m_range : mg "range" = none
  m_isinstance : mg "isinstance" = none
/-- what is locked stays -/
def Fx (H H' : Hp) : Prop := ∀ b o u, H b = some (.frz o u) → H' b = some (.frz o u)
theorem Fx.of {H H' : Hp} (e : Ex H H') : Fx H H' := fun b o u h => e b _ h
theorem Fx.trans {H H1 H2 : Hp} (a : Fx H H1) (b : Fx H1 H2) : Fx H H2 := fun x o u h => b x o u (a x o u h)
theorem Fx.mut {H : Hp} {d : Addr} {o o2 : HO} (h : H d = some o) (m : Mut (some o)) : Fx H (upd H d o2) := fun b ob u q => by
  rw [upd_ne (ne_of q h (by intro z; subst z; exact m))]
  exact q
/-- the script: locked, or of the written part -/
def Scr (K : PySem.W.Frag) (H : Hp) (a : Addr) (ns : List Int) : Prop := ns.length ≤ 63 ∧ ∀ H', Fx H H' → SqL K H' a (ns.map V.int)
theorem Scr.fx {K : PySem.W.Frag} {H H' : Hp} {a : Addr} {ns : List Int} (f : Fx H H') (h : Scr K H a ns) : Scr K H' a ns := ⟨h.1, fun H2 f2 => h.2 H2 (f.trans f2)⟩
theorem Scr.ex {K : PySem.W.Frag} {H H' : Hp} {a : Addr} {ns : List Int} (e : Ex H H') (h : Scr K H a ns) : Scr K H' a ns := h.fx (Fx.of e)
theorem Scr.sq {K : PySem.W.Frag} {H : Hp} {a : Addr} {ns : List Int} (h : Scr K H a ns) : SqL K H a (ns.map V.int) := h.2 H fun _ _ _ q => q
def Exd (d : Addr) (H H' : Hp) : Prop := ∀ b o, b ≠ d → H b = some o → H' b = some o

section
variable {P : Program} {w : World} {K : PySem.W.Frag} {mg : Str → Option Value} {base : Heap}
/-! ### _law_dice -/
abbrev s__law_dice : Stmt := topS 19
theorem sc__law_dice : FnScope ["_law_script", "_law_mixed", "_law_cell"] ["_law_script"] (fnScope s__law_dice) := fnScope_by (by decide +kernel)
def spDice0 (K : PySem.W.Frag) : Sp := fun vs H Q _ => ∃ (a : Addr) (ns : List Int), vs = [.ref a] ∧ Scr K H a ns ∧ ∀ p H2 m, H p = none → Ex H H2 → 0 ≤ m → m < 2147483647 → H2 p = some (.lst [.ref a, .int 0, .int m, .int 0]) → Q (.ref p) H2
theorem ok_dice0 (T : ModsL K mg) {f : Addr} {fd : FuncData} (F : Def K mg "_law_dice" s__law_dice f fd) (b : Binds K fd ["_law_script"] []) : Cal P w K mg base 1 "_law_dice" (spDice0 K) [] := by
  refine cal0 F b .nil sc__law_dice (fun vs H Q E h => ?_) (fun cdv A outer s H vs Q E hr h => ?_)
  · obtain ⟨_, _, rfl, _⟩ := h
    rfl
  · obtain ⟨a, ns, rfl, hS, q⟩ := h
    have m_int := T.m_int
    have m_len := T.m_len
    refine ⟨_, (pss_cons (ps_set (i := 1) sc__law_dice.nd rfl (.inl rfl) pe_int)
      (pss_cons (ps_for PassesOwn.never rfl (pi_list (pv 0)) (pg_name (i := 2) sc__law_dice.nd rfl (.inl rfl)) (pss_one (ps_set (i := 1) sc__law_dice.nd rfl (.inl rfl) (pe_op op_mod (pe_op op_add (pe_op op_add (pe_op op_mul (pv 1) pe_int) (pe_op op_mul (pe_op op_mod (pv 2) pe_int) pe_int)) pe_int) pe_int))))
      (pss_one (ps_ret (pe_lst (pa_cons (pv 0) (pa_cons pe_int (pa_cons (pe_op op_mul (pv 1) (pe_callTy call_int1 (by rfl) m_int Wt.bt_int (pa_cons (pe_cmpR op_gt (pe_callB call_len_seq (by rfl) m_len PySem.boot_len (pa_cons (pv 0) pa_nil)) pe_int (nomark _)) pa_nil))) (pa_cons pe_int pa_nil))))))))), ?_⟩
    refine q_asg ev_c fun H1 e1 => ?_
    refine q_forLn (ev_var rfl) (hS.ex e1).sq (fun i σ' H' => ∃ (m : Int) (y : Option V), σ' = [some (.ref a), some (.int m), y] ∧ 0 ≤ m ∧ m < 2147483647 ∧ Ex H H')
      (fun H2 e2 => ⟨0, none, rfl, by decide, by decide, e1.trans e2⟩) (fun i σ' H' _ ⟨_, _, _, _, _, e⟩ => (hS.ex e).sq) ?_ ?_
    · rintro i x σ' H' hx ⟨m, y, rfl, h0, h1, eH⟩
      rw [List.getElem?_map] at hx
      obtain ⟨c, rfl⟩ : ∃ c, x = V.int c := by
        cases hc : ns[i]? with
        | none =>
          rw [hc] at hx
          cases hx
        | some c =>
          rw [hc] at hx
          exact ⟨c, (Option.some.inj hx).symm⟩
      have b1 := Int.emod_nonneg c (show (2147483647 : Int) ≠ 0 by decide)
      have b2 := Int.emod_lt_of_pos c (show (0 : Int) < 2147483647 by decide)
      refine s_asg (ev_op (ev_op (ev_op (ev_op (ev_var rfl) ev_c (rv_I (.inl ⟨by omega, by omega⟩))) (ev_op (ev_op (ev_var rfl) ev_c (rv_I (show (0 : Int) < 2147483647 by decide))) ev_c (rv_I (.inl ⟨by omega, by omega⟩))) rv_I0) ev_c rv_I0) ev_c (rv_I (show (0 : Int) < 2147483647 by decide))) fun H2 e2 => ?_
      exact ⟨_, _, rfl, Int.emod_nonneg _ (by decide), Int.emod_lt_of_pos _ (by decide), eH.trans e2⟩
    · rintro σ' H' ⟨m, y, rfl, h0, h1, eH⟩
      have hq := hS.ex eH
      refine s_retL (xs := [.ref a, .int 0, .int (m * (if decide ((2 : Int) < ((ns.map V.int).length : Int)) = true then 1 else 0)), .int 0])
        (el_lst (ea_cons (ev_var rfl) (ea_cons ev_c (ea_cons (ev_op (ev_var rfl) (ev_cb (ea_cons (ev_op (ev_len (K := K) (ev_var rfl) hq.sq) ev_c rv_I0) ea_nil) (fun H1 _ Q q => .inr ⟨_, rfl, q H1 (Ex.refl H1)⟩)) (rv_I (.inl ⟨by omega, by omega⟩))) (ea_cons ev_c ea_nil)))) (by show 4 ≤ 100000; decide))
        fun p H2 hp e2 h2 => q p H2 _ (fresh_back eH hp) (eH.trans e2) ?_ ?_ h2
      · split <;> omega
      · split <;> omega
/-- .. as a dice -/
def spDice (K : PySem.W.Frag) : Sp := fun vs H Q _ => ∃ (a : Addr) (ns : List Int), vs = [.ref a] ∧ Scr K H a ns ∧ ∀ p H2, H p = none → Ex H H2 → H2 p = some (DiceO p a) → Q (.ref p) H2
theorem ok_dice (c : Cal P w K mg base 1 "_law_dice" (spDice0 K) []) : Cal P w K mg base 1 "_law_dice" (spDice K) [] := by
  obtain ⟨f, fd, ps, ds, F, h1, h2, h3, h4⟩ := c.ex
  cases h4
  refine ⟨f, fd, ps, [], fn_seen F (fun vs H Q E h => ?_) (fun vs H Q E h hp ok => ?_), h1, h2, h3, .nil⟩
  · obtain ⟨a, ns, rfl, hS, q⟩ := h
    exact F.len [.ref a] H (fun v H' => True) E ⟨a, ns, rfl, hS, fun _ _ _ _ _ _ _ _ => trivial⟩
  · obtain ⟨a, ns, rfl, hS, q⟩ := h
    refine ⟨H, fun v H2 => ∃ p m, v = .ref p ∧ H p = none ∧ Ex H H2 ∧ 0 ≤ m ∧ m < 2147483647 ∧ H2 p = some (.lst [.ref a, .int 0, .int m, .int 0]), ⟨fun _ h => h, fun _ _ h => h, fun _ _ _ h => h, fun _ _ h => h⟩, ok,
      ⟨a, ns, rfl, hS, fun p H2 m hp2 e h0 h1 h2 => ⟨p, m, rfl, hp2, e, h0, h1, h2⟩⟩, ?_⟩
    rintro v H2 hp2 ok2 ⟨p, m, rfl, hn, e, h0, h1, h2⟩
    obtain ⟨al, ok3⟩ := dice_in ok2 h2 (Int.le_refl 0) h0 h1
    exact ⟨_, al, ok3, q p _ hn (Ex.mut e hn) upd_same⟩

/-! ### _law_next -/
abbrev s__law_next : Stmt := topS 20
theorem sc__law_next : FnScope ["_law_dice_here", "_law_many", "_law_found", "_law_cell"] ["_law_dice_here", "_law_many"] (fnScope s__law_next) := fnScope_by (by decide +kernel)
def spNext0 (K : PySem.W.Frag) : Sp := fun vs H Q _ => ∃ (d a : Addr) (ns : List Int) (many i m r : Int), vs = [.ref d, .int many] ∧ 0 < many ∧ many < 1073741824 ∧ H d = some (.lst [.ref a, .int i, .int m, .int r]) ∧ 0 ≤ i ∧ 0 ≤ m ∧ m < 2147483647 ∧ Scr K H a ns ∧
  ∀ z H2 i' m' r', 0 ≤ z → z < many → 0 ≤ i' → 0 ≤ m' → m' < 2147483647 → H2 d = some (.lst [.ref a, .int i', .int m', .int r']) → Exd d H H2 → Q (.int z) H2
theorem ok_next0 (T : ModsL K mg) {f : Addr} {fd : FuncData} (F : Def K mg "_law_next" s__law_next f fd) (b : Binds K fd ["_law_dice_here", "_law_many"] []) : Cal P w K mg base 1 "_law_next" (spNext0 K) [] := by
  refine cal0 F b .nil sc__law_next (fun vs H Q E h => ?_) (fun cdv A outer s H vs Q E hr h => ?_)
  · obtain ⟨_, _, _, _, _, _, _, rfl, _⟩ := h
    rfl
  · obtain ⟨d, a, ns, many, i, m, r, rfl, hm0, hm1, hd, hi, h0, h1, hS, q⟩ := h
    have m_len := T.m_len
    refine ⟨_, (pss_cons (ps_if (pt_cmpR op_gt (pe_ix ix_list (pv 0) pe_int (fun _ _ => rfl)) pe_int (nomark _)) (pss_cons (ps_set (i := 2) sc__law_next.nd rfl (.inl rfl) (pe_op op_mod (pe_ix ix_list (pv 0) pe_int (fun _ _ => rfl)) (pv 1)))
      (pss_cons (ps_asg (pe_op op_fdiv (pe_ix ix_list (pv 0) pe_int (fun _ _ => rfl)) (pv 1)) (pg_sub (pv 0) pe_int set_list))
      (pss_one (ps_ret (pv 2))))) pss_nil)
      (pss_cons (ps_asg (pe_op op_add (pe_ix ix_list (pv 0) pe_int (fun _ _ => rfl)) pe_int) (pg_sub (pv 0) pe_int set_list))
      (pss_cons (ps_if (pt_cmpR op_le (pe_ix ix_list (pv 0) pe_int (fun _ _ => rfl)) (pe_callB call_len_seq (by rfl) m_len PySem.boot_len (pa_cons (pe_ix ix_list (pv 0) pe_int (fun _ _ => rfl)) pa_nil)) (nomark _)) (pss_cons (ps_set (i := 3) sc__law_next.nd rfl (.inl rfl) (pe_ix ix_list (pe_ix ix_list (pv 0) pe_int (fun _ _ => rfl)) (pe_op op_sub (pe_ix ix_list (pv 0) pe_int (fun _ _ => rfl)) pe_int) (fun _ _ => rfl)))
      (pss_cons (ps_asg (pe_ifExp (pt_cmpR op_ge (pv 3) (pe_op op_pow pe_int pe_int) (nomark _)) (pe_op op_fdiv (pv 3) (pv 1)) pe_int) (pg_sub (pv 0) pe_int set_list))
      (pss_one (ps_ret (pe_op op_mod (pv 3) (pv 1)))))) pss_nil)
      (pss_cons (ps_asg (pe_op op_mod (pe_op op_mul (pe_ix ix_list (pv 0) pe_int (fun _ _ => rfl)) pe_int) pe_int) (pg_sub (pv 0) pe_int set_list))
      (pss_one (ps_ret (pe_op op_mod (pe_op op_fdiv (pe_ix ix_list (pv 0) pe_int (fun _ _ => rfl)) pe_int) (pv 1)))))))), ?_⟩
    have ix : ∀ {H' : Hp} {σ : L2.St} {ta tb : TE} {xs : List V} {j : Nat} {v : V}, Ev ta σ H' (.ref d) → Ev tb σ H' (.int (j : Int)) → H' d = some (.lst xs) → xs[j]? = some v → Ev (tOp (rIxL K) ta tb) σ H' v :=
      fun ha hb h1 h2 => ev_op ha hb (rv_ixL (sq_of h1) (atI_nat h2))
    have c0 : ∀ {H' : Hp} {σ : L2.St}, Ev (tC (.int 0)) σ H' (.int ((0 : Nat) : Int)) := ev_c
    have c1 : ∀ {H' : Hp} {σ : L2.St}, Ev (tC (.int 1)) σ H' (.int ((1 : Nat) : Int)) := ev_c
    have c2 : ∀ {H' : Hp} {σ : L2.St}, Ev (tC (.int 2)) σ H' (.int ((2 : Nat) : Int)) := ev_c
    have c3 : ∀ {H' : Hp} {σ : L2.St}, Ev (tC (.int 3)) σ H' (.int ((3 : Nat) : Int)) := ev_c
    have hdiv : ∀ x : Int, CDiv x many := fun x => ⟨hm0, hm1⟩
    have rz : ∀ x : Int, 0 ≤ x % many ∧ x % many < many := fun x => ⟨Int.emod_nonneg x (by omega), Int.emod_lt_of_pos x hm0⟩
    refine q_when (et_test (ev_op (ix (ev_var rfl) c3 hd rfl) ev_c rv_I0)) (fun hb H1 e1 => ?_) (fun hb H1 e1 => ?_)
    · have hd1 := e1 d _ hd
      refine q_asg (ev_op (ix (ev_var rfl) c3 hd1 rfl) (ev_var rfl) (rv_I hm0)) fun H2 e2 => ?_
      have hd2 := e2 d _ hd1
      refine q_setL (xs := [.ref a, .int i, .int m, .int r]) (j := 3) hd2 (ev_op (ix (ev_var rfl) c3 hd2 rfl) (ev_var rfl) (rv_I (hdiv r))) (ev_var rfl) c3 (by show 3 < 4; decide) fun H3 e3 => ?_
      have x3 : Exd d H (upd H3 d (.lst ([V.ref a, .int i, .int m, .int r].set 3 (.int (r / many))))) := fun b o hb2 ho => by
        rw [upd_ne hb2]
        exact e3 b o (e2 b o (e1 b o ho))
      refine s_ret (ev_var rfl) fun H4 e4 => q _ H4 i m (r / many) (rz r).1 (rz r).2 hi h0 h1 (e4 d _ upd_same) fun b o hb2 ho => e4 b o (x3 b o hb2 ho)
    · have hd1 := e1 d _ hd
      refine q_setL (xs := [.ref a, .int i, .int m, .int r]) (j := 1) hd1 (ev_op (ix (ev_var rfl) c1 hd1 rfl) ev_c rv_I0) (ev_var rfl) c1 (by show 1 < 4; decide) fun H2 e2 => ?_
      have hd2 := e2 d _ hd1
      have hd3 : (upd H2 d (.lst ([V.ref a, .int i, .int m, .int r].set 1 (.int (i + 1))))) d = some (.lst [.ref a, .int (i + 1), .int m, .int r]) := upd_same
      have x3 : Exd d H (upd H2 d (.lst ([V.ref a, .int i, .int m, .int r].set 1 (.int (i + 1))))) := fun b o hb2 ho => by
        rw [upd_ne hb2]
        exact e2 b o (e1 b o ho)
      have hS3 : Scr K (upd H2 d (.lst ([V.ref a, .int i, .int m, .int r].set 1 (.int (i + 1))))) a ns := (hS.ex (e1.trans e2)).fx (Fx.mut hd2 True.intro)
      generalize upd H2 d (.lst ([V.ref a, .int i, .int m, .int r].set 1 (.int (i + 1)))) = H3 at hd3 x3 hS3 ⊢
      refine q_when (et_test (ev_op (ix (ev_var rfl) c1 hd3 rfl) (ev_len (K := K) (ix (ev_var rfl) c0 hd3 rfl) hS3.sq) rv_I0)) (fun hb2 H4 e4 => ?_) (fun hb2 H4 e4 => ?_)
      · have hle := of_decide_eq_true hb2
        rw [List.length_map] at hle
        have hd4 := e4 d _ hd3
        have hlt : i.toNat < ns.length := by omega
        have hg : (ns.map V.int)[i.toNat]? = some (.int ns[i.toNat]) := by
          rw [List.getElem?_map, List.getElem?_eq_getElem hlt] <;> rfl
        refine q_asg (ev_op (ix (ev_var rfl) c0 hd4 rfl) (ev_is (ev_op (ix (ev_var rfl) c1 hd4 rfl) ev_c rv_I0) (show V.int (i + 1 - 1) = V.int ((i.toNat : Nat) : Int) by rw [show i + 1 - 1 = ((i.toNat : Nat) : Int) by omega])) (rv_ixL (hS3.ex e4).sq (atI_nat hg))) fun H5 e5 => ?_
        have hd5 := e5 d _ hd4
        refine q_setL (xs := [.ref a, .int (i + 1), .int m, .int r]) (j := 3) (v := .int (if decide ((10 : Int) ^ (18 : Int).toNat ≤ ns[i.toNat]) = true then ns[i.toNat] / many else 0)) hd5
          (ev_if (et_test (ev_op (ev_var rfl) (ev_op ev_c ev_c (rv_I ⟨by decide, by decide, by decide⟩)) rv_I0)) (fun z => ?_) (fun z => ?_)) (ev_var rfl) c3 (by show 3 < 4; decide) fun H6 e6 => ?_
        · rw [if_pos z]
          exact ev_op (ev_var rfl) (ev_var rfl) (rv_I (hdiv _))
        · rw [if_neg (by rw [z]; exact Bool.false_ne_true)]
          exact ev_c
        · have x6 : Exd d H (upd H6 d (.lst ([V.ref a, .int (i + 1), .int m, .int r].set 3 (.int (if decide ((10 : Int) ^ (18 : Int).toNat ≤ ns[i.toNat]) = true then ns[i.toNat] / many else 0))))) := fun b o hb2 ho => by
            rw [upd_ne hb2]
            exact e6 b o (e5 b o (e4 b o (x3 b o hb2 ho)))
          refine s_ret (ev_op (ev_var rfl) (ev_var rfl) (rv_I hm0)) fun H7 e7 => q _ H7 (i + 1) m _ (rz _).1 (rz _).2 (by omega) h0 h1 (e7 d _ upd_same) fun b o hb2 ho => e7 b o (x6 b o hb2 ho)
      · have hd4 := e4 d _ hd3
        refine q_setL (xs := [.ref a, .int (i + 1), .int m, .int r]) (j := 2) hd4 (ev_op (ev_op (ix (ev_var rfl) c2 hd4 rfl) ev_c (rv_I (.inl ⟨by omega, by omega⟩))) ev_c (rv_I (show (0 : Int) < 2147483647 by decide))) (ev_var rfl) c2 (by show 2 < 4; decide) fun H5 e5 => ?_
        have hd6 : (upd H5 d (.lst ([V.ref a, .int (i + 1), .int m, .int r].set 2 (.int (m * 48271 % 2147483647))))) d = some (.lst [.ref a, .int (i + 1), .int (m * 48271 % 2147483647), .int r]) := upd_same
        have x6 : Exd d H (upd H5 d (.lst ([V.ref a, .int (i + 1), .int m, .int r].set 2 (.int (m * 48271 % 2147483647))))) := fun b o hb2 ho => by
          rw [upd_ne hb2]
          exact e5 b o (e4 b o (x3 b o hb2 ho))
        generalize upd H5 d (.lst ([V.ref a, .int (i + 1), .int m, .int r].set 2 (.int (m * 48271 % 2147483647)))) = H6 at hd6 x6 ⊢
        refine s_ret (ev_op (ev_op (ix (ev_var rfl) c2 hd6 rfl) ev_c (rv_I ⟨by decide, by decide⟩)) (ev_var rfl) (rv_I hm0)) fun H7 e7 => q _ H7 (i + 1) _ r (rz _).1 (rz _).2 (by omega) (Int.emod_nonneg _ (by decide)) (Int.emod_lt_of_pos _ (by decide)) (e7 d _ hd6) fun b o hb2 ho => e7 b o (x6 b o hb2 ho)
/-- .. over a dice: some number below what is handed in, nothing else is told -/
def spNext (K : PySem.W.Frag) : Sp := fun vs H Q _ => ∃ (d a : Addr) (ns : List Int) (many : Int), vs = [.ref d, .int many] ∧ 0 < many ∧ many < 1073741824 ∧ H d = some (DiceO d a) ∧ Scr K H a ns ∧
  ∀ z H2, 0 ≤ z → z < many → Ex H H2 → Q (.int z) H2
theorem ok_next (c : Cal P w K mg base 1 "_law_next" (spNext0 K) []) : Cal P w K mg base 1 "_law_next" (spNext K) [] := by
  obtain ⟨f, fd, ps, ds, F, h1, h2, h3, h4⟩ := c.ex
  cases h4
  refine ⟨f, fd, ps, [], fn_seen F (fun vs H Q E h => ?_) (fun vs H Q E h hp ok => ?_), h1, h2, h3, .nil⟩
  · obtain ⟨d, a, ns, many, rfl, m0, m1, hd, hS, q⟩ := h
    have hS2 : Scr K (upd H d (.lst [.ref a, .int 0, .int 0, .int 0])) a ns := hS.fx (Fx.mut hd True.intro)
    exact F.len [.ref d, .int many] _ (fun v H' => True) E ⟨d, a, ns, many, 0, 0, 0, rfl, m0, m1, upd_same, by decide, by decide, by decide, hS2, fun _ _ _ _ _ _ _ _ _ _ _ _ => trivial⟩
  · obtain ⟨d, a, ns, many, rfl, m0, m1, hd, hS, q⟩ := h
    obtain ⟨i, m, r, b0, b1, b2, al, ok1⟩ := dice_out ok hd
    refine ⟨_, fun v H2 => ∃ z i' m' r', v = .int z ∧ 0 ≤ z ∧ z < many ∧ 0 ≤ i' ∧ 0 ≤ m' ∧ m' < 2147483647 ∧ H2 d = some (.lst [.ref a, .int i', .int m', .int r']) ∧ Exd d (upd H d (.lst [.ref a, .int i, .int m, .int r])) H2, al, ok1,
      ⟨d, a, ns, many, i, m, r, rfl, m0, m1, upd_same, b0, b1, b2, hS.fx (Fx.mut hd True.intro), fun z H2 i' m' r' z0 z1 z2 z3 z4 z5 z6 => ⟨z, i', m', r', rfl, z0, z1, z2, z3, z4, z5, z6⟩⟩, ?_⟩
    rintro v H2 hp2 ok2 ⟨z, i', m', r', rfl, z0, z1, z2, z3, z4, z5, z6⟩
    obtain ⟨al2, ok3⟩ := dice_in ok2 z5 z2 z3 z4
    refine ⟨_, al2, ok3, q z _ z0 z1 fun b o ho => ?_⟩
    by_cases hb : b = d
    · subst hb
      rw [hd] at ho
      cases ho
      exact upd_same
    · rw [upd_ne hb]
      exact z6 b o hb (by rw [upd_ne hb]; exact ho)

/-! ### _law_pick -/
abbrev s__law_pick : Stmt := topS 22
theorem sc__law_pick : FnScope ["_law_d", "_law_some"] ["_law_d", "_law_some"] (fnScope s__law_pick) := fnScope_by (by decide +kernel)
/-- the dice at d over the script at a -/
structure Dc (K : PySem.W.Frag) (H : Hp) (d a : Addr) (ns : List Int) : Prop where
  o : H d = some (DiceO d a)
  s : Scr K H a ns
theorem Dc.ex {H H' : Hp} {d a : Addr} {ns : List Int} (h : Dc K H d a ns) (e : Ex H H') : Dc K H' d a ns := ⟨e d _ h.o, h.s.ex e⟩
theorem sn_next {H : Hp} {d a : Addr} {ns : List Int} {many : Int} (h : Dc K H d a ns) (m0 : 0 < many) (m1 : many < 1073741824) : SpN (spNext K) [.ref d, .int many] H (fun v => ∃ z : Int, v = .int z ∧ 0 ≤ z ∧ z < many) :=
  fun H1 e Q q E => ⟨d, a, ns, many, rfl, m0, m1, e d _ h.o, h.s.ex e, fun z H2 z0 z1 e2 => q _ H2 ⟨z, rfl, z0, z1⟩ e2⟩
theorem en_next {H : Hp} {σ : L2.St} {E : XK} {ta tb : TE} {d a : Addr} {ns : List Int} {many : Int} (h : Dc K H d a ns) (ha : Ev ta σ H (.ref d)) (hb : Ev tb σ H (.int many)) (m0 : 0 < many := by decide) (m1 : many < 1073741824 := by decide) :
    EvN (tCall (spNext K) [] E (tCons ta (tCons tb tNil))) σ H (fun v => ∃ z : Int, v = .int z ∧ 0 ≤ z ∧ z < many) := en_call (ea_cons ha (ea_cons hb ea_nil)) (sn_next h m0 m1)
def spPick (K : PySem.W.Frag) : Sp := fun vs H Q _ => ∃ (d a s : Addr) (ns : List Int) (xs : List V), vs = [.ref d, .ref s] ∧ Dc K H d a ns ∧ SqL K H s xs ∧ 0 < xs.length ∧ xs.length ≤ 1000 ∧ ∀ x H2, x ∈ xs → Ex H H2 → Q x H2
theorem ok_pick (T : ModsL K mg) (c__law_next : Cal P w K mg base 1 "_law_next" (spNext K) []) {f : Addr} {fd : FuncData} (F : Def K mg "_law_pick" s__law_pick f fd) (b : Binds K fd ["_law_d", "_law_some"] []) : Cal P w K mg base 2 "_law_pick" (spPick K) [] := by
  refine cal0 F b .nil sc__law_pick (fun vs H Q E h => ?_) (fun cdv A outer s H vs Q E hr h => ?_)
  · obtain ⟨_, _, _, _, _, rfl, _⟩ := h
    rfl
  · obtain ⟨d, a, sa, ns, xs, rfl, hD, hS, hl0, hl1, q⟩ := h
    have m_len := T.m_len
    refine ⟨_, (pss_one (ps_ret (pe_ix ix_list (pv 1) (C8.pe_c c__law_next hr (by first | decide | exact Nat.le_refl _ | omega) (by rfl) (pa_cons (pv 0) (pa_cons (pe_callB call_len_seq (by rfl) m_len PySem.boot_len (pa_cons (pv 1) pa_nil)) pa_nil))) (fun _ _ => rfl)))), ?_⟩
    refine sn_ret (P := fun x => x ∈ xs) (en_opV (EvN.of (ev_var rfl)) (fun x hx => en_next hD (ev_var rfl) (ev_len (K := K) (ev_var rfl) hS) (by omega) (by omega)) ?_) fun v H1 hv e1 => q v H1 hv e1
    rintro x y rfl ⟨z, rfl, z0, z1⟩
    obtain ⟨k, rfl⟩ : ∃ k : Nat, z = (k : Int) := ⟨z.toNat, by omega⟩
    have hlt : k < xs.length := by omega
    refine ⟨xs[k], List.getElem_mem hlt, ?_⟩
    exact rv_ixL hS (atI_nat (List.getElem?_eq_getElem hlt))
theorem sn_pick {H : Hp} {d a s : Addr} {ns : List Int} {xs : List V} (h : Dc K H d a ns) (hs : SqL K H s xs) (l0 : 0 < xs.length) (l1 : xs.length ≤ 1000) : SpN (spPick K) [.ref d, .ref s] H (fun v => v ∈ xs) :=
  fun H1 e Q q E => ⟨d, a, s, ns, xs, rfl, h.ex e, ex_l e hs, l0, l1, fun x H2 hx e2 => q x H2 hx e2⟩
/-- a pick out of a list made on the way -/
theorem en_pickL {H : Hp} {σ : L2.St} {E : XK} {ta tb : TE} {d a : Addr} {ns : List Int} {xs : List V} (h : Dc K H d a ns) (ha : Ev ta σ H (.ref d)) (hb : EvL tb σ H xs) (l0 : 0 < xs.length) (l1 : xs.length ≤ 1000) :
    EvN (tCall (spPick K) [] E (tCons ta (tCons tb tNil))) σ H (fun v => v ∈ xs) := fun H1 e Q q =>
  ha H1 e _ fun H2 e2 => hb H2 (e.trans e2) _ fun p H3 _ e3 hp => ⟨d, a, p, ns, xs, rfl, h.ex ((e.trans e2).trans e3), sq_of hp, l0, l1, fun x H4 hx e4 => q x H4 hx ((e2.trans e3).trans e4)⟩
end
end Wt

set_option Elab.async false
set_option linter.all false
set_option maxRecDepth 100000
set_option maxHeartbeats 4000000
namespace Wt
open PySem PySem.Spec PyProof.Rows L2 SX Evl
open C8 (Def Cal cal0 fnScope_by fnScope)
/-! Likeness: of two of the same data it tells True. -/
def tyN : PyData → String
  | .none => "NoneType"
  | .bool _ => "bool"
  | .int _ => "int"
  | .str _ => "str"
  | .list _ => "list"
  | .tuple _ => "tuple"
  | .dict _ => "dict"
theorem dp_ty {K : PySem.W.Frag} {H : Hp} {v : V} {d : PyData} (h : Dp K H v d) : TyX K H v (.type (tyN d)) := by
  cases h with
  | non => exact .base .non
  | bl b => exact .base (.bl b)
  | int i => exact .base (.int i)
  | str x => exact .base (.str x)
  | lst h1 _ =>
    rcases h1 with (h1 | ⟨o, h1⟩) | ⟨o, its, n, h1, h2, _⟩
    · exact .base (.lst h1)
    · exact .base (.frz h1)
    · exact .kList h1 h2
  | tup h1 _ =>
    rcases h1 with (h1 | ⟨o, h1⟩) | ⟨o, its, n, h1, h2, _⟩
    · exact .base (.tup h1)
    · exact .fTuple h1
    · exact .kTuple h1 h2
mutual
def wideD : PyData → Bool
  | .list xs => decide (xs.length ≤ 40000) && wideAll xs
  | .tuple xs => decide (xs.length ≤ 40000) && wideAll xs
  | .dict _ => false
  | .none => true
  | .bool _ => true
  | .int _ => true
  | .str _ => true
def wideAll : List PyData → Bool
  | [] => true
  | d :: ds => wideD d && wideAll ds
end
theorem wide_get : ∀ {ds : List PyData} {i : Nat} {d : PyData}, wideAll ds = true → ds[i]? = some d → wideD d = true
  | [], _, _, _, h => by simp at h
  | x :: ds, 0, d, h, e => by
    have e2 : x = d := Option.some.inj e
    subst e2
    unfold wideAll at h
    exact (Bool.and_eq_true_iff.mp h).1
  | x :: ds, i + 1, d, h, e => by
    unfold wideAll at h
    exact wide_get (Bool.and_eq_true_iff.mp h).2 e
theorem depth_get : ∀ {ds : List PyData} {i : Nat} {d : PyData}, ds[i]? = some d → d.depth ≤ PyData.depthAll ds
  | [], _, _, h => by simp at h
  | x :: ds, 0, d, e => by
    have e2 : x = d := Option.some.inj e
    subst e2
    unfold PyData.depthAll
    exact Nat.le_max_left _ _
  | x :: ds, i + 1, d, e => by
    unfold PyData.depthAll
    exact Nat.le_trans (depth_get (ds := ds) (i := i) e) (Nat.le_max_right _ _)
section
variable {K : PySem.W.Frag} {σ : L2.St} {H H' : Hp} {ta tb te tx : TE} {t u : TT} {x y z v : V}
theorem ev_isi {d : PyData} {n : String} {b : Bool} (ha : Ev ta σ H x) (hb : Ev tb σ H (.ty n)) (hx : Dp K H x d) (hk : kitB (tyN d) n = some b) : Ev (tCB (rIsi K) (tCons ta (tCons tb tNil))) σ H (.bl b) :=
  ev_cb (ea_cons ha (ea_cons hb ea_nil)) fun H1 e Q q => ⟨x, .ty n, .type (tyN d), .type n, b, rfl, .ty n, dp_ty (Dp.ex e d x hx), kit_ty hk, q H1 (Ex.refl H1)⟩
theorem ev_lenD {p : Addr} {xs : List V} (ha : Ev ta σ H (.ref p)) (h : SqL K H p xs ∨ SqT K H p xs) : Ev (tCB (rLenS K) (tCons ta tNil)) σ H (.int (xs.length : Int)) := fun H1 e Q q =>
  ha H1 e _ fun H2 e2 => ⟨p, xs, rfl, h.imp (ex_l (e.trans e2)) (ex_t (e.trans e2)), q H2 e2⟩
theorem ev_ixD {p : Addr} {xs : List V} {i : Nat} (ha : Ev ta σ H (.ref p)) (hb : Ev tb σ H (.int (i : Int))) (h : SqL K H p xs ∨ SqT K H p xs) (hv : xs[i]? = some v) : Ev (tOp (rIx K) ta tb) σ H v :=
  ev_op ha hb fun H1 e Q q => by
    rcases h with h | h
    · exact .inl ⟨p, xs, (i : Int), v, rfl, rfl, ex_l e h, atI_nat hv, q H1 (Ex.refl H1)⟩
    · exact .inr (.inl ⟨p, xs, (i : Int), v, rfl, rfl, ex_t e h, atI_nat hv, q H1 (Ex.refl H1)⟩)
theorem given_none (n : Nat) (v : Nat → V) : given n (fun _ => false) v = [] := by
  unfold given
  have e : (List.range n).filter (fun _ => false) = [] := by simp
  rw [e] <;> rfl
/-- [..] == [] where nothing was given -/
theorem ev_eqNil (ha : EvL ta σ H []) : Ev (tOp (rEqD K) ta (tLst tNil)) σ H (.bl true) := ev_opLL ha (el_lst ea_nil (Nat.zero_le _)) fun p q H1 h1 h2 _ H2 e2 Q q2 =>
  ⟨.list [], .list [], .lst (sq_of (e2 p _ h1)) .nil, .lst (sq_of (e2 q _ h2)) .nil, by decide +kernel, by decide +kernel, by
    have e : PyData.eqv (.list []) (.list []) = true := by decide +kernel
    rw [e]
    exact q2 H2 (Ex.refl H2)⟩
end
section
variable {P : Program} {w : World} {K : PySem.W.Frag} {mg : Str → Option Value} {base : Heap}
abbrev s__law_like : Stmt := topS 21
theorem sc__law_like : FnScope ["_law_found", "_law_due", "_law_k"] ["_law_found", "_law_due"] (fnScope s__law_like) := fnScope_by (by decide +kernel)
def spLike (K : PySem.W.Frag) (n : Nat) : Sp := fun vs H Q _ => ∃ (x y : V) (d : PyData), vs = [x, y] ∧ Dp K H x d ∧ Dp K H y d ∧ d.depth < n ∧ wideD d = true ∧ RetV (.bl true) H Q
/-- two of the same data, a list or a tuple -/
theorem like_seq {H : Hp} {x y : V} {ds : List PyData} {d : PyData} (hd : d = .list ds ∨ d = .tuple ds) (hx : Dp K H x d) (hy : Dp K H y d) :
    ∃ p xs q ys, x = .ref p ∧ y = .ref q ∧ (SqL K H p xs ∨ SqT K H p xs) ∧ (SqL K H q ys ∨ SqT K H q ys) ∧ DpAll K H xs ds ∧ DpAll K H ys ds := by
  rcases hd with rfl | rfl
  · cases hx with
    | lst h1 h2 =>
      cases hy with
      | lst g1 g2 => exact ⟨_, _, _, _, rfl, rfl, .inl h1, .inl g1, h2, g2⟩
  · cases hx with
    | tup h1 h2 =>
      cases hy with
      | tup g1 g2 => exact ⟨_, _, _, _, rfl, rfl, .inr h1, .inr g1, h2, g2⟩
theorem like_flat {H : Hp} {x y : V} {d : PyData} (h1 : ∀ ds, d ≠ .list ds) (h2 : ∀ ds, d ≠ .tuple ds) (hx : Dp K H x d) (hy : Dp K H y d) : x = y ∧ scal x y = true := by
  cases hx with
  | non => cases hy; exact ⟨rfl, rfl⟩
  | bl b => cases hy; exact ⟨rfl, rfl⟩
  | int i => cases hy; exact ⟨rfl, rfl⟩
  | str z => cases hy; exact ⟨rfl, rfl⟩
  | lst _ _ => exact absurd rfl (h1 _)
  | tup _ _ => exact absurd rfl (h2 _)
theorem ok_like1 (T : ModsL K mg) (n : Nat) (c__law_like : Cal P w K mg base n "_law_like" (spLike K n) []) {f : Addr} {fd : FuncData} (F : Def K mg "_law_like" s__law_like f fd) (b : Binds K fd ["_law_found", "_law_due"] []) : Cal P w K mg base (n + 1) "_law_like" (spLike K (n + 1)) [] := by
  refine cal0 F b .nil sc__law_like (fun vs H Q E h => ?_) (fun cdv A outer s H vs Q E hr h => ?_)
  · obtain ⟨_, _, _, rfl, _⟩ := h
    rfl
  · obtain ⟨x, y, d, rfl, hx, hy, hdep, hwd, q⟩ := h
    have m_isinstance := T.m_isinstance
    have m_tuple := T.m_tuple
    have m_list := T.m_list
    have m_len := T.m_len
    have m_range := T.m_range
    have m_bool := T.m_bool
    have m_int := T.m_int
    have m_str := T.m_str
    have hu64 := hr.units
    refine ⟨_, (pss_cons (ps_if (PW.pt (pw_or (pt_val (pe_callB call_isi (by rfl) m_isinstance Wt.bt_isinstance (pa_cons (pv 1) (pa_cons (pe_bltn (v := .ty "tuple") (by rfl) m_tuple Wt.bt_tuple rfl) pa_nil)))) (pw_or1 (pt_val (pe_callB call_isi (by rfl) m_isinstance Wt.bt_isinstance (pa_cons (pv 1) (pa_cons (pe_bltn (v := .ty "list") (by rfl) m_list Wt.bt_list rfl) pa_nil))))))) (pss_cons (ps_if (pt_cmpR op_ne (pe_callB call_isi (by rfl) m_isinstance Wt.bt_isinstance (pa_cons (pv 0) (pa_cons (pe_bltn (v := .ty "tuple") (by rfl) m_tuple Wt.bt_tuple rfl) pa_nil))) (pe_callB call_isi (by rfl) m_isinstance Wt.bt_isinstance (pa_cons (pv 1) (pa_cons (pe_bltn (v := .ty "tuple") (by rfl) m_tuple Wt.bt_tuple rfl) pa_nil))) (nomark _)) (pss_one (ps_ret pe_bl)) pss_nil)
      (pss_cons (ps_if (PW.pt (pw_or (pt_cmpR op_ne (pe_callB call_isi (by rfl) m_isinstance Wt.bt_isinstance (pa_cons (pv 0) (pa_cons (pe_bltn (v := .ty "list") (by rfl) m_list Wt.bt_list rfl) pa_nil))) (pe_callB call_isi (by rfl) m_isinstance Wt.bt_isinstance (pa_cons (pv 1) (pa_cons (pe_bltn (v := .ty "list") (by rfl) m_list Wt.bt_list rfl) pa_nil))) (nomark _)) (pw_or1 (pt_cmpR op_ne (pe_callB call_len_seq (by rfl) m_len PySem.boot_len (pa_cons (pv 0) pa_nil)) (pe_callB call_len_seq (by rfl) m_len PySem.boot_len (pa_cons (pv 1) pa_nil)) (nomark _))))) (pss_one (ps_ret pe_bl)) pss_nil)
      (pss_one (ps_ret (pe_cmpR (op_eqD hu64) (pe_lc (own := [("_law_k", 2)]) (g := (gName 2)) rfl sc__law_like.nd (pi_range1 (by rfl) m_range (pa_cons (pe_callB call_len_seq (by rfl) m_len PySem.boot_len (pa_cons (pv 1) pa_nil)) pa_nil)) (blkOk_by (N := ["_law_found", "_law_due", "_law_k"]) (sc := C8.fnScope s__law_like) (by decide +kernel)) (fun _ _ _ _ _ => pg_name (i := 2) sc__law_like.nd rfl (Or.inl rfl)) (fun _ _ _ _ _ => pts_one (pt_not (pt_val (C8.pe_c c__law_like hr (by first | decide | exact Nat.le_refl _ | omega) (by rfl) (pa_cons (pe_ix (show IxR _ (rIx K) from ix_seq) (pv 0) (pv 2) (fun _ _ => rfl)) (pa_cons (pe_ix (show IxR _ (rIx K) from ix_seq) (pv 1) (pv 2) (fun _ _ => rfl)) pa_nil)))))) (fun _ _ _ _ _ => (pv 2))) (pe_lst pa_nil) (nomark _)))))) pss_nil)
      (pss_cons (ps_if (pt_cmpR op_ne (pe_callB call_isi (by rfl) m_isinstance Wt.bt_isinstance (pa_cons (pv 0) (pa_cons (pe_bltn (v := .ty "bool") (by rfl) m_bool Wt.bt_bool rfl) pa_nil))) (pe_callB call_isi (by rfl) m_isinstance Wt.bt_isinstance (pa_cons (pv 1) (pa_cons (pe_bltn (v := .ty "bool") (by rfl) m_bool Wt.bt_bool rfl) pa_nil))) (nomark _)) (pss_one (ps_ret pe_bl)) pss_nil)
      (pss_cons (ps_if (PW.pt (pw_or (pt_cmpR op_ne (pe_callB call_isi (by rfl) m_isinstance Wt.bt_isinstance (pa_cons (pv 0) (pa_cons (pe_bltn (v := .ty "int") (by rfl) m_int Wt.bt_int rfl) pa_nil))) (pe_callB call_isi (by rfl) m_isinstance Wt.bt_isinstance (pa_cons (pv 1) (pa_cons (pe_bltn (v := .ty "int") (by rfl) m_int Wt.bt_int rfl) pa_nil))) (nomark _)) (pw_or1 (pt_cmpR op_ne (pe_callB call_isi (by rfl) m_isinstance Wt.bt_isinstance (pa_cons (pv 0) (pa_cons (pe_bltn (v := .ty "str") (by rfl) m_str Wt.bt_str rfl) pa_nil))) (pe_callB call_isi (by rfl) m_isinstance Wt.bt_isinstance (pa_cons (pv 1) (pa_cons (pe_bltn (v := .ty "str") (by rfl) m_str Wt.bt_str rfl) pa_nil))) (nomark _))))) (pss_one (ps_ret pe_bl)) pss_nil)
      (pss_one (ps_ret (pe_cmpR op_eq (pv 0) (pv 1) (nomark _))))))), ?_⟩
    by_cases hs : ∃ ds, d = .list ds ∨ d = .tuple ds
    · obtain ⟨ds, hd⟩ := hs
      obtain ⟨p, xs, pq, ys, rfl, rfl, gx, gy, ax, ay⟩ := like_seq hd hx hy
      have lx := dpa_len ax
      have ly := dpa_len ay
      have hw2 : ds.length ≤ 40000 ∧ wideAll ds = true ∧ PyData.depthAll ds < n := by
        rcases hd with rfl | rfl
        · unfold wideD at hwd
          rw [Bool.and_eq_true] at hwd
          unfold PyData.depth at hdep
          exact ⟨of_decide_eq_true hwd.1, hwd.2, by omega⟩
        · unfold wideD at hwd
          rw [Bool.and_eq_true] at hwd
          unfold PyData.depth at hdep
          exact ⟨of_decide_eq_true hwd.1, hwd.2, by omega⟩
      obtain ⟨bt, bl, kt, kl, hor⟩ : ∃ bt bl : Bool, kitB (tyN d) "tuple" = some bt ∧ kitB (tyN d) "list" = some bl ∧ (bt || bl) = true := by
        rcases hd with rfl | rfl
        · exact ⟨false, true, (show kitB "list" "tuple" = some false by decide +kernel), (show kitB "list" "list" = some true by decide +kernel), rfl⟩
        · exact ⟨true, false, (show kitB "tuple" "tuple" = some true by decide +kernel), (show kitB "tuple" "list" = some false by decide +kernel), rfl⟩
      refine q_when (et_is (et_or (et_B (ev_isi (ev_var rfl) ev_c hy kt)) fun _ => et_B (ev_isi (ev_var rfl) ev_c hy kl)) hor) (fun _ H1 e1 => ?_) (fun z => by cases z)
      have hx1 := Dp.ex e1 d _ hx
      have hy1 := Dp.ex e1 d _ hy
      refine q_when (b := false) (et_is (et_test (ev_op (ev_isi (ev_var rfl) ev_c hx1 kt) (ev_isi (ev_var rfl) ev_c hy1 kt) (rv_ne rfl))) (by simp)) (fun z => by cases z) (fun _ H2 e2 => ?_)
      have hx2 := Dp.ex e2 d _ hx1
      have hy2 := Dp.ex e2 d _ hy1
      have e12 := e1.trans e2
      refine q_when (b := false) (et_is (et_or (et_test (ev_op (ev_isi (ev_var rfl) ev_c hx2 kl) (ev_isi (ev_var rfl) ev_c hy2 kl) (rv_ne rfl))) fun _ =>
        et_test (ev_op (ev_lenD (K := K) (ev_var rfl) (gx.imp (ex_l e12) (ex_t e12))) (ev_lenD (K := K) (ev_var rfl) (gy.imp (ex_l e12) (ex_t e12))) (rv_ne rfl))) (by simp [lx, ly])) (fun z => by cases z) (fun _ H3 e3 => ?_)
      have e13 := e12.trans e3
      have gx3 := gx.imp (ex_l e13) (ex_t e13)
      have gy3 := gy.imp (ex_l e13) (ex_t e13)
      refine s_ret (ev_eqNil (K := K) ?_) fun H4 e4 => q.go (e13.trans e4)
      have lc := el_lcR1 (j := 2) (vs := [2]) (n := (ys.length : Int)) (σ := [some (V.ref p), some (V.ref pq), none]) (H := H3) (fun _ => false) (fun _ => V.non)
        (ta := tCons (tCB (rLenS K) (tCons (tVar 1) tNil)) tNil) (te := tVar 2)
        (t := tNot (tB (tCall (spLike K n) [] C8.E0 (tCons (tOp (rIx K) (tVar 0) (tVar 2)) (tCons (tOp (rIx K) (tVar 1) (tVar 2)) tNil)))))
        (ea_cons (ev_lenD (K := K) (ev_var rfl) gy3) ea_nil) ⟨by omega, by rw [ly]; omega⟩ (fun _ => rfl) (fun i H4 e4 hi => ?_) (fun i H4 e4 hi z => by cases z)
      · rw [Int.toNat_natCast, given_none] at lc
        exact lc
      · have hid : i < ds.length := by omega
        obtain ⟨vx, d1, g1, g2, g3⟩ := dpa_get ax hid
        obtain ⟨vy, d2, k1, k2, k3⟩ := dpa_get ay hid
        rw [g2] at k2
        cases k2
        have e14 := e13.trans e4
        refine et_not (et_B (b := true) ?_)
        refine ev_call (dvs := []) (vs := [vx, vy]) (ea_cons (ev_ixD (ev_var rfl) (ev_var rfl) (gx.imp (ex_l e14) (ex_t e14)) g1) (ea_cons (ev_ixD (ev_var rfl) (ev_var rfl) (gy.imp (ex_l e14) (ex_t e14)) k1) ea_nil)) fun H5 e5 Q5 q5 E5 => ?_
        have e15 := e14.trans e5
        exact ⟨vx, vy, d1, rfl, Dp.ex e15 d1 _ g3, Dp.ex e15 d1 _ k3, Nat.lt_of_le_of_lt (depth_get g2) hw2.2.2, wide_get hw2.2.1 g2, fun H6 e6 => q5 H6 e6⟩
    · have n1 : ∀ ds, d ≠ .list ds := fun ds e => hs ⟨ds, .inl e⟩
      have n2 : ∀ ds, d ≠ .tuple ds := fun ds e => hs ⟨ds, .inr e⟩
      obtain ⟨rfl, hsc⟩ := like_flat n1 n2 hx hy
      obtain ⟨bb, bi, bs, kt, kl, kb, ki, ks⟩ : ∃ bb bi bs : Bool, kitB (tyN d) "tuple" = some false ∧ kitB (tyN d) "list" = some false ∧ kitB (tyN d) "bool" = some bb ∧ kitB (tyN d) "int" = some bi ∧ kitB (tyN d) "str" = some bs := by
        cases d with
        | none => exact ⟨false, false, false, (show kitB "NoneType" "tuple" = some false by decide +kernel), (show kitB "NoneType" "list" = some false by decide +kernel), (show kitB "NoneType" "bool" = some false by decide +kernel), (show kitB "NoneType" "int" = some false by decide +kernel), (show kitB "NoneType" "str" = some false by decide +kernel)⟩
        | bool _ => exact ⟨true, true, false, (show kitB "bool" "tuple" = some false by decide +kernel), (show kitB "bool" "list" = some false by decide +kernel), (show kitB "bool" "bool" = some true by decide +kernel), (show kitB "bool" "int" = some true by decide +kernel), (show kitB "bool" "str" = some false by decide +kernel)⟩
        | int _ => exact ⟨false, true, false, (show kitB "int" "tuple" = some false by decide +kernel), (show kitB "int" "list" = some false by decide +kernel), (show kitB "int" "bool" = some false by decide +kernel), (show kitB "int" "int" = some true by decide +kernel), (show kitB "int" "str" = some false by decide +kernel)⟩
        | str _ => exact ⟨false, false, true, (show kitB "str" "tuple" = some false by decide +kernel), (show kitB "str" "list" = some false by decide +kernel), (show kitB "str" "bool" = some false by decide +kernel), (show kitB "str" "int" = some false by decide +kernel), (show kitB "str" "str" = some true by decide +kernel)⟩
        | list ds => exact absurd rfl (n1 ds)
        | tuple ds => exact absurd rfl (n2 ds)
        | dict _ => cases hx
      refine q_when (et_is (et_or (et_B (ev_isi (ev_var rfl) ev_c hy kt)) fun _ => et_B (ev_isi (ev_var rfl) ev_c hy kl)) rfl) (fun z => by cases z) (fun _ H1 e1 => ?_)
      have hx1 := Dp.ex e1 d _ hx
      refine q_when (b := false) (et_is (et_test (ev_op (ev_isi (ev_var rfl) ev_c hx1 kb) (ev_isi (ev_var rfl) ev_c hx1 kb) (rv_ne rfl))) (by simp)) (fun z => by cases z) (fun _ H2 e2 => ?_)
      have hx2 := Dp.ex e2 d _ hx1
      refine q_when (b := false) (et_is (et_or (et_test (ev_op (ev_isi (ev_var rfl) ev_c hx2 ki) (ev_isi (ev_var rfl) ev_c hx2 ki) (rv_ne rfl))) fun _ =>
        et_test (ev_op (ev_isi (ev_var rfl) ev_c hx2 ks) (ev_isi (ev_var rfl) ev_c hx2 ks) (rv_ne rfl))) (by simp)) (fun z => by cases z) (fun _ H3 e3 => ?_)
      refine s_ret (ev_is (ev_op (ev_var rfl) (ev_var rfl) (rv_eq hsc)) (show V.bl (decide (x = x)) = .bl true by rw [decide_eq_true rfl])) fun H4 e4 => q.go (((e1.trans e2).trans e3).trans e4)
/-- to any depth -/
theorem ok_like (T : ModsL K mg) {f : Addr} {fd : FuncData} (F : Def K mg "_law_like" s__law_like f fd) (b : Binds K fd ["_law_found", "_law_due"] []) : ∀ n, Cal P w K mg base n "_law_like" (spLike K n) []
  | 0 => ⟨f, fd, _, [], ⟨fun vs H Q E ⟨_, _, d, _, _, _, h, _⟩ => absurd h (Nat.not_lt_zero _), fun A outer s H args us vs Q E _ _ _ _ ⟨_, _, d, _, _, _, h, _⟩ => absurd h (Nat.not_lt_zero _)⟩, F.mgf, F.kp, b, .nil⟩
  | n + 1 => ok_like1 T n (ok_like T F b n) F b
end
theorem wide_word (n : Nat) (w : Word) : wideD (wordD n w) = true := by
  unfold wordD
  simp [wideD, wideAll]
theorem depth_word (n : Nat) (w : Word) : (wordD n w).depth = 2 := by
  unfold wordD
  simp [PyData.depth, PyData.depthAll]
theorem wide_map (n : Nat) : ∀ (ws : List Word) (ds : List PyData), wideAll ds = true → wideAll (ws.map (wordD n) ++ ds) = true
  | [], ds, h => h
  | w :: ws, ds, h => by
    show (wideD (wordD n w) && wideAll (ws.map (wordD n) ++ ds)) = true
    rw [wide_word, wide_map n ws ds h] <;> rfl
theorem wide_all : ∀ (n : Nat) (rows : List (List Nat)), wideAll (allD n rows) = true
  | _, [] => rfl
  | n, r :: rows => wide_map n _ _ (wide_all (n + 1) rows)
theorem depth_map (n : Nat) : ∀ (ws : List Word) (ds : List PyData), PyData.depthAll ds ≤ 2 → PyData.depthAll (ws.map (wordD n) ++ ds) ≤ 2
  | [], ds, h => h
  | w :: ws, ds, h => by
    have ih := depth_map n ws ds h
    show PyData.depthAll (wordD n w :: (ws.map (wordD n) ++ ds)) ≤ 2
    unfold PyData.depthAll
    rw [depth_word]
    exact Nat.max_le.mpr ⟨Nat.le_refl _, ih⟩
theorem depth_all : ∀ (n : Nat) (rows : List (List Nat)), PyData.depthAll (allD n rows) ≤ 2
  | _, [] => by
    show PyData.depthAll [] ≤ 2
    unfold PyData.depthAll
    decide
  | n, r :: rows => depth_map n _ _ (depth_all (n + 1) rows)
end Wt

set_option Elab.async false
set_option linter.all false
set_option maxRecDepth 100000
set_option maxHeartbeats 4000000
/-! An own way to scan a row: the plain functions, against the words. -/
namespace Wt
open PySem PySem.Spec PyProof.Rows L2 SX Evl

def singles : List Nat := [40, 41, 44, 46, 61, 60, 43, 45, 42, 47]
def twos : List (List Nat) := [[60, 62], [60, 61]]
def w1 : List Nat → List Nat
  | [] => []
  | c :: r => if isL c = true then (c :: r).takeWhile isL else if isF c = true then (c :: r).takeWhile isF else [c]
def w2 (l : List Nat) : List Nat := if l.take 2 ∈ twos then l.take 2 else w1 l
def good1 (w : List Nat) : Bool := decide (w = [32]) || (decide (w ∈ twos) || ((decide (w.length = 1) && decide (w.headD 0 ∈ singles)) || decide (w ∈ owns)))
def good2 (w : List Nat) : Bool := good1 w || ((isL (w.headD 0) || isF (w.headD 0)) && (decide (w.length < 7) && !(isF (w.headD 0) && (decide ([w.headD 0] = [48]) && !decide (w = [48])))))
def kindB (w : List Nat) : List Nat := if w ∈ owns then kOwn else if isL (w.headD 0) = true then kName else if isF (w.headD 0) = true then kNum else kSign

theorem letter_facts {c : Nat} (h : isL c = true) : isF c = false ∧ c ∉ singles ∧ c ≠ 32 ∧ c ≠ 60 := by
  have hc : c ∈ letters := of_decide_eq_true h
  have a : ∀ c ∈ letters, isF c = false ∧ c ∉ singles ∧ c ≠ 32 ∧ c ≠ 60 := by decide
  exact a c hc
theorem figure_facts {c : Nat} (h : isF c = true) : isL c = false ∧ c ∉ singles ∧ c ≠ 32 ∧ c ≠ 60 := by
  have hc : c ∈ figures := of_decide_eq_true h
  have a : ∀ c ∈ figures, isL c = false ∧ c ∉ singles ∧ c ≠ 32 ∧ c ≠ 60 := by decide
  exact a c hc
theorem owns_head {w : List Nat} (h : w ∈ owns) : isL (w.headD 0) = true ∧ 2 ≤ w.length := by
  have a : ∀ w ∈ owns, isL (w.headD 0) = true ∧ 2 ≤ w.length := by decide
  exact a w h
theorem signs_head {w : List Nat} (h : w ∈ signs) : isL (w.headD 0) = false ∧ isF (w.headD 0) = false := by
  have a : ∀ w ∈ signs, isL (w.headD 0) = false ∧ isF (w.headD 0) = false := by decide
  exact a w h
theorem twos_head {w : List Nat} (h : w ∈ twos) : w.headD 0 = 60 ∧ w ∈ signs := by
  have a : ∀ w ∈ twos, w.headD 0 = 60 ∧ w ∈ signs := by decide
  exact a w h
theorem take2_head {c : Nat} {r : List Nat} (h : (c :: r).take 2 ∈ twos) : c = 60 := (twos_head h).1
theorem w2_run {c : Nat} {r : List Nat} (h : c ≠ 60) : w2 (c :: r) = w1 (c :: r) := if_neg fun z => h (take2_head z)
theorem takeW_head {p : Nat → Bool} {c : Nat} {r : List Nat} (h : p c = true) : (c :: r).takeWhile p = c :: r.takeWhile p := by rw [List.takeWhile_cons, if_pos h]
theorem find_signs (c : Nat) (r : List Nat) (h : (c :: r).take 2 ∉ twos) : (signs.find? fun s => decide ((c :: r).take s.length = s)).getD [] = if c ∈ singles then [c] else [] := by
  have h1 : (c :: r).take 2 ≠ [60, 62] := fun z => h (by rw [z]; decide)
  have h2 : (c :: r).take 2 ≠ [60, 61] := fun z => h (by rw [z]; decide)
  by_cases hc : c ∈ singles
  · rw [if_pos hc]
    have hc2 := hc
    simp only [singles, List.mem_cons, List.not_mem_nil, or_false] at hc2
    have e : signs = [60, 62] :: [60, 61] :: [[40], [41], [44], [46], [61], [60], [43], [45], [42], [47]] := rfl
    rw [e, List.find?_cons_of_neg (by simpa using h1), List.find?_cons_of_neg (by simpa using h2)]
    rcases hc2 with rfl | rfl | rfl | rfl | rfl | rfl | rfl | rfl | rfl | rfl <;> rfl
  · rw [if_neg hc]
    simp only [singles, List.mem_cons, List.not_mem_nil, or_false, not_or] at hc
    obtain ⟨n1, n2, n3, n4, n5, n6, n7, n8, n9, n10⟩ := hc
    have e : signs = [60, 62] :: [60, 61] :: [[40], [41], [44], [46], [61], [60], [43], [45], [42], [47]] := rfl
    rw [e, List.find?_cons_of_neg (by simpa using h1), List.find?_cons_of_neg (by simpa using h2)]
    simp [n1, n2, n3, n4, n5, n6, n7, n8, n9, n10]
theorem find_twos (c : Nat) (r : List Nat) (h : (c :: r).take 2 ∈ twos) : (signs.find? fun s => decide ((c :: r).take s.length = s)).getD [] = (c :: r).take 2 := by
  have h2 := h
  simp only [twos, List.mem_cons, List.not_mem_nil, or_false] at h2
  have e : signs = [60, 62] :: [60, 61] :: [[40], [41], [44], [46], [61], [60], [43], [45], [42], [47]] := rfl
  rcases h2 with z | z
  · rw [e, List.find?_cons_of_pos (by simpa using z), z] <;> rfl
  · rw [e, List.find?_cons_of_neg (by
      intro q
      have q2 : (c :: r).take 2 = [60, 62] := of_decide_eq_true q
      rw [z] at q2
      cases q2), List.find?_cons_of_pos (by simpa using z), z] <;> rfl
theorem scan_blank (r : List Nat) : w2 (32 :: r) = [32] ∧ good2 [32] = true := by
  refine ⟨?_, by decide⟩
  rw [w2_run (by decide)]
  have e1 : isL 32 = false := by decide
  have e2 : isF 32 = false := by decide
  show (if isL 32 = true then (32 :: r).takeWhile isL else if isF 32 = true then (32 :: r).takeWhile isF else [32]) = [32]
  rw [e1, e2] <;> rfl
/-- a run of letters, of figures -/
theorem good_run {c : Nat} {t : List Nat} (h : isL c = true ∨ isF c = true) : good2 (c :: t) = (decide (c :: t ∈ owns) || (decide ((c :: t).length < 7) && !(isF c && (decide (c = 48) && !decide (t = []))))) := by
  have hs : c ∉ singles ∧ c ≠ 32 ∧ c ≠ 60 := by
    rcases h with h | h
    · exact (letter_facts h).2
    · exact (figure_facts h).2
  have t1 : (c :: t ∈ twos) = False := eq_false fun z => hs.2.2 (twos_head z).1
  have t2 : (c :: t = [32]) = False := eq_false fun z => hs.2.1 (List.cons.inj z).1
  have t3 : (c ∈ singles) = False := eq_false hs.1
  have t4 : (isL c || isF c) = true := by rcases h with h | h <;> simp [h]
  have t5 : decide ([c] = [48]) = decide (c = 48) := by simp
  unfold good2 good1
  show ((decide (c :: t = [32]) || (decide (c :: t ∈ twos) || ((decide ((c :: t).length = 1) && decide (c ∈ singles)) || decide (c :: t ∈ owns)))) || ((isL c || isF c) && (decide ((c :: t).length < 7) && !(isF c && (decide ([c] = [48]) && !decide (c :: t = [48])))))) = _
  rw [t5, t4]
  simp only [t1, t2, t3, decide_false, Bool.false_or, Bool.and_false, Bool.true_and]
  by_cases h48 : c = 48
  · have e : decide (c :: t = [48]) = decide (t = []) := by
      rw [h48]
      by_cases ht : t = []
      · simp [ht]
      · simp [ht]
    rw [e]
  · simp [h48]
theorem scan_word {c : Nat} {r : List Nat} (hc : c ≠ 32) : (kindOf (wordAt (c :: r)) = [] → good2 (w2 (c :: r)) = false) ∧
    (kindOf (wordAt (c :: r)) ≠ [] → good2 (w2 (c :: r)) = true ∧ w2 (c :: r) = wordAt (c :: r) ∧ kindB (w2 (c :: r)) = kindOf (wordAt (c :: r)) ∧ w2 (c :: r) ≠ [32]) := by
  by_cases hL : isL c = true
  · obtain ⟨hF, hs, h32, h60⟩ := letter_facts hL
    have ew : wordAt (c :: r) = c :: r.takeWhile isL := by rw [wordAt_cons, if_pos hL, takeW_head hL]
    have e2 : w2 (c :: r) = c :: r.takeWhile isL := by
      rw [w2_run h60]
      show (if isL c = true then _ else _) = _
      rw [if_pos hL, takeW_head hL]
    generalize r.takeWhile isL = t at ew e2
    rw [ew, e2, good_run (.inl hL)]
    have k : kindOf (c :: t) = if c :: t ∈ owns then kOwn else if 6 < (c :: t).length then [] else kName := by
      unfold kindOf
      by_cases ho : c :: t ∈ owns
      · rw [if_pos ho, if_pos ho]
      · rw [if_neg ho, if_neg ho, if_neg fun z => by
          have q := (signs_head z).1
          rw [show (c :: t).headD 0 = c from rfl, hL] at q
          cases q]
        by_cases h6 : 6 < (c :: t).length
        · rw [if_pos (.inr h6), if_pos h6]
        · rw [if_neg (by rintro (z | z); exact absurd z (List.cons_ne_nil _ _); exact h6 z), if_neg h6, if_pos (show isL ((c :: t).headD 0) = true from hL)]
    rw [k, hF]
    by_cases ho : c :: t ∈ owns
    · refine ⟨fun z => ?_, fun _ => ⟨by simp [ho], rfl, ?_, fun z => h32 (List.cons.inj z).1⟩⟩
      · rw [if_pos ho] at z
        exact absurd z (by decide)
      · unfold kindB
        rw [if_pos ho, if_pos ho]
    · rw [if_neg ho]
      by_cases h6 : 6 < (c :: t).length
      · rw [if_pos h6]
        refine ⟨fun _ => ?_, fun z => absurd rfl z⟩
        have : ¬ (c :: t).length < 7 := by omega
        simp only [ho, this, decide_false, Bool.false_or, Bool.false_and]
      · rw [if_neg h6]
        refine ⟨fun z => absurd z (by decide), fun _ => ⟨?_, rfl, ?_, fun z => h32 (List.cons.inj z).1⟩⟩
        · have : (c :: t).length < 7 := by omega
          simp only [this, decide_true, Bool.false_and, Bool.not_false, Bool.and_true, Bool.or_true]
        · unfold kindB
          rw [if_neg ho, if_pos (show isL ((c :: t).headD 0) = true from hL)]
  · by_cases hF : isF c = true
    · obtain ⟨hL2, hs, h32, h60⟩ := figure_facts hF
      have ew : wordAt (c :: r) = c :: r.takeWhile isF := by rw [wordAt_cons, if_neg hL, if_pos hF, takeW_head hF]
      have e2 : w2 (c :: r) = c :: r.takeWhile isF := by
        rw [w2_run h60]
        show (if isL c = true then _ else if isF c = true then _ else _) = _
        rw [if_neg hL, if_pos hF, takeW_head hF]
      generalize r.takeWhile isF = t at ew e2
      rw [ew, e2, good_run (.inr hF)]
      have ho : c :: t ∉ owns := fun z => by
        have q := (owns_head z).1
        rw [show (c :: t).headD 0 = c from rfl, hL2] at q
        cases q
      have k : kindOf (c :: t) = if 6 < (c :: t).length then [] else if c = 48 ∧ 1 < (c :: t).length then [] else kNum := by
        unfold kindOf
        rw [if_neg ho, if_neg fun z => by
          have q := (signs_head z).2
          rw [show (c :: t).headD 0 = c from rfl, hF] at q
          cases q]
        by_cases h6 : 6 < (c :: t).length
        · rw [if_pos (.inr h6), if_pos h6]
        · rw [if_neg (by rintro (z | z); exact absurd z (List.cons_ne_nil _ _); exact h6 z), if_neg h6, if_neg (show ¬ isL ((c :: t).headD 0) = true from hL)]
          rfl
      rw [k, hF]
      by_cases h6 : 6 < (c :: t).length
      · rw [if_pos h6]
        refine ⟨fun _ => ?_, fun z => absurd rfl z⟩
        have : ¬ (c :: t).length < 7 := by omega
        simp only [ho, this, decide_false, Bool.false_or, Bool.false_and]
      · rw [if_neg h6]
        have h7 : (c :: t).length < 7 := by omega
        have e1 : decide (t = []) = decide (¬ 1 < (c :: t).length) := by
          cases t with
          | nil => simp
          | cons x t => simp
        by_cases hz : c = 48 ∧ 1 < (c :: t).length
        · rw [if_pos hz]
          refine ⟨fun _ => ?_, fun z => absurd rfl z⟩
          have h1 : 1 < (c :: t).length := hz.2
          simp only [e1, ho, h1, h7, decide_eq_true hz.1, decide_false, not_true_eq_false, decide_true, Bool.not_false, Bool.and_true, Bool.not_true, Bool.and_false, Bool.or_false]
        · rw [if_neg hz]
          refine ⟨fun z => absurd z (by decide), fun _ => ⟨?_, rfl, ?_, fun z => h32 (List.cons.inj z).1⟩⟩
          · rw [e1]
            by_cases h48 : c = 48
            · have h1 : ¬ 1 < (c :: t).length := fun z => hz ⟨h48, z⟩
              simp only [h7, h1, not_false_eq_true, decide_true, Bool.not_true, Bool.and_false, Bool.not_false, Bool.and_true, Bool.or_true]
            · simp only [h7, h48, decide_true, decide_false, Bool.false_and, Bool.and_false, Bool.not_false, Bool.and_true, Bool.or_true]
          · unfold kindB
            rw [if_neg ho, if_neg (show ¬ isL ((c :: t).headD 0) = true from hL), if_pos (show isF ((c :: t).headD 0) = true from hF)]
    · have ew : wordAt (c :: r) = (signs.find? fun s => decide ((c :: r).take s.length = s)).getD [] := by rw [wordAt_cons, if_neg hL, if_neg hF]
      have signK : ∀ w : List Nat, w ∈ signs → kindOf w = kSign ∧ w ∉ owns := fun w hw => by
        have a : ∀ w ∈ signs, kindOf w = kSign ∧ w ∉ owns := by decide
        exact a w hw
      by_cases ht : (c :: r).take 2 ∈ twos
      · have e2 : w2 (c :: r) = (c :: r).take 2 := if_pos ht
        rw [ew, find_twos c r ht, e2]
        have a : ∀ w ∈ twos, kindOf w ≠ [] ∧ good2 w = true ∧ kindB w = kindOf w ∧ w ≠ [32] := by decide
        obtain ⟨a1, a2, a3, a4⟩ := a _ ht
        exact ⟨fun z => absurd z a1, fun _ => ⟨a2, rfl, a3, a4⟩⟩
      · have e2 : w2 (c :: r) = [c] := by
          unfold w2
          rw [if_neg ht]
          show (if isL c = true then _ else if isF c = true then _ else [c]) = _
          rw [if_neg hL, if_neg hF]
        rw [ew, find_signs c r ht, e2]
        by_cases hs : c ∈ singles
        · rw [if_pos hs]
          have a : ∀ c ∈ singles, kindOf [c] ≠ [] ∧ good2 [c] = true ∧ kindB [c] = kindOf [c] := by decide
          obtain ⟨a1, a2, a3⟩ := a c hs
          exact ⟨fun z => absurd z a1, fun _ => ⟨a2, rfl, a3, fun z => hc (List.cons.inj z).1⟩⟩
        · rw [if_neg hs]
          refine ⟨fun _ => ?_, fun z => absurd (by decide) z⟩
          have n1 : ([c] = [32]) = False := eq_false fun z => hc (List.cons.inj z).1
          have n2 : ([c] ∈ twos) = False := eq_false fun z => by
            simp [twos] at z
          have n3 : ([c] ∈ owns) = False := eq_false fun z => absurd (owns_head z).2 (by show ¬ 2 ≤ 1; decide)
          have f1 : isL c = false := by simpa using hL
          have f2 : isF c = false := by simpa using hF
          unfold good2 good1
          simp [n1, n2, n3, hs, f1, f2]

/-! ### rows of a text -/
theorem spl_sum (l : List Nat) : ∀ acc : List Nat, ((TL.spl [10] 0 acc l).map List.length).sum ≤ acc.length + l.length ∧ (TL.spl [10] 0 acc l).length ≤ l.length + 1 := by
  induction l with
  | nil =>
    intro acc
    rw [TL.spl_nil]
    simp
  | cons c r ih =>
    intro acc
    cases h : TL.pre [10] (c :: r) with
    | true =>
      rw [TL.spl_hit h]
      obtain ⟨i1, i2⟩ := ih []
      show ((acc :: TL.spl [10] 0 [] r).map List.length).sum ≤ _ ∧ (acc :: TL.spl [10] 0 [] r).length ≤ _
      rw [List.map_cons, List.sum_cons, List.length_cons, List.length_cons]
      have i1' : ((TL.spl [10] 0 [] r).map List.length).sum ≤ 0 + r.length := i1
      omega
    | false =>
      rw [TL.spl_miss h]
      obtain ⟨i1, i2⟩ := ih (acc ++ [c])
      rw [List.length_append] at i1
      have i1' : ((TL.spl [10] 0 (acc ++ [c]) r).map List.length).sum ≤ acc.length + 1 + r.length := i1
      rw [List.length_cons]
      omega
theorem sum_mem : ∀ {rows : List (List Nat)} {r : List Nat}, r ∈ rows → r.length ≤ (rows.map List.length).sum
  | x :: rows, r, h => by
    rw [List.map_cons, List.sum_cons]
    rcases List.mem_cons.mp h with z | z
    · rw [z]
      omega
    · have := sum_mem z
      omega
theorem allD_len : ∀ (n : Nat) (rows : List (List Nat)), (allD n rows).length ≤ (rows.map List.length).sum
  | _, [] => Nat.zero_le _
  | n, r :: rows => by
    have ih := allD_len (n + 1) rows
    have h1 := lexRow_count r
    show ((lexRow r).1.map (wordD n) ++ allD (n + 1) rows).length ≤ _
    rw [List.length_append, List.length_map, List.map_cons, List.sum_cons]
    omega
theorem split_told (row : List Nat) : ((Txt.split (S row) (S [35])).map V.str)[0]? = some (V.str (S (told row))) := by
  rw [split_S (by simp) (by decide), List.map_map]
  rcases told_split row with ⟨h, e⟩ | ⟨r, e, h⟩
  · have e2 : TL.spl [35] 0 [] row = [row] := by
      have q := SX.spl_join (c := 35) (sep := []) (parts := [row]) (by simp) (fun p hp => by rw [List.mem_singleton.mp hp]; exact h)
      exact q
    rw [e2, e] <;> rfl
  · have e2 : TL.spl [35] 0 [] row = told row :: TL.spl [35] 0 [] r := by
      have q := SX.spl_free (sep := [35]) (p := told row) r (by simp) (SX.free_head h)
      rw [show told row ++ ([35] ++ r) = row from e.symm] at q
      exact q
    rw [e2] <;> rfl
end Wt

set_option Elab.async false
set_option linter.all false
set_option maxRecDepth 100000
set_option maxHeartbeats 4000000
namespace Wt
open PySem PySem.Spec PyProof.Rows L2 SX Evl
open C8 (Def Cal cal0 fnScope_by fnScope)
/-! The law's own scan. -/
section
variable {K : PySem.W.Frag} {σ : L2.St} {H H' : Hp} {ta tb te tx : TE} {t u : TT} {x y z v : V} {tl : TO}
/-- t.split("#")[0] -/
theorem ev_toldS {row : List Nat} (ha : Ev ta σ H (.str (S row))) (hb : Ev tb σ H (.str (S [35]))) (hl : row.length ≤ 90000) :
    Ev (tOp (rIxL K) (tM1 (fun x xs H Q => ∃ a b, x = .str a ∧ xs = [.str b] ∧ (b.length == 0) = false ∧ a.length + 2 ≤ sizeLine ∧ rNewStrs (Txt.split a b) H Q) ta tb) (tC (.int 0))) σ H (.str (S (told row))) := fun H1 e Q q =>
  ha H1 e _ fun H2 e2 => ⟨⟨S row, rfl⟩, hb H2 (e.trans e2) _ fun H3 e3 => ⟨S row, S [35], rfl, rfl, by decide +kernel, by rw [S_len]; exact sz_of (show row.length + 2 ≤ 100000 by omega), fun p hp =>
    ⟨p, _, 0, _, rfl, rfl, sq_of upd_same, atI_nat (j := 0) (split_told row), q _ ((e2.trans e3).trans (Ex.new hp))⟩⟩⟩
/-- t[i:] -/
theorem ev_from {a : List Nat} {i : Nat} (h : Ev te σ H (.str (S a))) (h1 : EvO tl σ H (some (i : Int))) (hl : a.length ≤ 100000) : Ev (tSl C8.rSlX te tl tNoPart) σ H (.str (S (a.drop i))) := fun H1 e Q q =>
  h H1 e _ fun H2 e2 => h1 H2 (e.trans e2) _ fun H3 e3 => by
    refine ⟨S a, rfl, ?_, ?_⟩
    · rw [S_len]
      exact sz_of hl
    · rw [slice_from (by omega), Int.toNat_natCast]
      exact q H3 (e2.trans e3)
/-- x in [..], a list made on the way, of texts -/
theorem ev_inLs {w : List Nat} {ws : List (List Nat)} {xs : List V} (ha : Ev ta σ H (.str (S w))) (hb : EvL tb σ H xs) (e : xs = ws.map fun z => V.str (S z)) : Ev (tOp (rIn K false) ta tb) σ H (.bl (decide (w ∈ ws))) := by
  subst e
  exact ev_is (ev_opL ha hb fun _ _ h _ => rv_isL (sq_of h) rfl (flat_S ws)) (congrArg V.bl (inV_S w ws))
theorem ev_inUs {w : List Nat} {ws : List (List Nat)} {xs : List V} (ha : Ev ta σ H (.str (S w))) (hb : EvU tb σ H xs) (e : xs = ws.map fun z => V.str (S z)) : Ev (tOp (rIn K false) ta tb) σ H (.bl (decide (w ∈ ws))) := by
  subst e
  exact ev_is (ev_inU ha hb rfl (flat_S ws)) (congrArg V.bl (inV_S w ws))
theorem ev_inLv {w : List Nat} {ws : List (List Nat)} {p : Addr} (ha : Ev ta σ H (.str (S w))) (hb : Ev tb σ H (.ref p)) (hp : H p = some (.lst (ws.map fun z => V.str (S z)))) : Ev (tOp (rIn K false) ta tb) σ H (.bl (decide (w ∈ ws))) :=
  ev_is (ev_op ha hb (rv_isL (sq_of hp) rfl (flat_S ws))) (congrArg V.bl (inV_S w ws))
theorem ev_eqI {i j : Int} (ha : Ev ta σ H (.int i)) (hb : Ev tb σ H (.int j)) : Ev (tOp rEq ta tb) σ H (.bl (decide (i = j))) := ev_is (ev_op ha hb (rv_eq rfl)) (by
  by_cases h : i = j
  · subst h
    simp
  · rw [decide_eq_false h, decide_eq_false fun z => h (V.int.inj z)])
end
theorem lit_twos : [V.str (Str.ofString "<>"), V.str (Str.ofString "<=")] = twos.map fun z => V.str (S z) := by decide +kernel
theorem lit_sets : [V.str (Str.ofString "abcdefghijklmnopqrstuvwxyz"), V.str (Str.ofString "0123456789")] = [letters, figures].map fun z => V.str (S z) := by decide +kernel
theorem lit_singles : Str.ofString "(),.=<+-*/" = S singles := by decide +kernel
theorem lit_blank : Str.ofString " " = S [32] := by decide +kernel
theorem takeW_take (p : Nat → Bool) (l : List Nat) : l.takeWhile p = l.take (l.takeWhile p).length := by
  induction l with
  | nil => rfl
  | cons c r ih =>
    rw [List.takeWhile_cons]
    by_cases h : p c = true
    · rw [if_pos h, List.length_cons, List.take_succ_cons, ← ih]
    · rw [if_neg h] <;> rfl
theorem w2_ne (c : Nat) (r : List Nat) : ∃ h t, w2 (c :: r) = h :: t := by
  unfold w2
  by_cases h2 : (c :: r).take 2 ∈ twos
  · rw [if_pos h2]
    exact ⟨c, r.take 1, rfl⟩
  · rw [if_neg h2]
    show ∃ h t, (if isL c = true then (c :: r).takeWhile isL else if isF c = true then (c :: r).takeWhile isF else [c]) = h :: t
    by_cases h3 : isL c = true
    · rw [if_pos h3]
      exact ⟨c, _, takeW_head h3⟩
    · rw [if_neg h3]
      by_cases h4 : isF c = true
      · rw [if_pos h4]
        exact ⟨c, _, takeW_head h4⟩
      · rw [if_neg h4]
        exact ⟨c, [], rfl⟩
theorem w2_len (l : List Nat) : (w2 l).length ≤ l.length := by
  cases l with
  | nil =>
    unfold w2
    rw [if_neg (by decide)]
    exact Nat.le_refl _
  | cons c r =>
    unfold w2
    by_cases h2 : (c :: r).take 2 ∈ twos
    · rw [if_pos h2, List.length_take]
      omega
    · rw [if_neg h2]
      show (if isL c = true then (c :: r).takeWhile isL else if isF c = true then (c :: r).takeWhile isF else [c]).length ≤ _
      by_cases h3 : isL c = true
      · rw [if_pos h3]
        exact takeWhile_len _
      · rw [if_neg h3]
        by_cases h4 : isF c = true
        · rw [if_pos h4]
          exact takeWhile_len _
        · rw [if_neg h4, List.length_cons]
          exact Nat.succ_le_succ (Nat.zero_le _)
section
variable {P : Program} {w : World} {K : PySem.W.Frag} {mg : Str → Option Value} {base : Heap}
abbrev s__law_scan : Stmt := topS 24
theorem sc__law_scan : FnScope ["_law_text", "_law_own", "_law_found", "_law_rows", "_law_k", "_law_row", "_law_at", "_law_word", "_law_signs", "_law_more", "_law_letters", "_law_figures", "_law_good", "_law_kind"] ["_law_text"] (fnScope s__law_scan) := fnScope_by (by decide +kernel)
/-- what the scan tells of rows -/
def Scanned (H : Hp) (p : Addr) (rows : List (List Nat)) : Prop := ∃ (fl : Addr) (us : List V) (b : V), H p = some (.tup [.ref fl, b]) ∧ H fl = some (.lst us) ∧ (firstBad 1 rows = none → b = .non ∧ TdAll H us (allD 1 rows)) ∧
  ∀ n c, firstBad 1 rows = some (n, c) → ∃ q, b = .ref q ∧ H q = some (.tup [.int (n : Int), .int (c : Int)])
def spScan : Sp := fun vs H Q _ => ∃ (text : List Nat) (rows : List (List Nat)), vs = [.str (S text)] ∧ text.length ≤ 40000 ∧ rows = TL.spl [10] 0 [] text ∧ rows.length ≤ 1000 ∧ (rows.map List.length).sum ≤ 1000 ∧ ∀ p H2, Ex H H2 → Scanned H2 p rows → Q (.ref p) H2
def sgS (text : List Nat) (ow fl rw : Addr) (y4 y5 y6 y7 y8 y9 y10 y11 y12 y13 : Option V) : L2.St := [some (.str (S text)), some (.ref ow), some (.ref fl), some (.ref rw), y4, y5, y6, y7, y8, y9, y10, y11, y12, y13]
theorem ok_scan (T : ModsL K mg) {f : Addr} {fd : FuncData} (F : Def K mg "_law_scan" s__law_scan f fd) (b : Binds K fd ["_law_text"] []) : Cal P w K mg base 1 "_law_scan" spScan [] := by
  refine cal0 F b .nil sc__law_scan (fun vs H Q E h => ?_) (fun cdv A outer s H vs Q E hr h => ?_)
  · obtain ⟨_, _, rfl, _⟩ := h
    rfl
  · obtain ⟨text, rows, rfl, hl, hrows, hrl, hsum, q⟩ := h
    have m_range := T.m_range
    have m_len := T.m_len
    have m_int := T.m_int
    refine ⟨_, (pss_cons (ps_set (i := 1) sc__law_scan.nd rfl (.inl rfl) (pe_lst (pa_cons pe_str (pa_cons pe_str (pa_cons pe_str (pa_cons pe_str (pa_cons pe_str (pa_cons pe_str (pa_cons pe_str (pa_cons pe_str (pa_cons pe_str (pa_cons pe_str (pa_cons pe_str (pa_cons pe_str (pa_cons pe_str (pa_cons pe_str pa_nil))))))))))))))))
      (pss_cons (ps_set (i := 1) sc__law_scan.nd rfl (.inl rfl) (pe_op op_cat (pv 1) (pe_lst (pa_cons pe_str (pa_cons pe_str (pa_cons pe_str (pa_cons pe_str (pa_cons pe_str (pa_cons pe_str pa_nil)))))))))
      (pss_cons (ps_par (i := 2) (j := 3) rfl sc__law_scan.nd rfl rfl (by decide) (by rfl) (by rfl) (pa_cons (pe_lst pa_nil) (pa_cons (pe_split (pv 0) pe_str) pa_nil)) (by rfl))
      (pss_cons (ps_for PassesOwn.never rfl (pi_range1 (by rfl) m_range (pa_cons (pe_callB call_len_seq (by rfl) m_len PySem.boot_len (pa_cons (pv 3) pa_nil)) pa_nil)) (pg_name (i := 4) sc__law_scan.nd rfl (.inl rfl)) (pss_cons (ps_par (i := 5) (j := 6) rfl sc__law_scan.nd rfl rfl (by decide) (by rfl) (by rfl) (pa_cons (pe_ix ix_list (pe_split (pe_ix ix_list (pv 3) (pv 4) (fun _ _ => rfl)) pe_str) pe_int (fun _ _ => rfl)) (pa_cons pe_int pa_nil)) (by rfl))
      (pss_one (ps_while PassesOwn.never (pt_cmpR op_lt (pv 6) (pe_callB call_len_str (by rfl) m_len PySem.boot_len (pa_cons (pv 5) pa_nil)) (nomark _)) (pss_cons (ps_set (i := 7) sc__law_scan.nd rfl (.inl rfl) (pe_ix ix_str (pv 5) (pv 6) (fun _ _ => rfl)))
      (pss_cons (ps_for PassesOwn.never rfl (pi_list (pe_lst (pa_cons pe_str (pa_cons pe_str pa_nil)))) (pg_name (i := 8) sc__law_scan.nd rfl (.inl rfl)) (pss_cons (ps_set (i := 9) sc__law_scan.nd rfl (.inl rfl) (pe_slice C8.sl_txt (pv 5) (po_some (pe_op op_add (pv 6) (pe_callB call_len_str (by rfl) m_len PySem.boot_len (pa_cons (pv 7) pa_nil)))) po_none))
      (pss_one (ps_while PassesOwn.never (PW.pt (pw_and (pt_cmpR op_in_sign (pe_ix ix_str (pv 7) pe_int (fun _ _ => rfl)) (pv 8) (by with_unfolding_all rfl)) (pw_and (pt_cmpR op_ne (pv 9) pe_str (nomark _)) (pw_and1 (pt_cmpR op_in_sign (pe_ix ix_str (pv 9) pe_int (fun _ _ => rfl)) (pv 8) (by with_unfolding_all rfl)))))) (pss_one (ps_par (i := 7) (j := 9) rfl sc__law_scan.nd rfl rfl (by decide) (by rfl) (by rfl) (pa_cons (pe_op op_add_str (pv 7) (pe_ix ix_str (pv 9) pe_int (fun _ _ => rfl))) (pa_cons (pe_slice C8.sl_txt (pv 9) (po_some pe_int) po_none) pa_nil)) (by rfl)))))))
      (pss_cons (ps_set (i := 7) sc__law_scan.nd rfl (.inl rfl) (pe_ifExp (pt_cmpR op_in_seq (pe_slice C8.sl_txt (pv 5) (po_some (pv 6)) (po_some (pe_op op_add (pv 6) pe_int))) (pe_tup (pa_cons pe_str (pa_cons pe_str pa_nil))) (by with_unfolding_all rfl)) (pe_slice C8.sl_txt (pv 5) (po_some (pv 6)) (po_some (pe_op op_add (pv 6) pe_int))) (pv 7)))
      (pss_cons (ps_par (i := 10) (j := 11) rfl sc__law_scan.nd rfl rfl (by decide) (by rfl) (by rfl) (pa_cons (pe_cmpR op_in_sign (pe_ix ix_str (pv 7) pe_int (fun _ _ => rfl)) pe_str (by with_unfolding_all rfl)) (pa_cons (pe_cmpR op_in_sign (pe_ix ix_str (pv 7) pe_int (fun _ _ => rfl)) pe_str (by with_unfolding_all rfl)) pa_nil)) (by rfl))
      (pss_cons (ps_set (i := 12) sc__law_scan.nd rfl (.inl rfl) (pe_or (pe_cmpR op_eq (pv 7) pe_str (nomark _)) (pe_or (pe_cmpR op_in_seq (pv 7) (pe_lst (pa_cons pe_str (pa_cons pe_str pa_nil))) (by with_unfolding_all rfl)) (pe_or (pe_and (pe_cmpR op_eq (pe_callB call_len_str (by rfl) m_len PySem.boot_len (pa_cons (pv 7) pa_nil)) pe_int (nomark _)) (pe_one (pe_cmpR op_in_sign (pv 7) pe_str (by with_unfolding_all rfl)))) (pe_one (pe_cmpR op_in_seq (pv 7) (pv 1) (by with_unfolding_all rfl)))))))
      (pss_cons (ps_set (i := 12) sc__law_scan.nd rfl (.inl rfl) (pe_or (pv 12) (pe_one (pe_and (pe_or (pv 10) (pe_one (pv 11))) (pe_and (pe_cmpR op_lt (pe_callB call_len_str (by rfl) m_len PySem.boot_len (pa_cons (pv 7) pa_nil)) pe_int (nomark _)) (pe_one (pe_not (pe_and (pv 11) (pe_and (pe_cmpR op_eq (pe_ix ix_str (pv 7) pe_int (fun _ _ => rfl)) pe_str (nomark _)) (pe_one (pe_cmpR op_ne (pv 7) pe_str (nomark _))))))))))))
      (pss_cons (ps_if (pt_not (pt_val (pv 12))) (pss_one (ps_ret (pe_tup (pa_cons (pv 2) (pa_cons (pe_tup (pa_cons (pe_op op_add (pv 4) pe_int) (pa_cons (pe_op op_add (pv 6) pe_int) pa_nil))) pa_nil))))) pss_nil)
      (pss_cons (ps_set (i := 13) sc__law_scan.nd rfl (.inl rfl) (pe_ifExp (pt_cmpR op_in_seq (pv 7) (pv 1) (by with_unfolding_all rfl)) pe_str (pe_ifExp (pt_val (pv 10)) pe_str (pe_ifExp (pt_val (pv 11)) pe_str pe_str))))
      (pss_cons (ps_set (i := 2) sc__law_scan.nd rfl (.inl rfl) (pe_op op_cat (pv 2) (pe_op op_rep (pe_lst (pa_cons (pe_tup (pa_cons (pv 13) (pa_cons (pv 7) (pa_cons (pe_tup (pa_cons (pe_op op_add (pv 4) pe_int) (pa_cons (pe_op op_add (pv 6) pe_int) pa_nil))) pa_nil)))) pa_nil)) (pe_callTy call_int1 (by rfl) m_int Wt.bt_int (pa_cons (pe_cmpR op_ne (pv 7) pe_str (nomark _)) pa_nil)))))
      (pss_one (ps_set (i := 6) sc__law_scan.nd rfl (.inl rfl) (pe_op op_add (pv 6) (pe_callB call_len_str (by rfl) m_len PySem.boot_len (pa_cons (pv 7) pa_nil))))))))))))))))))
      (pss_one (ps_ret (pe_tup (pa_cons (pv 2) (pa_cons pe_non pa_nil))))))))), ?_⟩
    -- own
    refine q_asgL (el_lst (ea_cons ev_c (ea_cons ev_c (ea_cons ev_c (ea_cons ev_c (ea_cons ev_c (ea_cons ev_c (ea_cons ev_c (ea_cons ev_c (ea_cons ev_c (ea_cons ev_c (ea_cons ev_c (ea_cons ev_c (ea_cons ev_c (ea_cons ev_c ea_nil)))))))))))))) (by show 14 ≤ 100000; decide)) fun o1 H2 ho1 e2 ho2 => ?_
    refine q_asgL (el_cat (ev_var rfl) ho2 (el_lst (ea_cons ev_c (ea_cons ev_c (ea_cons ev_c (ea_cons ev_c (ea_cons ev_c (ea_cons ev_c ea_nil)))))) (by show 6 ≤ 100000; decide)) (by show 14 + 6 ≤ 100000; decide)) fun ow H3 ho3 e3 ho4 => ?_
    have hown : H3 ow = some (.lst (owns.map fun z => V.str (S z))) := ho4.trans (congrArg (fun l => some (HO.lst l)) (by decide +kernel))
    clear ho4
    -- found, rows = ([], text.split("\n"))
    refine ⟨Nat.zero_le _, fun fl hfl => ?_⟩
    refine ⟨.str (S text), rfl, ⟨S text, rfl⟩, S text, Str.ofString "\n", rfl, rfl, by decide +kernel, by rw [S_len]; exact Nat.le_trans (Nat.add_le_add_right hl 2) (by decide), fun rw hrw => ⟨_, _, rfl, ?_⟩⟩
    have hsp : (Txt.split (S text) (Str.ofString "\n")).map V.str = rows.map fun z => V.str (S z) := by
      rw [show Str.ofString "\n" = S [10] by decide +kernel, split_S (by simp) (by decide), ← hrows, List.map_map] <;> rfl
    rw [hsp]
    have hfr : fl ≠ rw := fun z => by
      rw [z, upd_same] at hrw
      cases hrw
    have eb : Ex H (upd (upd H3 fl (.lst [])) rw (.lst (rows.map fun z => V.str (S z)))) := ((e2.trans e3).trans (Ex.new hfl)).trans (Ex.new hrw)
    have hownb : (upd (upd H3 fl (.lst [])) rw (.lst (rows.map fun z => V.str (S z)))) ow = some (.lst (owns.map fun z => V.str (S z))) := (Ex.new hrw) _ _ ((Ex.new hfl) _ _ hown)
    have hflb : (upd (upd H3 fl (.lst [])) rw (.lst (rows.map fun z => V.str (S z)))) fl = some (.lst []) := (Ex.new hrw) _ _ upd_same
    have hrwb : (upd (upd H3 fl (.lst [])) rw (.lst (rows.map fun z => V.str (S z)))) rw = some (.lst (rows.map fun z => V.str (S z))) := upd_same
    generalize upd (upd H3 fl (.lst [])) rw (.lst (rows.map fun z => V.str (S z))) = Hb at eb hownb hflb hrwb ⊢
    clear hsp hfr hrw hfl hown
    show tSeq _ _ _ (sgS text ow fl rw none none none none none none none none none none) Hb
    -- for k in range(len(rows))
    refine q_forR1 (n := ((rows.map fun z => V.str (S z)).length : Int)) (ea_cons (ev_len (K := K) (ev_var rfl) (sq_of hrwb)) ea_nil) ⟨by omega, by rw [List.length_map]; omega⟩
      (fun k σ' H' => ∃ (fl : Addr) (us : List V) (y4 y5 y6 y7 y8 y9 y10 y11 y12 y13 : Option V), σ' = sgS text ow fl rw y4 y5 y6 y7 y8 y9 y10 y11 y12 y13 ∧ Ex Hb H' ∧ H' fl = some (.lst us) ∧ TdAll H' us (allD 1 (rows.take k)) ∧ AllWords (rows.take k))
      (fun H1 e1 => ⟨fl, [], none, none, none, none, none, none, none, none, none, none, rfl, e1, e1 _ _ hflb, .nil, fun r h => absurd h (by simp)⟩) ?_ ?_
    · rintro k σ' H' hk ⟨fl, us, y4, y5, y6, y7, y8, y9, y10, y11, y12, y13, rfl, eH, hfl, hT, haw⟩
      have hk2 : k < rows.length := by
        rw [List.length_map] at hk
        omega
      obtain ⟨row, hrow⟩ : ∃ row, rows[k]? = some row := ⟨rows[k], List.getElem?_eq_getElem hk2⟩
      have hmem : row ∈ rows := List.mem_of_getElem? hrow
      have hrlen : row.length ≤ 1000 := Nat.le_trans (sum_mem hmem) hsum
      have htl : (told row).length ≤ 1000 := Nat.le_trans (told_len row) hrlen
      have ht : (told row).length ≤ 100000 := by omega
      have hget : (rows.map fun z => V.str (S z))[k]? = some (V.str (S row)) := by
        rw [List.getElem?_map, hrow] <;> rfl
      have hcut : rows = rows.take k ++ row :: rows.drop (k + 1) := by
        obtain ⟨h1, h2⟩ := List.getElem?_eq_some_iff.mp hrow
        rw [← h2, ← List.drop_eq_getElem_cons h1, List.take_append_drop]
      have htake : rows.take (k + 1) = rows.take k ++ [row] := by
        rw [List.take_add_one, hrow] <;> rfl
      have hkl : (rows.take k).length = k := by
        rw [List.length_take]
        omega
      have hlenA : (allD 1 (rows.take k)).length ≤ 1000 := by
        refine Nat.le_trans (allD_len 1 _) (Nat.le_trans ?_ hsum)
        have e : (rows.map List.length).sum = ((rows.take k).map List.length).sum + ((row :: rows.drop (k + 1)).map List.length).sum := by
          rw [← List.sum_append, ← List.map_append, ← hcut]
        omega
      -- row, at = (rows[k].split("#")[0], 0)
      have evrow : Ev (tOp (rIxL K) (tVar 3) (tVar 4)) (sgS text ow fl rw (some (.int (k : Int))) y5 y6 y7 y8 y9 y10 y11 y12 y13) H' (.str (S row)) := ev_op (ev_var rfl) (ev_var rfl) (rv_ixL (sq_of (eH _ _ hrwb)) (atI_nat hget))
      refine ev_toldS evrow (ev_is ev_c (congrArg V.str (show Str.ofString "#" = S [35] by decide +kernel))) (by omega) H' (Ex.refl H') _ fun H1 e1 => ⟨_, _, rfl, ?_⟩
      -- while at < len(row)
      refine s_while (fun m σ' H' => ∃ (i : Nat) (fl : Addr) (us : List V) (part : List PyData) (y7 y8 y9 y10 y11 y12 y13 : Option V), σ' = sgS text ow fl rw (some (.int (k : Int))) (some (.str (S (told row)))) (some (.int (i : Int))) y7 y8 y9 y10 y11 y12 y13 ∧
        Ex Hb H' ∧ H' fl = some (.lst us) ∧ TdAll H' us (allD 1 (rows.take k) ++ part) ∧ i + m = (told row).length ∧ (lexRow row).1.map (wordD (k + 1)) = part ++ (lexR i ((told row).drop i)).1.map (wordD (k + 1)) ∧ (lexRow row).2 = (lexR i ((told row).drop i)).2)
        (told row).length ⟨0, fl, us, [], y7, y8, y9, y10, y11, y12, y13, rfl, eH.trans e1, e1 _ _ hfl, by rw [List.append_nil]; exact TdAll.tx (Tx.of e1) _ _ hT, Nat.zero_add _, by rw [List.drop_zero, List.nil_append, lexRow_R], by rw [List.drop_zero, lexRow_R]⟩ ?_
      clear hT hfl e1 evrow
      rintro m σ' H4 ⟨i, fl, us, part, y7, y8, y9, y10, y11, y12, y13, rfl, eH4, hfl, hT, hm, hlex, hok⟩
      by_cases hlt : i < (told row).length
      · refine ⟨true, et_is (et_test (ev_op (ev_var rfl) (ev_lenS (ev_var rfl) ht) rv_I0)) (decide_eq_true (by omega)), fun _ H5 e5 => ?_, fun z => by cases z⟩
        have hg : (told row)[i]? = some (told row)[i] := List.getElem?_eq_getElem hlt
        have hd : (told row).drop i = (told row)[i] :: (told row).drop (i + 1) := List.drop_eq_getElem_cons hlt
        obtain ⟨c, r, hcr⟩ : ∃ c r, (told row).drop i = c :: r := ⟨_, _, hd⟩
        have hc0 : (told row)[i] = c := by
          rw [hd] at hcr
          exact (List.cons.inj hcr).1
        rw [hc0] at hg
        have hll : (c :: r).length = (told row).length - i := by rw [← hcr, List.length_drop]
        have eH5 := eH4.trans e5
        refine ⟨fun σ2 H6 => ∃ (j : Nat) (fl : Addr) (us : List V) (part : List PyData) (y7 y8 y9 y10 y11 y12 y13 : Option V), i < j ∧ j ≤ (told row).length ∧ σ2 = sgS text ow fl rw (some (.int (k : Int))) (some (.str (S (told row)))) (some (.int (j : Int))) y7 y8 y9 y10 y11 y12 y13 ∧
          Ex Hb H6 ∧ H6 fl = some (.lst us) ∧ TdAll H6 us (allD 1 (rows.take k) ++ part) ∧ (lexRow row).1.map (wordD (k + 1)) = part ++ (lexR j ((told row).drop j)).1.map (wordD (k + 1)) ∧ (lexRow row).2 = (lexR j ((told row).drop j)).2, ?_, ?_⟩
        · rintro σ2 H6 ⟨j, fl, us, part, y7, y8, y9, y10, y11, y12, y13, h1, h2, rfl, h4, h5, h6, h7, h8⟩
          exact ⟨(told row).length - j, by omega, j, fl, us, part, y7, y8, y9, y10, y11, y12, y13, rfl, h4, h5, h6, by omega, h7, h8⟩
        have hfl5 := e5 _ _ hfl
        have hT5 := TdAll.tx (Tx.of e5) _ _ hT
        clear hfl hT
        -- word = row[at]
        refine q_asg (ev_op (ev_var rfl) (ev_var rfl) (rv_at ht hg)) fun H6 e6 => ?_
        -- for signs in [..]
        refine q_forNLn (el_lst (ea_cons ev_c (ea_cons ev_c ea_nil)) (by show 2 ≤ 100000; decide)) (fun p j σ' H' => ∃ (n : Nat) (y8 y9 : Option V), σ' = sgS text ow fl rw (some (.int (k : Int))) (some (.str (S (told row)))) (some (.int (i : Int))) (some (.str (S ((c :: r).take n)))) y8 y9 y10 y11 y12 y13 ∧ Ex H6 H' ∧
            H' p = some (.lst [.str (Str.ofString "abcdefghijklmnopqrstuvwxyz"), .str (Str.ofString "0123456789")]) ∧ 1 ≤ n ∧ n ≤ (c :: r).length ∧ (j = 0 → n = 1) ∧ (j = 1 → (isL c = true → (c :: r).take n = (c :: r).takeWhile isL) ∧ (isL c = false → n = 1)) ∧ (j = 2 → (c :: r).take n = w1 (c :: r)))
          (fun p H7 hp e7 h7 => ⟨1, y8, y9, rfl, e7, h7, Nat.le_refl _, by rw [List.length_cons]; omega, fun _ => rfl, (fun z => absurd z (by decide)), (fun z => absurd z (by decide))⟩)
          (fun p j σ' H' _ ⟨n, y8, y9, _, _, h, _⟩ => sq_of h) ?_ ?_
        · rintro p j x σ' H7 hx ⟨n, y8, y9, rfl, e7, hp7, hn1, hn2, hj0, hj1, hj2⟩
          obtain ⟨cs, rfl, hcs⟩ : ∃ cs, x = .str (S cs) ∧ ((j = 0 ∧ cs = letters) ∨ (j = 1 ∧ cs = figures)) := by
            rw [lit_sets, List.getElem?_map] at hx
            match j with
            | 0 => exact ⟨letters, (Option.some.inj hx).symm, .inl ⟨rfl, rfl⟩⟩
            | 1 => exact ⟨figures, (Option.some.inj hx).symm, .inr ⟨rfl, rfl⟩⟩
            | j + 2 =>
              exfalso
              simp at hx
          have hone : c ∈ cs → n = 1 := by
            rcases hcs with ⟨h1, h2⟩ | ⟨h1, h2⟩
            · exact fun _ => hj0 h1
            · intro h
              rw [h2] at h
              exact (hj1 h1).2 (figure_facts (show isF c = true from decide_eq_true h)).1
          -- more = row[at + len(word):]
          have hwl : ((c :: r).take n).length = n := by
            rw [List.length_take]
            omega
          refine q_asg (ev_from (i := i + n) (ev_var rfl) (eo_some (ev_is (ev_op (ev_var rfl) (ev_lenS (ev_var rfl) (by rw [hwl]; omega)) rv_I0) (by
            show V.int ((i : Int) + (((c :: r).take n).length : Int)) = V.int ((i + n : Nat) : Int)
            rw [hwl, Int.natCast_add]))) ht) fun H8 e8 => ?_
          have hdd : (told row).drop (i + n) = (c :: r).drop n := by rw [← hcr, List.drop_drop]
          rw [hdd]
          -- while ..
          refine s_while (fun m σ' H' => ∃ n2 : Nat, σ' = sgS text ow fl rw (some (.int (k : Int))) (some (.str (S (told row)))) (some (.int (i : Int))) (some (.str (S ((c :: r).take n2)))) (some (.str (S cs))) (some (.str (S ((c :: r).drop n2)))) y10 y11 y12 y13 ∧ Ex H7 H' ∧ n ≤ n2 ∧ n2 + m = (c :: r).length ∧
            (c ∈ cs → (c :: r).takeWhile (fun d => decide (d ∈ cs)) = (c :: r).take n2 ++ ((c :: r).drop n2).takeWhile fun d => decide (d ∈ cs)) ∧ (c ∉ cs → n2 = n)) ((c :: r).length - n) ⟨n, rfl, e8, Nat.le_refl _, by omega, fun h => ?_, fun _ => rfl⟩ ?_
          · rw [hone h]
            show (c :: r).takeWhile _ = [c] ++ r.takeWhile _
            rw [takeW_head (p := fun d => decide (d ∈ cs)) (decide_eq_true h)] <;> rfl
          · rintro m2 σ' H9 ⟨n2, rfl, e9, hnn, hm2, hrun, hstay⟩
            have hn2l : ((c :: r).take n2).length ≤ 100000 := by
              rw [List.length_take]
              omega
            have hdl : ((c :: r).drop n2).length ≤ 100000 := by
              rw [List.length_drop]
              omega
            have h0 : ((c :: r).take n2)[0]? = some c := by
              rw [List.getElem?_take_of_lt (by omega)] <;> rfl
            have evw : ∀ {H : Hp}, Ev (tOp rIxS (tVar 7) (tC (.int 0))) (sgS text ow fl rw (some (.int (k : Int))) (some (.str (S (told row)))) (some (.int (i : Int))) (some (.str (S ((c :: r).take n2)))) (some (.str (S cs))) (some (.str (S ((c :: r).drop n2)))) y10 y11 y12 y13) H (.str (S [c])) := ev_op (ev_var rfl) ev_c (rv_at (i := 0) hn2l h0)
            cases hdr : (c :: r).drop n2 with
            | nil =>
              rw [hdr] at evw hdl
              refine ⟨decide (c ∈ cs) && (false && false), et_and (et_test (ev_inSg evw (ev_var rfl))) fun _ => et_and (et_is (et_test (ev_neS (ev_var rfl) (ev_is ev_c (congrArg V.str lit0)))) rfl) (fun z => by cases z), fun z => by simp at z, fun _ H10 e10 => ?_⟩
              have hall : (c :: r).take n2 = c :: r := List.take_of_length_le (List.drop_eq_nil_iff.mp hdr)
              refine ⟨n2, _, _, rfl, e7.trans (e9.trans e10), e10 _ _ (e9 _ _ hp7), by omega, by omega, fun z => by omega, fun hj => ?_, fun hj => ?_⟩
              · rcases hcs with ⟨h1, h2⟩ | ⟨h1, h2⟩
                · refine ⟨fun hL => ?_, fun hL => ?_⟩
                  · have h := hrun (by rw [h2]; exact of_decide_eq_true hL)
                    rw [hdr, h2] at h
                    rw [show (c :: r).takeWhile isL = (c :: r).take n2 ++ [].takeWhile fun d => decide (d ∈ letters) from h, List.takeWhile_nil, List.append_nil]
                  · rw [hstay fun z => by
                      rw [h2] at z
                      rw [show isL c = true from decide_eq_true z] at hL
                      cases hL]
                    exact hj0 h1
                · omega
              · rcases hcs with ⟨h1, h2⟩ | ⟨h1, h2⟩
                · omega
                · show _ = if isL c = true then _ else if isF c = true then _ else _
                  by_cases hL : isL c = true
                  · rw [if_pos hL, hstay fun z => by
                      rw [h2] at z
                      have := (letter_facts hL).1
                      rw [show isF c = true from decide_eq_true z] at this
                      cases this]
                    exact (hj1 h1).1 hL
                  · rw [if_neg hL]
                    by_cases hF : isF c = true
                    · have h := hrun (by rw [h2]; exact of_decide_eq_true hF)
                      rw [hdr, h2] at h
                      rw [if_pos hF, show (c :: r).takeWhile isF = (c :: r).take n2 ++ [].takeWhile fun d => decide (d ∈ figures) from h, List.takeWhile_nil, List.append_nil]
                    · rw [if_neg hF, hstay fun z => hF (by rw [h2] at z; exact decide_eq_true z), (hj1 h1).2 (by simpa using hL)] <;> rfl
            | cons d ds =>
              rw [hdr] at evw hdl
              refine ⟨decide (c ∈ cs) && (true && decide (d ∈ cs)), et_and (et_test (ev_inSg evw (ev_var rfl))) fun _ => et_and (et_is (et_test (ev_neS (ev_var rfl) (ev_is ev_c (congrArg V.str lit0)))) rfl) fun _ => et_test (ev_inSg (ev_op (ev_var rfl) ev_c (rv_at (i := 0) hdl rfl)) (ev_var rfl)), fun hb H10 e10 => ?_, fun hb H10 e10 => ?_⟩
              · rw [Bool.true_and, Bool.and_eq_true] at hb
                have hcc : c ∈ cs := of_decide_eq_true hb.1
                have hdc : d ∈ cs := of_decide_eq_true hb.2
                have hlt2 : n2 < (c :: r).length := by
                  have := congrArg List.length hdr
                  rw [List.length_drop, List.length_cons (a := d)] at this
                  omega
                have htk : (c :: r).take (n2 + 1) = (c :: r).take n2 ++ [d] := by
                  rw [List.take_add_one, ← List.head?_drop, hdr] <;> rfl
                have hdp : (c :: r).drop (n2 + 1) = ds := by rw [← List.drop_drop, hdr] <;> rfl
                refine ⟨fun σ2 H11 => ∃ n3 : Nat, n2 < n3 ∧ n3 ≤ (c :: r).length ∧ σ2 = sgS text ow fl rw (some (.int (k : Int))) (some (.str (S (told row)))) (some (.int (i : Int))) (some (.str (S ((c :: r).take n3)))) (some (.str (S cs))) (some (.str (S ((c :: r).drop n3)))) y10 y11 y12 y13 ∧ Ex H7 H11 ∧
                  (c :: r).takeWhile (fun d => decide (d ∈ cs)) = (c :: r).take n3 ++ ((c :: r).drop n3).takeWhile fun d => decide (d ∈ cs), ?_, ?_⟩
                · rintro σ2 H11 ⟨n3, h1, h2, rfl, h4, h5⟩
                  exact ⟨(c :: r).length - n3, by omega, n3, rfl, h4, by omega, by omega, fun _ => h5, fun z => absurd hcc z⟩
                · refine ea_cons (ev_op (ev_var rfl) (ev_op (ev_var rfl) ev_c (rv_at (i := 0) hdl rfl)) (rv_addS (by
                    show _ + 1 ≤ 100000
                    rw [List.length_take]
                    omega))) (ea_cons (ev_from (i := 1) (ev_var rfl) (eo_some ev_c) hdl) ea_nil) H10 (Ex.refl H10) _ fun H11 e11 => ⟨_, _, rfl, n2 + 1, Nat.lt_succ_self _, hlt2, ?_, (e9.trans e10).trans e11, ?_⟩
                  · rw [htk, hdp] <;> rfl
                  · have h := hrun hcc
                    rw [hdr, takeW_head (p := fun d => decide (d ∈ cs)) (decide_eq_true hdc)] at h
                    rw [h, htk, hdp, List.append_assoc] <;> rfl
              · rw [Bool.true_and] at hb
                have hend : c ∈ cs → d ∉ cs := fun h1 h2 => by
                  rw [decide_eq_true h1, decide_eq_true h2] at hb
                  cases hb
                have hrun2 : c ∈ cs → (c :: r).takeWhile (fun d => decide (d ∈ cs)) = (c :: r).take n2 := fun h1 => by
                  have h := hrun h1
                  have hno : (d :: ds).takeWhile (fun d => decide (d ∈ cs)) = [] := by rw [List.takeWhile_cons, if_neg (by simpa using hend h1)]
                  rw [hdr, hno, List.append_nil] at h
                  exact h
                refine ⟨n2, _, _, rfl, e7.trans (e9.trans e10), e10 _ _ (e9 _ _ hp7), by omega, by omega, fun z => by omega, fun hj => ?_, fun hj => ?_⟩
                · rcases hcs with ⟨h1, h2⟩ | ⟨h1, h2⟩
                  · refine ⟨fun hL => ?_, fun hL => ?_⟩
                    · have h := hrun2 (by rw [h2]; exact of_decide_eq_true hL)
                      rw [h2] at h
                      exact h.symm
                    · rw [hstay fun z => by
                        rw [h2] at z
                        rw [show isL c = true from decide_eq_true z] at hL
                        cases hL]
                      exact hj0 h1
                  · omega
                · rcases hcs with ⟨h1, h2⟩ | ⟨h1, h2⟩
                  · omega
                  · show _ = if isL c = true then _ else if isF c = true then _ else _
                    by_cases hL : isL c = true
                    · rw [if_pos hL, hstay fun z => by
                        rw [h2] at z
                        have := (letter_facts hL).1
                        rw [show isF c = true from decide_eq_true z] at this
                        cases this]
                      exact (hj1 h1).1 hL
                    · rw [if_neg hL]
                      by_cases hF : isF c = true
                      · have h := hrun2 (by rw [h2]; exact of_decide_eq_true hF)
                        rw [h2] at h
                        rw [if_pos hF]
                        exact h.symm
                      · rw [if_neg hF, hstay fun z => hF (by rw [h2] at z; exact decide_eq_true z), (hj1 h1).2 (by simpa using hL)] <;> rfl
        · rintro p σ' H7 ⟨n, y8, y9, rfl, e7, _, hn1, hn2, _, _, hj2⟩
          have hw1 := hj2 rfl
          rw [hw1]
          clear hj2 hw1 hn1 hn2
          -- word = row[at:at + 2] if ..
          have evs : ∀ {H : Hp}, Ev (tSl C8.rSlX (tVar 5) (tPart (tVar 6)) (tPart (tOp (rI0 fun i j => .int (i + j)) (tVar 6) (tC (.int 2))))) (sgS text ow fl rw (some (.int (k : Int))) (some (.str (S (told row)))) (some (.int (i : Int))) (some (.str (S (w1 (c :: r))))) y8 y9 y10 y11 y12 y13) H (.str (S ((c :: r).take 2))) :=
            ev_is (ev_slA (i := i) (j := i + 2) (ev_var rfl) (eo_some (ev_var rfl)) (eo_some (ev_op (ev_var rfl) ev_c rv_I0)) ht (by omega) (by omega)) (by rw [hcr, Nat.add_sub_cancel_left])
          refine q_asg (v := .str (S (w2 (c :: r)))) (ev_if (et_test (ev_inUs evs (eu_tup (ea_cons ev_c (ea_cons ev_c ea_nil)) (by show 2 ≤ 100000; decide)) lit_twos)) (fun hb => ?_) (fun hb => ?_)) fun H8 e8 => ?_
          · have hb2 := of_decide_eq_true hb
            unfold w2
            rw [if_pos hb2]
            exact evs
          · have hb2 := of_decide_eq_false hb
            unfold w2
            rw [if_neg hb2]
            exact ev_var rfl
          clear evs
          obtain ⟨h, tt, hw⟩ := w2_ne c r
          have hwlen : (w2 (c :: r)).length ≤ 1000 := by
            have := w2_len (c :: r)
            omega
          have hstep := scan_word (c := c) (r := r)
          have hblank := scan_blank r
          have hle := w2_len (c :: r)
          have hfin : (w2 (c :: r)).length + i ≤ (told row).length := by omega
          generalize hW : w2 (c :: r) = ww at hw hwlen hstep hle hfin ⊢
          have hh0 : ww[0]? = some h := by
            rw [hw] <;> rfl
          have hwl5 : ww.length ≤ 100000 := by omega
          -- letters, figures = ..
          have ev0 : ∀ {y10 y11 y12 y13 : Option V} {H : Hp}, Ev (tOp rIxS (tVar 7) (tC (.int 0))) (sgS text ow fl rw (some (.int (k : Int))) (some (.str (S (told row)))) (some (.int (i : Int))) (some (.str (S ww))) y8 y9 y10 y11 y12 y13) H (.str (S [h])) := ev_op (ev_var rfl) ev_c (rv_at (i := 0) hwl5 hh0)
          refine q_par (a := .bl (isL h)) (b := .bl (isF h)) (ea_cons (ev_inSg ev0 (ev_is ev_c (congrArg V.str lit_letters))) (ea_cons (ev_inSg ev0 (ev_is ev_c (congrArg V.str lit_figures))) ea_nil)) fun H9 e9 => ?_
          show tSeq _ _ _ (sgS text ow fl rw (some (.int (k : Int))) (some (.str (S (told row)))) (some (.int (i : Int))) (some (.str (S ww))) y8 y9 (some (.bl (isL h))) (some (.bl (isF h))) y12 y13) H9
          have e39 : Ex Hb H9 := (((eH5.trans e6).trans e7).trans e8).trans e9
          have e59 : Ex H5 H9 := ((e6.trans e7).trans e8).trans e9
          have hown9 := e39 _ _ hownb
          -- good = ..
          refine q_asg (v := .bl (good1 ww)) (ev_is (ev_orV (ev_eqS (ev_var rfl) (ev_is ev_c (congrArg V.str lit_blank))) fun _ => ev_orV (ev_inLs (ev_var rfl) (el_lst (ea_cons ev_c (ea_cons ev_c ea_nil)) (by show 2 ≤ 100000; decide)) lit_twos) fun _ =>
            ev_orV (b := decide (ww ∈ owns)) (ev_andV (b := decide (h ∈ singles)) (ev_eqI (ev_lenS (ev_var rfl) hwl5) ev_c) fun hb => ?_) fun _ => ev_inLv (ev_var rfl) (ev_var rfl) hown9) ?_) fun H10 e10 => ?_
          · have h1 : (ww.length : Int) = 1 := of_decide_eq_true hb
            have h2 : tt = [] := by
              rw [hw, List.length_cons] at h1
              exact List.length_eq_zero_iff.mp (by omega)
            refine ev_inSg (ev_is (ev_var rfl) ?_) (ev_is ev_c (congrArg V.str lit_singles))
            rw [hw, h2]
          · unfold good1
            rw [show ww.headD 0 = h by rw [hw] <;> rfl, show decide ((ww.length : Int) = 1) = decide (ww.length = 1) by
              by_cases z : ww.length = 1
              · rw [decide_eq_true z, decide_eq_true (by omega)]
              · rw [decide_eq_false z, decide_eq_false (by omega)]]
          -- good = good or ..
          refine q_asg (v := .bl (good2 ww)) (ev_is (ev_orV (ev_var rfl) fun _ => ev_andV (ev_orV (ev_var rfl) fun _ => ev_var rfl) fun _ => ev_andV (ev_op (ev_lenS (ev_var rfl) hwl5) ev_c rv_I0) fun _ =>
            ev_notV (ev_andV (ev_var rfl) fun _ => ev_andV (ev_eqS ev0 (ev_is ev_c (congrArg V.str (show Str.ofString "0" = S [48] by decide +kernel)))) fun _ => ev_neS (ev_var rfl) (ev_is ev_c (congrArg V.str (show Str.ofString "0" = S [48] by decide +kernel))))) ?_) fun H11 e11 => ?_
          · unfold good2
            rw [show ww.headD 0 = h by rw [hw] <;> rfl]
            refine congrArg (fun b => V.bl (good1 ww || ((isL h || isF h) && (b && !(isF h && (decide ([h] = [48]) && !decide (ww = [48]))))))) ?_
            by_cases z : ww.length < 7
            · rw [decide_eq_true z, decide_eq_true (by omega)]
            · rw [decide_eq_false z, decide_eq_false (by omega)]
          have e511 := (e59.trans e10).trans e11
          have hfl11 := e511 _ _ hfl5
          have hT11 := TdAll.tx (Tx.of e511) _ _ hT5
          have eH11 := (e39.trans e10).trans e11
          -- if not good: return found, (k + 1, at + 1)
          refine q_when (et_not (et_B (ev_var rfl))) (fun hb H12 e12 => ?_) (fun hb H12 e12 => ?_)
          · have hgood : good2 ww = false := by simpa using hb
            have hc32 : c ≠ 32 := fun z => by
              subst z
              have h1 := hblank.1
              rw [hW] at h1
              rw [h1, hblank.2] at hgood
              cases hgood
            have hkind : kindOf (wordAt (c :: r)) = [] := by
              by_cases hk0 : kindOf (wordAt (c :: r)) = []
              · exact hk0
              · have := ((hstep hc32).2 hk0).1
                rw [this] at hgood
                cases hgood
            have hbad : (lexRow row).2 = some (i + 1) := by rw [hok, hcr, lexR_bad hc32 hkind]
            have hfirst : firstBad 1 rows = some (k + 1, i + 1) := by
              rw [hcut, firstBad_app 1 _ _ _ haw, hkl, firstBad_at hbad, Nat.add_comm 1 k]
            refine ⟨_, rfl, ?_⟩
            refine eu_tup (ea_cons (ev_op (ev_var rfl) ev_c rv_I0) (ea_cons (ev_op (ev_var rfl) ev_c rv_I0) ea_nil)) (by show 2 ≤ 100000; decide) H12 (Ex.refl H12) _ fun q2 H13 hq2 e13 h13 => ?_
            refine ⟨sz_of (by show 2 ≤ 100000; decide), fun p2 hp2 => ?_⟩
            refine q p2 _ (eb.trans (((eH11.trans e12).trans e13).trans (Ex.new hp2))) ⟨fl, us, .ref q2, upd_same, (Ex.new hp2) _ _ (e13 _ _ (e12 _ _ hfl11)), fun z => ?_, fun n c2 z => ?_⟩
            · rw [hfirst] at z
              cases z
            · rw [hfirst] at z
              cases z
              refine ⟨q2, rfl, ?_⟩
              rw [show ((k + 1 : Nat) : Int) = (k : Int) + 1 by omega, show ((i + 1 : Nat) : Int) = (i : Int) + 1 by omega]
              exact (Ex.new hp2) _ _ h13
          · have hgood : good2 ww = true := by simpa using hb
            have e512 := e511.trans e12
            have eH12 := eH11.trans e12
            have hown12 := eH12 _ _ hownb
            -- kind = ..
            refine q_asg (v := .str (S (kindB ww))) (ev_if (et_test (ev_inLv (ev_var rfl) (ev_var rfl) hown12)) (fun hb2 => ?_) (fun hb2 => ev_if (et_B (ev_var rfl)) (fun hb3 => ?_) (fun hb3 => ev_if (et_B (ev_var rfl)) (fun hb4 => ?_) (fun hb4 => ?_)))) fun H13 e13 => ?_
            · have z := of_decide_eq_true hb2
              unfold kindB
              rw [if_pos z]
              exact ev_is ev_c (congrArg V.str (show Str.ofString "own" = S kOwn by decide +kernel))
            · have z := of_decide_eq_false hb2
              unfold kindB
              rw [if_neg z, show ww.headD 0 = h by rw [hw] <;> rfl, if_pos hb3]
              exact ev_is ev_c (congrArg V.str (show Str.ofString "name" = S kName by decide +kernel))
            · have z := of_decide_eq_false hb2
              unfold kindB
              rw [if_neg z, show ww.headD 0 = h by rw [hw] <;> rfl, if_neg (by rw [hb3]; exact Bool.false_ne_true), if_pos hb4]
              exact ev_is ev_c (congrArg V.str (show Str.ofString "num" = S kNum by decide +kernel))
            · have z := of_decide_eq_false hb2
              unfold kindB
              rw [if_neg z, show ww.headD 0 = h by rw [hw] <;> rfl, if_neg (by rw [hb3]; exact Bool.false_ne_true), if_neg (by rw [hb4]; exact Bool.false_ne_true)]
              exact ev_is ev_c (congrArg V.str (show Str.ofString "sign" = S kSign by decide +kernel))
            have hfl13 := e13 _ _ (e12 _ _ hfl11)
            have hT13 := TdAll.tx (Tx.of e13) _ _ (TdAll.tx (Tx.of e12) _ _ hT11)
            have eH13 := eH12.trans e13
            have hpartl : part.length ≤ 1000 := by
              have := congrArg List.length hlex
              rw [List.length_append, List.length_map] at this
              have := lexRow_count row
              omega
            have husl : us.length ≤ 2000 := by
              have := hT13.len
              rw [List.length_append] at this
              omega
            -- found = found + [..] * int(..)
            refine ⟨.ref fl, rfl, _, rfl, _, rfl, ?_⟩
            refine eu_tup (ea_cons (ev_op (ev_var rfl) ev_c rv_I0) (ea_cons (ev_op (ev_var rfl) ev_c rv_I0) ea_nil)) (by show 2 ≤ 100000; decide) H13 (Ex.refl H13) _ fun q2 H14 hq2 e14 h14 => ?_
            refine ⟨sz_of (by show 3 ≤ 100000; decide), fun t2 ht2 => ⟨sz_of (by show 1 ≤ 100000; decide), fun l2 hl2 => ?_⟩⟩
            refine ev_cb (z := .int (if (!decide (ww = [32])) = true then 1 else 0)) (ea_cons (ev_neS (ev_var rfl) (ev_is ev_c (congrArg V.str lit_blank))) ea_nil) (fun H1 _ Q q => .inr ⟨_, rfl, q H1 (Ex.refl H1)⟩) _ (Ex.refl _) _ fun H15 e15 => ?_
            have e1415 : Ex H14 H15 := ((Ex.new ht2).trans (Ex.new hl2)).trans e15
            have ht15 : H15 t2 = some (.tup [.str (S (kindB ww)), .str (S ww), .ref q2]) := e15 _ _ ((Ex.new hl2) _ _ upd_same)
            refine ⟨l2, _, [.ref t2], rfl, rfl, e15 _ _ upd_same, by split <;> decide, by split <;> decide, sz_of (by
              split
              · show 1 * 1 ≤ 100000
                decide
              · show 1 * 0 ≤ 100000
                decide), fun p3 hp3 => ?_⟩
            refine ⟨fl, p3, us, _, rfl, rfl, (Ex.new hp3) _ _ (e1415 _ _ (e14 _ _ hfl13)), upd_same, sz_of ?_, fun f2 hf2 => ?_⟩
            · by_cases z : ww = [32]
              · rw [if_neg (by simp [z])]
                show us.length + 0 ≤ 100000
                omega
              · rw [if_pos (by simp [z])]
                show us.length + 1 ≤ 100000
                omega
            generalize hzs : (List.replicate (if (!decide (ww = [32])) = true then (1 : Int) else 0).toNat [V.ref t2]).flatten = zs at hf2 ⊢
            have e1516 : Ex H15 (upd (upd H15 p3 (.lst zs)) f2 (.lst (us ++ zs))) := (Ex.new hp3).trans (Ex.new hf2)
            have hf16 : (upd (upd H15 p3 (.lst zs)) f2 (.lst (us ++ zs))) f2 = some (.lst (us ++ zs)) := upd_same
            generalize upd (upd H15 p3 (.lst zs)) f2 (.lst (us ++ zs)) = H16 at e1516 hf16 ⊢
            have e1316 : Ex H13 H16 := (e14.trans e1415).trans e1516
            have hT16 := TdAll.tx (Tx.of e1316) _ _ hT13
            have hdrop : (told row).drop (i + ww.length) = (c :: r).drop ww.length := by rw [← hcr, List.drop_drop]
            -- at = at + len(word)
            by_cases hc32 : c = 32
            · subst hc32
              have hww : ww = [32] := by
                rw [← hW]
                exact hblank.1
              subst hww
              have hz : zs = [] := by
                rw [← hzs] <;> rfl
              subst hz
              rw [List.append_nil] at hf16
              rw [hcr, lexR_blank] at hlex hok
              refine s_asg (ev_op (ev_var rfl) (ev_lenS (ev_var rfl) (by decide)) rv_I0) fun H17 e17 => ⟨i + 1, f2, us, part, some (.str (S [32])), y8, y9, some (.bl (isL h)), some (.bl (isF h)), some (.bl (good2 [32])), some (.str (S (kindB [32]))), Nat.lt_succ_self i, hlt, ?_, (eH13.trans e1316).trans e17, e17 _ _ hf16, TdAll.tx (Tx.of e17) _ _ hT16, ?_, ?_⟩
              · rw [show ((i + 1 : Nat) : Int) = (i : Int) + (([32] : List Nat).length : Int) by
                  show ((i + 1 : Nat) : Int) = (i : Int) + 1
                  omega] <;> rfl
              · rw [show (told row).drop (i + 1) = r from hdrop]
                exact hlex
              · rw [show (told row).drop (i + 1) = r from hdrop]
                exact hok
            · have hk0 : kindOf (wordAt (c :: r)) ≠ [] := fun z => by
                have := (hstep hc32).1 z
                rw [this] at hgood
                cases hgood
              obtain ⟨_, g2, g3, g4⟩ := (hstep hc32).2 hk0
              have hz : zs = [.ref t2] := by
                rw [← hzs, if_pos (by simp [g4])] <;> rfl
              subst hz
              have hnew : Td H16 (.ref t2) (wordD (k + 1) (kindOf (wordAt (c :: r)), wordAt (c :: r), i + 1)) := by
                rw [← g3, ← g2]
                refine .tup (e1516 _ _ ht15) (.cons (.str _) (.cons (.str _) (.cons ?_ .nil)))
                refine .tup (xs := [.int ((k : Int) + 1), .int ((i : Int) + 1)]) (e1516 _ _ (e1415 _ _ h14)) (.cons ?_ (.cons ?_ .nil))
                · rw [show (k : Int) + 1 = ((k + 1 : Nat) : Int) by omega]
                  exact .int _
                · show Td H16 (.int ((i : Int) + 1)) (.int ((i + 1 : Nat) : Int))
                  rw [show (i : Int) + 1 = ((i + 1 : Nat) : Int) by omega]
                  exact .int _
              rw [hcr, lexR_word hc32 hk0, ← g2] at hlex hok
              have hpos : 0 < ww.length := by
                rw [hw, List.length_cons]
                omega
              refine s_asg (ev_op (ev_var rfl) (ev_lenS (ev_var rfl) hwl5) rv_I0) fun H17 e17 => ⟨i + ww.length, f2, us ++ [.ref t2], part ++ [wordD (k + 1) (kindOf (wordAt (c :: r)), wordAt (c :: r), i + 1)], some (.str (S ww)), y8, y9, some (.bl (isL h)), some (.bl (isF h)), some (.bl (good2 ww)), some (.str (S (kindB ww))), by omega, by omega, ?_, (eH13.trans e1316).trans e17, e17 _ _ hf16, ?_, ?_, ?_⟩
              · rw [Int.natCast_add] <;> rfl
              · rw [← List.append_assoc]
                exact TdAll.tx (Tx.of e17) _ _ (hT16.snoc hnew)
              · rw [hdrop, List.append_assoc, hlex, ← g2] <;> rfl
              · rw [hdrop]
                exact hok
      · refine ⟨false, et_is (et_test (ev_op (ev_var rfl) (ev_lenS (ev_var rfl) ht) rv_I0)) (decide_eq_false (by omega)), (fun z => by cases z), fun _ H5 e5 => ?_⟩
        have hz : (told row).drop i = [] := List.drop_eq_nil_of_le (by omega)
        rw [hz, lexR_nil] at hlex hok
        have hpart : part = (lexRow row).1.map (wordD (k + 1)) := by
          rw [hlex]
          exact (List.append_nil _).symm
        refine ⟨fl, us, _, _, _, _, _, _, _, _, _, _, rfl, eH4.trans e5, e5 _ _ hfl, ?_, ?_⟩
        · rw [htake, allD_snoc, hkl, Nat.add_comm 1 k, ← hpart]
          exact TdAll.tx (Tx.of e5) _ _ hT
        · rw [htake]
          intro r2 hr2
          rcases List.mem_append.mp hr2 with z | z
          · exact haw r2 z
          · rw [List.mem_singleton.mp z]
            exact hok
    · rintro σ' H' ⟨fl, us, y4, y5, y6, y7, y8, y9, y10, y11, y12, y13, rfl, eH, hfl, hT, haw⟩
      rw [Int.toNat_natCast, List.length_map, List.take_of_length_le (Nat.le_refl _)] at hT haw
      refine s_retU (eu_tup (ea_cons (ev_var rfl) (ea_cons ev_c ea_nil)) (by show 2 ≤ 100000; decide)) fun p H1 hp e1 h1 => q p H1 (eb.trans (eH.trans e1)) ⟨fl, us, .non, h1, e1 _ _ hfl, fun _ => ⟨rfl, TdAll.tx (Tx.of e1) _ _ hT⟩, fun n c hbad => ?_⟩
      have all : ∀ (n : Nat) (rs : List (List Nat)), AllWords rs → firstBad n rs = none := fun n rs => by
        induction rs generalizing n with
        | nil => intro _; rfl
        | cons x rs ih =>
          intro h
          have hx := h x (List.mem_cons_self ..)
          show (match (lexRow x).2 with | some c => some (n, c) | none => firstBad (n + 1) rs) = _
          rw [hx]
          exact ih (n + 1) fun r hr => h r (List.mem_cons_of_mem _ hr)
      rw [all 1 rows haw] at hbad
      cases hbad
end
end Wt

set_option Elab.async false
set_option linter.all false
set_option maxRecDepth 100000
set_option maxHeartbeats 4000000
namespace Wt
open PySem PySem.Spec PyProof.Rows L2 SX Evl
open C8 (Def Cal cal0 fnScope_by fnScope)
/-! The law. -/
abbrev s__law_told : Stmt := topS 23
theorem sc__law_told : FnScope ["_law_work", "e", "_law_some"] ["_law_work"] (fnScope s__law_told) := fnScope_by (by decide +kernel)
abbrev s_law : Stmt := topS 25
theorem sc_law : FnScope ["_law_script", "_law_d", "_law_turn", "_law_k", "_law_some", "_law_found", "_law_bad", "_law_due", "_law_text"] ["_law_script"] (fnScope s_law) := fnScope_by (by decide +kernel)
/-- the law's code object's table -/
def tabL (Pt : Addr) : List (Addr × Str) := [(Pt, (envOfC "law" (fnScope s_law) 0 0 .none).qual ++ "<lambda>")]
def spLaw (K : PySem.W.Frag) (Pt : Addr) : Sp := fun vs H Q _ => ∃ (a : Addr) (ns : List Int), vs = [.ref a] ∧ Scr K H a ns ∧ H Pt = some (.tbl #[]) ∧ ∀ H', Q (.bl true) H'
def menuL : List (List Nat) := [[97], [105, 102], [48], [55], [48, 48], [97, 98, 99, 100, 101, 102, 103], [97, 98, 99, 100, 101, 102], [49, 50, 51, 52, 53, 54, 55], [49, 50, 51, 52, 53, 54], [32], [10], [35], [60], [62], [61], [95], [65], [59], [33], [126], [40], [109, 111, 100], [111, 117, 116], [47], [48, 57], [32], [10], [46]]
def sgL (a d : Addr) (y2 y3 y4 y5 y6 y7 y8 : Option V) : L2.St := [some (.ref a), some (.ref d), y2, y3, y4, y5, y6, y7, y8]
theorem extN_dc {K : PySem.W.Frag} {H H' : Hp} {d a : Addr} {ns : List Int} (e : LamX.ExtN H H') (h : Dc K H d a ns) : Dc K H' d a ns :=
  ⟨e _ _ h.o (fun ps z => by
    unfold DiceO at z
    cases z), h.s.fx fun b o u hb => e _ _ hb (fun ps z => by cases z)⟩
theorem extN_tx {H H' : Hp} (e : LamX.ExtN H H') : Tx H H' := fun a xs h => e _ _ h (fun ps z => by cases z)
section
variable {K : PySem.W.Frag} {σ : L2.St} {H H' : Hp} {ta tb te tx : TE} {t u : TT} {x y z v : V}
theorem ev_isN {b : Bool} (ha : Ev ta σ H x) (hb : decide (x = .non) = b) : Ev (tOp (fun x y H Q => y = .non ∧ Q (.bl (decide (x = .non))) H) ta (tC .non)) σ H (.bl b) :=
  ev_is (ev_op ha ev_c fun H1 _ Q q => ⟨rfl, q H1 (Ex.refl H1)⟩) (congrArg V.bl hb)
theorem eu_else {xs : List V} (h : EvT t σ H false) (h2 : EvU tb σ H xs) : EvU (tIf t ta tb) σ H xs := fun H1 e Q q => h H1 e _ fun H2 e2 => by
  show tb σ H2 Q
  exact h2 H2 (e.trans e2) Q fun p H3 hp e3 h3 => q p H3 (fresh_back e2 hp) (e2.trans e3) h3
end
section
variable {P : Program} {w : World} {K : PySem.W.Frag} {mg : Str → Option Value} {base : Heap}
theorem ok_law (T : ModsL K mg) {CF c Pt : Addr} (T_flt : FltC K CF (Str.ofString "stage") (Str.ofString "file") (Str.ofString "place") (Str.ofString "why")) (hF : mg "Fault" = some (.ref CF))
    (c__law_dice : Cal P w K mg base 1 "_law_dice" (spDice K) []) (c__law_next : Cal P w K mg base 1 "_law_next" (spNext K) []) (c__law_pick : Cal P w K mg base 2 "_law_pick" (spPick K) [])
    (c__law_scan : Cal P w K mg base 1 "_law_scan" spScan []) (c_words_of : CalX P w K mg base 4 "words_of" (spWordsOf CF)) (c__law_like : Cal P w K mg base 4 "_law_like" (spLike K 4) [])
    {ft : Addr} {fdt : FuncData} (D_told : Def K mg "_law_told" s__law_told ft fdt) (b_told : Binds K fdt ["_law_work"] [])
    {f : Addr} {oc dV kV doc pm ct : Value} {od an : Option Addr} {osl : Array (Option Value)} (lk : K.lookup f = some ⟨oc, od, .func (PySem.W.fnOf "law" "law" (C8.fnArgs s_law) (C8.fnBody s_law) (fnScope s_law) dV kV doc pm an (.ref c) ct), osl⟩) (hcd : PySem.W.codeIn K (.ref c) "law" = true)
    (TB : LamX.TabB base mg c Pt) : FnOk P w K mg base C8.CX0 7 f (PySem.W.fnOf "law" "law" (C8.fnArgs s_law) (C8.fnBody s_law) (fnScope s_law) dV kV doc pm an (.ref c) ct) ["_law_script"] (spLaw K Pt) := by
  refine fn_of lk hcd sc_law (fun vs H Q E h => ?_) (fun A outer s H vs Q E hr h => ?_)
  · obtain ⟨_, _, rfl, _⟩ := h
    rfl
  · obtain ⟨a, ns, rfl, hS, hPt, q⟩ := h
    have m_range := T.m_range
    have hu := hu_of hr
    refine ⟨_, PSs.nox (pss_cons (ps_set (i := 1) sc_law.nd rfl (.inl rfl) (C8.pe_c c__law_dice hr (by first | decide | exact Nat.le_refl _ | omega) (by rfl) (pa_cons (pv 0) pa_nil)))
      (pss_cons (ps_for PassesOwn.never rfl (pi_range1 (by rfl) m_range (pa_cons pe_int pa_nil)) (pg_name (i := 2) sc_law.nd rfl (.inl rfl)) (pss_cons (ps_set (i := 8) sc_law.nd rfl (.inr rfl) pe_str)
      (pss_cons (ps_for PassesOwn.never rfl (pi_range1 (by rfl) m_range (pa_cons (C8.pe_c c__law_next hr (by first | decide | exact Nat.le_refl _ | omega) (by rfl) (pa_cons (pv 1) (pa_cons pe_int pa_nil))) pa_nil)) (pg_name (i := 3) sc_law.nd rfl (.inl rfl)) (pss_cons (ps_set (i := 4) sc_law.nd rfl (.inl rfl) (pe_lst (pa_cons pe_str (pa_cons pe_str (pa_cons pe_str (pa_cons pe_str (pa_cons pe_str (pa_cons pe_str (pa_cons pe_str (pa_cons pe_str (pa_cons pe_str (pa_cons pe_str (pa_cons pe_str (pa_cons pe_str pa_nil))))))))))))))
      (pss_cons (ps_set (i := 4) sc_law.nd rfl (.inl rfl) (pe_op op_cat (pv 4) (pe_lst (pa_cons pe_str (pa_cons pe_str (pa_cons pe_str (pa_cons pe_str (pa_cons pe_str (pa_cons pe_str (pa_cons pe_str (pa_cons pe_str (pa_cons pe_str (pa_cons pe_str (pa_cons pe_str (pa_cons pe_str (pa_cons pe_str (pa_cons pe_str (pa_cons pe_str (pa_cons pe_str pa_nil)))))))))))))))))))
      (pss_one (ps_set (i := 8) sc_law.nd rfl (.inr rfl) (pe_op op_add_str (pv 8) (C8.pe_c c__law_pick hr (by first | decide | exact Nat.le_refl _ | omega) (by rfl) (pa_cons (pv 1) (pa_cons (pv 4) pa_nil)))))))))
      (pss_cons (ps_asg (C8.pe_c c__law_scan hr (by first | decide | exact Nat.le_refl _ | omega) (by rfl) (pa_cons (pv 8) pa_nil)) (pg_tup rfl (pgs_cons (pg_name (i := 5) sc_law.nd rfl (.inl rfl)) (pgs_cons (pg_name (i := 6) sc_law.nd rfl (.inl rfl)) pgs_nil))))
      (pss_cons (ps_set (i := 7) sc_law.nd rfl (.inl rfl) (pe_ifExp (pt_cmpR op_isN (pv 6) pe_non (nomark _)) (pv 5) (pe_tup (pa_cons pe_str (pa_cons pe_str (pa_cons pe_str (pa_cons (pv 6) (pa_cons pe_str pa_nil))))))))
      (pss_one (ps_if (pt_not (pt_val (C8.pe_c c__law_like hr (by first | decide | exact Nat.le_refl _ | omega) (by rfl) (pa_cons (Wt.pe_toldL (T := tabL Pt) (TT := TToldF K CF (Str.ofString "refused") (Str.ofString "stage") (Str.ofString "file") (Str.ofString "place") (Str.ofString "why")) (Ng := ["_law_work", "e", "_law_some"]) (k := 4) (by rfl) D_told b_told sc__law_told rfl (.inl (by rfl)) (fun _ => Wt.told_hit T_flt sc__law_told.nd rfl (by rfl) (by rfl) hF (fun _ => rfl) (by decide) (by decide) (by decide) (by decide)) TB rfl List.mem_cons_self (fun p hp _ => congrArg Prod.snd (List.mem_singleton.mp hp)) hr (show LamX.LamS (C8.fnScope s_law) _ from LamX.lamS_by (by decide +kernel)) rfl (fun _ _ _ _ _ => rfl) (fun _ _ _ _ _ _ _ hrl => Wt.pe_cX c_words_of tk_lam hrl (Nat.le_refl _) (by rfl) (pa_cons (pe_var (i := 8) rfl (.inr (.inr rfl))) pa_nil))) (pa_cons (pv 7) pa_nil))))) (pss_one (ps_ret pe_bl)) pss_nil)))))))
      (pss_one (ps_ret pe_bl)))), ?_⟩
    have hT0 : LamX.Tabs (tabL Pt) H := fun p hp => by
      rw [List.mem_singleton.mp hp]
      exact LamX.TabS.nil hPt
    -- d = _law_dice(script)
    refine ⟨_, rfl, a, ns, rfl, hS, fun d H1 hd0 e1 hd1 => ?_⟩
    have hD1 : Dc K H1 d a ns := ⟨hd1, hS.ex e1⟩
    show tSeq _ _ _ (sgL a d none none none none none none none) H1
    -- for turn in range(6)
    refine q_forR1 (n := 6) (ea_cons ev_c ea_nil) ⟨by decide, by decide⟩ (fun i σ' H' => ∃ (y2 y3 y4 y5 y6 y7 y8 : Option V), σ' = sgL a d y2 y3 y4 y5 y6 y7 y8 ∧ Dc K H' d a ns ∧ LamX.Tabs (tabL Pt) H')
      (fun H2 e2 => ⟨none, none, none, none, none, none, none, rfl, hD1.ex e2, hT0.ext (e1.trans e2)⟩) ?_ ?_
    · rintro i σ' H2 hi ⟨y2, y3, y4, y5, y6, y7, y8, rfl, hD2, hT2⟩
      -- text = ""
      refine q_asg (v := .str (S [])) (ev_is ev_c (congrArg V.str lit0)) fun H3 e3 => ?_
      show tSeq _ _ _ (sgL a d (some (.int (i : Int))) y3 y4 y5 y6 y7 (some (.str (S [])))) H3
      -- for k in range(next(d, 30))
      refine q_forRN (N := 30) (en_next (hD2.ex e3) (ev_var rfl) ev_c) (by decide) (fun k σ' H' => ∃ (tx : List Nat) (y3 y4 : Option V), σ' = sgL a d (some (.int (i : Int))) y3 y4 y5 y6 y7 (some (.str (S tx))) ∧ Dc K H' d a ns ∧ LamX.Tabs (tabL Pt) H' ∧ tx.length ≤ 7 * k)
        (fun H4 e4 => ⟨[], y3, y4, rfl, (hD2.ex e3).ex e4, hT2.ext (e3.trans e4), Nat.zero_le _⟩) ?_ ?_
      · rintro k σ' H4 hk ⟨tx, y3, y4, rfl, hD4, hT4, hlen⟩
        refine q_asgL (el_lst (ea_cons ev_c (ea_cons ev_c (ea_cons ev_c (ea_cons ev_c (ea_cons ev_c (ea_cons ev_c (ea_cons ev_c (ea_cons ev_c (ea_cons ev_c (ea_cons ev_c (ea_cons ev_c (ea_cons ev_c ea_nil)))))))))))) (by show 12 ≤ 100000; decide)) fun m1 H5 hm1 e5 h5 => ?_
        refine q_asgL (el_cat (ev_var rfl) h5 (el_lst (ea_cons ev_c (ea_cons ev_c (ea_cons ev_c (ea_cons ev_c (ea_cons ev_c (ea_cons ev_c (ea_cons ev_c (ea_cons ev_c (ea_cons ev_c (ea_cons ev_c (ea_cons ev_c (ea_cons ev_c (ea_cons ev_c (ea_cons ev_c (ea_cons ev_c (ea_cons ev_c ea_nil)))))))))))))))) (by show 16 ≤ 100000; decide)) (by show 12 + 16 ≤ 100000; decide)) fun m2 H6 hm2 e6 h6 => ?_
        have hmenu : H6 m2 = some (.lst (menuL.map fun z => V.str (S z))) := h6.trans (congrArg (fun l => some (HO.lst l)) (by decide +kernel))
        clear h6
        have hD6 := hD4.ex (e5.trans e6)
        refine sn_asg (P := fun v => ∃ m ∈ menuL, v = .str (S (tx ++ m))) (en_opV (P := (· = .str (S tx))) (P2 := fun v => v ∈ menuL.map fun z => V.str (S z)) (EvN.of (ev_var rfl)) (fun _ _ => en_call (ea_cons (ev_var rfl) (ea_cons (ev_var rfl) ea_nil)) (sn_pick hD6 (sq_of hmenu) (by decide) (by decide))) ?_) fun v H7 hv e7 => ?_
        · rintro x y rfl hy
          obtain ⟨m, hm, rfl⟩ := List.mem_map.mp hy
          have hm7 : m.length ≤ 7 := by
            have all : ∀ m ∈ menuL, m.length ≤ 7 := by decide
            exact all m hm
          exact ⟨_, ⟨m, hm, rfl⟩, rv_addS (by omega)⟩
        · obtain ⟨m, hm, rfl⟩ := hv
          have hm7 : m.length ≤ 7 := by
            have all : ∀ m ∈ menuL, m.length ≤ 7 := by decide
            exact all m hm
          exact ⟨tx ++ m, _, _, rfl, hD6.ex e7, hT4.ext ((e5.trans e6).trans e7), by rw [List.length_append]; omega⟩
      · rintro n σ' H4 hn ⟨tx, y3, y4, rfl, hD4, hT4, hlen⟩
        have htx : tx.length ≤ 300 := by omega
        obtain ⟨rows, hrows⟩ : ∃ rows, rows = TL.spl [10] 0 [] tx := ⟨_, rfl⟩
        have hsp := spl_sum tx []
        rw [← hrows] at hsp
        have hsum : (rows.map List.length).sum ≤ 300 := by
          have := hsp.1
          have e0 : ([] : List Nat).length = 0 := rfl
          omega
        have hrl : rows.length ≤ 301 := by
          have := hsp.2
          omega
        -- found, bad = _law_scan(text)
        refine ⟨_, rfl, tx, rows, rfl, by omega, hrows, by omega, by omega, fun p H5 e5 ⟨fl, us, b, hp5, hfl5, hnone, hsome⟩ => ?_⟩
        refine ⟨p, [.ref fl, b], rfl, st_of hp5, rfl, _, _, rfl, _, _, rfl, rfl, ?_⟩
        have hD5 := hD4.ex e5
        have hT5 := hT4.ext e5
        have hall : (allD 1 rows).length ≤ 40000 := by
          have := allD_len 1 rows
          omega
        have hmax : ∀ r ∈ rows, r.length ≤ 1000 := fun r hr2 => by
          have := sum_mem hr2
          omega
        have fin : ∀ H9, Dc K H9 d a ns → LamX.Tabs (tabL Pt) H9 → ∀ y5 y6 y7, ∃ (z2 z3 z4 z5 z6 z7 z8 : Option V), sgL a d (some (.int (i : Int))) y3 y4 y5 y6 y7 (some (.str (S tx))) = sgL a d z2 z3 z4 z5 z6 z7 z8 ∧ Dc K H9 d a ns ∧ LamX.Tabs (tabL Pt) H9 :=
          fun H9 h1 h2 y5 y6 y7 => ⟨_, _, _, _, _, _, _, rfl, h1, h2⟩
        cases hb : firstBad 1 rows with
        | none =>
          obtain ⟨rfl, hTd⟩ := hnone hb
          -- due = found
          refine q_asg (v := .ref fl) (ev_if (b := true) (et_test (ev_isN (ev_var rfl) (decide_eq_true rfl))) (fun _ => ev_var rfl) (fun z => by cases z)) fun H6 e6 => ?_
          refine ⟨hT5.ext e6, fun H7 eN hT7 => ?_⟩
          refine ⟨_, rfl, tx, rows, rfl, by omega, hrows, by omega, hmax, fun _ p2 H8 vs hp8 e8 h8 hTd8 => ?_, fun n c z => ?_⟩
          · have hfl7 : H7 fl = some (.lst us) := eN _ _ (e6 _ _ hfl5) (fun ps z => by cases z)
            have hTd7 := TdAll.tx (extN_tx eN) _ _ (TdAll.tx (Tx.of e6) _ _ hTd)
            refine ⟨_, rfl, .ref p2, .ref fl, .list (allD 1 rows), rfl, .lst (sq_of h8) (TdAll.dp _ _ hTd8), .lst (sq_of (e8 _ _ hfl7)) (TdAll.dp _ _ (TdAll.tx (Tx.of e8) _ _ hTd7)), ?_, ?_, fun H9 e9 => ⟨true, rfl, ?_⟩⟩
            · have := depth_all 1 rows
              unfold PyData.depth
              omega
            · unfold wideD
              rw [Bool.and_eq_true]
              exact ⟨decide_eq_true hall, wide_all 1 rows⟩
            · exact fin H9 ((extN_dc eN (hD5.ex e6)).ex (e8.trans e9)) (hT7.ext (e8.trans e9)) _ _ _
          · rw [hb] at z
            cases z
        | some nc =>
          obtain ⟨n, c⟩ := nc
          obtain ⟨bq, rfl, hbq⟩ := hsome n c hb
          -- due = ("refused", ..)
          refine q_asgU (eu_else (et_test (ev_isN (ev_var rfl) (decide_eq_false fun z => by cases z))) (eu_tup (ea_cons ev_c (ea_cons ev_c (ea_cons ev_c (ea_cons (ev_var rfl) (ea_cons ev_c ea_nil))))) (by show 5 ≤ 100000; decide))) fun du H6 hdu e6 h6 => ?_
          refine ⟨hT5.ext e6, fun H7 eN hT7 => ?_⟩
          refine ⟨_, rfl, tx, rows, rfl, by omega, hrows, by omega, hmax, fun z => ?_, fun n2 c2 z d2 H8 e8 hF8 => ?_⟩
          · rw [hb] at z
            cases z
          · rw [hb] at z
            cases z
            obtain ⟨p, hx, hp⟩ := hF8
            have h7 := extN_tx eN _ _ h6
            have hbq7 := extN_tx eN _ _ (e6 _ _ hbq)
            refine ⟨rfl, d2, _, .str (Str.ofString "words"), .str (Str.ofString ""), .ref p, .str (Str.ofString "word"), rfl, hx, ?_, ?_, ?_, ?_, fun p2 hp2 => ?_⟩
            · rw [lookup_put, if_neg (by decide +kernel), lookup_put, if_neg (by decide +kernel), lookup_put, if_neg (by decide +kernel), lookup_put, if_pos rfl]
            · rw [lookup_put, if_neg (by decide +kernel), lookup_put, if_neg (by decide +kernel), lookup_put, if_pos rfl]
            · rw [lookup_put, if_neg (by decide +kernel), lookup_put, if_pos rfl]
            · rw [lookup_put, if_pos rfl]
            · have en := Ex.new (o := HO.tup [.str (Str.ofString "refused"), .str (Str.ofString "words"), .str (Str.ofString ""), .ref p, .str (Str.ofString "word")]) hp2
              refine ⟨_, rfl, .ref p2, .ref du, .tuple [.str (Str.ofString "refused"), .str (Str.ofString "words"), .str (Str.ofString ""), .tuple [.int (n : Int), .int (c : Int)], .str (Str.ofString "word")], rfl, ?_, ?_, ?_, ?_, fun H9 e9 => ⟨true, rfl, ?_⟩⟩
              · exact .tup (st_of upd_same) (.cons (.str _) (.cons (.str _) (.cons (.str _) (.cons (.tup (st_of (en _ _ hp)) (.cons (.int _) (.cons (.int _) .nil))) (.cons (.str _) .nil)))))
              · exact .tup (st_of (en _ _ (e8 _ _ h7))) (.cons (.str _) (.cons (.str _) (.cons (.str _) (.cons (.tup (st_of (en _ _ (e8 _ _ hbq7))) (.cons (.int _) (.cons (.int _) .nil))) (.cons (.str _) .nil)))))
              · simp [PyData.depth, PyData.depthAll]
              · simp [wideD, wideAll]
              · exact fin H9 ((extN_dc eN (hD5.ex e6)).ex ((e8.trans en).trans e9)) (hT7.ext ((e8.trans en).trans e9)) _ _ _
    · rintro σ' H2 ⟨y2, y3, y4, y5, y6, y7, y8, rfl, _, _⟩
      exact s_ret ev_c fun H3 _ => q H3
end
end Wt

set_option Elab.async false
set_option linter.all false
set_option maxRecDepth 100000
set_option maxHeartbeats 4000000
namespace Wt
open PySem PySem.Spec PyProof.Rows L2 SX Evl
open C8 (Def Cal cal0 fnScope_by fnScope)
/-! Fault's own __init__; the script however it stands. -/
abbrev s_init : Stmt := (C8.clsBody (topS 2)).getD 0 (.Pass ⟨0, 0, 0, 0⟩)
theorem sc_init : FnScope ["self", "stage", "file", "place", "why"] ["self", "stage", "file", "place", "why"] (fnScope s_init) := fnScope_by (by decide +kernel)
section
variable {P : Program} {w : World} {K : PySem.W.Frag} {mg : Str → Option Value} {base : Heap}
theorem ok_init {CF fI : Addr} {fd : FuncData} (T : OexC K CF) (N : FltC K CF (Str.ofString "stage") (Str.ofString "file") (Str.ofString "place") (Str.ofString "why")) (F : C8.Fun K "__init__" "Fault.__init__" s_init fI fd) :
    FnOk P w K mg base C8.CX0 1 fI fd ["self", "stage", "file", "place", "why"] (spFault CF) := by
  refine C8.fn0 F sc_init (fun vs H Q E h => ?_) (fun cdv A outer s H vs Q E hr h => ?_)
  · obtain ⟨_, _, _, _, _, rfl, _⟩ := h
    rfl
  · obtain ⟨a, v1, v2, v3, v4, rfl, ha, q⟩ := h
    exact ⟨_, pss_cons (ps_ost (pv 0) (pv 1)) (pss_cons (ps_ost (pv 0) (pv 2)) (pss_cons (ps_ost (pv 0) (pv 3)) (pss_one (ps_ost (pv 0) (pv 4))))), init4 T N.n1 N.n2 N.n3 N.n4 rfl rfl rfl rfl rfl ha q⟩
theorem mak_fault {CF fI : Addr} {fd : FuncData} (T : OexC K CF) (N : FltC K CF (Str.ofString "stage") (Str.ofString "file") (Str.ofString "place") (Str.ofString "why")) (iC : PySem.W.findIn K (.ref CF) "__init__" = some (some (.ref fI))) (tI : PySem.W.typeIn K (.ref fI) = some (.type "function"))
    (F : C8.Fun K "__init__" "Fault.__init__" s_init fI fd) (b : Binds K fd ["self", "stage", "file", "place", "why"] []) (hF : mg "Fault" = some (.ref CF)) : MakF P w K mg base 1 "Fault" CF := ⟨fI, fd, _, T, iC, tI, ok_init T N F, b, hF⟩
/-- a list that is known as it stands is one that is locked -/
theorem lock_list {H : Hp} {hp : Heap} {a : Addr} {xs : List V} (ok : HOk P w H hp) (h : H a = some (.lst xs)) : ∃ ob, Alike H (upd H a (.frz ob (.lst xs))) ∧ HOk P w (upd H a (.frz ob (.lst xs))) hp := by
  obtain ⟨hz, its, n, rv, e⟩ := (show ObjOk P w H hp a (.lst xs) from ok a _ h)
  refine ⟨_, ⟨fun b z => ?_, fun b ys z => ?_, fun b o u z => ?_, fun b ps z => ?_⟩, hok_at ok h True.intro ⟨e, hz, its, n, rv, e⟩⟩
  · rw [upd_ne (ne_of_none h z).symm]
    exact z
  · rw [upd_ne (ne_of z h (by intro q; cases q))]
    exact z
  · rw [upd_ne (ne_of z h (by intro q; cases q))]
    exact z
  · rw [upd_ne (ne_of z h (by intro q; cases q))]
    exact z
end
end Wt

set_option Elab.async false
set_option linter.all false
set_option maxRecDepth 100000
set_option maxHeartbeats 4000000
namespace Wt
open PySem PySem.Spec PyProof.Rows L2 SX Evl
open C8 (Def Cal cal0 fnScope_by fnScope)
/-! What the top leaves; the end. -/
def absS : Value → Option (List Nat)
  | .str x _ => some x.cps.toList
  | _ => none
theorem vals_abs : ∀ (us : List Value) (ws : List (List Nat)), us.map absS = ws.map some → Vals (ws.map fun z => V.str (S z)) us
  | [], [], _ => .nil
  | [], _ :: _, h => by cases h
  | _ :: _, [], h => by cases h
  | u :: us, w :: ws, h => by
    rw [List.map_cons, List.map_cons] at h
    injection h with h1 h2
    refine .cons ?_ (vals_abs us ws h2)
    cases u with
    | str x t =>
      have e : x.cps.toList = w := Option.some.inj h1
      subst e
      exact ⟨t, by rw [S_tl]⟩
    | _ => cases h1
theorem tup_written {K : PySem.W.Frag} {a : Addr} {od : Option Addr} {its : Array Value} {n : Nat} {sl : Array (Option Value)} {ws : List (List Nat)} (l : K.lookup a = some ⟨.type "tuple", od, .seq its n, sl⟩) (v : its.toList.map absS = ws.map some) (hl : ws.length ≤ 1000) (H : Hp) :
    SqT K H a (ws.map fun z => V.str (S z)) := by
  have r := vals_abs _ _ v
  refine .inr ⟨_, its, n, l, rfl, rfl, ?_, r⟩
  have e := r.length
  rw [List.length_map] at e
  rw [← Array.length_toList, ← e]
  exact Nat.le_of_lt (small1000 hl)
theorem str_written {mg : Str → Option Value} {x y : Str} {t : Tok} {l : List Nat} (h : mg x = some (.str y t)) (e : y = S l) : ∃ u, mg x = some u ∧ RelV (.str (S l)) u := ⟨_, h, t, by rw [e]⟩
/-- a code object's table -/
def ptOf (K : PySem.W.Frag) (c : Addr) : Addr := match K.lookup c with
  | some ⟨_, _, .fields vs, _⟩ => match (vs[11]? : Option Value) with
    | some (.ref p) => p
    | _ => 0
  | _ => 0
theorem mem_elem {a : Addr} {l : List Addr} (h : l.elem a = true) : a ∈ l := List.elem_iff.mp h
/-- the law's promise over a script however it stands -/
def spLaw2 (K : PySem.W.Frag) (Pt : Addr) : Sp := fun vs H Q _ => ∃ (a : Addr) (ns : List Int), vs = [.ref a] ∧ ns.length ≤ 63 ∧ SqL K H a (ns.map V.int) ∧ H Pt = some (.tbl #[]) ∧ ∀ H', Q (.bl true) H'
theorem law_seen {P : Program} {w : World} {K : PySem.W.Frag} {mg : Str → Option Value} {base : Heap} {k : Nat} {f Pt : Addr} {fd : FuncData} {ps : List Str} (F : FnOk P w K mg base C8.CX0 k f fd ps (spLaw K Pt)) (h1 : ps.length = 1) : FnOk P w K mg base C8.CX0 k f fd ps (spLaw2 K Pt) := by
  refine fn_seen F (fun vs H Q E h => ?_) (fun vs H Q E h hp ok => ?_)
  · obtain ⟨_, _, rfl, _⟩ := h
    exact h1.symm
  · obtain ⟨a, ns, rfl, hl, hS, hPt, q⟩ := h
    rcases hS with (hS | ⟨ob, hS⟩) | hS
    · obtain ⟨ob, al, ok1⟩ := lock_list ok hS
      have hPa : Pt ≠ a := ne_of hPt hS (by intro z; cases z)
      refine ⟨_, Q, al, ok1, ⟨a, ns, rfl, ⟨hl, fun H' f => .inl (.inr ⟨ob, f a ob _ upd_same⟩)⟩, by rw [upd_ne hPa]; exact hPt, q⟩, fun v H2 hp2 ok2 qv => ⟨H2, ⟨fun _ z => z, fun _ _ z => z, fun _ _ _ z => z, fun _ _ z => z⟩, ok2, qv⟩⟩
    · exact ⟨H, Q, ⟨fun _ z => z, fun _ _ z => z, fun _ _ _ z => z, fun _ _ z => z⟩, ok, ⟨a, ns, rfl, ⟨hl, fun H' f => .inl (.inr ⟨ob, f a ob _ hS⟩)⟩, hPt, q⟩, fun v H2 hp2 ok2 qv => ⟨H2, ⟨fun _ z => z, fun _ _ z => z, fun _ _ _ z => z, fun _ _ z => z⟩, ok2, qv⟩⟩
    · exact ⟨H, Q, ⟨fun _ z => z, fun _ _ z => z, fun _ _ _ z => z, fun _ _ z => z⟩, ok, ⟨a, ns, rfl, ⟨hl, fun H' f => .inr hS⟩, hPt, q⟩, fun v H2 hp2 ok2 qv => ⟨H2, ⟨fun _ z => z, fun _ _ z => z, fun _ _ _ z => z, fun _ _ z => z⟩, ok2, qv⟩⟩
theorem all_mk {l : PySem.W.OpenLaw} {w : World} {K : PySem.W.Frag} {h : Heap} {mg : Str → Option Value} {fa : Addr} (X : K.In h) (G : h.Ns mainGlobals mg) (hfa : mg "law" = some (.ref fa))
    {od_run_at an_run_at : Option Addr} {sl_run_at : Array (Option Value)} {oc_run_at kV_run_at dc_run_at pm_run_at cd_run_at ct_run_at : Value} {f_run_at : Addr}
    (a_run_at : PySem.W.nsIn K mainGlobals "run_at" = some (some (.ref f_run_at))) (l_run_at : K.lookup f_run_at = some ⟨oc_run_at, od_run_at, .func (PySem.W.fnOf "run_at" "run_at" (C8.fnArgs s_run_at) (C8.fnBody s_run_at) (C8.fnScope s_run_at) .none kV_run_at dc_run_at pm_run_at an_run_at cd_run_at ct_run_at), sl_run_at⟩)
    (c_run_at : PySem.W.codeIn K cd_run_at "run_at" = true) (k_run_at : PySem.W.keepIn K (.ref f_run_at) = true)
    {od_kind_of an_kind_of : Option Addr} {sl_kind_of : Array (Option Value)} {oc_kind_of kV_kind_of dc_kind_of pm_kind_of cd_kind_of ct_kind_of : Value} {f_kind_of : Addr}
    (a_kind_of : PySem.W.nsIn K mainGlobals "kind_of" = some (some (.ref f_kind_of))) (l_kind_of : K.lookup f_kind_of = some ⟨oc_kind_of, od_kind_of, .func (PySem.W.fnOf "kind_of" "kind_of" (C8.fnArgs s_kind_of) (C8.fnBody s_kind_of) (C8.fnScope s_kind_of) .none kV_kind_of dc_kind_of pm_kind_of an_kind_of cd_kind_of ct_kind_of), sl_kind_of⟩)
    (c_kind_of : PySem.W.codeIn K cd_kind_of "kind_of" = true) (k_kind_of : PySem.W.keepIn K (.ref f_kind_of) = true)
    {od_word_at an_word_at : Option Addr} {sl_word_at : Array (Option Value)} {oc_word_at kV_word_at dc_word_at pm_word_at cd_word_at ct_word_at : Value} {f_word_at : Addr}
    (a_word_at : PySem.W.nsIn K mainGlobals "word_at" = some (some (.ref f_word_at))) (l_word_at : K.lookup f_word_at = some ⟨oc_word_at, od_word_at, .func (PySem.W.fnOf "word_at" "word_at" (C8.fnArgs s_word_at) (C8.fnBody s_word_at) (C8.fnScope s_word_at) .none kV_word_at dc_word_at pm_word_at an_word_at cd_word_at ct_word_at), sl_word_at⟩)
    (c_word_at : PySem.W.codeIn K cd_word_at "word_at" = true) (k_word_at : PySem.W.keepIn K (.ref f_word_at) = true)
    {od_words_in an_words_in : Option Addr} {sl_words_in : Array (Option Value)} {oc_words_in kV_words_in dc_words_in pm_words_in cd_words_in ct_words_in : Value} {f_words_in : Addr}
    (a_words_in : PySem.W.nsIn K mainGlobals "words_in" = some (some (.ref f_words_in))) (l_words_in : K.lookup f_words_in = some ⟨oc_words_in, od_words_in, .func (PySem.W.fnOf "words_in" "words_in" (C8.fnArgs s_words_in) (C8.fnBody s_words_in) (C8.fnScope s_words_in) .none kV_words_in dc_words_in pm_words_in an_words_in cd_words_in ct_words_in), sl_words_in⟩)
    (c_words_in : PySem.W.codeIn K cd_words_in "words_in" = true) (k_words_in : PySem.W.keepIn K (.ref f_words_in) = true)
    {od_words_of an_words_of : Option Addr} {sl_words_of : Array (Option Value)} {oc_words_of kV_words_of dc_words_of pm_words_of cd_words_of ct_words_of : Value} {f_words_of : Addr}
    (a_words_of : PySem.W.nsIn K mainGlobals "words_of" = some (some (.ref f_words_of))) (l_words_of : K.lookup f_words_of = some ⟨oc_words_of, od_words_of, .func (PySem.W.fnOf "words_of" "words_of" (C8.fnArgs s_words_of) (C8.fnBody s_words_of) (C8.fnScope s_words_of) .none kV_words_of dc_words_of pm_words_of an_words_of cd_words_of ct_words_of), sl_words_of⟩)
    (c_words_of : PySem.W.codeIn K cd_words_of "words_of" = true) (k_words_of : PySem.W.keepIn K (.ref f_words_of) = true)
    {od__law_dice an__law_dice : Option Addr} {sl__law_dice : Array (Option Value)} {oc__law_dice kV__law_dice dc__law_dice pm__law_dice cd__law_dice ct__law_dice : Value} {f__law_dice : Addr}
    (a__law_dice : PySem.W.nsIn K mainGlobals "_law_dice" = some (some (.ref f__law_dice))) (l__law_dice : K.lookup f__law_dice = some ⟨oc__law_dice, od__law_dice, .func (PySem.W.fnOf "_law_dice" "_law_dice" (C8.fnArgs s__law_dice) (C8.fnBody s__law_dice) (C8.fnScope s__law_dice) .none kV__law_dice dc__law_dice pm__law_dice an__law_dice cd__law_dice ct__law_dice), sl__law_dice⟩)
    (c__law_dice : PySem.W.codeIn K cd__law_dice "_law_dice" = true) (k__law_dice : PySem.W.keepIn K (.ref f__law_dice) = true)
    {od__law_next an__law_next : Option Addr} {sl__law_next : Array (Option Value)} {oc__law_next kV__law_next dc__law_next pm__law_next cd__law_next ct__law_next : Value} {f__law_next : Addr}
    (a__law_next : PySem.W.nsIn K mainGlobals "_law_next" = some (some (.ref f__law_next))) (l__law_next : K.lookup f__law_next = some ⟨oc__law_next, od__law_next, .func (PySem.W.fnOf "_law_next" "_law_next" (C8.fnArgs s__law_next) (C8.fnBody s__law_next) (C8.fnScope s__law_next) .none kV__law_next dc__law_next pm__law_next an__law_next cd__law_next ct__law_next), sl__law_next⟩)
    (c__law_next : PySem.W.codeIn K cd__law_next "_law_next" = true) (k__law_next : PySem.W.keepIn K (.ref f__law_next) = true)
    {od__law_like an__law_like : Option Addr} {sl__law_like : Array (Option Value)} {oc__law_like kV__law_like dc__law_like pm__law_like cd__law_like ct__law_like : Value} {f__law_like : Addr}
    (a__law_like : PySem.W.nsIn K mainGlobals "_law_like" = some (some (.ref f__law_like))) (l__law_like : K.lookup f__law_like = some ⟨oc__law_like, od__law_like, .func (PySem.W.fnOf "_law_like" "_law_like" (C8.fnArgs s__law_like) (C8.fnBody s__law_like) (C8.fnScope s__law_like) .none kV__law_like dc__law_like pm__law_like an__law_like cd__law_like ct__law_like), sl__law_like⟩)
    (c__law_like : PySem.W.codeIn K cd__law_like "_law_like" = true) (k__law_like : PySem.W.keepIn K (.ref f__law_like) = true)
    {od__law_pick an__law_pick : Option Addr} {sl__law_pick : Array (Option Value)} {oc__law_pick kV__law_pick dc__law_pick pm__law_pick cd__law_pick ct__law_pick : Value} {f__law_pick : Addr}
    (a__law_pick : PySem.W.nsIn K mainGlobals "_law_pick" = some (some (.ref f__law_pick))) (l__law_pick : K.lookup f__law_pick = some ⟨oc__law_pick, od__law_pick, .func (PySem.W.fnOf "_law_pick" "_law_pick" (C8.fnArgs s__law_pick) (C8.fnBody s__law_pick) (C8.fnScope s__law_pick) .none kV__law_pick dc__law_pick pm__law_pick an__law_pick cd__law_pick ct__law_pick), sl__law_pick⟩)
    (c__law_pick : PySem.W.codeIn K cd__law_pick "_law_pick" = true) (k__law_pick : PySem.W.keepIn K (.ref f__law_pick) = true)
    {od__law_told an__law_told : Option Addr} {sl__law_told : Array (Option Value)} {oc__law_told kV__law_told dc__law_told pm__law_told cd__law_told ct__law_told : Value} {f__law_told : Addr}
    (a__law_told : PySem.W.nsIn K mainGlobals "_law_told" = some (some (.ref f__law_told))) (l__law_told : K.lookup f__law_told = some ⟨oc__law_told, od__law_told, .func (PySem.W.fnOf "_law_told" "_law_told" (C8.fnArgs s__law_told) (C8.fnBody s__law_told) (C8.fnScope s__law_told) .none kV__law_told dc__law_told pm__law_told an__law_told cd__law_told ct__law_told), sl__law_told⟩)
    (c__law_told : PySem.W.codeIn K cd__law_told "_law_told" = true) (k__law_told : PySem.W.keepIn K (.ref f__law_told) = true)
    {od__law_scan an__law_scan : Option Addr} {sl__law_scan : Array (Option Value)} {oc__law_scan kV__law_scan dc__law_scan pm__law_scan cd__law_scan ct__law_scan : Value} {f__law_scan : Addr}
    (a__law_scan : PySem.W.nsIn K mainGlobals "_law_scan" = some (some (.ref f__law_scan))) (l__law_scan : K.lookup f__law_scan = some ⟨oc__law_scan, od__law_scan, .func (PySem.W.fnOf "_law_scan" "_law_scan" (C8.fnArgs s__law_scan) (C8.fnBody s__law_scan) (C8.fnScope s__law_scan) .none kV__law_scan dc__law_scan pm__law_scan an__law_scan cd__law_scan ct__law_scan), sl__law_scan⟩)
    (c__law_scan : PySem.W.codeIn K cd__law_scan "_law_scan" = true) (k__law_scan : PySem.W.keepIn K (.ref f__law_scan) = true)
    {od_law an_law : Option Addr} {sl_law : Array (Option Value)} {oc_law kV_law dc_law pm_law ct_law : Value} {f_law c : Addr}
    (a_law : PySem.W.nsIn K mainGlobals "law" = some (some (.ref f_law))) (l_law : K.lookup f_law = some ⟨oc_law, od_law, .func (PySem.W.fnOf "law" "law" (C8.fnArgs s_law) (C8.fnBody s_law) (C8.fnScope s_law) .none kV_law dc_law pm_law an_law (.ref c) ct_law), sl_law⟩)
    (c_law : PySem.W.codeIn K (.ref c) "law" = true) (ch_law : PySem.W.codeHdIn K c (ptOf K c) = true) (nT : (K.lookup (ptOf K c)).isNone = true) (hT : h.get? (ptOf K c) = some { cls := .none, data := .fields #[] })
    (z_len : PySem.W.nsIn K mainGlobals "len" = some none)
    (z_enumerate : PySem.W.nsIn K mainGlobals "enumerate" = some none)
    (z_int : PySem.W.nsIn K mainGlobals "int" = some none)
    (z_str : PySem.W.nsIn K mainGlobals "str" = some none)
    (z_bool : PySem.W.nsIn K mainGlobals "bool" = some none)
    (z_tuple : PySem.W.nsIn K mainGlobals "tuple" = some none)
    (z_list : PySem.W.nsIn K mainGlobals "list" = some none)
    (z_range : PySem.W.nsIn K mainGlobals "range" = some none)
    (z_isinstance : PySem.W.nsIn K mainGlobals "isinstance" = some none)
    {aS aO : Addr} {odS odO : Option Addr} {itS itO : Array Value} {nS nO : Nat} {slS slO : Array (Option Value)} {tL tF tN : Tok}
    (gL : PySem.W.nsIn K mainGlobals "LETTERS" = some (some (.str (Str.ofString "abcdefghijklmnopqrstuvwxyz") tL))) (gF : PySem.W.nsIn K mainGlobals "FIGURES" = some (some (.str (Str.ofString "0123456789") tF)))
    (gN : PySem.W.nsIn K mainGlobals "LONGEST" = some (some (.int 6 tN))) (gS : PySem.W.nsIn K mainGlobals "SIGNS" = some (some (.ref aS))) (gO : PySem.W.nsIn K mainGlobals "OWN_WORDS" = some (some (.ref aO)))
    (lS : K.lookup aS = some ⟨.type "tuple", odS, .seq itS nS, slS⟩) (lO : K.lookup aO = some ⟨.type "tuple", odO, .seq itO nO, slO⟩) (vS : itS.toList.map absS = signs.map some) (vO : itO.toList.map absS = owns.map some)
    {CF : Addr} (gX : PySem.W.nsIn K mainGlobals "Fault" = some (some (.ref CF)))
    {nmX qX : Str} {NX : Addr} {bsX bmX : List Value} {snX : List Str} {subX : List Value} {abX : Bool} {colX : Option Bool} {ddX : Option Addr} {k0X k1X k2X k3X k5X : Option Value} (lX : K.lookup CF = some (excClassObj nmX qX CF NX bsX bmX true snX subX abX colX ddX k0X k1X k2X k3X k5X "ValueError.__new__")) (rX : PySem.HandSPX.refsVE bmX = true)
    (saX : PySem.W.findIn K (.ref CF) "__setattr__" = some (some (.builtin "object.__setattr__"))) (exX : PySem.W.subIn K (.ref CF) (.type "BaseException") = some true) (tyX : PySem.W.typeIn K (.ref CF) = some (.type "type")) (kX : PySem.W.keepIn K (.ref CF) = true)
    (xfX : xfB K CF = true) (hitX : PySem.W.exmOne K (.ref CF) (.ref CF) = some true)
    (n1X : PySem.W.findIn K (.ref CF) (Str.ofString "stage") = some none) (n2X : PySem.W.findIn K (.ref CF) (Str.ofString "file") = some none) (n3X : PySem.W.findIn K (.ref CF) (Str.ofString "place") = some none) (n4X : PySem.W.findIn K (.ref CF) (Str.ofString "why") = some none)
    {fI : Addr} (iX : PySem.W.findIn K (.ref CF) "__init__" = some (some (.ref fI))) (tI : PySem.W.typeIn K (.ref fI) = some (.type "function"))
    {od_I an_I : Option Addr} {sl_I : Array (Option Value)} {oc_I kV_I dc_I pm_I cd_I ct_I : Value} (l_I : K.lookup fI = some ⟨oc_I, od_I, .func (PySem.W.fnOf "__init__" "Fault.__init__" (C8.fnArgs s_init) (C8.fnBody s_init) (C8.fnScope s_init) .none kV_I dc_I pm_I an_I cd_I ct_I), sl_I⟩) (c_I : PySem.W.codeIn K cd_I "Fault.__init__" = true) :
    LamX.LawAtS l w K C8.CX0 7 63 "_law_script" mg fa h := by
  have e : f_law = fa := by
    have z := (PySem.W.mg_of X G a_law).symm.trans hfa
    injection z with z
    injection z
  subst e
  have D_run_at : Def K mg "run_at" s_run_at f_run_at _ := ⟨⟨_, _, _, _, _, _, _, _, _, _, rfl, l_run_at, c_run_at⟩, PySem.W.mg_of X G a_run_at, k_run_at⟩
  have b_run_at := C8.Fun.binds D_run_at.fn rfl (ps := ["row", "at", "characters"]) fun _ _ _ _ _ _ us hl => match us, hl with | [_, _, _], _ => rfl
  have D_kind_of : Def K mg "kind_of" s_kind_of f_kind_of _ := ⟨⟨_, _, _, _, _, _, _, _, _, _, rfl, l_kind_of, c_kind_of⟩, PySem.W.mg_of X G a_kind_of, k_kind_of⟩
  have b_kind_of := C8.Fun.binds D_kind_of.fn rfl (ps := ["word"]) fun _ _ _ _ _ _ us hl => match us, hl with | [_], _ => rfl
  have D_word_at : Def K mg "word_at" s_word_at f_word_at _ := ⟨⟨_, _, _, _, _, _, _, _, _, _, rfl, l_word_at, c_word_at⟩, PySem.W.mg_of X G a_word_at, k_word_at⟩
  have b_word_at := C8.Fun.binds D_word_at.fn rfl (ps := ["row", "at"]) fun _ _ _ _ _ _ us hl => match us, hl with | [_, _], _ => rfl
  have D_words_in : Def K mg "words_in" s_words_in f_words_in _ := ⟨⟨_, _, _, _, _, _, _, _, _, _, rfl, l_words_in, c_words_in⟩, PySem.W.mg_of X G a_words_in, k_words_in⟩
  have b_words_in := C8.Fun.binds D_words_in.fn rfl (ps := ["row", "number"]) fun _ _ _ _ _ _ us hl => match us, hl with | [_, _], _ => rfl
  have D_words_of : Def K mg "words_of" s_words_of f_words_of _ := ⟨⟨_, _, _, _, _, _, _, _, _, _, rfl, l_words_of, c_words_of⟩, PySem.W.mg_of X G a_words_of, k_words_of⟩
  have b_words_of := C8.Fun.binds D_words_of.fn rfl (ps := ["text"]) fun _ _ _ _ _ _ us hl => match us, hl with | [_], _ => rfl
  have D__law_dice : Def K mg "_law_dice" s__law_dice f__law_dice _ := ⟨⟨_, _, _, _, _, _, _, _, _, _, rfl, l__law_dice, c__law_dice⟩, PySem.W.mg_of X G a__law_dice, k__law_dice⟩
  have b__law_dice := C8.Fun.binds D__law_dice.fn rfl (ps := ["_law_script"]) fun _ _ _ _ _ _ us hl => match us, hl with | [_], _ => rfl
  have D__law_next : Def K mg "_law_next" s__law_next f__law_next _ := ⟨⟨_, _, _, _, _, _, _, _, _, _, rfl, l__law_next, c__law_next⟩, PySem.W.mg_of X G a__law_next, k__law_next⟩
  have b__law_next := C8.Fun.binds D__law_next.fn rfl (ps := ["_law_dice_here", "_law_many"]) fun _ _ _ _ _ _ us hl => match us, hl with | [_, _], _ => rfl
  have D__law_like : Def K mg "_law_like" s__law_like f__law_like _ := ⟨⟨_, _, _, _, _, _, _, _, _, _, rfl, l__law_like, c__law_like⟩, PySem.W.mg_of X G a__law_like, k__law_like⟩
  have b__law_like := C8.Fun.binds D__law_like.fn rfl (ps := ["_law_found", "_law_due"]) fun _ _ _ _ _ _ us hl => match us, hl with | [_, _], _ => rfl
  have D__law_pick : Def K mg "_law_pick" s__law_pick f__law_pick _ := ⟨⟨_, _, _, _, _, _, _, _, _, _, rfl, l__law_pick, c__law_pick⟩, PySem.W.mg_of X G a__law_pick, k__law_pick⟩
  have b__law_pick := C8.Fun.binds D__law_pick.fn rfl (ps := ["_law_d", "_law_some"]) fun _ _ _ _ _ _ us hl => match us, hl with | [_, _], _ => rfl
  have D__law_told : Def K mg "_law_told" s__law_told f__law_told _ := ⟨⟨_, _, _, _, _, _, _, _, _, _, rfl, l__law_told, c__law_told⟩, PySem.W.mg_of X G a__law_told, k__law_told⟩
  have b__law_told := C8.Fun.binds D__law_told.fn rfl (ps := ["_law_work"]) fun _ _ _ _ _ _ us hl => match us, hl with | [_], _ => rfl
  have D__law_scan : Def K mg "_law_scan" s__law_scan f__law_scan _ := ⟨⟨_, _, _, _, _, _, _, _, _, _, rfl, l__law_scan, c__law_scan⟩, PySem.W.mg_of X G a__law_scan, k__law_scan⟩
  have b__law_scan := C8.Fun.binds D__law_scan.fn rfl (ps := ["_law_text"]) fun _ _ _ _ _ _ us hl => match us, hl with | [_], _ => rfl
  have TW : ModsW K mg aS aO := ⟨PySem.W.mg_none_of X G z_len, PySem.W.mg_none_of X G z_enumerate, str_written (PySem.W.mg_of X G gL) lit_letters, str_written (PySem.W.mg_of X G gF) lit_figures, ⟨_, PySem.W.mg_of X G gN, _, rfl⟩,
    ⟨_, PySem.W.mg_of X G gS, rfl⟩, ⟨_, PySem.W.mg_of X G gO, rfl⟩, tup_written lS vS (by decide), tup_written lO vO (by decide)⟩
  have TL : ModsL K mg := ⟨PySem.W.mg_none_of X G z_len, PySem.W.mg_none_of X G z_int, PySem.W.mg_none_of X G z_str, PySem.W.mg_none_of X G z_bool, PySem.W.mg_none_of X G z_tuple, PySem.W.mg_none_of X G z_list, PySem.W.mg_none_of X G z_range, PySem.W.mg_none_of X G z_isinstance⟩
  have TX : OexC K CF := ⟨⟨_, _, _, _, _, _, _, _, _, _, _, _, _, _, _, lX, rX⟩, saX, exX, tyX, kX⟩
  have TF : FltC K CF (Str.ofString "stage") (Str.ofString "file") (Str.ofString "place") (Str.ofString "why") := ⟨xfB_ok xfX, hitX, n1X, n2X, n3X, n4X⟩
  have hFm : mg "Fault" = some (.ref CF) := PySem.W.mg_of X G gX
  have FI : C8.Fun K "__init__" "Fault.__init__" s_init fI _ := ⟨_, _, _, _, _, _, _, _, _, _, rfl, l_I, c_I⟩
  have bI := C8.Fun.binds FI rfl (ps := ["self", "stage", "file", "place", "why"]) fun _ _ _ _ _ _ us hl => match us, hl with | [_, _, _, _, _], _ => rfl
  refine ⟨PySem.W.fnOf "law" "law" (C8.fnArgs s_law) (C8.fnBody s_law) (C8.fnScope s_law) .none kV_law dc_law pm_law an_law (.ref c) ct_law, [(c, ptOf K c)], spLaw2 K (ptOf K c), fun p hp => ?_, fun p hp => ?_, fun p hp => ?_, fun s v => .of_eq rfl, fun H a ns hl _ ht hS => ?_, fun base _ _ hTB => ?_⟩
  · rw [List.mem_singleton.mp hp]
    exact hT
  · rw [List.mem_singleton.mp hp]
    exact Option.isNone_iff_eq_none.mp nT
  · rw [List.mem_singleton.mp hp]
    exact PySem.W.codeHd_of_K X ch_law
  · exact ⟨a, ns, rfl, hl, hS, ht (c, ptOf K c) (List.mem_singleton.mpr rfl), fun _ => rfl⟩
  · have cr := ok_run_at (P := l.prog) (w := w) (base := base) TW D_run_at b_run_at
    have ck := ok_kind_of (P := l.prog) (w := w) (base := base) TW D_kind_of b_kind_of
    have cw := ok_word_at TW cr D_word_at b_word_at
    have cF := mak_fault (P := l.prog) (w := w) (base := base) TX TF iX tI FI bI hFm
    have ci := ok_words_in TW cF cw ck D_words_in b_words_in
    have co := ok_words_of TW ci D_words_of b_words_of
    have cd := ok_dice (ok_dice0 (P := l.prog) (w := w) (base := base) TL D__law_dice b__law_dice)
    have cn := ok_next (ok_next0 (P := l.prog) (w := w) (base := base) TL D__law_next b__law_next)
    have cp := ok_pick TL cn D__law_pick b__law_pick
    have cl := ok_like (P := l.prog) (w := w) (base := base) TL D__law_like b__law_like 4
    have cs := ok_scan (P := l.prog) (w := w) (base := base) TL D__law_scan b__law_scan
    exact law_seen (ok_law TL TF hFm cd cn cp cs co cl D__law_told b__law_told l_law c_law (hTB (c, ptOf K c) (List.mem_singleton.mpr rfl))) rfl
end Wt
open PySem PySem.W PyProof.Rows
set_option maxRecDepth 100000 in
set_option maxHeartbeats 0 in
theorem PySem.Challenge.cw_wholetongue_k02_no_words_holds : PySem.Challenge.rw_wholetongue_k02_no_words.Holds := by
  w_on; o_law; k_head; (case hw => w_witness2)
  k_fill
  refine LamX.walk_ofTs (l := PySem.Challenge.rw_wholetongue_k02_no_words) (n := 63) (k := 7) (x := "_law_script") (CX := fun _ => C8.CX0) rfl (by decide) rfl ⟨rfl, by decide, by decide⟩ (fun w h Y => PySem.W.km_in_of Y) ?F (fun _ _ _ _ _ h => h)
  case F =>
    intro w mg fa h Y KX G hmg
    refine' Wt.all_mk KX G hmg ?a_run_at ?l_run_at ?c_run_at ?k_run_at ?a_kind_of ?l_kind_of ?c_kind_of ?k_kind_of ?a_word_at ?l_word_at ?c_word_at ?k_word_at ?a_words_in ?l_words_in ?c_words_in ?k_words_in ?a_words_of ?l_words_of ?c_words_of ?k_words_of ?a__law_dice ?l__law_dice ?c__law_dice ?k__law_dice ?a__law_next ?l__law_next ?c__law_next ?k__law_next ?a__law_like ?l__law_like ?c__law_like ?k__law_like ?a__law_pick ?l__law_pick ?c__law_pick ?k__law_pick ?a__law_told ?l__law_told ?c__law_told ?k__law_told ?a__law_scan ?l__law_scan ?c__law_scan ?k__law_scan ?a_law ?l_law ?c_law ?ch_law ?nT ?hT ?z_len ?z_enumerate ?z_int ?z_str ?z_bool ?z_tuple ?z_list ?z_range ?z_isinstance ?gL ?gF ?gN ?gS ?gO ?lS ?lO ?vS ?vO ?gX ?lX ?rX ?saX ?exX ?tyX ?kX ?xfX ?hitX ?n1X ?n2X ?n3X ?n4X ?iX ?tI ?l_I ?c_I
    (case a_run_at => k_is); (case l_run_at => k_is); (case c_run_at => k_is); (case k_run_at => k_is)
    (case a_kind_of => k_is); (case l_kind_of => k_is); (case c_kind_of => k_is); (case k_kind_of => k_is)
    (case a_word_at => k_is); (case l_word_at => k_is); (case c_word_at => k_is); (case k_word_at => k_is)
    (case a_words_in => k_is); (case l_words_in => k_is); (case c_words_in => k_is); (case k_words_in => k_is)
    (case a_words_of => k_is); (case l_words_of => k_is); (case c_words_of => k_is); (case k_words_of => k_is)
    (case a__law_dice => k_is); (case l__law_dice => k_is); (case c__law_dice => k_is); (case k__law_dice => k_is)
    (case a__law_next => k_is); (case l__law_next => k_is); (case c__law_next => k_is); (case k__law_next => k_is)
    (case a__law_like => k_is); (case l__law_like => k_is); (case c__law_like => k_is); (case k__law_like => k_is)
    (case a__law_pick => k_is); (case l__law_pick => k_is); (case c__law_pick => k_is); (case k__law_pick => k_is)
    (case a__law_told => k_is); (case l__law_told => k_is); (case c__law_told => k_is); (case k__law_told => k_is)
    (case a__law_scan => k_is); (case l__law_scan => k_is); (case c__law_scan => k_is); (case k__law_scan => k_is)
    (case a_law => k_is); (case l_law => k_is); (case c_law => k_is); (case ch_law => kernel_rfl); (case nT => kernel_rfl)
    (case hT => exact PySem.W.km_tabs_of Y _ (Wt.mem_elem (by kernel_rfl)))
    (case z_len => k_is)
    (case z_enumerate => k_is)
    (case z_int => k_is)
    (case z_str => k_is)
    (case z_bool => k_is)
    (case z_tuple => k_is)
    (case z_list => k_is)
    (case z_range => k_is)
    (case z_isinstance => k_is)
    (case gL => k_is); (case gF => k_is); (case gN => k_is); (case gS => k_is); (case gO => k_is); (case lS => k_is); (case lO => k_is)
    (case vS => decide +kernel); (case vO => decide +kernel)
    (case gX => k_is); (case lX => k_is); (case rX => decide +kernel); (case saX => k_is); (case exX => k_is); (case tyX => k_is); (case kX => k_is); (case xfX => kernel_rfl); (case hitX => kernel_rfl)
    (case n1X => k_is); (case n2X => k_is); (case n3X => k_is); (case n4X => k_is); (case iX => k_is); (case tI => k_is); (case l_I => k_is); (case c_I => k_is)
