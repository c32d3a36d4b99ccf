import PyProof.Rows.All
import Wide.All
import OpenK.AllK
import Wide.FinOn
import HandS.ForMost
import HandS.Codes
import HandS.Evl
import HandS.IsInst
import KE.GoesEnumKw
import KE.GoesMore
import HandS.SortKw
import HandS.Walk
import HandS.TupAny
import HandS.EndTab
import PyProof.Rows.SeqCalls
import HandS.Style
import HandS.Small
import KE.GoesEnum
import HandS.DictComp
import HandS.HeadHook3
import PySem.Challenge.RW_wholetongue_k06_trees_written_one_way
set_option Elab.async false
set_option linter.all false
set_option maxRecDepth 100000
/-! What is general: texts as lists of signs, readings of further rules. -/
namespace Wt
open PySem PySem.Spec PyProof.Rows L2 SX Evl

/-! ### texts -/
theorem slice_mid {a : List Nat} {i j : Nat} (h : i ≤ j) (hj : j ≤ a.length) : Txt.slice (S a) (some (i : Int)) (some (j : Int)) = S ((a.drop i).take (j - i)) := by
  have hl : (S a).length = a.length := S_len a
  have e := beq_iff_eq.mp (PyProof.Rows.slice_closesL (x := S a) (i := (i : Int)) (j := (j : Int)) (by omega) (by omega) (by rw [hl]; omega))
  refine e.trans (TL.ext_tl ?_)
  show (a.drop (i : Int).toNat).take ((j : Int) - (i : Int)).toNat = (a.drop i).take (j - i)
  rw [Int.toNat_natCast, show ((j : Int) - (i : Int)).toNat = j - i by omega]
theorem S1 (c : Nat) : (⟨#[c]⟩ : Str) = S [c] := rfl
theorem S_list (a : List Nat) : (S a).cps.toList = a := by simp [S]

/-! ### readings -/
section
variable {K : PySem.W.Frag} {σ : L2.St} {H H' : Hp} {ta tb te tx : TE} {t u : TT} {x y z v : V}
theorem rc_lenS {a : List Nat} (h : a.length ≤ 100000) : RC (fun xs H Q => ∃ z, xs = [.str z] ∧ z.length ≤ sizeLine ∧ Q (.int z.length) H) [.str (S a)] H (.int (a.length : Int)) := fun H1 _ Q q => by
  refine ⟨S a, rfl, ?_, ?_⟩
  · rw [S_len]
    exact sz_of h
  · rw [S_len]
    exact q H1 (Ex.refl H1)
theorem ev_lenS {a : List Nat} (ha : Ev ta σ H (.str (S a))) (h : a.length ≤ 100000) : Ev (tCB (fun xs H Q => ∃ z, xs = [.str z] ∧ z.length ≤ sizeLine ∧ Q (.int z.length) H) (tCons ta tNil)) σ H (.int (a.length : Int)) :=
  ev_cb (ea_cons ha ea_nil) (rc_lenS h)
theorem rv_inSign {c : Nat} {w : List Nat} : RV (fun x y H Q => ∃ (c : Nat) (z : Str), x = .str ⟨#[c]⟩ ∧ y = .str z ∧ Q (.bl (decide (c ∈ z.cps.toList))) H) (.str (S [c])) (.str (S w)) H (.bl (decide (c ∈ w))) := fun H1 _ Q q => by
  refine ⟨c, S w, rfl, rfl, ?_⟩
  rw [S_list]
  exact q H1 (Ex.refl H1)
/-- a text's sign -/
theorem rv_at {w : List Nat} {i : Nat} {c : Nat} (h : w.length ≤ 100000) (ha : w[i]? = some c) : RV rIxS (.str (S w)) (.int (i : Int)) H (.str (S [c])) := fun H1 _ Q q =>
  ⟨S w, (i : Int), c, rfl, rfl, by rw [S_len]; exact sz_of h, by rw [S_list]; exact atI_nat ha, q H1 (Ex.refl H1)⟩
theorem ev_sl {te : TE} {tl th : TO} {a : List Nat} {i j : Nat} (h : Ev te σ H (.str (S a))) (h1 : EvO tl σ H (some (i : Int))) (h2 : EvO th σ H (some (j : Int))) (hl : a.length ≤ 100000) (hi : i ≤ j) (hj : j ≤ a.length) :
    Ev (tSl C8.rSlX te tl th) σ H (.str (S ((a.drop i).take (j - i)))) := fun H1 e Q q =>
  h H1 e _ fun H2 e2 => h1 H2 (e.trans e2) _ fun H3 e3 => h2 H3 ((e.trans e2).trans e3) _ fun H4 e4 => by
    refine ⟨S a, rfl, ?_, ?_⟩
    · rw [S_len]
      exact sz_of hl
    · rw [slice_mid hi hj]
      exact q H4 ((e2.trans e3).trans e4)
end
end Wt

set_option Elab.async false
set_option linter.all false
set_option maxRecDepth 100000
set_option maxHeartbeats 4000000
/-! Rules of ours: enumerate from a start, dict.update, a text many times. -/
namespace Wt
open PySem PySem.Spec PyProof.Rows L2 SX Evl

theorem bt_int : bootBuiltins "int" = some (.type "int") := by decide +kernel
theorem bt_str : bootBuiltins "str" = some (.type "str") := by decide +kernel
theorem bt_bool : bootBuiltins "bool" = some (.type "bool") := by decide +kernel
theorem bt_list : bootBuiltins "list" = some (.type "list") := by decide +kernel
theorem bt_tuple : bootBuiltins "tuple" = some (.type "tuple") := by decide +kernel
theorem bt_enum : bootBuiltins "enumerate" = some (.type "enumerate") := by decide +kernel
theorem bt_isinstance : bootBuiltins "isinstance" = some (.builtin "isinstance") := by decide +kernel

/-! ### d.update(e) -/
def rDUpd : V → List V → Hp → VK → Prop := fun x vs H Q =>
  ∃ (a b : Addr) (ks ls : List (Key × V)), x = .ref a ∧ vs = [.ref b] ∧ a ≠ b ∧ H a = some (.dK ks) ∧ H b = some (.dK ls) ∧ ks.length + ls.length ≤ sizeLine ∧
    Q .non (upd H a (.dK (mergeK ks ls)))
theorem mt_dupdate {X : Cx} : MtR X "dict.update" rDUpd := by
  intro pins s σ H x vs v us Q I rx rv hyp
  obtain ⟨a, b, ks, ls, rfl, rfl, hab, ea, eb, hz, q⟩ := hyp
  obtain rfl : v = Value.ref a := rx
  obtain ⟨u, rfl, ru⟩ := rv.one
  obtain rfl : u = Value.ref b := ru
  obtain ⟨za, ha, va, ra, da⟩ := dk_of I.hok ea
  obtain ⟨zb, hb, vb, rb, db⟩ := dk_of I.hok eb
  have hsum : va.length + vb.length ≤ sizeLine := by
    rw [← ra.length, ← rb.length]
    exact hz
  refine call_meetsIn PySem.F.slot_dict_update da.typeIs PySem.F.entry_dict_update (PySem.F.args_dict_update_2 _ _)
    (meets_dict_update (mixKind X.prog X.w) a b hab hb) ⟨va, vb, da, db, hsum, fun h2 dd2 _ hs => ?_⟩
  have there : ∃ q, h2.get? a = some q := by
    obtain ⟨q, _, _, hq, _⟩ := dd2
    exact ⟨q, hq⟩
  have hl : (mergeK ks ls).length ≤ sizeLine := Nat.le_trans (length_mergeK ls ks) hz
  exact ⟨.non, _, d_write (t' := s.toks) I (by rw [ea]; exact True.intro) hs there (dk_new hl ha (KV.merge rb ra) dd2), rfl, q⟩

/-! ### a text many times -/
theorem mul_S {a : List Nat} {k : Nat} : Txt.mul (S a) (k : Int) = S (List.replicate k a).flatten := by
  unfold Txt.mul
  by_cases h0 : (k : Int) < 1
  · have e : k = 0 := by omega
    subst e
    rw [if_pos (by decide)]
    rfl
  · rw [if_neg h0]
    by_cases h1 : ((k : Int) == 1 || (S a).length == 0) = true
    · rw [if_pos h1]
      rw [Bool.or_eq_true] at h1
      rcases h1 with h1 | h1
      · have e : k = 1 := by
          have := eq_of_beq h1
          omega
        subst e
        show S a = S (a ++ [])
        rw [List.append_nil]
      · have e : a = [] := by
          have := eq_of_beq h1
          rw [S_len] at this
          exact List.length_eq_zero_iff.mp this
        subst e
        refine congrArg S ?_
        have : ∀ n : Nat, (List.replicate n ([] : List Nat)).flatten = [] := fun n => by
          induction n with
          | zero => rfl
          | succ n ih => rw [List.replicate_succ, List.flatten_cons, ih] <;> rfl
        rw [this]
    · rw [if_neg h1]
      have go : ∀ (n : Nat) (acc : List Nat), (List.replicate n (S a).cps).foldl (· ++ ·) acc.toArray = (acc ++ (List.replicate n a).flatten).toArray := fun n => by
        induction n with
        | zero =>
          intro acc
          show acc.toArray = (acc ++ []).toArray
          rw [List.append_nil]
        | succ n ih =>
          intro acc
          rw [List.replicate_succ, List.replicate_succ, List.foldl_cons, List.flatten_cons]
          have e : acc.toArray ++ (S a).cps = (acc ++ a).toArray := by simp [S]
          rw [e, ih, List.append_assoc]
      have e2 := go ((k : Int).toNat) []
      rw [Int.toNat_natCast] at e2 ⊢
      have e3 : (List.replicate k (S a).cps).foldl (· ++ ·) #[] = ((List.replicate k a).flatten).toArray := by
        refine Eq.trans ?_ (e2.trans ?_)
        · rfl
        · rw [List.nil_append]
      rw [e3]
def rRepS : R2 := fun x y H Q => ∃ (a : List Nat) (k : Nat), x = .str (S a) ∧ y = .int (k : Int) ∧ a.length ≤ 16 ∧ k ≤ 100000 ∧ Q (.str (S (List.replicate k a).flatten)) H
theorem op_rep_str {X : Cx} : OpR X (binaryOp .Mult) rRepS := by
  intro pins s σ H x y v u Q I rx ry hyp
  obtain ⟨a, k, rfl, rfl, ha, hk, q⟩ := hyp
  obtain ⟨t, rfl⟩ := rx
  obtain ⟨t2, rfl⟩ := ry
  refine SB.mul (mulOk_of 16 100000 (by rw [S_len]; exact ha) (by omega) (by omega) (by decide) (by decide)) fun t3 k3 => ?_
  rw [mul_S]
  exact ⟨.str (S (List.replicate k a).flatten), H, I.tok _, ⟨_, rfl⟩, q⟩

/-! ### enumerate(xs, start=k) -/
/-- the list at a as it stands at each turn, each item behind its number, from k on -/
def Itk0 (K : PySem.W.Frag) (a : Addr) (k : Int) : It where
  go := fun i H => ∃ (xs : List V) (x : V), SqL K H a xs ∧ xs[i]? = some x
  yld := fun i H v H' => ∃ (T : Addr) (x : V), v = .ref T ∧ H T = none ∧ H' = upd H T (.tup [.int (k + (i : Nat)), x]) ∧ ∀ xs, SqL K H a xs → xs[i]? = some x
  stop := fun i H => ∃ xs : List V, SqL K H a xs ∧ xs.length ≤ i
theorem turn_from {P : Program} {w : World} {K : PySem.W.Frag} {elts : List Expr} {kk : Nat} {tpos : Pos} (a e it : Addr) (k : Int) (hai : a ≠ it) (hae : a ≠ e) :
    Turn P w K (.Tuple elts kk tpos) (Itk0 K a k) [e, it] e (fun i h => (∃ old, IsEnum h e it (k + (i : Nat)) old) ∧ h.IsListIter it a i ∧ e ≠ it) where
  mem := List.mem_cons_self ..
  obj := by
    rintro i h ⟨⟨old, he⟩, ⟨o, ho, hc, hd⟩, _⟩ b hb
    rcases List.mem_cons.mp hb with rfl | hb
    · exact ⟨_, he, fun v q => nomatch q⟩
    · rw [List.mem_singleton.mp hb]
      exact ⟨o, ho, fun v q => by rw [hd] at q; cases q⟩
  keep := by
    rintro i h h2 ⟨⟨old, he⟩, hi, hne⟩ kp
    exact ⟨⟨old, kp e (List.mem_cons_self ..) _ he⟩, hi.at fun o q => kp it (List.mem_cons_of_mem _ (List.mem_singleton.mpr rfl)) o q, hne⟩
  item := by
    intro X hP hw hK hc i pins s σ H E I hf st hg
    subst hP hw hK
    obtain ⟨⟨old, he⟩, hit, hne⟩ := st
    obtain ⟨xs, x, hq, hx⟩ := hg
    obtain ⟨its, rv, p, hz⟩ := I.list hq
    obtain ⟨u, hu, ru⟩ := rv.get hx
    have hel : e < s.heap.objs.size := Heap.lt_size he
    have hil : it < s.heap.objs.size := by
      obtain ⟨_, q, _⟩ := hit
      exact Heap.lt_size q
    have hlt : i < its.toArray.size := by
      have := (List.getElem?_eq_some_iff.mp hu).1
      rw [List.size_toArray]
      exact this
    refine wpAny_pyNext_enum_itemC (Draws.list (prog := X.prog) (w := X.w) (A := X.A.in1) (show X.A.in1.handled = none from I.ok.hd hc) it a hai its.toArray) he ⟨hit, p.isList⟩ hlt hne (fun m => ?_) fun y h2 tk hy ho st2 hT hsz hk => ?_
    · rcases List.mem_cons.mp m with z | z
      · exact hne z
      · exact hae (List.mem_singleton.mp z).symm
    have hyu : y = u := by
      have z : its[i]? = some y := by simpa using hy
      rw [hu] at z
      exact (Option.some.inj z).symm
    subst hyu
    refine ⟨_, rfl, wpAny_letOwnedTupleGo_enum (s := { s with heap := h2, toks := tk + 1 }) ho fun h3 he3 sb => ?_⟩
    have hT2 := (sb.2 s.heap.objs.size (Nat.ne_of_gt hel)).trans hT
    have new : ObjOk X.prog X.w (upd H s.heap.objs.size (.tup [.int (k + (i : Nat)), x])) h3 s.heap.objs.size (.tup [.int (k + (i : Nat)), x]) :=
      ⟨by show 2 ≤ sizeLine; decide, [.int (k + (i : Nat)) tk, y], .cons ⟨_, rfl⟩ (.cons ru .nil), ⟨_, hT2, rfl, _, rfl⟩⟩
    have I1 := I.turnedNew (h' := h3) (t' := tk + 1) (ch := [e, it]) (fun b ob hb q => by
      have n1 : b ≠ e := fun z => hb (z ▸ List.mem_cons_self ..)
      have n2 : b ≠ it := fun z => hb (z ▸ List.mem_cons_of_mem _ (List.mem_singleton.mpr rfl))
      exact (sb.2 b n1).trans (hk b ob n1 n2 q)) hf (Nat.le_refl _) new
    refine ⟨.ref s.heap.objs.size, _, I1, rfl, ⟨_, x, rfl, I.hok.fresh (Nat.le_refl _), rfl, fun ys hy2 => ?_⟩, ⟨⟨y, ?_⟩, ?_, hne⟩, fun b hb => ?_⟩
    · rw [I.list_inj hy2 hq]
      exact hx
    · have e1 : k + ((i + 1 : Nat) : Int) = k + (i : Int) + 1 := by omega
      rw [e1]
      exact he3
    · exact st2.1.at fun o q => (sb.2 it (Ne.symm hne)).trans q
    · have hb2 : b < s.heap.objs.size := by
        rcases List.mem_cons.mp hb with rfl | z
        · exact hel
        · rw [List.mem_singleton.mp z]
          exact hil
      rw [upd_ne (Nat.ne_of_lt hb2)]
      exact (hf b hb).1
  done := by
    intro X hP hw hK hc i pins s σ H E I hf st hg
    subst hP hw hK
    obtain ⟨⟨old, he⟩, hit, hne⟩ := st
    obtain ⟨xs, hq, hx⟩ := hg
    obtain ⟨its, rv, p, hz⟩ := I.list hq
    obtain ⟨f0, f1, f2, f3, f4, f5⟩ := hf it (List.mem_cons_of_mem _ (List.mem_singleton.mpr rfl))
    have hl := rv.length
    have hT : s.TypeIs (.ref e) "enumerate" := ⟨_, he, rfl⟩
    have hnone : its.toArray[i]? = none := by
      simp
      omega
    unfold pyNext
    refine wpAny_bind (wpAny_attempt (wpAny_callSpecial?_slot (name := Str.ofString "__next__") hT PySem.F.slot_enumerate_next
      (wpAny_call_entry PySem.F.slot_enumerate_next hT PySem.F.entry_enumerate_next ?_ (PySem.F.args_enumerate_next_1 _))))
    show wpAny _ _ (field (.ref e) 2 >>= _) _ _ _
    refine wpAny_bind (wpAny_field he rfl (x := .ref it) rfl (wpAny_bind (wpAny_nextOf_list_end (I.ok.hd hc) hit p.isList hnone fun h2 x2 hE2 hx2 => ?_)))
    obtain ⟨o2, ho2, hc2⟩ := hx2
    exact wpAny_bind (wpAny_isInstance (T := "StopIteration") (b := true) ⟨o2, ho2, hc2⟩ isSubtype_stop
      (wpAny_pure ⟨rfl, I.turned (t' := s.toks) (fun b o hb q => hE2 b o hb q) f0 f1 f3 f4 f5⟩))
  self := by
    rintro A i s Q E ⟨⟨_, he⟩, _⟩ h
    exact wpAny_pyIter_enum he h
/-- a built-in class called with keywords -/
theorem callWith_tyKw {M : Model} {A : Around} {E : Value → Shared → Prop} {s : Shared} {env : Env} {pos : Pos} {T : String} {e : Expr} {rest : List Expr} {kws : List Keyword} {Q : Value → Shared → Prop}
    (h : wpAny M A (spliced (backTo pos (starEach (e :: rest) env))) (fun vs s1 => wpAny M A (evalAll ((backToKw pos (keywordEach kws env)).map (·.2)))
      (fun ks s2 => wpAny M A (call (.type T) vs (((backToKw pos (keywordEach kws env)).filterMap (·.1)).zip ks)) Q E s2) E s1) E s)
    (he : backTo pos (starEach (e :: rest) env) = (false, eval e env) :: backTo pos (starEach rest env) := by rfl)
    (hpl : (backTo pos (starEach (e :: rest) env)).any (·.1) = false := by rfl)
    (hall : (backToKw pos (keywordEach kws env)).all (·.1.isSome) = true := by rfl)
    (hkw : (backToKw pos (keywordEach kws env)).any (·.1.isNone) = false := by rfl) :
    wpAny M A (callWith pos (.type T) [] (backTo pos (starEach (e :: rest) env)) (backToKw pos (keywordEach kws env))) Q E s := by
  unfold callWith
  have h2 : wpAny M A (evalArgs (.type T) true (backTo pos (starEach (e :: rest) env)) (backToKw pos (keywordEach kws env))) (fun a s1 => wpAny M A (call (.type T) a.pos a.kw) Q E s1) E s := by
    rw [he] at h ⊢
    exact evalArgs_kwB hall h
  refine wpAny_bind (wpAny_holding (wpAny_mono h2 (fun a s1 h1 => wpAny_bind (wpAny_standAt ?_)) fun _ _ x => x))
  rw [hpl, hkw]
  refine wpAny_bind (wpAny_pure ?_)
  refine wpAny_bind (wpAny_mono h1 (fun r s2 hr => ?_) fun _ _ x => x)
  exact wpAny_bind (wpAny_holding (wpAny_point (wpAny_pure hr)))
def iFrom (K : PySem.W.Frag) (k : Int) (ta : TA) : TI := fun σ H R => ta σ H fun vs H1 => ∃ a xs, vs = [.ref a] ∧ SqL K H1 a xs ∧ R (Itk0 K a k) H1
theorem pi_enumS {X : Cx} {e : Expr} {ta : TA} {p pos tpos p1 p2 : Pos} {elts : List Expr} {kk j : Nat} {k : Int} (hg : Gl X "enumerate") (hm : X.mg "enumerate" = none) (ha : PA X [e] ta)
    (hk0 : -(2 ^ 63) ≤ k := by decide) (hk1 : k < 2 ^ 63 := by decide)
    (he : backTo pos (starEach [e] X.env) = (false, eval e X.env) :: backTo pos (starEach [] X.env) := by rfl) (hpl : (backTo pos (starEach [e] X.env)).any (·.1) = false := by rfl)
    (hall : (backToKw pos (keywordEach [⟨some "start", .Constant (.int k) j p1, p2⟩] X.env)).all (·.1.isSome) = true := by rfl)
    (hkw : (backToKw pos (keywordEach [⟨some "start", .Constant (.int k) j p1, p2⟩] X.env)).any (·.1.isNone) = false := by rfl)
    (hks : (backToKw pos (keywordEach [⟨some "start", .Constant (.int k) j p1, p2⟩] X.env)).filterMap (·.1) = [Str.ofString "start"] := by rfl) :
    PI X (.Tuple elts kk tpos) (.Call (.Name "enumerate" p) [e] [⟨some "start", .Constant (.int k) j p1, p2⟩] pos) (iFrom X.K k ta) := by
  refine ⟨fun pins s σ H R I h => wpAny_Call_Name_kw (ld_blt I hg hm bt_enum ?_ (by decide))⟩
  refine callWith_tyKw (thn (ha.run pos pins s σ H _ I h) fun us s1 ⟨vs, H1, I1, r1, q1⟩ => ?_) he hpl hall hkw
  refine thn ((pk_cons (pe_int (X := X) (pos := p1) (j := j) (i := k)) pk_nil).run pos pins s1 σ H1 (fun zs H2 => zs = [.int k] ∧ H2 = H1) I1 ⟨rfl, rfl⟩) fun ws s2 ⟨zs, H2, I2, r2, q2⟩ => ?_
  rw [hks]
  obtain ⟨rfl, rfl⟩ := q2
  obtain ⟨a, xs, rfl, hq, q⟩ := q1
  obtain ⟨u, rfl, ru⟩ := r1.one
  cases ru
  obtain ⟨u2, rfl, t2, rfl⟩ := r2.one
  obtain ⟨its, rv, p3, hz⟩ := I2.list hq
  refine enum_begins_start (begins_list a its.toArray) p3.isList hk0 hk1 fun h2 he2 hit hsz hk => wpAny_pyIter_enum he2 ?_
  have I3 : Inv X pins σ H2 { s2 with heap := h2 } := I2.kept (t' := s2.toks) hk
  have hal : a < s2.heap.objs.size := by
    obtain ⟨o, n, ho, _⟩ := p3
    exact Heap.lt_size ho
  refine ⟨s2.heap.objs.size + 1, [s2.heap.objs.size + 1, s2.heap.objs.size], _, _, H2, rfl, I3,
    turn_from a (s2.heap.objs.size + 1) s2.heap.objs.size k (Nat.ne_of_lt hal) (Nat.ne_of_lt (Nat.lt_succ_of_lt hal)), ⟨⟨.none, ?_⟩, ⟨_, hit, rfl, rfl⟩, Nat.succ_ne_self _⟩, fun b hb => ?_, q⟩
  · show IsEnum h2 (s2.heap.objs.size + 1) s2.heap.objs.size (k + ((0 : Nat) : Int)) .none
    rw [show k + ((0 : Nat) : Int) = k by omega]
    exact he2
  · have hle : s2.heap.objs.size ≤ b := by
      rcases List.mem_cons.mp hb with rfl | z
      · exact Nat.le_succ _
      · rw [List.mem_singleton.mp z]
        exact Nat.le_refl _
    exact I2.fpOk hle (I2.hok.fresh hle)
/-- a walk of it by its invariant -/
theorem for_from {K : PySem.W.Frag} {a : Addr} {xs : List V} {k : Int} {g : TG} {tb : TS} {D : Ends} {σ : L2.St} {H : Hp} (Pv : Nat → L2.St → Hp → Prop) (h0 : Pv 0 σ H) (hl : ∀ i σ H, i ≤ xs.length → Pv i σ H → SqL K H a xs)
    (hs : ∀ i x T σ H, xs[i]? = some x → Pv i σ H → H T = none → g (.ref T) σ (upd H T (.tup [.int (k + (i : Nat)), x])) fun σ2 H2 => tb { D with nx := Pv (i + 1), ct := Pv (i + 1), bk := D.nx } σ2 H2)
    (hd : ∀ σ H, Pv xs.length σ H → D.nx σ H) :
    ∃ W : Nat → Nat → L2.St → Hp → Prop, (∃ m, W 0 m σ H) ∧ ∀ i m σ H, W i m σ H →
      ((Itk0 K a k).stop i H ∧ D.nx σ H) ∨ ((Itk0 K a k).go i H ∧ ∃ N : L2.St → Hp → Prop, (∀ σ' H', N σ' H' → ∃ m', m' < m ∧ W (i + 1) m' σ' H') ∧
        ∀ x H', (Itk0 K a k).yld i H x H' → g x σ H' fun σ2 H2 => tb { D with nx := N, ct := N, bk := D.nx } σ2 H2) := by
  refine ⟨fun i m σ H => i + m = xs.length ∧ Pv i σ H, ⟨xs.length, by omega, h0⟩, ?_⟩
  rintro i m σ H ⟨hm, p⟩
  have hq := hl i σ H (by omega) p
  by_cases hi : i < xs.length
  · have hx : xs[i]? = some xs[i] := List.getElem?_eq_getElem hi
    refine .inr ⟨⟨xs, _, hq, hx⟩, fun σ' H' => Pv (i + 1) σ' H', fun σ' H' p2 => ⟨m - 1, by omega, by omega, p2⟩, ?_⟩
    rintro v H' ⟨T, x, rfl, hT, rfl, hf⟩
    exact hs i x T σ H (hf xs hq) p hT
  · have e : i = xs.length := by omega
    subst e
    exact .inl ⟨⟨xs, hq, Nat.le_refl _⟩, hd σ H p⟩
end Wt

set_option Elab.async false
set_option linter.all false
set_option maxRecDepth 100000
set_option maxHeartbeats 4000000
/-! Data; values that are not known but by what is true of them; the dice. -/
namespace Wt
open PySem PySem.Spec PyProof.Rows L2 SX Evl

/-! ### data -/
mutual
theorem Dp.ex {K : PySem.W.Frag} {H H' : Hp} (e : Ex H H') : ∀ (d : PyData) (v : V), Dp K H v d → Dp K H' v d
  | .none, _, h => by
    cases h
    exact .non
  | .bool b, _, h => by
    cases h
    exact .bl b
  | .int i, _, h => by
    cases h
    exact .int i
  | .str x, _, h => by
    cases h
    exact .str x
  | .list ds, _, h => by
    cases h with
    | lst h1 h2 => exact .lst (ex_l e h1) (DpAll.ex e ds _ h2)
  | .tuple ds, _, h => by
    cases h with
    | tup h1 h2 => exact .tup (ex_t e h1) (DpAll.ex e ds _ h2)
  | .dict kvs, _, h => by cases h
theorem DpAll.ex {K : PySem.W.Frag} {H H' : Hp} (e : Ex H H') : ∀ (ds : List PyData) (vs : List V), DpAll K H vs ds → DpAll K H' vs ds
  | [], _, h => by
    cases h
    exact .nil
  | d :: ds, _, h => by
    cases h with
    | cons h1 h2 => exact .cons (Dp.ex e d _ h1) (DpAll.ex e ds _ h2)
end
theorem dpa_len {K : PySem.W.Frag} {H : Hp} : ∀ {vs : List V} {ds : List PyData}, DpAll K H vs ds → vs.length = ds.length
  | _, _, .nil => rfl
  | _, _, .cons _ h => congrArg (· + 1) (dpa_len h)
theorem dpa_get {K : PySem.W.Frag} {H : Hp} : ∀ {vs : List V} {ds : List PyData} {i : Nat}, DpAll K H vs ds → i < ds.length → ∃ v d, vs[i]? = some v ∧ ds[i]? = some d ∧ Dp K H v d
  | _, _, _, .nil, h => absurd h (Nat.not_lt_zero _)
  | _, _, 0, .cons h _, _ => ⟨_, _, rfl, rfl, h⟩
  | _, _, i + 1, .cons _ t, h => by
    obtain ⟨v, d, h1, h2, h3⟩ := dpa_get t (i := i) (Nat.lt_of_succ_lt_succ h)
    exact ⟨v, d, h1, h2, h3⟩
theorem dpa_app {K : PySem.W.Frag} {H : Hp} : ∀ {vs : List V} {ds : List PyData} {us : List V} {es : List PyData}, DpAll K H vs ds → DpAll K H us es → DpAll K H (vs ++ us) (ds ++ es)
  | _, _, _, _, .nil, h => h
  | _, _, _, _, .cons h t, g => .cons h (dpa_app t g)
theorem dpa_snoc {K : PySem.W.Frag} {H : Hp} {vs : List V} {ds : List PyData} {v : V} {d : PyData} (h : DpAll K H vs ds) (g : Dp K H v d) : DpAll K H (vs ++ [v]) (ds ++ [d]) := dpa_app h (.cons g .nil)

/-- what stands in tuples alone: it stays whatever else changes -/
def Tx (H H' : Hp) : Prop := ∀ a xs, H a = some (.tup xs) → H' a = some (.tup xs)
theorem Tx.refl (H : Hp) : Tx H H := fun _ _ h => h
theorem Tx.trans {H H1 H2 : Hp} (a : Tx H H1) (b : Tx H1 H2) : Tx H H2 := fun x xs h => b x xs (a x xs h)
theorem Tx.of {H H' : Hp} (e : Ex H H') : Tx H H' := fun a xs h => e a _ h
theorem Tx.lst {H : Hp} {l : Addr} {xs ys : List V} (h : H l = some (.lst xs)) : Tx H (upd H l (.lst ys)) := fun a zs q => by
  rw [upd_ne (ne_of q h (by intro z; cases z))]
  exact q
theorem Tx.dK {H : Hp} {l : Addr} {ks ls : List (Key × V)} (h : H l = some (.dK ks)) : Tx H (upd H l (.dK ls)) := fun a zs q => by
  rw [upd_ne (ne_of q h (by intro z; cases z))]
  exact q
mutual
inductive Td (H : Hp) : V → PyData → Prop
  | non : Td H .non .none
  | bl (b : Bool) : Td H (.bl b) (.bool b)
  | int (i : Int) : Td H (.int i) (.int i)
  | str (x : Str) : Td H (.str x) (.str x)
  | tup {a : Addr} {xs : List V} {ds : List PyData} : H a = some (.tup xs) → TdAll H xs ds → Td H (.ref a) (.tuple ds)
inductive TdAll (H : Hp) : List V → List PyData → Prop
  | nil : TdAll H [] []
  | cons {v : V} {vs : List V} {d : PyData} {ds : List PyData} : Td H v d → TdAll H vs ds → TdAll H (v :: vs) (d :: ds)
end
mutual
theorem Td.tx {H H' : Hp} (e : Tx H H') : ∀ (d : PyData) (v : V), Td H v d → Td H' v d
  | .none, _, h => by
    cases h
    exact .non
  | .bool b, _, h => by
    cases h
    exact .bl b
  | .int i, _, h => by
    cases h
    exact .int i
  | .str x, _, h => by
    cases h
    exact .str x
  | .list ds, _, h => by cases h
  | .tuple ds, _, h => by
    cases h with
    | tup h1 h2 => exact .tup (e _ _ h1) (TdAll.tx e ds _ h2)
  | .dict kvs, _, h => by cases h
theorem TdAll.tx {H H' : Hp} (e : Tx H H') : ∀ (ds : List PyData) (vs : List V), TdAll H vs ds → TdAll H' vs ds
  | [], _, h => by
    cases h
    exact .nil
  | d :: ds, _, h => by
    cases h with
    | cons h1 h2 => exact .cons (Td.tx e d _ h1) (TdAll.tx e ds _ h2)
end
mutual
theorem Td.dp {K : PySem.W.Frag} {H : Hp} : ∀ (d : PyData) (v : V), Td H v d → Dp K H v d
  | .none, _, h => by
    cases h
    exact .non
  | .bool b, _, h => by
    cases h
    exact .bl b
  | .int i, _, h => by
    cases h
    exact .int i
  | .str x, _, h => by
    cases h
    exact .str x
  | .list ds, _, h => by cases h
  | .tuple ds, _, h => by
    cases h with
    | tup h1 h2 => exact .tup (st_of h1) (TdAll.dp ds _ h2)
  | .dict kvs, _, h => by cases h
theorem TdAll.dp {K : PySem.W.Frag} {H : Hp} : ∀ (ds : List PyData) (vs : List V), TdAll H vs ds → DpAll K H vs ds
  | [], _, h => by
    cases h
    exact .nil
  | d :: ds, _, h => by
    cases h with
    | cons h1 h2 => exact .cons (Td.dp d _ h1) (TdAll.dp ds _ h2)
end
theorem TdAll.app {H : Hp} : ∀ {vs : List V} {ds : List PyData} {us : List V} {es : List PyData}, TdAll H vs ds → TdAll H us es → TdAll H (vs ++ us) (ds ++ es)
  | _, _, _, _, .nil, h => h
  | _, _, _, _, .cons h t, g => .cons h (t.app g)
theorem TdAll.snoc {H : Hp} {vs : List V} {ds : List PyData} {v : V} {d : PyData} (h : TdAll H vs ds) (g : Td H v d) : TdAll H (vs ++ [v]) (ds ++ [d]) := h.app (.cons g .nil)
theorem TdAll.len {H : Hp} : ∀ {vs : List V} {ds : List PyData}, TdAll H vs ds → vs.length = ds.length
  | _, _, .nil => rfl
  | _, _, .cons _ h => congrArg (· + 1) h.len

/-! ### a value that is known by what is true of it -/
def EvN (te : TE) (σ : L2.St) (H : Hp) (P : V → Prop) : Prop := ∀ H1, Ex H H1 → ∀ Q : VK, (∀ v H2, P v → Ex H1 H2 → Q v H2) → te σ H1 Q
def SpN (sp : Sp) (vs : List V) (H : Hp) (P : V → Prop) : Prop := ∀ H1, Ex H H1 → ∀ Q : VK, (∀ v H2, P v → Ex H1 H2 → Q v H2) → ∀ E : XK, sp vs H1 Q E
def EvTN (tt : TT) (σ : L2.St) (H : Hp) (P : Bool → Prop) : Prop := ∀ H1, Ex H H1 → ∀ Q : Bool → Hp → Prop, (∀ b H2, P b → Ex H1 H2 → Q b H2) → tt σ H1 Q
section
variable {K : PySem.W.Frag} {σ : L2.St} {H H' : Hp} {ta tb te tx : TE} {t u : TT} {x y z v : V} {r : R2} {P P2 : V → Prop}
theorem EvN.of (h : Ev te σ H v) : EvN te σ H (· = v) := fun H1 e Q q => h H1 e Q fun H2 e2 => q v H2 rfl e2
theorem EvN.mono (e : Ex H H') (h : EvN te σ H P) : EvN te σ H' P := fun H1 e1 Q q => h H1 (e.trans e1) Q q
theorem EvN.imp (h : EvN te σ H P) (i : ∀ v, P v → P2 v) : EvN te σ H P2 := fun H1 e Q q => h H1 e Q fun v H2 p e2 => q v H2 (i v p) e2
theorem EvN.one (h : EvN te σ H P) (i : ∀ w, P w → w = v) : Ev te σ H v := fun H1 e Q q => h H1 e Q fun w H2 p e2 => by
  rw [i w p]
  exact q H2 e2
theorem en_op (ha : EvN ta σ H P) (hb : ∀ x, P x → EvN tb σ H P2) {P3 : V → Prop} (hr : ∀ x y H1, P x → P2 y → Ex H H1 → ∀ Q : VK, (∀ z H2, P3 z → Ex H1 H2 → Q z H2) → r x y H1 Q) : EvN (tOp r ta tb) σ H P3 := fun H1 e Q q =>
  ha H1 e _ fun x H2 px e2 => hb x px H2 (e.trans e2) _ fun y H3 py e3 => hr x y H3 px py ((e.trans e2).trans e3) Q fun z H4 pz e4 => q z H4 pz ((e2.trans e3).trans e4)
/-- both operands, then a value -/
theorem en_opV (ha : EvN ta σ H P) (hb : ∀ x, P x → EvN tb σ H P2) {P3 : V → Prop} (hr : ∀ x y, P x → P2 y → ∃ z, P3 z ∧ RV r x y H z) : EvN (tOp r ta tb) σ H P3 := en_op ha hb fun x y H1 px py e Q q => by
  obtain ⟨z, pz, rz⟩ := hr x y px py
  exact rz H1 e Q fun H2 e2 => q z H2 pz e2
theorem en_call {sp : Sp} {dvs vs : List V} {E : XK} {ta : TA} (h : EvA ta σ H vs) (hs : SpN sp (vs ++ dvs) H P) : EvN (tCall sp dvs E ta) σ H P := fun H1 e Q q =>
  h H1 e _ fun H2 e2 => hs H2 (e.trans e2) Q (fun v H3 p e3 => q v H3 p (e2.trans e3)) E
theorem etn_test (h : EvN te σ H P) {B : Bool → Prop} (i : ∀ v, P v → ∃ b, v = .bl b ∧ B b) : EvTN (tTest te) σ H B := fun H1 e Q q => h H1 e _ fun v H2 p e2 => by
  obtain ⟨b, rfl, pb⟩ := i v p
  exact ⟨b, rfl, q b H2 pb e2⟩
theorem en_if {b : Bool} (h : EvT t σ H b) (h1 : b = true → EvN ta σ H P) (h2 : b = false → EvN tb σ H P) : EvN (tIf t ta tb) σ H P := fun H1 e Q q => h H1 e _ fun H2 e2 => by
  cases b with
  | true =>
    show ta σ H2 Q
    exact h1 rfl H2 (e.trans e2) Q fun v H3 p e3 => q v H3 p (e2.trans e3)
  | false =>
    show tb σ H2 Q
    exact h2 rfl H2 (e.trans e2) Q fun v H3 p e3 => q v H3 p (e2.trans e3)
variable {D : Ends} {tu tw tz : TS} {g : TG}
theorem sn_asg {i : Nat} (h : EvN te σ H P) (k : ∀ v H1, P v → Ex H H1 → D.nx (σ.set i (some v)) H1) : tAsg te (gName i) D σ H := h H (Ex.refl H) _ fun v H1 p e => k v H1 p e
theorem qn_asg {i : Nat} (h : EvN te σ H P) (k : ∀ v H1, P v → Ex H H1 → tz D (σ.set i (some v)) H1) : tSeq (tAsg te (gName i)) tz D σ H := sn_asg (D := { D with nx := tz D }) h k
theorem sn_ret (h : EvN te σ H P) (k : ∀ v H1, P v → Ex H H1 → D.rt v H1) : tRet te D σ H := h H (Ex.refl H) _ k
theorem sn_if (h : EvTN t σ H B) (h1 : B true → ∀ H1, Ex H H1 → tu D σ H1) (h2 : B false → ∀ H1, Ex H H1 → tw D σ H1) : tIfS t tu tw D σ H := h H (Ex.refl H) _ fun b H1 p e => by
  cases b with
  | true =>
    show tu D σ H1
    exact h1 p H1 e
  | false =>
    show tw D σ H1
    exact h2 p H1 e
theorem qn_if (h : EvTN t σ H B) (h1 : B true → ∀ H1, Ex H H1 → tu { D with nx := tz D } σ H1) (h2 : B false → ∀ H1, Ex H H1 → tw { D with nx := tz D } σ H1) : tSeq (tIfS t tu tw) tz D σ H := sn_if (D := { D with nx := tz D }) h h1 h2
end

/-! ### a promise seen through other words of the heap -/
/-- B tells of the same heap otherwise -/
structure Alike (A B : Hp) : Prop where
  free : ∀ b, A b = none → B b = none
  tups : ∀ b xs, A b = some (.tup xs) → B b = some (.tup xs)
  frzs : ∀ b o u, A b = some (.frz o u) → B b = some (.frz o u)
  tbls : ∀ b ps, A b = some (.tbl ps) → B b = some (.tbl ps)
section
variable {P : Program} {w : World} {K : PySem.W.Frag} {mg : Str → Option Value} {base : Heap}
theorem fn_seen {k : Nat} {f : Addr} {fd : FuncData} {ps : List Str} {sp sp' : Sp} (F : FnOk P w K mg base CX0 k f fd ps sp) (hlen : ∀ vs H Q E, sp' vs H Q E → vs.length = ps.length)
    (h : ∀ vs H Q E, sp' vs H Q E → ∀ hp : Heap, HOk P w H hp → ∃ (H1 : Hp) (Q1 : VK), Alike H H1 ∧ HOk P w H1 hp ∧ sp vs H1 Q1 E ∧
      ∀ v H2 (hp2 : Heap), HOk P w H2 hp2 → Q1 v H2 → ∃ H3, Alike H2 H3 ∧ HOk P w H3 hp2 ∧ Q v H3) : FnOk P w K mg base CX0 k f fd ps sp' := by
  refine ⟨hlen, fun A outer s H args us vs Q E hr e0 hb hv hs => ?_⟩
  obtain ⟨H1, Q1, al, ok1, hs1, back⟩ := h vs H Q E hs s.heap e0.hok
  have e1 : Env0 P w K mg base A outer s H1 := ⟨e0.frames, e0.mod, fun b o e => ⟨(e0.bs b o e).1, al.free b (e0.bs b o e).2⟩, e0.bsz, e0.funs, fun b hb => al.free b (e0.frf b hb), ok1, e0.bare⟩
  refine codeAny_mono (F.run A outer s H1 args us vs Q1 E hr e1 hb hv hs1) fun r s' hr' => ?_
  cases r with
  | error e => exact hr'
  | ok fl =>
    cases fl with
    | ret u =>
      obtain ⟨v, H2, os, br, un, ok2, rv, q⟩ := hr'
      obtain ⟨H3, al2, ok3, q3⟩ := back v H2 s'.heap ok2 q
      exact ⟨v, H3, os, br, ⟨fun b o e n h1 h2 => un.keep b o e (al.free b n) h1 h2, fun b o e n h1 h2 => un.slot b o e (al.free b n) h1 h2, fun b o e n h1 => al2.free b (un.free b o e (al.free b n) h1), un.there,
        fun b xs e => al2.tups b xs (un.tups b xs (al.tups b xs e)), fun b o u e => al2.frzs b o u (un.frzs b o u (al.frzs b o u e)), fun b ps e => by
          obtain ⟨more, e2⟩ := un.tbls b ps (al.tbls b ps e)
          exact ⟨more, al2.tbls b _ e2⟩⟩, ok3, rv, q3⟩
    | _ => exact hr'.elim
/-- one changing object told otherwise -/
theorem alike_at {H : Hp} {d : Addr} {o o2 : HO} (h : H d = some o) (m : Mut (some o)) (h1 : ∀ xs, o2 ≠ .tup xs) (h2 : ∀ ob u, o2 ≠ .frz ob u) (h3 : ∀ ps, o2 ≠ .tbl ps) : Alike H (upd H d o2) where
  free := fun b n => by
    rw [upd_ne (ne_of_none h n).symm]
    exact n
  tups := fun b xs e => by
    rw [upd_ne (ne_of e h (by intro z; subst z; exact m))]
    exact e
  frzs := fun b ob u e => by
    rw [upd_ne (ne_of e h (by intro z; subst z; exact m))]
    exact e
  tbls := fun b ps e => by
    rw [upd_ne (ne_of e h (by intro z; subst z; exact m))]
    exact e
theorem hok_at {H : Hp} {hp : Heap} {d : Addr} {o o2 : HO} (ok : HOk P w H hp) (h : H d = some o) (m : Mut (some o)) (new : ObjOk P w (upd H d o2) hp d o2) : HOk P w (upd H d o2) hp := fun b u e => by
  by_cases hb : b = d
  · subst hb
    rw [upd_same] at e
    cases e
    exact new
  · rw [upd_ne hb] at e
    refine (ok b u e).stay (fun c z _ q => q) (fun c q => ?_) (fun c xs q => ?_)
    · rw [upd_ne (ne_of q h (by intro z; subst z; exact m))]
      exact q
    · rw [upd_ne (ne_of q h (by intro z; subst z; exact m))]
      exact q
end

/-! ### the dice: the list of the script, a place, a mixed number, a rest -/
def diceP (d a : Addr) (h : Heap) : Prop := ∃ (i m r : Int) (t1 t2 t3 : Tok) (n : Nat), h.get? d = some { cls := .type "list", data := .seq #[.ref a, .int i t1, .int m t2, .int r t3] n } ∧ 0 ≤ i ∧ 0 ≤ m ∧ m < 2147483647
/-- a dice over the script at a -/
def DiceO (d a : Addr) : HO := .ext (diceP d a)
theorem dice_ok {P : Program} {w : World} {H : Hp} {hp : Heap} {d a : Addr} (h : diceP d a hp) : ObjOk P w H hp d (DiceO d a) := by
  refine ⟨h, ?_, ?_⟩
  · obtain ⟨i, m, r, t1, t2, t3, n, e, _⟩ := h
    exact ⟨_, e⟩
  · rintro h1 h2 ⟨i, m, r, t1, t2, t3, n, e, z⟩ k
    exact ⟨i, m, r, t1, t2, t3, n, k _ e, z⟩
theorem dice_of {P : Program} {w : World} {H : Hp} {hp : Heap} {d a : Addr} {i m r : Int} (ok : HOk P w H hp) (h : H d = some (.lst [.ref a, .int i, .int m, .int r])) (h0 : 0 ≤ i) (h1 : 0 ≤ m) (h2 : m < 2147483647) : diceP d a hp := by
  obtain ⟨_, its, n, rv, e⟩ := (show ObjOk P w H hp d (.lst [.ref a, .int i, .int m, .int r]) from ok d _ h)
  cases rv with
  | cons ra rest =>
    cases ra
    cases rest with
    | cons ri rest =>
      obtain ⟨t1, rfl⟩ := ri
      cases rest with
      | cons rm rest =>
        obtain ⟨t2, rfl⟩ := rm
        cases rest with
        | cons rr rest =>
          obtain ⟨t3, rfl⟩ := rr
          cases rest
          exact ⟨i, m, r, t1, t2, t3, n, e, h0, h1, h2⟩
theorem dice_out {P : Program} {w : World} {H : Hp} {hp : Heap} {d a : Addr} (ok : HOk P w H hp) (h : H d = some (DiceO d a)) : ∃ i m r, 0 ≤ i ∧ 0 ≤ m ∧ m < 2147483647 ∧
    Alike H (upd H d (.lst [.ref a, .int i, .int m, .int r])) ∧ HOk P w (upd H d (.lst [.ref a, .int i, .int m, .int r])) hp := by
  obtain ⟨⟨i, m, r, t1, t2, t3, n, e, z0, z1, z2⟩, _⟩ := (show ObjOk P w H hp d (DiceO d a) from ok d _ h)
  refine ⟨i, m, r, z0, z1, z2, alike_at h True.intro (fun _ z => nomatch z) (fun _ _ z => nomatch z) (fun _ z => nomatch z), hok_at ok h True.intro ⟨(by show 4 ≤ sizeLine; decide), [.ref a, .int i t1, .int m t2, .int r t3], n, ?_, e⟩⟩
  exact .cons rfl (.cons ⟨_, rfl⟩ (.cons ⟨_, rfl⟩ (.cons ⟨_, rfl⟩ .nil)))
theorem dice_in {P : Program} {w : World} {H : Hp} {hp : Heap} {d a : Addr} {i m r : Int} (ok : HOk P w H hp) (h : H d = some (.lst [.ref a, .int i, .int m, .int r])) (h0 : 0 ≤ i) (h1 : 0 ≤ m) (h2 : m < 2147483647) :
    Alike H (upd H d (DiceO d a)) ∧ HOk P w (upd H d (DiceO d a)) hp :=
  ⟨alike_at h True.intro (fun _ z => nomatch z) (fun _ _ z => nomatch z) (fun _ z => nomatch z), hok_at ok h True.intro (dice_ok (dice_of ok h h0 h1 h2))⟩
end Wt

set_option Elab.async false
set_option linter.all false
set_option maxRecDepth 100000
set_option maxHeartbeats 4000000
/-! Words of a row: the plain functions. -/
namespace Wt
open PySem PySem.Spec PyProof.Rows L2 SX Evl

def letters : List Nat := [97, 98, 99, 100, 101, 102, 103, 104, 105, 106, 107, 108, 109, 110, 111, 112, 113, 114, 115, 116, 117, 118, 119, 120, 121, 122]
def figures : List Nat := [48, 49, 50, 51, 52, 53, 54, 55, 56, 57]
def signs : List (List Nat) := [[60, 62], [60, 61], [40], [41], [44], [46], [61], [60], [43], [45], [42], [47]]
def owns : List (List Nat) := [[117, 115, 101], [99, 111, 110, 115, 116], [107, 101, 101, 112], [111, 117, 116], [100, 101, 102], [110, 117, 109], [121, 101, 115], [110, 111], [108, 101, 116], [105, 102],
  [101, 108, 115, 101], [119, 104, 105, 108, 101], [101, 110, 100], [103, 105, 118, 101], [115, 97, 121], [100, 111], [111, 114], [97, 110, 100], [110, 111, 116], [109, 111, 100]]
def kName : List Nat := [110, 97, 109, 101]
def kNum : List Nat := [110, 117, 109]
def kSign : List Nat := [115, 105, 103, 110]
def kOwn : List Nat := [111, 119, 110]
def isL (c : Nat) : Bool := decide (c ∈ letters)
def isF (c : Nat) : Bool := decide (c ∈ figures)
/-- the longest word that begins what is left -/
def wordAt : List Nat → List Nat
  | [] => []
  | c :: r => if isL c = true then (c :: r).takeWhile isL else if isF c = true then (c :: r).takeWhile isF else (signs.find? fun s => decide ((c :: r).take s.length = s)).getD []
def kindOf (w : List Nat) : List Nat :=
  if w ∈ owns then kOwn else if w ∈ signs then kSign else if w = [] ∨ 6 < w.length then [] else
  if isL (w.headD 0) = true then kName else if w.headD 0 = 48 ∧ 1 < w.length then [] else kNum
/-- a word: kind, word, column -/
abbrev Word := List Nat × List Nat × Nat
/-- the words of what is left of a row, which stands behind so many signs; where the first that is none begins -/
def lexAt : Nat → Nat → List Nat → List Word × Option Nat
  | 0, _, _ => ([], none)
  | _ + 1, _, [] => ([], none)
  | f + 1, i, c :: r => if c = 32 then lexAt f (i + 1) r else
    if kindOf (wordAt (c :: r)) = [] then ([], some (i + 1)) else
      ((kindOf (wordAt (c :: r)), wordAt (c :: r), i + 1) :: (lexAt f (i + (wordAt (c :: r)).length) ((c :: r).drop (wordAt (c :: r)).length)).1,
        (lexAt f (i + (wordAt (c :: r)).length) ((c :: r).drop (wordAt (c :: r)).length)).2)
def told (row : List Nat) : List Nat := row.takeWhile fun c => decide (c ≠ 35)
def lexRow (row : List Nat) : List Word × Option Nat := lexAt (told row).length 0 (told row)

/-! ### facts -/
theorem takeWhile_len {p : Nat → Bool} : ∀ l : List Nat, (l.takeWhile p).length ≤ l.length
  | [] => Nat.le_refl _
  | c :: r => by
    rw [List.takeWhile_cons]
    split
    · exact Nat.succ_le_succ (takeWhile_len r)
    · exact Nat.zero_le _
theorem find_len {l s : List Nat} {ss : List (List Nat)} (h : ss.find? (fun s => decide (l.take s.length = s)) = some s) : s.length ≤ l.length := by
  have e := List.find?_some h
  have e2 : l.take s.length = s := of_decide_eq_true e
  have e3 := congrArg List.length e2
  rw [List.length_take] at e3
  omega
theorem wordAt_cons (c : Nat) (r : List Nat) : wordAt (c :: r) = if isL c = true then (c :: r).takeWhile isL else if isF c = true then (c :: r).takeWhile isF else (signs.find? fun s => decide ((c :: r).take s.length = s)).getD [] := rfl
theorem lexAt_cons (f i c : Nat) (r : List Nat) : lexAt (f + 1) i (c :: r) = if c = 32 then lexAt f (i + 1) r else
    if kindOf (wordAt (c :: r)) = [] then ([], some (i + 1)) else
      ((kindOf (wordAt (c :: r)), wordAt (c :: r), i + 1) :: (lexAt f (i + (wordAt (c :: r)).length) ((c :: r).drop (wordAt (c :: r)).length)).1,
        (lexAt f (i + (wordAt (c :: r)).length) ((c :: r).drop (wordAt (c :: r)).length)).2) := rfl
theorem wordAt_len : ∀ l : List Nat, (wordAt l).length ≤ l.length
  | [] => Nat.le_refl _
  | c :: r => by
    rw [wordAt_cons]
    split
    · exact takeWhile_len _
    · split
      · exact takeWhile_len _
      · cases h : signs.find? (fun s => decide ((c :: r).take s.length = s)) with
        | none => exact Nat.zero_le _
        | some s => exact find_len h
/-- what is a word is not empty -/
theorem kind_ne {w : List Nat} (h : kindOf w ≠ []) : w ≠ [] := fun e => by
  subst e
  exact h (by decide +kernel)
theorem kind_pos {w : List Nat} (h : kindOf w ≠ []) : 0 < w.length := List.length_pos_iff.mpr (kind_ne h)
/-- enough turns are enough -/
theorem lexAt_fuel : ∀ (f g i : Nat) (l : List Nat), l.length ≤ f → l.length ≤ g → lexAt f i l = lexAt g i l
  | 0, 0, _, _, _, _ => rfl
  | 0, g + 1, _, [], _, _ => rfl
  | 0, _ + 1, _, _ :: _, h, _ => absurd h (Nat.not_succ_le_zero _)
  | f + 1, 0, _, [], _, _ => rfl
  | _ + 1, 0, _, _ :: _, _, h => absurd h (Nat.not_succ_le_zero _)
  | _ + 1, _ + 1, _, [], _, _ => rfl
  | f + 1, g + 1, i, c :: r, hf, hg => by
    have hf1 : r.length ≤ f := Nat.le_of_succ_le_succ hf
    have hg1 : r.length ≤ g := Nat.le_of_succ_le_succ hg
    rw [lexAt_cons, lexAt_cons]
    by_cases h1 : c = 32
    · rw [if_pos h1, if_pos h1]
      exact lexAt_fuel f g _ r hf1 hg1
    · rw [if_neg h1, if_neg h1]
      by_cases h2 : kindOf (wordAt (c :: r)) = []
      · rw [if_pos h2, if_pos h2]
      · rw [if_neg h2, if_neg h2]
        have hp := kind_pos h2
        have hl : ((c :: r).drop (wordAt (c :: r)).length).length ≤ r.length := by
          rw [List.length_drop, List.length_cons]
          omega
        rw [lexAt_fuel f g _ _ (Nat.le_trans hl hf1) (Nat.le_trans hl hg1)]
/-- with just enough turns: the equations -/
def lexR (i : Nat) (l : List Nat) : List Word × Option Nat := lexAt l.length i l
theorem lexR_nil (i : Nat) : lexR i [] = ([], none) := rfl
theorem lexR_blank (i : Nat) (r : List Nat) : lexR i (32 :: r) = lexR (i + 1) r := by
  unfold lexR
  show lexAt (r.length + 1) i (32 :: r) = _
  rw [lexAt_cons, if_pos rfl]
theorem lexR_bad {i c : Nat} {r : List Nat} (h1 : c ≠ 32) (h2 : kindOf (wordAt (c :: r)) = []) : lexR i (c :: r) = ([], some (i + 1)) := by
  unfold lexR
  show lexAt (r.length + 1) i (c :: r) = _
  rw [lexAt_cons, if_neg h1, if_pos h2]
theorem lexR_word {i c : Nat} {r : List Nat} (h1 : c ≠ 32) (h2 : kindOf (wordAt (c :: r)) ≠ []) :
    lexR i (c :: r) = ((kindOf (wordAt (c :: r)), wordAt (c :: r), i + 1) :: (lexR (i + (wordAt (c :: r)).length) ((c :: r).drop (wordAt (c :: r)).length)).1,
      (lexR (i + (wordAt (c :: r)).length) ((c :: r).drop (wordAt (c :: r)).length)).2) := by
  have hp := kind_pos h2
  have hl : ((c :: r).drop (wordAt (c :: r)).length).length ≤ r.length := by
    rw [List.length_drop, List.length_cons]
    omega
  have e : lexR i (c :: r) = lexAt (r.length + 1) i (c :: r) := rfl
  rw [e, lexAt_cons, if_neg h1, if_neg h2]
  unfold lexR
  rw [lexAt_fuel r.length _ _ _ hl (Nat.le_refl _)]
theorem lexRow_R (row : List Nat) : lexRow row = lexR 0 (told row) := rfl
theorem lexR_count : ∀ (n i : Nat) (l : List Nat), l.length ≤ n → (lexR i l).1.length ≤ l.length
  | _, i, [], _ => by
    rw [lexR_nil]
    exact Nat.le_refl _
  | 0, _, _ :: _, h => absurd h (Nat.not_succ_le_zero _)
  | n + 1, i, c :: r, h => by
    by_cases h1 : c = 32
    · subst h1
      rw [lexR_blank]
      exact Nat.le_succ_of_le (lexR_count n _ r (Nat.le_of_succ_le_succ h))
    · by_cases h2 : kindOf (wordAt (c :: r)) = []
      · rw [lexR_bad h1 h2]
        exact Nat.zero_le _
      · rw [lexR_word h1 h2]
        have hp := kind_pos h2
        have hl : ((c :: r).drop (wordAt (c :: r)).length).length ≤ r.length := by
          rw [List.length_drop, List.length_cons]
          omega
        have ih := lexR_count n (i + (wordAt (c :: r)).length) _ (Nat.le_trans hl (Nat.le_of_succ_le_succ h))
        show _ + 1 ≤ r.length + 1
        exact Nat.succ_le_succ (Nat.le_trans ih hl)
theorem lexRow_count (row : List Nat) : (lexRow row).1.length ≤ row.length := by
  rw [lexRow_R]
  exact Nat.le_trans (lexR_count _ 0 _ (Nat.le_refl _)) (takeWhile_len _)

/-- a word as data, in a row of this number -/
def wordD (n : Nat) (w : Word) : PyData := .tuple [.str (S w.1), .str (S w.2.1), .tuple [.int (n : Int), .int (w.2.2 : Nat)]]
/-- all words of rows numbered from n on -/
def allD (n : Nat) : List (List Nat) → List PyData
  | [] => []
  | row :: rest => (lexRow row).1.map (wordD n) ++ allD (n + 1) rest
end Wt

set_option Elab.async false
set_option linter.all false
set_option maxRecDepth 100000
set_option maxHeartbeats 4000000
/-! What stands ahead of a remark; words told, row by row. -/
namespace Wt
open PySem PySem.Spec PyProof.Rows L2 SX Evl
/-- a new list of what is told -/
def RetTd (ds : List PyData) (H : Hp) (Q : VK) : Prop := ∀ p H2 vs, H p = none → Ex H H2 → H2 p = some (.lst vs) → TdAll H2 vs ds → Q (.ref p) H2
theorem told_split (row : List Nat) : (35 ∉ row ∧ told row = row) ∨ ∃ r, row = told row ++ 35 :: r ∧ 35 ∉ told row := by
  have hno : ∀ l : List Nat, 35 ∉ told l := fun l => by
    induction l with
    | nil => intro h; cases h
    | cons c r ih =>
      unfold told at ih ⊢
      rw [List.takeWhile_cons]
      by_cases h : c = 35
      · rw [if_neg (by simp [h])]
        intro z
        cases z
      · rw [if_pos (by simp [h])]
        intro z
        rcases List.mem_cons.mp z with z | z
        · exact h z.symm
        · exact ih z
  have hsp : ∀ l : List Nat, 35 ∈ l → ∃ r, l = told l ++ 35 :: r := fun l => by
    induction l with
    | nil => intro h; cases h
    | cons c r ih =>
      intro h
      unfold told at ih ⊢
      rw [List.takeWhile_cons]
      by_cases hc : c = 35
      · rw [if_neg (by simp [hc])]
        exact ⟨r, by rw [hc] <;> rfl⟩
      · rw [if_pos (by simp [hc])]
        rcases List.mem_cons.mp h with z | z
        · exact absurd z.symm hc
        · obtain ⟨q, e⟩ := ih z
          exact ⟨q, by rw [List.cons_append, ← e]⟩
  by_cases h : 35 ∈ row
  · obtain ⟨r, e⟩ := hsp row h
    exact .inr ⟨r, e, hno row⟩
  · refine .inl ⟨h, ?_⟩
    have all : ∀ l : List Nat, 35 ∉ l → told l = l := fun l => by
      induction l with
      | nil => intro _; rfl
      | cons c r ih =>
        intro hn
        unfold told at ih ⊢
        have hc : c ≠ 35 := fun z => hn (z ▸ List.mem_cons_self ..)
        rw [List.takeWhile_cons, if_pos (by simp [hc]), ih fun z => hn (List.mem_cons_of_mem _ z)]
    exact all row h
theorem part_told (row : List Nat) : (Txt.partition (S row) (S [35])).1 = S (told row) := by
  rcases told_split row with ⟨h, e⟩ | ⟨r, e, h⟩
  · rw [SX.partition_none (by simp) (par_head_none h), e]
  · have z : TL.par [35] [] row = some (told row, r) := by
      have q := par_head (c := 35) (sep := []) r h
      rw [show told row ++ ([35] ++ r) = row from e.symm] at q
      exact q
    rw [SX.partition_some (by simp) z]
theorem told_len (row : List Nat) : (told row).length ≤ row.length := takeWhile_len row
section
variable {K : PySem.W.Frag} {σ : L2.St} {H H' : Hp} {ta tb te tx : TE} {t u : TT} {x y z v : V}
/-- t.partition("#")[0] -/
theorem ev_told {row : List Nat} (ha : Ev ta σ H (.str (S row))) (hb : Ev tb σ H (.str (S [35]))) (hl : row.length ≤ 100000) :
    Ev (tOp (rIxT K) (tM1 (fun x xs H Q => ∃ a b, x = .str a ∧ xs = [.str b] ∧ (b.length == 0) = false ∧ a.length ≤ sizeLine ∧
      ∀ p, H p = none → Q (.ref p) (upd H p (.tup [.str (Txt.partition a b).1, .str (Txt.partition a b).2.1, .str (Txt.partition a b).2.2]))) ta tb) (tC (.int 0))) σ H (.str (S (told row))) := fun H1 e Q q =>
  ha H1 e _ fun H2 e2 => ⟨⟨S row, rfl⟩, hb H2 (e.trans e2) _ fun H3 e3 => ⟨S row, S [35], rfl, rfl, by decide +kernel, by rw [S_len]; exact sz_of hl, fun p hp =>
    ⟨p, _, 0, _, rfl, rfl, st_of upd_same, atI_nat (j := 0) rfl, by
      rw [part_told]
      exact q _ ((e2.trans e3).trans (Ex.new hp))⟩⟩⟩
end
/-- all rows are words -/
def AllWords (rows : List (List Nat)) : Prop := ∀ r ∈ rows, (lexRow r).2 = none
theorem allD_snoc : ∀ (n : Nat) (rs : List (List Nat)) (r : List Nat), allD n (rs ++ [r]) = allD n rs ++ (lexRow r).1.map (wordD (n + rs.length))
  | n, [], r => by
    show (lexRow r).1.map (wordD n) ++ [] = [] ++ _
    rw [List.append_nil, List.nil_append] <;> rfl
  | n, x :: rs, r => by
    show (lexRow x).1.map (wordD n) ++ allD (n + 1) (rs ++ [r]) = ((lexRow x).1.map (wordD n) ++ allD (n + 1) rs) ++ _
    rw [allD_snoc, List.append_assoc, show n + 1 + rs.length = n + (x :: rs).length by rw [List.length_cons]; omega]
end Wt

set_option Elab.async false
set_option linter.all false
set_option maxRecDepth 100000
set_option maxHeartbeats 4000000
/-! Lists, arguments, loops known by what is true of them. -/
namespace Wt
open PySem PySem.Spec PyProof.Rows L2 SX Evl
/-- a new list, known by what is true of its items -/
def EvNL (te : TE) (σ : L2.St) (H : Hp) (P : List V → Prop) : Prop := ∀ H1, Ex H H1 → ∀ Q : VK, (∀ p H2 xs, P xs → H1 p = none → Ex H1 H2 → H2 p = some (.lst xs) → Q (.ref p) H2) → te σ H1 Q
section
variable {K : PySem.W.Frag} {σ : L2.St} {H H' : Hp} {ta tb te tx : TE} {t u : TT} {x y z v : V}
/-- [e for k in range(n)], n and e known by what is true of them -/
theorem en_lcR {j : Nat} {vs : List Nat} {N : Nat} {P : V → Prop} (h : EvN ta σ H (fun v => ∃ z : Int, v = .int z ∧ 0 ≤ z ∧ z ≤ (N : Int))) (hN : N ≤ 10000) (hw : ∀ x, wipe ((wipe σ vs).set j (some x)) vs = wipe σ vs)
    (he : ∀ (i : Nat) H1, Ex H H1 → EvN te ((wipe σ vs).set j (some (.int (i : Int)))) H1 P) : EvNL (tLc (iRng1 (tCons ta tNil)) (gName j) tYes te vs) σ H (fun xs => xs.length ≤ N ∧ ∀ x ∈ xs, P x) := fun H0 e Q q =>
  h H0 e _ fun v H1 hv e1 => by
    obtain ⟨z, rfl, z0, z1⟩ := hv
    refine ⟨z, rfl, by omega, by omega, fun Dl hD => ?_⟩
    refine lc_range (lo := 0) (n := z.toNat) (fun i H2 => ∃ xs, Ex H1 H2 ∧ H2 Dl = some (.lst xs) ∧ xs.length = i ∧ ∀ x ∈ xs, P x) ⟨[], Ex.new hD, upd_same, rfl, fun _ h => absurd h (by simp)⟩ ?_ ?_
    · rintro i H2 hi ⟨xs, e2, h2, hl, hP⟩
      have e0 : (0 : Int) + (i : Int) = (i : Int) := Int.zero_add _
      show wipe ((wipe σ vs).set j (some (.int ((0 : Int) + (i : Int))))) vs = wipe σ vs ∧ tYes ((wipe σ vs).set j (some (.int ((0 : Int) + (i : Int))))) H2 _
      rw [e0]
      refine ⟨hw _, ?_⟩
      show te ((wipe σ vs).set j (some (.int (i : Int)))) H2 _
      refine he i H2 ((e.trans e1).trans e2) H2 (Ex.refl H2) _ fun y H3 py e3 => ⟨xs, e3 Dl _ h2, sz_lt (by omega), xs ++ [y], ?_, upd_same, by rw [List.length_append, hl] <;> rfl, fun x hx => ?_⟩
      · exact Ex.mut (e2.trans e3) hD
      · rcases List.mem_append.mp hx with h | h
        · exact hP x h
        · rw [List.mem_singleton.mp h]
          exact py
    · rintro H2 ⟨xs, e2, h2, hl, hP⟩
      exact q Dl H2 xs ⟨by omega, hP⟩ (fresh_back e1 hD) (e1.trans e2) h2
theorem ev_dget {kvs : List (Key × V)} {a : Addr} {k : Str} (ha : Ev ta σ H (.ref a)) (hb : Ev tb σ H (.str k)) (h : H a = some (.dK kvs)) (hv : valV kvs (Sum.inr k : Key) = some v) : Ev (tDGet ta tb) σ H v := fun H1 e Q q =>
  ha H1 e _ fun H2 e2 => hb H2 (e.trans e2) _ fun H3 e3 => ⟨a, v, rfl, by
    have g := DGet.k (k := (Sum.inr k : Key)) (((e.trans e2).trans e3) a _ h)
    rw [hv] at g
    exact g, q H3 (e2.trans e3)⟩
theorem rv_addS {a b : List Nat} (h : a.length + b.length ≤ 100000) : RV (fun x y H Q => ∃ i j, x = .str i ∧ y = .str j ∧ i.length + j.length ≤ sizeLine ∧ Q (.str (i ++ j)) H) (.str (S a)) (.str (S b)) H (.str (S (a ++ b))) := fun H1 _ Q q =>
  ⟨S a, S b, rfl, rfl, by rw [S_len, S_len]; exact sz_of h, by rw [S_cat]; exact q H1 (Ex.refl H1)⟩
theorem rv_repS {a : List Nat} {k : Nat} (h : a.length ≤ 16) (hk : k ≤ 100000) : RV rRepS (.str (S a)) (.int (k : Int)) H (.str (S (List.replicate k a).flatten)) := fun H1 _ Q q => ⟨a, k, rfl, rfl, h, hk, q H1 (Ex.refl H1)⟩
end
theorem joinL_nil : ∀ l : List Nat, TL.joinL [] (l.map fun c => [c]) = l
  | [] => rfl
  | [c] => rfl
  | c :: d :: r => by
    show [c] ++ ([] ++ TL.joinL [] ((d :: r).map fun c => [c])) = _
    rw [joinL_nil (d :: r)] <;> rfl
theorem given_nil {n : Nat} {f : Nat → Bool} {v : Nat → V} : (given n f v = []) ↔ ∀ i, i < n → f i = false := by
  unfold given
  rw [List.map_eq_nil_iff, List.filter_eq_nil_iff]
  constructor
  · intro h i hi
    have := h i (List.mem_range.mpr hi)
    simpa using this
  · intro h i hi
    rw [h i (List.mem_range.mp hi)]
    exact Bool.false_ne_true
/-- [1, ..] != [] -/
theorem eqvAll_nil : ∀ ds : List PyData, PyData.eqvAll ds [] = decide (ds = [])
  | [] => by decide +kernel
  | d :: ds => by
    have e : PyData.eqvAll (d :: ds) [] = false := by
      unfold PyData.eqvAll
      rfl
    rw [e]
    exact (decide_eq_false (List.cons_ne_nil _ _)).symm
/-- arguments known by what is true of them -/
def EAN (ta : TA) (σ : L2.St) (H : Hp) (P : List V → Prop) : Prop := ∀ H1, Ex H H1 → ∀ Q : List V → Hp → Prop, (∀ vs H2, P vs → Ex H1 H2 → Q vs H2) → ta σ H1 Q
section
variable {K : PySem.W.Frag} {σ : L2.St} {H H' : Hp} {ta tb te tx t1 t2 : TE} {t u : TT} {x y z v : V} {P : V → Prop} {L : List V → Prop} {D : Ends} {tz : TS}
theorem ean_nil : EAN tNil σ H (· = []) := fun H1 _ _ q => q [] H1 rfl (Ex.refl H1)
theorem ean_cons {tr : TA} (h : EvN te σ H P) (hr : EAN tr σ H L) : EAN (tCons te tr) σ H (fun l => ∃ v r, l = v :: r ∧ P v ∧ L r) := fun H1 e Q q =>
  h H1 e _ fun v H2 pv e2 => hr H2 (e.trans e2) _ fun r H3 pr e3 => q (v :: r) H3 ⟨v, r, rfl, pv, pr⟩ (e2.trans e3)
theorem ean_one {tr : TA} (h : Ev te σ H v) (hr : EAN tr σ H L) : EAN (tCons te tr) σ H (fun l => ∃ r, l = v :: r ∧ L r) := fun H1 e Q q =>
  h H1 e _ fun H2 e2 => hr H2 (e.trans e2) _ fun r H3 pr e3 => q (v :: r) H3 ⟨r, rfl, pr⟩ (e2.trans e3)
theorem enl_lst {ta : TA} (h : EAN ta σ H L) (hl : ∀ l, L l → l.length ≤ 100000) : EvNL (tLst ta) σ H L := fun H1 e Q q =>
  h H1 e _ fun vs H2 pv e2 => ⟨sz_of (hl vs pv), fun p hp => q p _ vs pv (fresh_back e2 hp) (e2.trans (Ex.new hp)) upd_same⟩
theorem EvNL.of {xs : List V} (h : EvL te σ H xs) : EvNL te σ H (· = xs) := fun H1 e Q q => h H1 e Q fun p H2 hp e2 h2 => q p H2 xs rfl hp e2 h2
/-- an item of such a list at a number below its length -/
theorem en_ixNL {n : Nat} (ha : EvNL ta σ H L) (hb : EvN tb σ H (fun v => ∃ z : Int, v = .int z ∧ 0 ≤ z ∧ z < (n : Int))) (hl : ∀ l, L l → l.length = n ∧ ∀ v ∈ l, P v) : EvN (tOp (rIxL K) ta tb) σ H P := fun H1 e Q q =>
  ha H1 e _ fun p H2 xs hL hp e2 h2 => hb H2 (e.trans e2) _ fun v H3 hv e3 => by
    obtain ⟨z, rfl, z0, z1⟩ := hv
    obtain ⟨k, rfl⟩ : ∃ k : Nat, z = (k : Int) := ⟨z.toNat, by omega⟩
    obtain ⟨h5, h6⟩ := hl xs hL
    have hlt : k < xs.length := by omega
    exact ⟨p, xs, (k : Int), xs[k], rfl, rfl, sq_of (e3 p _ h2), atI_nat (List.getElem?_eq_getElem hlt), q _ H3 (h6 _ (List.getElem_mem hlt)) (e2.trans e3)⟩
/-- a, b = e, a new list -/
theorem q_tupL {i j : Nat} {xs : List V} (h1 : Ev t1 σ H v) (h2 : EvL t2 σ H xs) (k : ∀ p H1, H p = none → Ex H H1 → H1 p = some (.lst xs) → tz D ((σ.set i (some v)).set j (some (.ref p))) H1) :
    tSeq (tAsg (tTup (tCons t1 (tCons t2 tNil))) (gTup K 2 (gCons (gName i) (gCons (gName j) gNil)))) tz D σ H :=
  h1 H (Ex.refl H) _ fun H1 e1 => h2 H1 e1 _ fun p H2 hp e2 hpl => ⟨by show 2 ≤ sizeLine; decide, fun c hc =>
    ⟨c, [v, .ref p], rfl, st_of upd_same, rfl, v, [.ref p], rfl, .ref p, [], rfl, rfl, k p _ (fresh_back e1 hp) ((e1.trans e2).trans (Ex.new hc)) (by
      rw [upd_ne (ne_of_none hpl hc)]
      exact hpl)⟩⟩
/-- a new list of flat data is not empty -/
theorem ev_neNil {n : Nat} {f : Nat → Bool} (ha : EvL ta σ H (given n f fun _ => .int 1)) (hn : n ≤ 60) : Ev (tOp (rNeD K) ta (tLst tNil)) σ H (.bl ((List.range n).any f)) := ev_opLL ha (el_lst ea_nil (Nat.zero_le _)) fun p q H1 h1 h2 _ H2 e2 Q q2 => by
  obtain ⟨m, hm, em⟩ : ∃ m, m ≤ n ∧ (given n f fun _ => V.int 1) = List.replicate m (V.int 1) := by
    have hl := given_len n f fun _ => V.int 1
    refine ⟨_, hl, List.eq_replicate_iff.mpr ⟨rfl, fun b hb => ?_⟩⟩
    unfold given at hb
    obtain ⟨_, _, e⟩ := List.mem_map.mp hb
    exact e.symm
  have hall : ∀ m : Nat, DpAll K H2 (List.replicate m (V.int 1)) (List.replicate m (PyData.int 1)) := fun m => by
    induction m with
    | zero => exact .nil
    | succ m ih => exact .cons (.int 1) ih
  have hany : (List.range n).any f = !decide (m = 0) := by
    have h3 : (m = 0) ↔ ∀ i, i < n → f i = false := by
      rw [← given_nil (v := fun _ => V.int 1), em]
      cases m with
      | zero => exact ⟨fun _ => rfl, fun _ => rfl⟩
      | succ m => exact ⟨fun z => absurd z (Nat.succ_ne_zero m), fun z => by rw [List.replicate_succ] at z; cases z⟩
    cases hb : (List.range n).any f with
    | false =>
      rw [List.any_eq_false] at hb
      have hm0 : m = 0 := h3.mpr fun i hi => by
        have := hb i (List.mem_range.mpr hi)
        simpa using this
      rw [decide_eq_true hm0] <;> rfl
    | true =>
      rw [List.any_eq_true] at hb
      obtain ⟨i, hi, hfi⟩ := hb
      have hm0 : ¬ m = 0 := fun z => by
        have := h3.mp z i (List.mem_range.mp hi)
        rw [hfi] at this
        cases this
      rw [decide_eq_false hm0] <;> rfl
  rw [em] at h1
  have hsh : ∀ m, m ≤ 60 → SeqAt.shaped (.list (List.replicate m (PyData.int 1))) = true := by decide +kernel
  refine ⟨.list (List.replicate m (.int 1)), .list [], .lst (sq_of (e2 p _ h1)) (hall m), .lst (sq_of (e2 q _ h2)) .nil, hsh m (by omega), by decide +kernel, ?_⟩
  have e : PyData.eqv (.list (List.replicate m (PyData.int 1))) (.list []) = decide (m = 0) := by
    refine (eqvAll_nil _).trans ?_
    cases m with
    | zero => rfl
    | succ m =>
      rw [decide_eq_false (Nat.succ_ne_zero m), List.replicate_succ]
      exact decide_eq_false (List.cons_ne_nil _ _)
  rw [e, ← hany]
  exact q2 H2 (Ex.refl H2)
end
section
variable {K : PySem.W.Frag} {σ : L2.St} {H H' : Hp} {ta tb te tx t1 t2 : TE} {t u : TT} {x y z v : V} {P : V → Prop} {L : List V → Prop} {D : Ends} {tz tu : TS}
theorem el_cat {l : Addr} {xs zs : List V} (ha : Ev ta σ H (.ref l)) (hl : H l = some (.lst xs)) (hb : EvL tb σ H zs) (hz : xs.length + zs.length ≤ 100000) : EvL (tOp rCat ta tb) σ H (xs ++ zs) := fun H1 e Q q =>
  ha H1 e _ fun H2 e2 => hb H2 (e.trans e2) _ fun p H3 hp e3 h3 => ⟨l, p, xs, zs, rfl, rfl, e3 l _ (e2 l _ (e l _ hl)), h3, sz_of hz, fun c hc => q c _ (fresh_back (e2.trans e3) hc) ((e2.trans e3).trans (Ex.new hc)) upd_same⟩
theorem en_callN {sp : Sp} {dvs : List V} {E : XK} {ta : TA} (h : EAN ta σ H L) (hs : ∀ vs, L vs → SpN sp (vs ++ dvs) H P) : EvN (tCall sp dvs E ta) σ H P := fun H1 e Q q =>
  h H1 e _ fun vs H2 hv e2 => hs vs hv H2 (e.trans e2) Q (fun v H3 p e3 => q v H3 p (e2.trans e3)) E
/-- a loop over range(n), n known by what is true of it -/
theorem q_forRN {j N : Nat} (h : EvN te σ H (fun v => ∃ z : Int, v = .int z ∧ 0 ≤ z ∧ z < (N : Int))) (hN : N ≤ 10000) (Pv : Nat → L2.St → Hp → Prop) (h0 : ∀ H1, Ex H H1 → Pv 0 σ H1)
    (hs : ∀ (i : Nat) σ' H', i < N → Pv i σ' H' → tu { D with nx := Pv (i + 1), ct := Pv (i + 1), bk := tz D } (σ'.set j (some (.int (i : Int)))) H') (hd : ∀ n σ' H', n < N → Pv n σ' H' → tz D σ' H') :
    tSeq (tFor (iRng1 (tCons te tNil)) (gName j) tu) tz D σ H := h H (Ex.refl H) _ fun v H1 hv e1 => by
  obtain ⟨z, rfl, z0, z1⟩ := hv
  refine ⟨z, rfl, by omega, by omega, for_range (D := { D with nx := tz D }) (lo := 0) (n := z.toNat) Pv (h0 H1 e1) (fun i σ' H' hi p => ?_) fun σ' H' p => hd z.toNat σ' H' (by omega) p⟩
  have e0 : (0 : Int) + (i : Int) = (i : Int) := Int.zero_add _
  show tu { D with nx := Pv (i + 1), ct := Pv (i + 1), bk := tz D } (σ'.set j (some (.int ((0 : Int) + (i : Int))))) H'
  rw [e0]
  exact hs i σ' H' (by omega) p
theorem s_forRN {j N : Nat} (h : EvN te σ H (fun v => ∃ z : Int, v = .int z ∧ 0 ≤ z ∧ z < (N : Int))) (hN : N ≤ 10000) (Pv : Nat → L2.St → Hp → Prop) (h0 : ∀ H1, Ex H H1 → Pv 0 σ H1)
    (hs : ∀ (i : Nat) σ' H', i < N → Pv i σ' H' → tu { D with nx := Pv (i + 1), ct := Pv (i + 1), bk := D.nx } (σ'.set j (some (.int (i : Int)))) H') (hd : ∀ n σ' H', n < N → Pv n σ' H' → D.nx σ' H') :
    tFor (iRng1 (tCons te tNil)) (gName j) tu D σ H := q_forRN (D := D) (tz := tNext) h hN Pv h0 hs hd
/-- a, b = x, y -/
theorem q_par {i j : Nat} {ta : TA} {a b : V} (h : EvA ta σ H [a, b]) (k : ∀ H1, Ex H H1 → tz D ((σ.set i (some a)).set j (some b)) H1) : tSeq (tPar i j ta) tz D σ H := h H (Ex.refl H) _ fun H1 e1 => ⟨_, _, rfl, k H1 e1⟩
end
end Wt

set_option Elab.async false
set_option linter.all false
set_option maxRecDepth 100000
set_option maxHeartbeats 4000000
/-! What an expression comes to, told as data; texts as lists of signs. -/
namespace Wt
open PySem PySem.Spec PyProof.Rows L2 SX Evl
def lt (s : String) : List Nat := (Str.ofString s).cps.toList
theorem S_lt (s : String) : Str.ofString s = S (lt s) := by rw [lt, S_tl]
/-- data in tuples -/
def EvD (te : TE) (σ : L2.St) (H : Hp) (d : PyData) : Prop := ∀ H1, Ex H H1 → ∀ Q : VK, (∀ v H2, Ex H1 H2 → Td H2 v d → Q v H2) → te σ H1 Q
def EAD (ta : TA) (σ : L2.St) (H : Hp) (ds : List PyData) : Prop := ∀ H1, Ex H H1 → ∀ Q : List V → Hp → Prop, (∀ vs H2, Ex H1 H2 → TdAll H2 vs ds → Q vs H2) → ta σ H1 Q
/-- a new list of data -/
def EvDL (te : TE) (σ : L2.St) (H : Hp) (ds : List PyData) : Prop := ∀ H1, Ex H H1 → ∀ Q : VK, (∀ p H2 vs, H1 p = none → Ex H1 H2 → H2 p = some (.lst vs) → TdAll H2 vs ds → Q (.ref p) H2) → te σ H1 Q
/-- a new list of texts -/
abbrev EvLT (te : TE) (σ : L2.St) (H : Hp) (ts : List (List Nat)) : Prop := EvL te σ H (ts.map fun z => V.str (S z))
abbrev EvS (te : TE) (σ : L2.St) (H : Hp) (t : List Nat) : Prop := Ev te σ H (.str (S t))
abbrev EAT (ta : TA) (σ : L2.St) (H : Hp) (ts : List (List Nat)) : Prop := EvA ta σ H (ts.map fun z => V.str (S z))
theorem wide_texts (l : List (List Nat)) : (l.map fun z => V.str (S z)).length = l.length := List.length_map ..
section
variable {K : PySem.W.Frag} {σ : L2.St} {H H' : Hp} {ta tb te tx : TE} {tr : TA} {t u : TT} {v w : V} {d : PyData} {ds es : List PyData} {D : Ends} {tu tw tz : TS} {g : TG}
theorem ed_of (h : Ev te σ H v) (hv : Td H v d) : EvD te σ H d := fun H1 e Q q => h H1 e Q fun H2 e2 => q v H2 e2 (Td.tx (Tx.of (e.trans e2)) _ _ hv)
theorem ed_str {x : Str} (h : Ev te σ H (.str x)) : EvD te σ H (.str x) := ed_of h (.str x)
theorem ed_int {i : Int} (h : Ev te σ H (.int i)) : EvD te σ H (.int i) := ed_of h (.int i)
theorem ed_bl {b : Bool} (h : Ev te σ H (.bl b)) : EvD te σ H (.bool b) := ed_of h (.bl b)
theorem ed_non (h : Ev te σ H .non) : EvD te σ H .none := ed_of h .non
theorem EvD.mono (e : Ex H H') (h : EvD te σ H d) : EvD te σ H' d := fun H1 e1 Q q => h H1 (e.trans e1) Q q
theorem EvDL.mono (e : Ex H H') (h : EvDL te σ H ds) : EvDL te σ H' ds := fun H1 e1 Q q => h H1 (e.trans e1) Q q
theorem ed_is {d2 : PyData} (h : EvD te σ H d) (e : d = d2) : EvD te σ H d2 := e ▸ h
theorem ead_nil : EAD tNil σ H [] := fun H1 _ Q q => q [] H1 (Ex.refl _) .nil
theorem ead_cons (h : EvD te σ H d) (hr : EAD tr σ H ds) : EAD (tCons te tr) σ H (d :: ds) := fun H1 e Q q =>
  h H1 e _ fun v H2 e2 hv => hr H2 (e.trans e2) _ fun vs H3 e3 hvs => q (v :: vs) H3 (e2.trans e3) (.cons (Td.tx (Tx.of e3) _ _ hv) hvs)
theorem ed_tup {tr : TA} (h : EAD tr σ H ds) (hl : ds.length ≤ 100000) : EvD (tTup tr) σ H (.tuple ds) := fun H1 e Q q =>
  h H1 e _ fun vs H2 e2 hvs => ⟨sz_of (by rw [hvs.len]; exact hl), fun p hp => q (.ref p) _ (e2.trans (Ex.new hp)) (.tup upd_same (TdAll.tx (Tx.of (Ex.new hp)) _ _ hvs))⟩
theorem edl_lst {tr : TA} (h : EAD tr σ H ds) (hl : ds.length ≤ 100000) : EvDL (tLst tr) σ H ds := fun H1 e Q q =>
  h H1 e _ fun vs H2 e2 hvs => ⟨sz_of (by rw [hvs.len]; exact hl), fun p hp => q p _ vs (fresh_back e2 hp) (e2.trans (Ex.new hp)) upd_same (TdAll.tx (Tx.of (Ex.new hp)) _ _ hvs)⟩
theorem edl_cat {l : Addr} {xs : List V} (ha : Ev ta σ H (.ref l)) (hl : H l = some (.lst xs)) (hx : TdAll H xs ds) (hb : EvDL tb σ H es) (hz : ds.length + es.length ≤ 100000) : EvDL (tOp rCat ta tb) σ H (ds ++ es) := fun H1 e Q q =>
  ha H1 e _ fun H2 e2 => hb H2 (e.trans e2) _ fun p H3 ys hp e3 h3 hy => ⟨l, p, xs, ys, rfl, rfl, e3 l _ (e2 l _ (e l _ hl)), h3, sz_of (by rw [hx.len, hy.len]; exact hz), fun c hc =>
    q c _ _ (fresh_back (e2.trans e3) hc) ((e2.trans e3).trans (Ex.new hc)) upd_same (TdAll.tx (Tx.of (Ex.new hc)) _ _ ((TdAll.tx (Tx.of ((e.trans e2).trans e3)) _ _ hx).app hy))⟩
theorem ed_if {b : Bool} (h : EvT t σ H b) (h1 : b = true → EvD ta σ H d) (h2 : b = false → EvD tb σ H d) : EvD (tIf t ta tb) σ H d := fun H1 e Q q => h H1 e _ fun H2 e2 => by
  cases b with
  | true =>
    show ta σ H2 Q
    exact h1 rfl H2 (e.trans e2) Q fun v H3 e3 => q v H3 (e2.trans e3)
  | false =>
    show tb σ H2 Q
    exact h2 rfl H2 (e.trans e2) Q fun v H3 e3 => q v H3 (e2.trans e3)
theorem q_asgD {i : Nat} (h : EvD te σ H d) (k : ∀ v H1, Ex H H1 → Td H1 v d → tz D (σ.set i (some v)) H1) : tSeq (tAsg te (gName i)) tz D σ H := h H (Ex.refl H) _ k
theorem s_asgD {i : Nat} (h : EvD te σ H d) (k : ∀ v H1, Ex H H1 → Td H1 v d → D.nx (σ.set i (some v)) H1) : tAsg te (gName i) D σ H := h H (Ex.refl H) _ k
theorem q_asgDL {i : Nat} (h : EvDL te σ H ds) (k : ∀ p H1 vs, H p = none → Ex H H1 → H1 p = some (.lst vs) → TdAll H1 vs ds → tz D (σ.set i (some (.ref p))) H1) : tSeq (tAsg te (gName i)) tz D σ H := h H (Ex.refl H) _ k
theorem s_asgDL {i : Nat} (h : EvDL te σ H ds) (k : ∀ p H1 vs, H p = none → Ex H H1 → H1 p = some (.lst vs) → TdAll H1 vs ds → D.nx (σ.set i (some (.ref p))) H1) : tAsg te (gName i) D σ H := h H (Ex.refl H) _ k
/-- texts -/
theorem es_lit {s : String} : EvS (tC (.str (Str.ofString s))) σ H (lt s) := ev_is ev_c (congrArg V.str (S_lt s))
theorem ed_S {x : List Nat} (h : EvS te σ H x) : EvD te σ H (.str (S x)) := ed_str h
theorem es_add {a b : List Nat} (ha : EvS ta σ H a) (hb : EvS tb σ H b) (h : a.length + b.length ≤ 100000) : EvS (tOp (fun x y H Q => ∃ i j, x = .str i ∧ y = .str j ∧ i.length + j.length ≤ sizeLine ∧ Q (.str (i ++ j)) H) ta tb) σ H (a ++ b) := ev_op ha hb (rv_addS h)
theorem es_rep {a : List Nat} {k : Nat} (ha : EvS ta σ H a) (hb : Ev tb σ H (.int (k : Int))) (h : a.length ≤ 16) (hk : k ≤ 100000) : EvS (tOp rRepS ta tb) σ H (List.replicate k a).flatten := ev_op ha hb (rv_repS h hk)
theorem eat_nil : EAT tNil σ H [] := ea_nil
theorem eat_cons {a : List Nat} {ts : List (List Nat)} (h : EvS te σ H a) (hr : EAT tr σ H ts) : EAT (tCons te tr) σ H (a :: ts) := ea_cons h hr
theorem elt_lst {ts : List (List Nat)} (h : EAT tr σ H ts) (hl : ts.length ≤ 100000) : EvLT (tLst tr) σ H ts := el_lst h (by rw [List.length_map]; exact hl)
theorem el_catLL {xs zs : List V} (ha : EvL ta σ H xs) (hb : EvL tb σ H zs) (hz : xs.length + zs.length ≤ 100000) : EvL (tOp rCat ta tb) σ H (xs ++ zs) := fun H1 e Q q =>
  ha H1 e _ fun l H2 hl0 e2 hl => hb H2 (e.trans e2) _ fun p H3 hp e3 h3 => ⟨l, p, xs, zs, rfl, rfl, e3 l _ hl, h3, sz_of hz, fun c hc => q c _ (fresh_back (e2.trans e3) hc) ((e2.trans e3).trans (Ex.new hc)) upd_same⟩
theorem elt_cat {ts us : List (List Nat)} (ha : EvLT ta σ H ts) (hb : EvLT tb σ H us) (hz : ts.length + us.length ≤ 100000) : EvLT (tOp rCat ta tb) σ H (ts ++ us) := by
  have := el_catLL ha hb (by rw [List.length_map, List.length_map]; exact hz)
  rw [← List.map_append] at this
  exact this
theorem elt_catV {l : Addr} {ts us : List (List Nat)} (ha : Ev ta σ H (.ref l)) (hl : H l = some (.lst (ts.map fun z => V.str (S z)))) (hb : EvLT tb σ H us) (hz : ts.length + us.length ≤ 100000) : EvLT (tOp rCat ta tb) σ H (ts ++ us) := by
  have := el_cat ha hl hb (by rw [List.length_map, List.length_map]; exact hz)
  rw [← List.map_append] at this
  exact this
theorem rep_map {α β : Type} (f : α → β) (xs : List α) : ∀ k, (List.replicate k (xs.map f)).flatten = ((List.replicate k xs).flatten).map f
  | 0 => rfl
  | k + 1 => by rw [List.replicate_succ, List.replicate_succ, List.flatten_cons, List.flatten_cons, List.map_append, rep_map f xs k]
theorem elt_rep {ts : List (List Nat)} {i : Int} {k : Nat} (ha : EvLT ta σ H ts) (hb : Ev tb σ H (.int i)) (hi : i = (k : Int)) (hz : ts.length * k ≤ 100000) (hk : k ≤ 100000) : EvLT (tOp rRep ta tb) σ H (List.replicate k ts).flatten := fun H1 e Q q =>
  ha H1 e _ fun l H2 hl0 e2 hl => hb H2 (e.trans e2) _ fun H3 e3 => ⟨l, i, _, rfl, rfl, e3 l _ hl, by subst hi; omega, by subst hi; omega, by
    subst hi
    rw [List.length_map]
    exact sz_of hz, fun c hc => q c _ (fresh_back (e2.trans e3) hc) ((e2.trans e3).trans (Ex.new hc)) (by
      subst hi
      rw [← rep_map]
      exact upd_same)⟩
abbrev rJoin (K : PySem.W.Frag) : V → List V → Hp → VK → Prop := fun x xs H Q => ∃ a p, ∃ ys : List Str, x = .str a ∧ xs = [.ref p] ∧ (SqL K H p (ys.map V.str) ∨ SqT K H p (ys.map V.str)) ∧
      (ys.map (·.length)).sum + ys.length * a.length ≤ 16777216 ∧ Q (.str (Txt.join a ys)) H
def fitsJ (sep : List Nat) (ts : List (List Nat)) : Prop := (ts.map (fun x => x.length)).sum + ts.length * sep.length ≤ 100000
instance (sep : List Nat) (ts : List (List Nat)) : Decidable (fitsJ sep ts) := by unfold fitsJ; infer_instance
theorem join_at {sep : List Nat} {ts : List (List Nat)} {p : Addr} {Q : VK} (hp : H p = some (.lst (ts.map fun z => V.str (S z)))) (hz : fitsJ sep ts) (q : Q (.str (S (TL.joinL sep ts))) H) : rJoin K (.str (S sep)) [.ref p] H Q := by
  refine ⟨S sep, p, ts.map S, rfl, rfl, .inl ?_, ?_, ?_⟩
  · rw [List.map_map]
    exact sq_of hp
  · unfold fitsJ at hz
    rw [lens, List.length_map, S_len]
    omega
  · rw [join_S]
    exact q
theorem es_join {sep : List Nat} {ts : List (List Nat)} (ha : EvS ta σ H sep) (hb : EvLT tb σ H ts) (hz : fitsJ sep ts) : EvS (tM1 (rJoin K) ta tb) σ H (TL.joinL sep ts) := fun H1 e Q q =>
  ha H1 e _ fun H2 e2 => ⟨⟨S sep, rfl⟩, hb H2 (e.trans e2) _ fun p H3 hp e3 h3 => join_at h3 hz (q H3 (e2.trans e3))⟩
theorem es_joinV {sep : List Nat} {ts : List (List Nat)} {l : Addr} (ha : EvS ta σ H sep) (hb : Ev tb σ H (.ref l)) (hl : H l = some (.lst (ts.map fun z => V.str (S z)))) (hz : fitsJ sep ts) : EvS (tM1 (rJoin K) ta tb) σ H (TL.joinL sep ts) := fun H1 e Q q =>
  ha H1 e _ fun H2 e2 => ⟨⟨S sep, rfl⟩, hb H2 (e.trans e2) _ fun H3 e3 => join_at (e3 l _ (e2 l _ (e l _ hl))) hz (q H3 (e2.trans e3))⟩
/-- int(truth) -/
theorem ev_intB {b : Bool} (h : Ev te σ H (.bl b)) {r : List V → Hp → VK → Prop} (hr : ∀ H1 Q, Q (.int (if b = true then 1 else 0)) H1 → r [.bl b] H1 Q) : Ev (tCB r (tCons te tNil)) σ H (.int (if b = true then 1 else 0)) :=
  ev_cb (ea_cons h ea_nil) fun H1 _ Q q => hr H1 Q (q H1 (Ex.refl H1))
/-- [e for k in range(n)], e known by what is true of it: just n of them -/
theorem en_lcRn {j : Nat} {vs : List Nat} {n : Nat} {P : V → Prop} (h : Ev ta σ H (.int (n : Int))) (hN : n ≤ 10000) (hw : ∀ x, wipe ((wipe σ vs).set j (some x)) vs = wipe σ vs)
    (he : ∀ (i : Nat) H1, Ex H H1 → EvN te ((wipe σ vs).set j (some (.int (i : Int)))) H1 P) : EvNL (tLc (iRng1 (tCons ta tNil)) (gName j) tYes te vs) σ H (fun xs => xs.length = n ∧ ∀ x ∈ xs, P x) := fun H0 e Q q =>
  h H0 e _ fun H1 e1 => by
    refine ⟨(n : Int), rfl, by omega, by omega, fun Dl hD => ?_⟩
    refine lc_range (lo := 0) (n := (n : Int).toNat) (fun i H2 => ∃ xs, Ex H1 H2 ∧ H2 Dl = some (.lst xs) ∧ xs.length = i ∧ ∀ x ∈ xs, P x) ⟨[], Ex.new hD, upd_same, rfl, fun _ h => absurd h (by simp)⟩ ?_ ?_
    · rintro i H2 hi ⟨xs, e2, h2, hl, hP⟩
      have e0 : (0 : Int) + (i : Int) = (i : Int) := Int.zero_add _
      show wipe ((wipe σ vs).set j (some (.int ((0 : Int) + (i : Int))))) vs = wipe σ vs ∧ tYes ((wipe σ vs).set j (some (.int ((0 : Int) + (i : Int))))) H2 _
      rw [e0]
      refine ⟨hw _, ?_⟩
      show te ((wipe σ vs).set j (some (.int (i : Int)))) H2 _
      refine he i H2 ((e.trans e1).trans e2) H2 (Ex.refl H2) _ fun y H3 py e3 => ⟨xs, e3 Dl _ h2, sz_lt (by omega), xs ++ [y], ?_, upd_same, by rw [List.length_append, hl] <;> rfl, fun x hx => ?_⟩
      · exact Ex.mut (e2.trans e3) hD
      · rcases List.mem_append.mp hx with h | h
        · exact hP x h
        · rw [List.mem_singleton.mp h]
          exact py
    · rintro H2 ⟨xs, e2, h2, hl, hP⟩
      exact q Dl H2 xs ⟨by omega, hP⟩ (fresh_back e1 hD) (e1.trans e2) h2
end
/-! readings of lists that are known by what is true of them, of loops over new lists -/
section
variable {K : PySem.W.Frag} {σ : L2.St} {H H' : Hp} {ta tb te tx tl : TE} {tr : TA} {t u : TT} {v w : V} {d : PyData} {ds es : List PyData} {D : Ends} {tu tw tz : TS} {g : TG} {L : List V → Prop} {P : V → Prop}
theorem edl_is {es : List PyData} (h : EvDL te σ H ds) (e : ds = es) : EvDL te σ H es := e ▸ h
theorem ed_place {a b : Nat} {i j : Int} (h1 : Ev ta σ H (.int i)) (h2 : Ev tb σ H (.int j)) (e1 : i = (a : Int)) (e2 : j = (b : Int)) : EvD (tTup (tCons ta (tCons tb tNil))) σ H (.tuple [.int (a : Int), .int (b : Int)]) := by
  subst e1 e2
  exact ed_tup (ead_cons (ed_int h1) (ead_cons (ed_int h2) ead_nil)) (by show 2 ≤ 100000; decide)
theorem q_asgNL {i : Nat} (h : EvNL te σ H L) (k : ∀ p H1 xs, L xs → H p = none → Ex H H1 → H1 p = some (.lst xs) → tz D (σ.set i (some (.ref p))) H1) : tSeq (tAsg te (gName i)) tz D σ H := h H (Ex.refl H) _ k
theorem enl_cat {zs : List V} {n : Nat} (ha : EvNL ta σ H L) (hb : EvL tb σ H zs) (hn : ∀ xs, L xs → xs.length ≤ n) (hz : n + zs.length ≤ 100000) : EvNL (tOp rCat ta tb) σ H (fun xs => ∃ ys, L ys ∧ xs = ys ++ zs) := fun H1 e Q q =>
  ha H1 e _ fun l H2 xs hL hl0 e2 hl => hb H2 (e.trans e2) _ fun p H3 hp e3 h3 => ⟨l, p, xs, zs, rfl, rfl, e3 l _ hl, h3, sz_of (by have := hn xs hL; omega), fun c hc => q c _ _ ⟨xs, hL, rfl⟩ (fresh_back (e2.trans e3) hc) ((e2.trans e3).trans (Ex.new hc)) upd_same⟩
theorem enl_rep {ts : List (List Nat)} {B : Nat} (ha : EvLT ta σ H ts) (hb : EvN tb σ H (fun v => ∃ z : Int, v = .int z ∧ 0 ≤ z ∧ z < (B : Int))) (hz : ts.length * B ≤ 100000) (hB : B ≤ 100000) : EvNL (tOp rRep ta tb) σ H (fun xs => ∃ k, k < B ∧ xs = (List.replicate k ts).flatten.map fun z => V.str (S z)) := fun H1 e Q q =>
  ha H1 e _ fun l H2 hl0 e2 hl => hb H2 (e.trans e2) _ fun v H3 hv e3 => by
    obtain ⟨z, rfl, z0, z1⟩ := hv
    obtain ⟨k, rfl⟩ : ∃ k : Nat, z = (k : Int) := ⟨z.toNat, by omega⟩
    have hk : k < B := by omega
    have hm : ts.length * k ≤ ts.length * B := Nat.mul_le_mul_left _ (by omega)
    exact ⟨l, k, _, rfl, rfl, e3 l _ hl, by omega, by omega, by
      rw [List.length_map, Int.toNat_natCast]
      exact sz_of (by omega), fun c hc => q c _ _ ⟨k, hk, rfl⟩ (fresh_back (e2.trans e3) hc) ((e2.trans e3).trans (Ex.new hc)) (by
        rw [← rep_map, Int.toNat_natCast]
        exact upd_same)⟩
theorem qn_par {i j : Nat} {L : List V → Prop} (h : EAN tr σ H L) (k : ∀ vs H1, L vs → Ex H H1 → ∃ v w, vs = [v, w] ∧ tz D ((σ.set i (some v)).set j (some w)) H1) : tSeq (tPar i j tr) tz D σ H := h H (Ex.refl H) _ k
theorem s_appD {l : Addr} {xs : List V} (hl : H l = some (.lst xs)) (ha : Ev ta σ H (.ref l)) (h : EvD te σ H d) (hz : xs.length < 100000) (k : ∀ v H1, Ex H H1 → Td H1 v d → D.nx σ (upd H1 l (.lst (xs ++ [v])))) : tDrop (tBM K "list" rAppend ta (tCons te tNil)) D σ H := ha H (Ex.refl H) _ fun H1 e1 =>
  ⟨Or.inl ⟨rfl, xs, sq_of (e1 l _ hl)⟩, h H1 e1 _ fun v H2 e2 hv => ⟨l, xs, v, rfl, rfl, e2 l _ (e1 l _ hl), sz_lt hz, k v H2 (e1.trans e2) hv⟩⟩
theorem q_appD {l : Addr} {xs : List V} (hl : H l = some (.lst xs)) (ha : Ev ta σ H (.ref l)) (h : EvD te σ H d) (hz : xs.length < 100000) (k : ∀ v H1, Ex H H1 → Td H1 v d → tz D σ (upd H1 l (.lst (xs ++ [v])))) : tSeq (tDrop (tBM K "list" rAppend ta (tCons te tNil))) tz D σ H := s_appD (D := { D with nx := tz D }) hl ha h hz k
theorem q_forDL (h : EvDL tl σ H ds) (k : ∀ p H1 vs, H p = none → Ex H H1 → H1 p = some (.lst vs) → TdAll H1 vs ds → ∃ Pv : Nat → L2.St → Hp → Prop, Pv 0 σ H1 ∧ (∀ i σ' H', i ≤ vs.length → Pv i σ' H' → SqL K H' p vs) ∧
    (∀ i x σ' H', vs[i]? = some x → Pv i σ' H' → g x σ' H' fun σ2 H2 => tu { D with nx := Pv (i + 1), ct := Pv (i + 1), bk := tz D } σ2 H2) ∧ (∀ σ' H', Pv vs.length σ' H' → tz D σ' H')) : tSeq (tFor (iList K tl) g tu) tz D σ H :=
  h H (Ex.refl H) _ fun p H1 vs hp e h1 hT => by
    obtain ⟨Pv, p0, p1, p2, p3⟩ := k p H1 vs hp e h1 hT
    exact ⟨p, rfl, ⟨vs, sq_of h1⟩, for_list (D := { D with nx := tz D }) Pv p0 p1 p2 p3⟩
theorem TdAll.at {vs : List V} {i : Nat} {x : V} (h : TdAll H vs ds) (hx : vs[i]? = some x) : ∃ d, ds[i]? = some d ∧ Td H x d := by
  induction i generalizing vs ds with
  | zero =>
    cases h with
    | nil => cases hx
    | cons a b =>
      cases hx
      exact ⟨_, rfl, a⟩
  | succ i ih =>
    cases h with
    | nil => cases hx
    | cons a b => exact ih b hx
/-- a, b = x where x is a pair -/
theorem g_pair {i j : Nat} {x : V} {d1 d2 : PyData} {Q : L2.St → Hp → Prop} (h : Td H x (.tuple [d1, d2])) (k : ∀ v w, Td H v d1 → Td H w d2 → Q ((σ.set i (some v)).set j (some w)) H) : gTup K 2 (gCons (gName i) (gCons (gName j) gNil)) x σ H Q := by
  cases h with
  | @tup a xs _ h1 h2 =>
    cases h2 with
    | @cons v _ _ _ g1 g2 =>
      cases g2 with
      | @cons w _ _ _ g3 g4 =>
        cases g4
        exact ⟨a, [v, w], rfl, st_of h1, rfl, v, [w], rfl, w, [], rfl, rfl, k v w g1 g3⟩
theorem td_S {x : V} {l : List Nat} (h : Td H x (.str (S l))) : x = .str (S l) := by cases h; rfl
theorem td_int {x : V} {i : Int} (h : Td H x (.int i)) : x = .int i := by cases h; rfl
/-- [e for c in text]: texts -/
theorem elt_lcS {l : List Nat} {j : Nat} {vs : List Nat} {f : Nat → List Nat} (h : EvS tl σ H l) (hz : l.length ≤ 40000) (hw : ∀ x, wipe ((wipe σ vs).set j (some x)) vs = wipe σ vs)
    (he : ∀ (c : Nat) H1, Ex H H1 → EvS te ((wipe σ vs).set j (some (.str (S [c])))) H1 (f c)) : EvLT (tLc (iStr tl) (gName j) tYes te vs) σ H (l.map f) := fun H0 e Q q => h H0 e _ fun H1 e1 => by
  refine ⟨S l, rfl, fun Dl hD => ?_⟩
  have hsz : (S l).cps.size = l.length := by simp [S]
  refine lc_it (walk_str (z := S l)) (fun i H' => Ex H1 H' ∧ H' Dl = some (.lst (((l.take i).map f).map fun z => V.str (S z)))) ⟨Ex.new hD, upd_same⟩ (fun _ _ _ _ => trivial) ?_ ?_
  · rintro i x H2 H3 hi ⟨e2, h2⟩ ⟨rfl, c, hc, rfl⟩
    refine ⟨hw _, ?_⟩
    have hc2 : l[i]? = some c := by
      have : (S l).cps.toList[i]? = some c := by rw [Array.getElem?_toList]; exact hc
      rw [S_list] at this
      exact this
    have hlt : i < l.length := by rw [← hsz]; exact hi
    show te _ H3 _
    refine he c H3 ((e.trans e1).trans e2) H3 (Ex.refl H3) _ fun H4 e4 => ⟨_, e4 _ _ h2, sz_lt (by simp; omega), Ex.mut (e2.trans e4) hD, ?_⟩
    rw [show l.take (i + 1) = l.take i ++ [c] by rw [List.take_succ, hc2]; rfl, List.map_append, List.map_append]
    exact upd_same
  · rintro H2 ⟨e2, h2⟩
    rw [hsz, List.take_length] at h2
    exact q Dl H2 (fresh_back e1 hD) (e1.trans e2) h2
theorem ev_slS {l r : List Nat} {i : Int} {tl2 : TO} {th : TO} (h : EvS te σ H l) (h1 : EvO tl2 σ H none) (h2 : EvO th σ H (some i)) (hl : l.length ≤ 100000) (hr : Txt.slice (S l) none (some i) = S r) : EvS (tSl C8.rSlX te tl2 th) σ H r := fun H1 e Q q =>
  h H1 e _ fun H2 e2 => h1 H2 (e.trans e2) _ fun H3 e3 => h2 H3 ((e.trans e2).trans e3) _ fun H4 e4 => ⟨S l, rfl, by rw [S_len]; exact sz_of hl, by
    rw [hr]
    exact q H4 ((e2.trans e3).trans e4)⟩
end
end Wt

set_option Elab.async false
set_option linter.all false
set_option maxRecDepth 100000
set_option maxHeartbeats 4000000
namespace Wt
open PySem PySem.Spec PyProof.Rows L2 SX Evl
open C8 (Def Cal cal0 fnScope_by fnScope)
/-! ### further readings -/
theorem lit0 : (Str.ofString "" : Str) = S [] := by decide +kernel
theorem lit_letters : Str.ofString "abcdefghijklmnopqrstuvwxyz" = S letters := by decide +kernel
theorem lit_figures : Str.ofString "0123456789" = S figures := by decide +kernel
theorem slice_any {a : List Nat} {i j : Nat} (h : i ≤ j) (hi : i ≤ a.length) : Txt.slice (S a) (some (i : Int)) (some (j : Int)) = S ((a.drop i).take (j - i)) := by
  by_cases hj : j ≤ a.length
  · exact slice_mid h hj
  · have e : Txt.slice (S a) (some (i : Int)) (some (j : Int)) = Txt.slice (S a) (some (i : Int)) (some (a.length : Int)) := by
      unfold Txt.slice
      rw [S_len, idx_hi (by omega)]
    rw [e, slice_mid hi (Nat.le_refl _)]
    refine congrArg S ?_
    rw [List.take_of_length_le (by rw [List.length_drop]; omega), List.take_of_length_le (by rw [List.length_drop]; omega)]
theorem inV_S (w : List Nat) : ∀ ws : List (List Nat), inV (.str (S w)) (ws.map fun z => V.str (S z)) = decide (w ∈ ws)
  | [] => (decide_eq_false (by simp)).symm
  | z :: ws => by
    have ih := inV_S w ws
    have e : inV (.str (S w)) ((z :: ws).map fun z => V.str (S z)) = (eqV (.str (S z)) (.str (S w)) || inV (.str (S w)) (ws.map fun z => V.str (S z))) := rfl
    have e2 : eqV (.str (S z)) (.str (S w)) = decide (z = w) := by
      show (S z == S w) = _
      exact S_beq_eq
    rw [e, ih, e2]
    by_cases h : z = w
    · subst h
      simp
    · have h2 : ¬ w = z := fun q => h q.symm
      simp [h, h2]
theorem flat_S : ∀ ws : List (List Nat), (ws.map fun z => V.str (S z)).all flatV = true
  | [] => rfl
  | z :: ws => by
    rw [List.map_cons, List.all_cons, flat_S ws] <;> rfl
theorem strEq {a b : List Nat} : decide ((V.str (S a)) = V.str (S b)) = decide (a = b) := by
  by_cases h : a = b
  · subst h
    simp
  · rw [decide_eq_false h]
    exact decide_eq_false fun e => h (S_inj (V.str.inj e))
section
variable {K : PySem.W.Frag} {σ : L2.St} {H H' : Hp} {ta tb te tx : TE} {t u : TT} {x y z v : V}
theorem ev_slA {te : TE} {tl th : TO} {a : List Nat} {i j : Nat} (h : Ev te σ H (.str (S a))) (h1 : EvO tl σ H (some (i : Int))) (h2 : EvO th σ H (some (j : Int))) (hl : a.length ≤ 100000) (hi : i ≤ j) (hj : i ≤ a.length) :
    Ev (tSl C8.rSlX te tl th) σ H (.str (S ((a.drop i).take (j - i)))) := fun H1 e Q q =>
  h H1 e _ fun H2 e2 => h1 H2 (e.trans e2) _ fun H3 e3 => h2 H3 ((e.trans e2).trans e3) _ fun H4 e4 => by
    refine ⟨S a, rfl, ?_, ?_⟩
    · rw [S_len]
      exact sz_of hl
    · rw [slice_any hi hj]
      exact q H4 ((e2.trans e3).trans e4)
theorem ev_eqS {a b : List Nat} (ha : Ev ta σ H (.str (S a))) (hb : Ev tb σ H (.str (S b))) : Ev (tOp rEq ta tb) σ H (.bl (decide (a = b))) := ev_is (ev_op ha hb (rv_eq rfl)) (congrArg V.bl strEq)
theorem ev_neS {a b : List Nat} (ha : Ev ta σ H (.str (S a))) (hb : Ev tb σ H (.str (S b))) : Ev (tOp rNe ta tb) σ H (.bl (!decide (a = b))) := ev_is (ev_op ha hb (rv_ne rfl)) (congrArg (fun b => V.bl (!b)) strEq)
theorem ev_inSg {c : Nat} {w : List Nat} (ha : Ev ta σ H (.str (S [c]))) (hb : Ev tb σ H (.str (S w))) :
    Ev (tOp (fun x y H Q => ∃ (c : Nat) (z : Str), x = .str ⟨#[c]⟩ ∧ y = .str z ∧ Q (.bl (decide (c ∈ z.cps.toList))) H) ta tb) σ H (.bl (decide (c ∈ w))) := ev_op ha hb rv_inSign
theorem ev_inTs {w : List Nat} {ws : List (List Nat)} {p : Addr} (ha : Ev ta σ H (.str (S w))) (hb : Ev tb σ H (.ref p)) (hp : SqT K H p (ws.map fun z => V.str (S z))) :
    Ev (tOp (rIn K false) ta tb) σ H (.bl (decide (w ∈ ws))) := ev_is (ev_op ha hb (rv_isT hp rfl (flat_S ws))) (congrArg V.bl (inV_S w ws))
/-- x in [..], a list made on the way, of texts -/
theorem ev_inLs {w : List Nat} {ws : List (List Nat)} {xs : List V} (ha : Ev ta σ H (.str (S w))) (hb : EvL tb σ H xs) (e : xs = ws.map fun z => V.str (S z)) : Ev (tOp (rIn K false) ta tb) σ H (.bl (decide (w ∈ ws))) := by
  subst e
  exact ev_is (ev_opL ha hb fun _ _ h _ => rv_isL (sq_of h) rfl (flat_S ws)) (congrArg V.bl (inV_S w ws))
theorem ev_inUs {w : List Nat} {ws : List (List Nat)} {xs : List V} (ha : Ev ta σ H (.str (S w))) (hb : EvU tb σ H xs) (e : xs = ws.map fun z => V.str (S z)) : Ev (tOp (rIn K false) ta tb) σ H (.bl (decide (w ∈ ws))) := by
  subst e
  exact ev_is (ev_inU ha hb rfl (flat_S ws)) (congrArg V.bl (inV_S w ws))
theorem ev_inLv {w : List Nat} {ws : List (List Nat)} {p : Addr} (ha : Ev ta σ H (.str (S w))) (hb : Ev tb σ H (.ref p)) (hp : H p = some (.lst (ws.map fun z => V.str (S z)))) : Ev (tOp (rIn K false) ta tb) σ H (.bl (decide (w ∈ ws))) :=
  ev_is (ev_op ha hb (rv_isL (sq_of hp) rfl (flat_S ws))) (congrArg V.bl (inV_S w ws))
theorem ev_eqI {i j : Int} (ha : Ev ta σ H (.int i)) (hb : Ev tb σ H (.int j)) : Ev (tOp rEq ta tb) σ H (.bl (decide (i = j))) := ev_is (ev_op ha hb (rv_eq rfl)) (by
  by_cases h : i = j
  · subst h
    simp
  · rw [decide_eq_false h, decide_eq_false fun z => h (V.int.inj z)])
end
end Wt

set_option Elab.async false
set_option linter.all false
set_option maxRecDepth 100000
set_option maxHeartbeats 4000000
namespace Wt
open PySem PySem.Spec PyProof.Rows L2 SX Evl
open C8 (Def Cal cal0 fnScope_by fnScope)
def topS (i : Nat) : Stmt := PySem.Challenge.pw_wholetongue_k06_trees_written_one_way.main.body.getD i (.Pass ⟨0, 0, 0, 0⟩)
end Wt

set_option Elab.async false
set_option linter.all false
set_option maxRecDepth 100000
set_option maxHeartbeats 4000000
namespace Wt
open PySem PySem.Spec PyProof.Rows L2 SX Evl
open C8 (Def Cal cal0 fnScope_by fnScope)
/-! The dice, as laws draw from it. -/
structure ModsL (K : PySem.W.Frag) (mg : Str → Option Value) : Prop where
  m_len : mg "len" = none
  m_int : mg "int" = none
  m_str : mg "str" = none
  m_bool : mg "bool" = none
  m_tuple : mg "tuple" = none
  m_list : mg "list" = none
  m_range : mg "range" = none
  m_isinstance : mg "isinstance" = none
/-- what is locked stays -/
def Fx (H H' : Hp) : Prop := ∀ b o u, H b = some (.frz o u) → H' b = some (.frz o u)
theorem Fx.of {H H' : Hp} (e : Ex H H') : Fx H H' := fun b o u h => e b _ h
theorem Fx.trans {H H1 H2 : Hp} (a : Fx H H1) (b : Fx H1 H2) : Fx H H2 := fun x o u h => b x o u (a x o u h)
theorem Fx.mut {H : Hp} {d : Addr} {o o2 : HO} (h : H d = some o) (m : Mut (some o)) : Fx H (upd H d o2) := fun b ob u q => by
  rw [upd_ne (ne_of q h (by intro z; subst z; exact m))]
  exact q
/-- the script: locked, or of the written part -/
def Scr (K : PySem.W.Frag) (H : Hp) (a : Addr) (ns : List Int) : Prop := ns.length ≤ 63 ∧ ∀ H', Fx H H' → SqL K H' a (ns.map V.int)
theorem Scr.fx {K : PySem.W.Frag} {H H' : Hp} {a : Addr} {ns : List Int} (f : Fx H H') (h : Scr K H a ns) : Scr K H' a ns := ⟨h.1, fun H2 f2 => h.2 H2 (f.trans f2)⟩
theorem Scr.ex {K : PySem.W.Frag} {H H' : Hp} {a : Addr} {ns : List Int} (e : Ex H H') (h : Scr K H a ns) : Scr K H' a ns := h.fx (Fx.of e)
theorem Scr.sq {K : PySem.W.Frag} {H : Hp} {a : Addr} {ns : List Int} (h : Scr K H a ns) : SqL K H a (ns.map V.int) := h.2 H fun _ _ _ q => q
def Exd (d : Addr) (H H' : Hp) : Prop := ∀ b o, b ≠ d → H b = some o → H' b = some o

section
variable {K : PySem.W.Frag}
def spDice0 (K : PySem.W.Frag) : Sp := fun vs H Q _ => ∃ (a : Addr) (ns : List Int), vs = [.ref a] ∧ Scr K H a ns ∧ ∀ p H2 m, H p = none → Ex H H2 → 0 ≤ m → m < 2147483647 → H2 p = some (.lst [.ref a, .int 0, .int m, .int 0]) → Q (.ref p) H2
/-- .. as a dice -/
def spDice (K : PySem.W.Frag) : Sp := fun vs H Q _ => ∃ (a : Addr) (ns : List Int), vs = [.ref a] ∧ Scr K H a ns ∧ ∀ p H2, H p = none → Ex H H2 → H2 p = some (DiceO p a) → Q (.ref p) H2
def spNext0 (K : PySem.W.Frag) : Sp := fun vs H Q _ => ∃ (d a : Addr) (ns : List Int) (many i m r : Int), vs = [.ref d, .int many] ∧ 0 < many ∧ many < 1073741824 ∧ H d = some (.lst [.ref a, .int i, .int m, .int r]) ∧ 0 ≤ i ∧ 0 ≤ m ∧ m < 2147483647 ∧ Scr K H a ns ∧
  ∀ z H2 i' m' r', 0 ≤ z → z < many → 0 ≤ i' → 0 ≤ m' → m' < 2147483647 → H2 d = some (.lst [.ref a, .int i', .int m', .int r']) → Exd d H H2 → Q (.int z) H2
/-- .. over a dice: some number below what is handed in, nothing else is told -/
def spNext (K : PySem.W.Frag) : Sp := fun vs H Q _ => ∃ (d a : Addr) (ns : List Int) (many : Int), vs = [.ref d, .int many] ∧ 0 < many ∧ many < 1073741824 ∧ H d = some (DiceO d a) ∧ Scr K H a ns ∧
  ∀ z H2, 0 ≤ z → z < many → Ex H H2 → Q (.int z) H2
/-- the dice at d over the script at a -/
structure Dc (K : PySem.W.Frag) (H : Hp) (d a : Addr) (ns : List Int) : Prop where
  o : H d = some (DiceO d a)
  s : Scr K H a ns
theorem Dc.ex {H H' : Hp} {d a : Addr} {ns : List Int} (h : Dc K H d a ns) (e : Ex H H') : Dc K H' d a ns := ⟨e d _ h.o, h.s.ex e⟩
theorem sn_next {H : Hp} {d a : Addr} {ns : List Int} {many : Int} (h : Dc K H d a ns) (m0 : 0 < many) (m1 : many < 1073741824) : SpN (spNext K) [.ref d, .int many] H (fun v => ∃ z : Int, v = .int z ∧ 0 ≤ z ∧ z < many) :=
  fun H1 e Q q E => ⟨d, a, ns, many, rfl, m0, m1, e d _ h.o, h.s.ex e, fun z H2 z0 z1 e2 => q _ H2 ⟨z, rfl, z0, z1⟩ e2⟩
theorem en_next {H : Hp} {σ : L2.St} {E : XK} {ta tb : TE} {d a : Addr} {ns : List Int} {many : Int} (h : Dc K H d a ns) (ha : Ev ta σ H (.ref d)) (hb : Ev tb σ H (.int many)) (m0 : 0 < many := by decide) (m1 : many < 1073741824 := by decide) :
    EvN (tCall (spNext K) [] E (tCons ta (tCons tb tNil))) σ H (fun v => ∃ z : Int, v = .int z ∧ 0 ≤ z ∧ z < many) := en_call (ea_cons ha (ea_cons hb ea_nil)) (sn_next h m0 m1)
end
end Wt

set_option Elab.async false
set_option linter.all false
set_option maxRecDepth 100000
set_option maxHeartbeats 4000000
namespace Wt
open PySem PySem.Spec PyProof.Rows L2 SX Evl
open C8 (Def Cal cal0 fnScope_by fnScope)
/-! Likeness of data: what both laws' and programs' texts ask. -/
def tyN : PyData → String
  | .none => "NoneType"
  | .bool _ => "bool"
  | .int _ => "int"
  | .str _ => "str"
  | .list _ => "list"
  | .tuple _ => "tuple"
  | .dict _ => "dict"
theorem dp_ty {K : PySem.W.Frag} {H : Hp} {v : V} {d : PyData} (h : Dp K H v d) : TyX K H v (.type (tyN d)) := by
  cases h with
  | non => exact .base .non
  | bl b => exact .base (.bl b)
  | int i => exact .base (.int i)
  | str x => exact .base (.str x)
  | lst h1 _ =>
    rcases h1 with (h1 | ⟨o, h1⟩) | ⟨o, its, n, h1, h2, _⟩
    · exact .base (.lst h1)
    · exact .base (.frz h1)
    · exact .kList h1 h2
  | tup h1 _ =>
    rcases h1 with (h1 | ⟨o, h1⟩) | ⟨o, its, n, h1, h2, _⟩
    · exact .base (.tup h1)
    · exact .fTuple h1
    · exact .kTuple h1 h2
mutual
def wideD : PyData → Bool
  | .list xs => decide (xs.length ≤ 40000) && wideAll xs
  | .tuple xs => decide (xs.length ≤ 40000) && wideAll xs
  | .dict _ => false
  | .none => true
  | .bool _ => true
  | .int _ => true
  | .str _ => true
def wideAll : List PyData → Bool
  | [] => true
  | d :: ds => wideD d && wideAll ds
end
theorem wide_get : ∀ {ds : List PyData} {i : Nat} {d : PyData}, wideAll ds = true → ds[i]? = some d → wideD d = true
  | [], _, _, _, h => by simp at h
  | x :: ds, 0, d, h, e => by
    have e2 : x = d := Option.some.inj e
    subst e2
    unfold wideAll at h
    exact (Bool.and_eq_true_iff.mp h).1
  | x :: ds, i + 1, d, h, e => by
    unfold wideAll at h
    exact wide_get (Bool.and_eq_true_iff.mp h).2 e
theorem depth_get : ∀ {ds : List PyData} {i : Nat} {d : PyData}, ds[i]? = some d → d.depth ≤ PyData.depthAll ds
  | [], _, _, h => by simp at h
  | x :: ds, 0, d, e => by
    have e2 : x = d := Option.some.inj e
    subst e2
    unfold PyData.depthAll
    exact Nat.le_max_left _ _
  | x :: ds, i + 1, d, e => by
    unfold PyData.depthAll
    exact Nat.le_trans (depth_get (ds := ds) (i := i) e) (Nat.le_max_right _ _)
section
variable {K : PySem.W.Frag} {σ : L2.St} {H H' : Hp} {ta tb te tx : TE} {t u : TT} {x y z v : V}
theorem ev_isi {d : PyData} {n : String} {b : Bool} (ha : Ev ta σ H x) (hb : Ev tb σ H (.ty n)) (hx : Dp K H x d) (hk : kitB (tyN d) n = some b) : Ev (tCB (rIsi K) (tCons ta (tCons tb tNil))) σ H (.bl b) :=
  ev_cb (ea_cons ha (ea_cons hb ea_nil)) fun H1 e Q q => ⟨x, .ty n, .type (tyN d), .type n, b, rfl, .ty n, dp_ty (Dp.ex e d x hx), kit_ty hk, q H1 (Ex.refl H1)⟩
theorem ev_lenD {p : Addr} {xs : List V} (ha : Ev ta σ H (.ref p)) (h : SqL K H p xs ∨ SqT K H p xs) : Ev (tCB (rLenS K) (tCons ta tNil)) σ H (.int (xs.length : Int)) := fun H1 e Q q =>
  ha H1 e _ fun H2 e2 => ⟨p, xs, rfl, h.imp (ex_l (e.trans e2)) (ex_t (e.trans e2)), q H2 e2⟩
theorem ev_ixD {p : Addr} {xs : List V} {i : Nat} (ha : Ev ta σ H (.ref p)) (hb : Ev tb σ H (.int (i : Int))) (h : SqL K H p xs ∨ SqT K H p xs) (hv : xs[i]? = some v) : Ev (tOp (rIx K) ta tb) σ H v :=
  ev_op ha hb fun H1 e Q q => by
    rcases h with h | h
    · exact .inl ⟨p, xs, (i : Int), v, rfl, rfl, ex_l e h, atI_nat hv, q H1 (Ex.refl H1)⟩
    · exact .inr (.inl ⟨p, xs, (i : Int), v, rfl, rfl, ex_t e h, atI_nat hv, q H1 (Ex.refl H1)⟩)
theorem given_none (n : Nat) (v : Nat → V) : given n (fun _ => false) v = [] := by
  unfold given
  have e : (List.range n).filter (fun _ => false) = [] := by simp
  rw [e] <;> rfl
/-- [..] == [] where nothing was given -/
theorem ev_eqNil (ha : EvL ta σ H []) : Ev (tOp (rEqD K) ta (tLst tNil)) σ H (.bl true) := ev_opLL ha (el_lst ea_nil (Nat.zero_le _)) fun p q H1 h1 h2 _ H2 e2 Q q2 =>
  ⟨.list [], .list [], .lst (sq_of (e2 p _ h1)) .nil, .lst (sq_of (e2 q _ h2)) .nil, by decide +kernel, by decide +kernel, by
    have e : PyData.eqv (.list []) (.list []) = true := by decide +kernel
    rw [e]
    exact q2 H2 (Ex.refl H2)⟩
end
section
variable {K : PySem.W.Frag}
/-- two of the same data, a list or a tuple -/
theorem like_seq {H : Hp} {x y : V} {ds : List PyData} {d : PyData} (hd : d = .list ds ∨ d = .tuple ds) (hx : Dp K H x d) (hy : Dp K H y d) :
    ∃ p xs q ys, x = .ref p ∧ y = .ref q ∧ (SqL K H p xs ∨ SqT K H p xs) ∧ (SqL K H q ys ∨ SqT K H q ys) ∧ DpAll K H xs ds ∧ DpAll K H ys ds := by
  rcases hd with rfl | rfl
  · cases hx with
    | lst h1 h2 =>
      cases hy with
      | lst g1 g2 => exact ⟨_, _, _, _, rfl, rfl, .inl h1, .inl g1, h2, g2⟩
  · cases hx with
    | tup h1 h2 =>
      cases hy with
      | tup g1 g2 => exact ⟨_, _, _, _, rfl, rfl, .inr h1, .inr g1, h2, g2⟩
theorem like_flat {H : Hp} {x y : V} {d : PyData} (h1 : ∀ ds, d ≠ .list ds) (h2 : ∀ ds, d ≠ .tuple ds) (hx : Dp K H x d) (hy : Dp K H y d) : x = y ∧ scal x y = true := by
  cases hx with
  | non => cases hy; exact ⟨rfl, rfl⟩
  | bl b => cases hy; exact ⟨rfl, rfl⟩
  | int i => cases hy; exact ⟨rfl, rfl⟩
  | str z => cases hy; exact ⟨rfl, rfl⟩
  | lst _ _ => exact absurd rfl (h1 _)
  | tup _ _ => exact absurd rfl (h2 _)
end
end Wt

set_option Elab.async false
set_option linter.all false
set_option maxRecDepth 100000
set_option maxHeartbeats 4000000
/-! What an expression comes to, told as data of which something is true. -/
namespace Wt
open PySem PySem.Spec PyProof.Rows L2 SX Evl
def EvR (te : TE) (σ : L2.St) (H : Hp) (R : PyData → Prop) : Prop := ∀ H1, Ex H H1 → ∀ Q : VK, (∀ v H2 d, R d → Ex H1 H2 → Td H2 v d → Q v H2) → te σ H1 Q
def EAR (ta : TA) (σ : L2.St) (H : Hp) (R : List PyData → Prop) : Prop := ∀ H1, Ex H H1 → ∀ Q : List V → Hp → Prop, (∀ vs H2 ds, R ds → Ex H1 H2 → TdAll H2 vs ds → Q vs H2) → ta σ H1 Q
/-- a new list -/
def EvRL (te : TE) (σ : L2.St) (H : Hp) (R : List PyData → Prop) : Prop := ∀ H1, Ex H H1 → ∀ Q : VK, (∀ p H2 vs ds, R ds → H1 p = none → Ex H1 H2 → H2 p = some (.lst vs) → TdAll H2 vs ds → Q (.ref p) H2) → te σ H1 Q
/-- a list of texts that stands there, or a new one -/
def EvLs (te : TE) (σ : L2.St) (H : Hp) (P : List (List Nat) → Prop) : Prop := ∀ H1, Ex H H1 → ∀ Q : VK, (∀ p H2 ts, P ts → Ex H1 H2 → H2 p = some (.lst (ts.map fun z => V.str (S z))) → Q (.ref p) H2) → te σ H1 Q
theorem td_get {H : Hp} : ∀ {us : List V} {ds : List PyData} {i : Nat} {d : PyData}, TdAll H us ds → ds[i]? = some d → ∃ v, us[i]? = some v ∧ Td H v d
  | _, _, _, _, .nil, h => by simp at h
  | _, _, 0, _, .cons a b, h => ⟨_, rfl, by
    cases Option.some.inj h
    exact a⟩
  | _, _, i + 1, _, .cons a b, h => td_get (i := i) b h
theorem td_mem {H : Hp} : ∀ {us : List V} {ds : List PyData} {v : V}, TdAll H us ds → v ∈ us → ∃ d ∈ ds, Td H v d
  | _, _, _, .nil, h => by cases h
  | _, _, v, .cons a b, h => by
    rcases List.mem_cons.mp h with rfl | h
    · exact ⟨_, List.mem_cons_self .., a⟩
    · obtain ⟨d, hd, hT⟩ := td_mem b h
      exact ⟨d, List.mem_cons_of_mem _ hd, hT⟩
theorem cutV_from {xs : List V} {k : Nat} (h : k ≤ xs.length) : cutV xs (some (k : Int)) none = xs.drop k := by
  have h1 : HT.sIx xs.length 0 (some (k : Int)) = k := by
    rw [HT.sIx_nat]
    omega
  have h2 : HT.sIx xs.length xs.length none = xs.length := rfl
  unfold cutV
  rw [h1, h2]
  exact List.take_of_length_le (by rw [List.length_drop]; omega)
theorem td_drop {H : Hp} : ∀ {n : Nat} {us : List V} {ds : List PyData}, TdAll H us ds → TdAll H (us.drop n) (ds.drop n)
  | 0, _, _, h => h
  | _ + 1, _, _, .nil => .nil
  | n + 1, _, _, .cons a b => td_drop (n := n) b
section
variable {K : PySem.W.Frag} {σ : L2.St} {H H' : Hp} {ta tb te tx tl : TE} {tr : TA} {t u : TT} {v w : V} {R R2 : PyData → Prop} {L : List PyData → Prop} {D : Ends} {tu tw tz : TS} {P : V → Prop}
theorem er_of {d : PyData} (h : EvD te σ H d) : EvR te σ H (· = d) := fun H1 e Q q => h H1 e Q fun v H2 e2 hv => q v H2 d rfl e2 hv
theorem EvR.imp (h : EvR te σ H R) (i : ∀ d, R d → R2 d) : EvR te σ H R2 := fun H1 e Q q => h H1 e Q fun v H2 d r => q v H2 d (i d r)
theorem EvR.mono (e : Ex H H') (h : EvR te σ H R) : EvR te σ H' R := fun H1 e1 Q q => h H1 (e.trans e1) Q q
theorem er_N (h : EvN te σ H P) (hP : ∀ v, P v → ∃ d, R d ∧ ∀ H', Td H' v d) : EvR te σ H R := fun H1 e Q q => h H1 e Q fun v H2 p e2 => by
  obtain ⟨d, r, hd⟩ := hP v p
  exact q v H2 d r e2 (hd H2)
theorem ear_nil : EAR tNil σ H (· = []) := fun H1 _ Q q => q [] H1 [] rfl (Ex.refl _) .nil
theorem ear_cons (h : EvR te σ H R) (hr : EAR tr σ H L) : EAR (tCons te tr) σ H (fun l => ∃ d ds, l = d :: ds ∧ R d ∧ L ds) := fun H1 e Q q =>
  h H1 e _ fun v H2 d r e2 hv => hr H2 (e.trans e2) _ fun vs H3 ds rs e3 hvs => q (v :: vs) H3 (d :: ds) ⟨d, ds, rfl, r, rs⟩ (e2.trans e3) (.cons (Td.tx (Tx.of e3) _ _ hv) hvs)
theorem ear_one {d : PyData} (h : EvD te σ H d) (hr : EAR tr σ H L) : EAR (tCons te tr) σ H (fun l => ∃ ds, l = d :: ds ∧ L ds) := fun H1 e Q q =>
  h H1 e _ fun v H2 e2 hv => hr H2 (e.trans e2) _ fun vs H3 ds rs e3 hvs => q (v :: vs) H3 (d :: ds) ⟨ds, rfl, rs⟩ (e2.trans e3) (.cons (Td.tx (Tx.of e3) _ _ hv) hvs)
theorem EAR.imp {L2 : List PyData → Prop} (h : EAR tr σ H L) (i : ∀ d, L d → L2 d) : EAR tr σ H L2 := fun H1 e Q q => h H1 e Q fun v H2 d r => q v H2 d (i d r)
theorem er_tup (h : EAR tr σ H L) (hl : ∀ ds, L ds → ds.length ≤ 100000) : EvR (tTup tr) σ H (fun d => ∃ ds, L ds ∧ d = .tuple ds) := fun H1 e Q q =>
  h H1 e _ fun vs H2 ds r e2 hvs => ⟨sz_of (by rw [hvs.len]; exact hl ds r), fun p hp => q (.ref p) _ (.tuple ds) ⟨ds, r, rfl⟩ (e2.trans (Ex.new hp)) (.tup upd_same (TdAll.tx (Tx.of (Ex.new hp)) _ _ hvs))⟩
theorem erl_lst (h : EAR tr σ H L) (hl : ∀ ds, L ds → ds.length ≤ 100000) : EvRL (tLst tr) σ H L := fun H1 e Q q =>
  h H1 e _ fun vs H2 ds r e2 hvs => ⟨sz_of (by rw [hvs.len]; exact hl ds r), fun p hp => q p _ vs ds r (fresh_back e2 hp) (e2.trans (Ex.new hp)) upd_same (TdAll.tx (Tx.of (Ex.new hp)) _ _ hvs)⟩
theorem er_if {b : Bool} (h : EvT t σ H b) (h1 : b = true → EvR ta σ H R) (h2 : b = false → EvR tb σ H R) : EvR (tIf t ta tb) σ H R := fun H1 e Q q => h H1 e _ fun H2 e2 => by
  cases b with
  | true =>
    show ta σ H2 Q
    exact h1 rfl H2 (e.trans e2) Q fun v H3 d r e3 => q v H3 d r (e2.trans e3)
  | false =>
    show tb σ H2 Q
    exact h2 rfl H2 (e.trans e2) Q fun v H3 d r e3 => q v H3 d r (e2.trans e3)
theorem er_tupleOf (h : EvRL te σ H L) : EvR (tCB (fun xs H Q => ∃ p ys, xs = [.ref p] ∧ ((SqL K H p ys ∧ ∀ l, H l = none → Q (.ref l) (upd H l (.tup ys))) ∨ (SqT K H p ys ∧ Q (.ref p) H))) (tCons te tNil)) σ H (fun d => ∃ ds, L ds ∧ d = .tuple ds) := fun H1 e Q q =>
  h H1 e _ fun l H2 vs ds r hl e2 hl2 hvs => ⟨l, vs, rfl, .inl ⟨sq_of hl2, fun c hc => q _ _ _ ⟨ds, r, rfl⟩ (e2.trans (Ex.new hc)) (.tup upd_same (TdAll.tx (Tx.of (Ex.new hc)) _ _ hvs))⟩⟩
/-- (a, b, ..) + e[k:] -/
theorem er_catSl {k : Nat} {ds1 : List PyData} (h : EAD tr σ H ds1) (he : EvR te σ H R) (hR : ∀ d, R d → ∃ es, d = .tuple es ∧ k < es.length ∧ es.length ≤ 100) (hk : 0 < k) (h1 : ds1 ≠ []) (hl1 : ds1.length ≤ 100) :
    EvR (tOp (rCatA K) (tTup tr) (tSl (rSlA K) te (tPart (tC (.int (k : Int)))) tNoPart)) σ H (fun d => ∃ es, R (.tuple es) ∧ d = .tuple (ds1 ++ es.drop k)) := fun H1 e Q q => h H1 e _ fun vs H2 e2 hvs => ⟨sz_of (by rw [hvs.len]; omega), fun pa hpa => by
  have e3 := Ex.new (o := HO.tup vs) hpa
  refine he _ ((e.trans e2).trans e3) _ fun v H4 d r e4 hv => ?_
  obtain ⟨es, rfl, hkl, hl⟩ := hR d r
  refine ⟨(k : Int), rfl, ?_⟩
  cases hv with
  | @tup ea xs _ hx1 hx2 =>
    have hxl := hx2.len
    have h2 : HT.sIx xs.length 0 (some (k : Int)) = k := by
      rw [HT.sIx_nat]
      omega
    refine ⟨ea, xs, rfl, st_of hx1, fun z => ?_, fun _ pb hpb => ?_⟩
    · exfalso
      have := z.1
      rw [h2] at this
      omega
    · rw [cutV_from (by omega)] at *
      have e5 := Ex.new (o := HO.tup (xs.drop k)) hpb
      have hvs5 := TdAll.tx (Tx.of ((e3.trans e4).trans e5)) _ _ hvs
      have hd5 := td_drop (n := k) (TdAll.tx (Tx.of e5) _ _ hx2)
      have ne1 : vs ≠ [] := fun z => h1 (by
        rw [z] at hvs
        cases hvs
        rfl)
      have ne2 : xs.drop k ≠ [] := fun z => by
        have := congrArg List.length z
        rw [List.length_drop] at this
        simp at this
        omega
      refine ⟨pa, pb, vs, xs.drop k, rfl, rfl, st_of (e5 _ _ (e4 _ _ upd_same)), st_of upd_same, sz_of (by
        rw [List.length_drop, hvs.len]
        omega), fun z => absurd z ne1, fun _ z => absurd z ne2, fun _ _ pc hpc => ?_⟩
      have e6 := Ex.new (o := HO.tup (vs ++ xs.drop k)) hpc
      exact q _ _ _ ⟨es, r, rfl⟩ ((((e2.trans e3).trans e4).trans e5).trans e6) (.tup upd_same (TdAll.tx (Tx.of e6) _ _ (hvs5.app hd5)))⟩
theorem q_asgR {i : Nat} (h : EvR te σ H R) (k : ∀ v H1 d, R d → Ex H H1 → Td H1 v d → tz D (σ.set i (some v)) H1) : tSeq (tAsg te (gName i)) tz D σ H := h H (Ex.refl H) _ k
theorem q_asgRL {i : Nat} (h : EvRL te σ H L) (k : ∀ p H1 vs ds, L ds → H p = none → Ex H H1 → H1 p = some (.lst vs) → TdAll H1 vs ds → tz D (σ.set i (some (.ref p))) H1) : tSeq (tAsg te (gName i)) tz D σ H := h H (Ex.refl H) _ k
theorem s_retR (h : EvR te σ H R) (k : ∀ v H1 d, R d → Ex H H1 → Td H1 v d → D.rt v H1) : tRet te D σ H := h H (Ex.refl H) _ k
/-- lists of texts -/
theorem els_new {ts : List (List Nat)} {Pt : List (List Nat) → Prop} (h : EvLT te σ H ts) (p : Pt ts) : EvLs te σ H Pt := fun H1 e Q q => h H1 e Q fun l H2 _ e2 hl => q l H2 ts p e2 hl
theorem els_at {l : Addr} {ts : List (List Nat)} {Pt : List (List Nat) → Prop} (h : Ev te σ H (.ref l)) (hl : H l = some (.lst (ts.map fun z => V.str (S z)))) (p : Pt ts) : EvLs te σ H Pt := fun H1 e Q q => h H1 e Q fun H2 e2 => q l H2 ts p e2 ((e.trans e2) _ _ hl)
theorem els_if {b : Bool} {Pt : List (List Nat) → Prop} (h : EvT t σ H b) (h1 : b = true → EvLs ta σ H Pt) (h2 : b = false → EvLs tb σ H Pt) : EvLs (tIf t ta tb) σ H Pt := fun H1 e Q q => h H1 e _ fun H2 e2 => by
  cases b with
  | true =>
    show ta σ H2 Q
    exact h1 rfl H2 (e.trans e2) Q fun p H3 ts r e3 => q p H3 ts r (e2.trans e3)
  | false =>
    show tb σ H2 Q
    exact h2 rfl H2 (e.trans e2) Q fun p H3 ts r e3 => q p H3 ts r (e2.trans e3)
/-- [x for x in xs if ..] over a list of data -/
theorem edl_filter {a : Addr} {xs : List V} {ds : List PyData} {j : Nat} {vs : List Nat} (p : PyData → Bool) (h : Ev tl σ H (.ref a)) (hx : H a = some (.lst xs)) (hT : TdAll H xs ds) (hz : ds.length ≤ 40000) (hw : ∀ x, wipe ((wipe σ vs).set j (some x)) vs = wipe σ vs) (hj : ∀ x, ((wipe σ vs).set j (some x))[j]? = some (some x))
    (ht : ∀ (x : V) (d : PyData) H1, Ex H H1 → d ∈ ds → Td H1 x d → EvT t ((wipe σ vs).set j (some x)) H1 (p d)) : EvDL (tLc (iList K tl) (gName j) t (tVar j) vs) σ H (ds.filter p) := fun H0 e Q q => h H0 e _ fun H1 e1 => ⟨a, rfl, ⟨xs, sq_of ((e.trans e1) _ _ hx)⟩, fun Dl hD => by
  have hx1 := (e.trans e1) _ _ hx
  have hT1 := TdAll.tx (Tx.of (e.trans e1)) _ _ hT
  refine lc_it (walk_list (K := K) (a := a) (xs := xs)) (fun i H' => ∃ acc, Ex H1 H' ∧ H' Dl = some (.lst acc) ∧ TdAll H' acc ((ds.take i).filter p)) ⟨[], Ex.new hD, upd_same, .nil⟩ (fun _ H' _ ⟨_, e2, _⟩ => sq_of (e2 _ _ hx1)) ?_ ?_
  · rintro i x H2 H3 hi ⟨acc, e2, hDl, hA⟩ ⟨rfl, hxi⟩
    refine ⟨hw x, ?_⟩
    have hlen := hT1.len
    have hi2 : i < ds.length := by omega
    have hd : ds[i]? = some ds[i] := List.getElem?_eq_getElem hi2
    obtain ⟨v, hv, hTv⟩ := td_get hT1 hd
    rw [hxi] at hv
    cases hv
    have hal : acc.length ≤ ds.length := by
      have := List.length_filter_le p (ds.take i)
      rw [List.length_take] at this
      have := hA.len
      omega
    refine ht x ds[i] H3 ((e.trans e1).trans e2) (List.getElem_mem hi2) (Td.tx (Tx.of e2) _ _ hTv) H3 (Ex.refl _) _ fun H4 e4 => ?_
    have tk : (ds.take (i + 1)).filter p = (ds.take i).filter p ++ if p ds[i] = true then [ds[i]] else [] := by
      rw [List.take_succ, hd, List.filter_append]
      congr 1
      show List.filter p [ds[i]] = _
      rw [List.filter_cons]
      rfl
    cases hp : p ds[i] with
    | false =>
      rw [if_neg (by decide)]
      refine ⟨acc, e2.trans e4, e4 _ _ hDl, ?_⟩
      rw [tk, hp, if_neg (by decide), List.append_nil]
      exact TdAll.tx (Tx.of e4) _ _ hA
    | true =>
      rw [if_pos rfl]
      refine ev_var (hj x) H4 (Ex.refl _) _ fun H5 e5 => ⟨acc, e5 _ _ (e4 _ _ hDl), sz_lt (by omega), acc ++ [x], Ex.mut ((e2.trans e4).trans e5) hD, upd_same, ?_⟩
      rw [tk, hp, if_pos rfl]
      have tx : Tx H5 (upd H5 Dl (.lst (acc ++ [x]))) := Tx.lst (e5 _ _ (e4 _ _ hDl))
      exact (TdAll.tx ((Tx.of (e4.trans e5)).trans tx) _ _ hA).snoc (Td.tx ((Tx.of ((e2.trans e4).trans e5)).trans tx) _ _ hTv)
  · rintro H2 ⟨acc, e2, hDl, hA⟩
    rw [hT1.len, List.take_length] at hA
    exact q Dl H2 acc (fresh_back e1 hD) (e1.trans e2) hDl hA⟩
/-- [e for x in t] over a tuple of data -/
theorem erl_lcT {a : Addr} {xs : List V} {ds : List PyData} {j : Nat} {vs : List Nat} (h : Ev tl σ H (.ref a)) (hx : H a = some (.tup xs)) (hT : TdAll H xs ds) (hz : ds.length ≤ 40000) (hw : ∀ x, wipe ((wipe σ vs).set j (some x)) vs = wipe σ vs)
    (he : ∀ (x : V) (d : PyData) H1, Ex H H1 → d ∈ ds → Td H1 x d → EvR te ((wipe σ vs).set j (some x)) H1 R) : EvRL (tLc (iTup K tl) (gName j) tYes te vs) σ H (fun es => es.length = ds.length ∧ ∀ d ∈ es, R d) := fun H0 e Q q => h H0 e _ fun H1 e1 => ⟨a, rfl, ⟨xs, st_of ((e.trans e1) _ _ hx)⟩, fun Dl hD => by
  have hx1 := (e.trans e1) _ _ hx
  have hT1 := TdAll.tx (Tx.of (e.trans e1)) _ _ hT
  refine lc_it (walk_tup (K := K) (a := a) (xs := xs)) (fun i H' => ∃ acc es, Ex H1 H' ∧ H' Dl = some (.lst acc) ∧ TdAll H' acc es ∧ es.length = i ∧ ∀ d ∈ es, R d) ⟨[], [], Ex.new hD, upd_same, .nil, rfl, fun _ h => by cases h⟩ (fun _ H' _ ⟨_, _, e2, _⟩ => st_of (e2 _ _ hx1)) ?_ ?_
  · rintro i x H2 H3 hi ⟨acc, es, e2, hDl, hA, hes, hR⟩ ⟨rfl, hxi⟩
    refine ⟨hw x, ?_⟩
    have hlen := hT1.len
    have hi2 : i < ds.length := by omega
    have hd : ds[i]? = some ds[i] := List.getElem?_eq_getElem hi2
    obtain ⟨v, hv, hTv⟩ := td_get hT1 hd
    rw [hxi] at hv
    cases hv
    show te ((wipe σ vs).set j (some x)) H3 _
    refine he x ds[i] H3 ((e.trans e1).trans e2) (List.getElem_mem hi2) (Td.tx (Tx.of e2) _ _ hTv) H3 (Ex.refl _) _ fun y H4 d r e4 hy => ?_
    have hal := hA.len
    refine ⟨acc, e4 _ _ hDl, sz_lt (by omega), acc ++ [y], es ++ [d], Ex.mut (e2.trans e4) hD, upd_same, ?_, by rw [List.length_append, hes] <;> rfl, fun d2 hd2 => ?_⟩
    · have tx : Tx H4 (upd H4 Dl (.lst (acc ++ [y]))) := Tx.lst (e4 _ _ hDl)
      exact (TdAll.tx ((Tx.of e4).trans tx) _ _ hA).snoc (Td.tx tx _ _ hy)
    · rcases List.mem_append.mp hd2 with z | z
      · exact hR d2 z
      · rw [List.mem_singleton.mp z]
        exact r
  · rintro H2 ⟨acc, es, e2, hDl, hA, hes, hR⟩
    exact q Dl H2 acc es ⟨by rw [hes, hT1.len], hR⟩ (fresh_back e1 hD) (e1.trans e2) hDl hA⟩
/-- {k1: v1, k2: v2}[k] -/
theorem ev_disp2 {k1 k2 k : Str} {v1 v2 v : V} (hne : k1 ≠ k2) (hb : Ev tb σ H (.str k)) (hv : (k = k1 ∧ v = v1) ∨ (k = k2 ∧ v = v2)) : Ev (tDGet (tDisp [(tC (.str k1), tC v1), (tC (.str k2), tC v2)]) tb) σ H v := fun H1 e Q q => fun p hp => by
  refine ⟨upd_same, [(Sum.inr k1, v1), (Sum.inr k2, v2)], rfl, by show 2 ≤ 15; decide, ?_⟩
  have hne2 : ¬ (Sum.inr k1 : Key) = Sum.inr k2 := fun z => hne (Sum.inr.inj z)
  have hm : mergeK [] [((Sum.inr k1 : Key), v1), (Sum.inr k2, v2)] = [(Sum.inr k1, v1), (Sum.inr k2, v2)] := by
    unfold mergeK
    simp only [List.foldl_cons, List.foldl_nil, putK, List.any_nil, List.any_cons, Bool.or_false, Bool.false_eq_true, if_false, List.nil_append, decide_eq_true_eq, hne2, List.cons_append, Bool.or_self, decide_false]
  have e1 : Ex H1 (upd (upd H1 p (.dK [])) p (.dK (mergeK [] [((Sum.inr k1 : Key), v1), (Sum.inr k2, v2)]))) := Ex.mut (Ex.new hp) hp
  refine hb _ (e.trans e1) _ fun H2 e2 => ⟨p, v, rfl, ?_, q H2 (e1.trans e2)⟩
  have g := DGet.k (k := (Sum.inr k : Key)) (e2 p _ upd_same)
  rw [hm] at g
  rcases hv with ⟨rfl, rfl⟩ | ⟨rfl, rfl⟩
  · rw [valV_pos (p := ((Sum.inr k : Key), v)) rfl] at g
    exact g
  · rw [valV_neg (p := ((Sum.inr k1 : Key), v1)) hne2, valV_pos (p := ((Sum.inr k : Key), v)) rfl] at g
    exact g
end
end Wt

set_option Elab.async false
set_option linter.all false
set_option maxRecDepth 100000
set_option maxHeartbeats 4000000
/-! What the top leaves, as it is looked at. -/
namespace Wt
open PySem PySem.Spec PyProof.Rows L2 SX Evl
def absS : Value → Option (List Nat)
  | .str x _ => some x.cps.toList
  | _ => none
theorem vals_abs : ∀ (us : List Value) (ws : List (List Nat)), us.map absS = ws.map some → Vals (ws.map fun z => V.str (S z)) us
  | [], [], _ => .nil
  | [], _ :: _, h => by cases h
  | _ :: _, [], h => by cases h
  | u :: us, w :: ws, h => by
    rw [List.map_cons, List.map_cons] at h
    injection h with h1 h2
    refine .cons ?_ (vals_abs us ws h2)
    cases u with
    | str x t =>
      have e : x.cps.toList = w := Option.some.inj h1
      subst e
      exact ⟨t, by rw [S_tl]⟩
    | _ => cases h1
theorem tup_written {K : PySem.W.Frag} {a : Addr} {od : Option Addr} {its : Array Value} {n : Nat} {sl : Array (Option Value)} {ws : List (List Nat)} (l : K.lookup a = some ⟨.type "tuple", od, .seq its n, sl⟩) (v : its.toList.map absS = ws.map some) (hl : ws.length ≤ 1000) (H : Hp) :
    SqT K H a (ws.map fun z => V.str (S z)) := by
  have r := vals_abs _ _ v
  refine .inr ⟨_, its, n, l, rfl, rfl, ?_, r⟩
  have e := r.length
  rw [List.length_map] at e
  rw [← Array.length_toList, ← e]
  exact Nat.le_of_lt (small1000 hl)
theorem str_written {mg : Str → Option Value} {x y : Str} {t : Tok} {l : List Nat} (h : mg x = some (.str y t)) (e : y = S l) : ∃ u, mg x = some u ∧ RelV (.str (S l)) u := ⟨_, h, t, by rw [e]⟩
/-- a code object's table -/
def ptOf (K : PySem.W.Frag) (c : Addr) : Addr := match K.lookup c with
  | some ⟨_, _, .fields vs, _⟩ => match (vs[11]? : Option Value) with
    | some (.ref p) => p
    | _ => 0
  | _ => 0
theorem mem_elem {a : Addr} {l : List Addr} (h : l.elem a = true) : a ∈ l := List.elem_iff.mp h
end Wt

set_option Elab.async false
set_option linter.all false
set_option maxRecDepth 100000
set_option maxHeartbeats 4000000
/-! A row of words that is written word by word is read so. -/
namespace Wt
open PySem PySem.Spec PyProof.Rows L2 SX Evl

/-- a sign that makes a word longer -/
def lastL (w : List Nat) : Bool := w.getLast?.any isL
def lastF (w : List Nat) : Bool := w.getLast?.any isF
def cont (w : List Nat) (c : Nat) : Bool := (lastL w && isL c) || (lastF w && isF c) || (decide (w = [60]) && (decide (c = 61) || decide (c = 62)))
def Bnd (w rest : List Nat) : Prop := ∀ c r, rest = c :: r → cont w c = false
inductive Good : List Nat → List Nat → Prop
  | name {w : List Nat} (a : w.all isL = true) (n : w ≠ []) (l : w.length ≤ 6) (o : w ∉ owns) : Good kName w
  | own {w : List Nat} (o : w ∈ owns) : Good kOwn w
  | num {w : List Nat} (a : w.all isF = true) (n : w ≠ []) (l : w.length ≤ 6) (z : w.headD 0 = 48 → w = [48]) : Good kNum w
  | sign {w : List Nat} (s : w ∈ signs) : Good kSign w

theorem owns_let : ∀ w ∈ owns, w.all isL = true ∧ w ≠ [] ∧ w.length ≤ 6 := by decide +kernel
theorem isL_isF : ∀ c, isL c = true → isF c = false := by
  intro c h
  unfold isL at h
  unfold isF
  have h1 := of_decide_eq_true h
  have : ∀ c ∈ letters, c ∉ figures := by decide +kernel
  exact decide_eq_false (this c h1)
theorem isF_isL (c : Nat) (h : isF c = true) : isL c = false := by
  cases h2 : isL c with
  | false => rfl
  | true =>
    rw [isL_isF c h2] at h
    cases h
theorem isL_32 : isL 32 = false := by decide +kernel
theorem isF_32 : isF 32 = false := by decide +kernel
theorem cont_32 (w : List Nat) : cont w 32 = false := by
  unfold cont
  rw [isL_32, isF_32]
  simp
theorem takeWhile_app {p : Nat → Bool} : ∀ {w rest : List Nat}, w.all p = true → (∀ c r, rest = c :: r → p c = false) → (w ++ rest).takeWhile p = w
  | [], [], _, _ => rfl
  | [], c :: r, _, h => by
    rw [List.nil_append, List.takeWhile_cons, if_neg (by rw [h c r rfl]; exact Bool.false_ne_true)]
  | c :: w, rest, a, h => by
    rw [List.all_cons, Bool.and_eq_true] at a
    rw [List.cons_append, List.takeWhile_cons, if_pos a.1, takeWhile_app a.2 h]
theorem last_all {p : Nat → Bool} : ∀ {w : List Nat}, w ≠ [] → w.all p = true → w.getLast?.any p = true
  | [], h, _ => absurd rfl h
  | [c], _, a => by
    rw [List.all_cons, Bool.and_eq_true] at a
    exact a.1
  | c :: d :: w, _, a => by
    rw [List.all_cons, Bool.and_eq_true] at a
    rw [List.getLast?_cons_cons]
    exact last_all (List.cons_ne_nil _ _) a.2
theorem wordAt_let {w rest : List Nat} (a : w.all isL = true) (n : w ≠ []) (b : Bnd w rest) : wordAt (w ++ rest) = w := by
  obtain ⟨c, r, rfl⟩ : ∃ c r, w = c :: r := by
    cases w with
    | nil => exact absurd rfl n
    | cons c r => exact ⟨c, r, rfl⟩
  have hc : isL c = true := by
    rw [List.all_cons, Bool.and_eq_true] at a
    exact a.1
  rw [List.cons_append, wordAt_cons, if_pos hc, ← List.cons_append]
  refine takeWhile_app a fun d q e => ?_
  have z := b d q e
  unfold cont at z
  have l : lastL (c :: r) = true := last_all n a
  rw [l, Bool.true_and, Bool.or_eq_false_iff, Bool.or_eq_false_iff] at z
  exact z.1.1
theorem wordAt_fig {w rest : List Nat} (a : w.all isF = true) (n : w ≠ []) (b : Bnd w rest) : wordAt (w ++ rest) = w := by
  obtain ⟨c, r, rfl⟩ : ∃ c r, w = c :: r := by
    cases w with
    | nil => exact absurd rfl n
    | cons c r => exact ⟨c, r, rfl⟩
  have hc : isF c = true := by
    rw [List.all_cons, Bool.and_eq_true] at a
    exact a.1
  rw [List.cons_append, wordAt_cons, if_neg (by rw [isF_isL c hc]; exact Bool.false_ne_true), if_pos hc, ← List.cons_append]
  refine takeWhile_app a fun d q e => ?_
  have z := b d q e
  unfold cont at z
  have l : lastF (c :: r) = true := last_all n a
  rw [l, Bool.true_and, Bool.or_eq_false_iff, Bool.or_eq_false_iff] at z
  exact z.1.2
theorem wordAt_sign {w rest : List Nat} (s : w ∈ signs) (b : Bnd w rest) : wordAt (w ++ rest) = w := by
  have hw : ∀ w ∈ signs, w ≠ [] ∧ isL (w.headD 0) = false ∧ isF (w.headD 0) = false := by decide +kernel
  obtain ⟨h0, h1, h2⟩ := hw w s
  obtain ⟨c, r, rfl⟩ : ∃ c r, w = c :: r := by
    cases w with
    | nil => exact absurd rfl h0
    | cons c r => exact ⟨c, r, rfl⟩
  have h1' : isL c = false := h1
  have h2' : isF c = false := h2
  rw [List.cons_append, wordAt_cons, if_neg (by rw [h1']; exact Bool.false_ne_true), if_neg (by rw [h2']; exact Bool.false_ne_true), ← List.cons_append]
  unfold signs at s
  simp only [List.mem_cons, List.not_mem_nil, or_false] at s
  rcases s with e | e | e | e | e | e | e | e | e | e | e | e
  all_goals
    rw [e] at b ⊢
    cases rest with
    | nil => decide +kernel
    | cons d q =>
      first
        | (unfold signs; simp [List.find?]; done)
        | (have z := b d q rfl
           have z1 : ¬ d = 61 := fun y => by subst y; exact absurd z (by decide +kernel)
           have z2 : ¬ d = 62 := fun y => by subst y; exact absurd z (by decide +kernel)
           unfold signs; simp [List.find?, z1, z2])
theorem wordAt_good {k w rest : List Nat} (g : Good k w) (b : Bnd w rest) : wordAt (w ++ rest) = w := by
  cases g with
  | name a n l o => exact wordAt_let a n b
  | own o => exact wordAt_let (owns_let w o).1 (owns_let w o).2.1 b
  | num a n l z => exact wordAt_fig a n b
  | sign s => exact wordAt_sign s b
theorem signs_no : ∀ w ∈ signs, w ∉ owns := by decide +kernel
theorem head_all {p : Nat → Bool} {w : List Nat} (n : w ≠ []) (a : w.all p = true) : p (w.headD 0) = true := by
  cases w with
  | nil => exact absurd rfl n
  | cons c r =>
    rw [List.all_cons, Bool.and_eq_true] at a
    exact a.1
theorem signs_head : ∀ w ∈ signs, isL (w.headD 0) = false ∧ isF (w.headD 0) = false := by decide +kernel
theorem kind_good {k w : List Nat} (g : Good k w) : kindOf w = k := by
  unfold kindOf
  cases g with
  | name a n l o =>
    have hs : w ∉ signs := fun s => by
      have := (signs_head w s).1
      rw [head_all n a] at this
      cases this
    rw [if_neg o, if_neg hs, if_neg (by rintro (z | z); exact n z; omega), if_pos (head_all n a)]
  | own o => rw [if_pos o]
  | num a n l z =>
    have hs : w ∉ signs := fun s => by
      have := (signs_head w s).2
      rw [head_all n a] at this
      cases this
    have ho : w ∉ owns := fun o => by
      have := isL_isF _ (head_all n (owns_let w o).1)
      rw [head_all n a] at this
      cases this
    rw [if_neg ho, if_neg hs, if_neg (by rintro (z | z); exact n z; omega), if_neg (by rw [isF_isL _ (head_all n a)]; exact Bool.false_ne_true), if_neg]
    rintro ⟨z1, z2⟩
    rw [z z1] at z2
    exact absurd z2 (by decide)
  | sign s => rw [if_neg (signs_no w s), if_pos s]
theorem good_ne {k w : List Nat} (g : Good k w) : w ≠ [] := by
  cases g with
  | name a n l o => exact n
  | own o => exact (owns_let w o).2.1
  | num a n l z => exact n
  | sign s =>
    have : ∀ w ∈ signs, w ≠ [] := by decide +kernel
    exact this w s
theorem good_len {k w : List Nat} (g : Good k w) : w.length ≤ 6 := by
  cases g with
  | name a n l o => exact l
  | own o => exact (owns_let w o).2.2
  | num a n l z => exact l
  | sign s =>
    have : ∀ w ∈ signs, w.length ≤ 6 := by decide +kernel
    exact this w s
/-- no remark, no line end, no blank within -/
theorem good_plain {k w : List Nat} (g : Good k w) : 35 ∉ w ∧ 10 ∉ w ∧ 32 ∉ w := by
  have hl : ∀ w : List Nat, w.all isL = true → 35 ∉ w ∧ 10 ∉ w ∧ 32 ∉ w := fun w a =>
    ⟨fun h => absurd (List.all_eq_true.mp a 35 h) (by decide +kernel), fun h => absurd (List.all_eq_true.mp a 10 h) (by decide +kernel), fun h => absurd (List.all_eq_true.mp a 32 h) (by decide +kernel)⟩
  have hf : ∀ w : List Nat, w.all isF = true → 35 ∉ w ∧ 10 ∉ w ∧ 32 ∉ w := fun w a =>
    ⟨fun h => absurd (List.all_eq_true.mp a 35 h) (by decide +kernel), fun h => absurd (List.all_eq_true.mp a 10 h) (by decide +kernel), fun h => absurd (List.all_eq_true.mp a 32 h) (by decide +kernel)⟩
  cases g with
  | name a n l o => exact hl w a
  | own o => exact hl w (owns_let w o).1
  | num a n l z => exact hf w a
  | sign s =>
    have : ∀ w ∈ signs, 35 ∉ w ∧ 10 ∉ w ∧ 32 ∉ w := by decide +kernel
    exact this w s
theorem kinds_ne {k w : List Nat} (g : Good k w) : k ≠ [] := by
  cases g <;> decide
theorem good_head {k w : List Nat} (g : Good k w) : ∃ c r, w = c :: r ∧ c ≠ 32 := by
  have h := good_ne g
  cases w with
  | nil => exact absurd rfl h
  | cons c r => exact ⟨c, r, rfl, fun e => (good_plain g).2.2 (e ▸ List.mem_cons_self ..)⟩

/-! ### the row so far -/
/-- r is a row's beginning that holds the words ds, the last one is last -/
structure PL (r : List Nat) (ds : List Word) (last : List Nat) : Prop where
  plain : 35 ∉ r ∧ 10 ∉ r
  lex : ∀ rest, Bnd last rest → lexR 0 (r ++ rest) = (ds ++ (lexR r.length rest).1, (lexR r.length rest).2)
theorem pl_start : PL [] [] [] := ⟨⟨by simp, by simp⟩, fun rest _ => rfl⟩
theorem lexR_blanks : ∀ (g i : Nat) (l : List Nat), lexR i (List.replicate g 32 ++ l) = lexR (i + g) l
  | 0, i, l => rfl
  | g + 1, i, l => by
    rw [List.replicate_succ, List.cons_append, lexR_blank, lexR_blanks g (i + 1) l, show i + 1 + g = i + (g + 1) by omega]
theorem pl_step {r last k w : List Nat} {ds : List Word} {g : Nat} (p : PL r ds last) (gd : Good k w) (hg : g = 0 → ∀ c q, w = c :: q → cont last c = false) :
    PL (r ++ List.replicate g 32 ++ w) (ds ++ [(k, w, r.length + g + 1)]) w := by
  obtain ⟨p1, p2, p3⟩ := good_plain gd
  refine ⟨⟨?_, ?_⟩, fun rest b => ?_⟩
  · intro h
    rcases List.mem_append.mp h with h | h
    · rcases List.mem_append.mp h with h | h
      · exact p.plain.1 h
      · have := List.eq_of_mem_replicate h
        omega
    · exact p1 h
  · intro h
    rcases List.mem_append.mp h with h | h
    · rcases List.mem_append.mp h with h | h
      · exact p.plain.2 h
      · have := List.eq_of_mem_replicate h
        omega
    · exact p2 h
  · obtain ⟨c, q, ew, hc⟩ := good_head gd
    have hb : Bnd last (List.replicate g 32 ++ (w ++ rest)) := fun d s e => by
      cases g with
      | zero =>
        rw [List.replicate_zero, List.nil_append, ew, List.cons_append] at e
        injection e with e1 e2
        rw [← e1]
        exact hg rfl c q ew
      | succ g =>
        rw [List.replicate_succ, List.cons_append] at e
        injection e with e1 e2
        rw [← e1]
        exact cont_32 last
    have e0 : r ++ List.replicate g 32 ++ w ++ rest = r ++ (List.replicate g 32 ++ (w ++ rest)) := by rw [List.append_assoc, List.append_assoc]
    have hw : wordAt (w ++ rest) = w := wordAt_good gd b
    have hk : kindOf w = k := kind_good gd
    have hl : (r ++ List.replicate g 32 ++ w).length = r.length + g + w.length := by rw [List.length_append, List.length_append, List.length_replicate]
    have ec : w ++ rest = c :: (q ++ rest) := by rw [ew] <;> rfl
    have step : lexR (r.length + g) (w ++ rest) = ((k, w, r.length + g + 1) :: (lexR (r.length + g + w.length) rest).1, (lexR (r.length + g + w.length) rest).2) := by
      rw [ec, lexR_word hc (by rw [← ec, hw, hk]; exact kinds_ne gd), ← ec, hw, hk, List.drop_left]
    rw [e0, p.lex _ hb, lexR_blanks, step, hl, List.append_assoc] <;> rfl
/-- tails of rows, rows without words -/
theorem told_app {r t : List Nat} (h : 35 ∉ r) : told (r ++ t) = r ++ told t := by
  unfold told
  induction r with
  | nil => rfl
  | cons c r ih =>
    have hc : c ≠ 35 := fun e => h (e ▸ List.mem_cons_self ..)
    rw [List.cons_append, List.takeWhile_cons, if_pos (by simp [hc]), ih fun z => h (List.mem_cons_of_mem _ z)] <;> rfl
theorem pl_end {r last t : List Nat} {ds : List Word} (p : PL r ds last) {g : Nat} (ht : told t = List.replicate g 32) : lexRow (r ++ t) = (ds, none) := by
  rw [lexRow_R, told_app p.plain.1, ht]
  have hb : Bnd last (List.replicate g 32) := fun d s e => by
    cases g with
    | zero => cases e
    | succ g =>
      rw [List.replicate_succ] at e
      injection e with e1 e2
      rw [← e1]
      exact cont_32 last
  rw [p.lex _ hb]
  have e := lexR_blanks g r.length []
  rw [List.append_nil] at e
  rw [e, lexR_nil, List.append_nil]
/-- numbers -/
theorem numL_good {n : Nat} (h : n < 1000000) : Good kNum (TL.numL n) := by
  have hd := TL.numL_digits n
  refine .num ?_ (TL.numL_ne n) (TL.numL_len (by decide) (by simpa using h)) ?_
  · rw [List.all_eq_true]
    intro c hc
    obtain ⟨h1, h2⟩ := hd c hc
    unfold isF figures
    refine decide_eq_true ?_
    have : c = 48 ∨ c = 49 ∨ c = 50 ∨ c = 51 ∨ c = 52 ∨ c = 53 ∨ c = 54 ∨ c = 55 ∨ c = 56 ∨ c = 57 := by omega
    rcases this with e | e | e | e | e | e | e | e | e | e <;> subst e <;> decide
  · have key : ∀ n : Nat, (TL.numL n).headD 0 = 48 → n = 0 := fun n => by
      induction n using Nat.strongRecOn with
      | _ n ih =>
        intro hz
        by_cases hn : n < 10
        · rw [TL.numL_lt hn] at hz
          have : 48 + n = 48 := hz
          omega
        · rw [TL.numL_step (by omega)] at hz
          have hne := TL.numL_ne (n / 10)
          have hh : (TL.numL (n / 10) ++ [48 + n % 10]).headD 0 = (TL.numL (n / 10)).headD 0 := by
            cases hq : TL.numL (n / 10) with
            | nil => exact absurd hq hne
            | cons c r => rfl
          rw [hh] at hz
          have := ih (n / 10) (by omega) hz
          omega
    intro hz
    rw [key n hz]
    decide +kernel
end Wt

set_option Elab.async false
set_option linter.all false
set_option maxRecDepth 100000
set_option maxHeartbeats 4000000
/-! The reader of rows as plain functions: what is left of a row goes in; what was read and what is left, or the place of the fault, comes out. -/
namespace Wt
open PySem PySem.Spec PyProof.Rows L2 SX Evl

/-- a word: kind, word, row, column -/
abbrev Tk := List Nat × List Nat × Nat × Nat
abbrev Place := Nat × Nat
abbrev RP (α : Type) := List Tk → Except Place (α × List Tk)
def tkP (t : Tk) : Place := (t.2.2.1, t.2.2.2)
def placeD (p : Place) : PyData := .tuple [.int (p.1 : Int), .int (p.2 : Int)]
def tkD (t : Tk) : PyData := .tuple [.str (S t.1), .str (S t.2.1), placeD (tkP t)]
theorem wordD_tk (n : Nat) (w : Word) : wordD n w = tkD (w.1, w.2.1, n, w.2.2) := rfl
def wordH : List Tk → List Nat
  | [] => []
  | t :: _ => t.2.1
def kindH : List Tk → List Nat
  | [] => []
  | t :: _ => t.1
/-- the place behind the last word -/
def endP (ws : List Tk) : Place := match ws.getLast? with
  | none => (0, 0)
  | some t => (t.2.2.1, t.2.2.2 + t.2.1.length)
/-- where what is left begins -/
def spotP (fin : Place) : List Tk → Place
  | [] => fin
  | t :: _ => tkP t
def needP (fin : Place) (w : List Nat) : RP Place
  | [] => .error fin
  | t :: r => if t.2.1 = w then .ok (tkP t, r) else .error (tkP t)
def nameP (fin : Place) : RP (List Nat × Place)
  | [] => .error fin
  | t :: r => if t.1 = kName then .ok ((t.2.1, tkP t), r) else .error (tkP t)
def finishP (fin : Place) : RP Unit
  | [] => .ok ((), [])
  | t :: _ => .error (tkP t)

def oOr : List Nat := [111, 114]
def oAnd : List Nat := [97, 110, 100]
def oNot : List Nat := [110, 111, 116]
def oMod : List Nat := [109, 111, 100]
def oNeg : List Nat := [110, 101, 103]
def oYes : List Nat := [121, 101, 115]
def oNo : List Nat := [110, 111]
def oTruth : List Nat := [116, 114, 117, 116, 104]
def oCall : List Nat := [99, 97, 108, 108]
def sCmp : List (List Nat) := [[61], [60, 62], [60], [60, 61]]
def sSum : List (List Nat) := [[43], [45]]
def sProd : List (List Nat) := [[42], [47], oMod]
def node (k : List Nat) (p : Place) (xs : List PyData) : PyData := .tuple (.str (S k) :: placeD p :: xs)

/-- signs of one degree, from the left -/
def leftGo (signs : List (List Nat)) (p : RP PyData) : Nat → PyData → RP PyData
  | 0, tree, rest => .ok (tree, rest)
  | _ + 1, tree, [] => .ok (tree, [])
  | f + 1, tree, t :: r => if t.2.1 ∈ signs then match p r with
      | .error e => .error e
      | .ok (u, r2) => leftGo signs p f (node t.2.1 (tkP t) [tree, u]) r2
    else .ok (tree, t :: r)
def fromLeft (signs : List (List Nat)) (p : RP PyData) : RP PyData := fun rest => match p rest with
  | .error e => .error e
  | .ok (tree, r) => leftGo signs p r.length tree r
/-- what may stand within one level more -/
structure Lev where
  expr : RP PyData
  den : RP PyData
  neg : RP PyData
def pathP (fin : Place) : RP (Place × List Nat × List Nat) := fun rest => match nameP fin rest with
  | .error e => .error e
  | .ok ((first, place), r) => if wordH r ≠ [46] then .ok ((place, [], first), r) else match needP fin [46] r with
    | .error e => .error e
    | .ok (_, r2) => match nameP fin r2 with
      | .error e => .error e
      | .ok ((name, _), r3) => .ok ((place, first, name), r3)
def moreP (fin : Place) (p : RP PyData) : Nat → List PyData → RP (List PyData)
  | 0, ds, rest => .ok (ds, rest)
  | f + 1, ds, rest => if wordH rest = [44] then match needP fin [44] rest with
      | .error e => .error e
      | .ok (_, r) => match p r with
        | .error e => .error e
        | .ok (d, r2) => moreP fin p f (ds ++ [d]) r2
    else .ok (ds, rest)
def listP (fin : Place) (p : RP PyData) : RP (List PyData) := fun r => if wordH r ≠ [41] then match p r with
    | .error e => .error e
    | .ok (d, r2) => moreP fin p r2.length [d] r2
  else .ok ([], r)
def givenP (fin : Place) (b : Option Lev) : RP PyData := fun rest => match b with
  | none => .error (spotP fin rest)
  | some L => match needP fin [40] rest with
    | .error e => .error e
    | .ok (_, r) => match listP fin L.expr r with
      | .error e => .error e
      | .ok (ds, r3) => match needP fin [41] r3 with
        | .error e => .error e
        | .ok (_, r4) => .ok (.tuple ds, r4)
def namedP (fin : Place) (b : Option Lev) : RP PyData := fun rest => match pathP fin rest with
  | .error e => .error e
  | .ok ((place, file, name), r) => if wordH r ≠ [40] then .ok (node kName place [.str (S file), .str (S name)], r) else match givenP fin b r with
    | .error e => .error e
    | .ok (ds, r2) => .ok (node oCall place [.str (S file), .str (S name), ds], r2)
def bracketP (fin : Place) (b : Option Lev) : RP PyData := fun rest => match b with
  | none => .error (spotP fin rest)
  | some L => match needP fin [40] rest with
    | .error e => .error e
    | .ok (_, r) => match L.expr r with
      | .error e => .error e
      | .ok (d, r2) => match needP fin [41] r2 with
        | .error e => .error e
        | .ok (_, r3) => .ok (d, r3)
def singleP (fin : Place) (b : Option Lev) : RP PyData := fun rest => match rest with
  | [] => bracketP fin b []
  | t :: r => if t.1 = kNum then .ok (node kNum (tkP t) [.int ((NumText.digitsVal t.2.1 : Nat) : Int)], r) else if t.1 = kName then namedP fin b (t :: r) else
    if t.2.1 = oYes ∨ t.2.1 = oNo then .ok (node oTruth (tkP t) [.bool (decide (t.2.1 = oYes))], r) else bracketP fin b (t :: r)
def negP (fin : Place) (b : Option Lev) : RP PyData := fun rest => if wordH rest ≠ [45] then singleP fin b rest else match b with
  | none => .error (spotP fin rest)
  | some L => match needP fin [45] rest with
    | .error e => .error e
    | .ok (pl, r) => match L.neg r with
      | .error e => .error e
      | .ok (d, r2) => .ok (node oNeg pl [d], r2)
def prodP (fin : Place) (b : Option Lev) : RP PyData := fromLeft sProd (negP fin b)
def sumP (fin : Place) (b : Option Lev) : RP PyData := fromLeft sSum (prodP fin b)
def cmpP (fin : Place) (b : Option Lev) : RP PyData := fun rest => match sumP fin b rest with
  | .error e => .error e
  | .ok (d, []) => .ok (d, [])
  | .ok (d, t :: r) => if t.2.1 ∈ sCmp then match sumP fin b r with
      | .error e => .error e
      | .ok (u, r2) => .ok (node t.2.1 (tkP t) [d, u], r2)
    else .ok (d, t :: r)
def denP (fin : Place) (b : Option Lev) : RP PyData := fun rest => if wordH rest ≠ oNot then cmpP fin b rest else match b with
  | none => .error (spotP fin rest)
  | some L => match needP fin oNot rest with
    | .error e => .error e
    | .ok (pl, r) => match L.den r with
      | .error e => .error e
      | .ok (d, r2) => .ok (node oNot pl [d], r2)
def bothP (fin : Place) (b : Option Lev) : RP PyData := fromLeft [oAnd] (denP fin b)
def exprP (fin : Place) (b : Option Lev) : RP PyData := fromLeft [oOr] (bothP fin b)
def levP (fin : Place) : Nat → Lev
  | 0 => ⟨exprP fin none, denP fin none, negP fin none⟩
  | n + 1 => ⟨exprP fin (some (levP fin n)), denP fin (some (levP fin n)), negP fin (some (levP fin n))⟩
def lowP (fin : Place) : Nat → Option Lev
  | 0 => none
  | n + 1 => some (levP fin n)
theorem levP_low (fin : Place) (n : Nat) : levP fin n = ⟨exprP fin (lowP fin n), denP fin (lowP fin n), negP fin (lowP fin n)⟩ := by cases n <;> rfl
end Wt

set_option Elab.async false
set_option linter.all false
set_option maxRecDepth 100000
set_option maxHeartbeats 4000000
/-! Words by their rows: the plain functions. -/
namespace Wt
open PySem PySem.Spec PyProof.Rows L2 SX Evl
def tkOf (n : Nat) (w : Word) : Tk := (w.1, w.2.1, n, w.2.2)
def rowT (n : Nat) (row : List Nat) : List Tk := (lexRow row).1.map (tkOf n)
def allT : Nat → List (List Nat) → List Tk
  | _, [] => []
  | n, r :: rs => rowT n r ++ allT (n + 1) rs
theorem rowT_D (n : Nat) (row : List Nat) : (lexRow row).1.map (wordD n) = (rowT n row).map tkD := by
  unfold rowT
  rw [List.map_map] <;> rfl
theorem allD_T : ∀ (n : Nat) (rows : List (List Nat)), allD n rows = (allT n rows).map tkD
  | _, [] => rfl
  | n, r :: rs => by
    show (lexRow r).1.map (wordD n) ++ allD (n + 1) rs = (rowT n r ++ allT (n + 1) rs).map tkD
    rw [List.map_append, ← rowT_D, allD_T (n + 1) rs]
/-- rows that have words -/
def groups : Nat → List (List Nat) → List (Nat × List Tk)
  | _, [] => []
  | n, r :: rs => if rowT n r = [] then groups (n + 1) rs else (n, rowT n r) :: groups (n + 1) rs
/-- a word into its row -/
def addT (gs : List (Nat × List Tk)) (t : Tk) : List (Nat × List Tk) :=
  if gs.any (fun g => decide (g.1 = t.2.2.1)) = true then gs.map (fun g => if g.1 = t.2.2.1 then (g.1, g.2 ++ [t]) else g) else gs ++ [(t.2.2.1, [t])]
theorem addT_new {gs : List (Nat × List Tk)} {t : Tk} {n : Nat} (hn : t.2.2.1 = n) (h : ∀ g ∈ gs, g.1 < n) : addT gs t = gs ++ [(n, [t])] := by
  unfold addT
  rw [hn, if_neg ?_]
  intro z
  rw [List.any_eq_true] at z
  obtain ⟨g, hg, e⟩ := z
  have := h g hg
  have := of_decide_eq_true e
  omega
theorem addT_last {gs : List (Nat × List Tk)} {t : Tk} {n : Nat} {ts : List Tk} (hn : t.2.2.1 = n) (h : ∀ g ∈ gs, g.1 < n) : addT (gs ++ [(n, ts)]) t = gs ++ [(n, ts ++ [t])] := by
  unfold addT
  rw [hn, if_pos (by rw [List.any_append]; simp), List.map_append]
  have e1 : gs.map (fun g => if g.1 = n then (g.1, g.2 ++ [t]) else g) = gs := (List.map_congr_left fun g hg => by
    have := h g hg
    rw [if_neg (by omega)]
    exact (id_eq g).symm).trans (List.map_id gs)
  rw [e1]
  show gs ++ [if n = n then (n, ts ++ [t]) else (n, ts)] = _
  rw [if_pos rfl]
theorem fold_last {n : Nat} : ∀ (ts : List Tk) (gs : List (Nat × List Tk)) (pre : List Tk), (∀ t ∈ ts, t.2.2.1 = n) → (∀ g ∈ gs, g.1 < n) → ts.foldl addT (gs ++ [(n, pre)]) = gs ++ [(n, pre ++ ts)]
  | [], gs, pre, _, _ => by rw [List.append_nil] <;> rfl
  | t :: ts, gs, pre, h1, h2 => by
    rw [List.foldl_cons, addT_last (h1 t (List.mem_cons_self ..)) h2, fold_last ts gs (pre ++ [t]) (fun x hx => h1 x (List.mem_cons_of_mem _ hx)) h2, List.append_assoc] <;> rfl
theorem rowT_n {n : Nat} {row : List Nat} : ∀ t ∈ rowT n row, t.2.2.1 = n := fun t ht => by
  unfold rowT at ht
  obtain ⟨w, _, rfl⟩ := List.mem_map.mp ht
  rfl
theorem fold_row {n : Nat} {row : List Nat} {gs : List (Nat × List Tk)} (h : ∀ g ∈ gs, g.1 < n) : (rowT n row).foldl addT gs = if rowT n row = [] then gs else gs ++ [(n, rowT n row)] := by
  have hn := rowT_n (n := n) (row := row)
  generalize rowT n row = ts at hn ⊢
  cases ts with
  | nil => rfl
  | cons t ts =>
    rw [if_neg (List.cons_ne_nil _ _), List.foldl_cons, addT_new (hn t (List.mem_cons_self ..)) h, fold_last ts gs [t] (fun x hx => hn x (List.mem_cons_of_mem _ hx)) h] <;> rfl
theorem fold_all : ∀ (n : Nat) (rows : List (List Nat)) (gs : List (Nat × List Tk)), (∀ g ∈ gs, g.1 < n) → (allT n rows).foldl addT gs = gs ++ groups n rows
  | _, [], gs, _ => (List.append_nil gs).symm
  | n, r :: rs, gs, h => by
    show (rowT n r ++ allT (n + 1) rs).foldl addT gs = gs ++ (if rowT n r = [] then groups (n + 1) rs else (n, rowT n r) :: groups (n + 1) rs)
    rw [List.foldl_append, fold_row h]
    by_cases hr : rowT n r = []
    · rw [if_pos hr, if_pos hr, fold_all (n + 1) rs gs fun g hg => Nat.lt_succ_of_lt (h g hg)]
    · rw [if_neg hr, if_neg hr, fold_all (n + 1) rs _ fun g hg => ?_, List.append_assoc]
      · rfl
      · rcases List.mem_append.mp hg with z | z
        · exact Nat.lt_succ_of_lt (h g z)
        · rw [List.mem_singleton.mp z]
          exact Nat.lt_succ_self n
/-- no more than sixty words stand in a row -/
def cutP (ts : List Tk) : List Tk := match ts.drop 60 with
  | [] => ts
  | t :: _ => ts.take 60 ++ [([], [], t.2.2.1, t.2.2.2)]
def pageP (rows : List (List Nat)) : List (List Tk) := (groups 1 rows).map fun g => cutP g.2
end Wt

set_option Elab.async false
set_option linter.all false
set_option maxRecDepth 100000
set_option maxHeartbeats 4000000
/-! The rows of a tree as plain functions. -/
namespace Wt
open PySem PySem.Spec PyProof.Rows L2 SX Evl
abbrev PP (α : Type) := List (List Tk) → Except Place (α × List (List Tk))
def oUse : List Nat := [117, 115, 101]
def oOut : List Nat := [111, 117, 116]
def oDef : List Nat := [100, 101, 102]
def oConst : List Nat := [99, 111, 110, 115, 116]
def oKeep : List Nat := [107, 101, 101, 112]
def oSet : List Nat := [115, 101, 116]
def oLet : List Nat := [108, 101, 116]
def oDo : List Nat := [100, 111]
def oGive : List Nat := [103, 105, 118, 101]
def oSay : List Nat := [115, 97, 121]
def oIf : List Nat := [105, 102]
def oWhile : List Nat := [119, 104, 105, 108, 101]
def oElse : List Nat := [101, 108, 115, 101]
def oEnd : List Nat := [101, 110, 100]
def kinds : List (List Nat) := [kNum, oYes]
def useP (fin : Place) : RP PyData := fun rest => match nameP fin rest with
  | .error e => .error e
  | .ok ((file, place), r) => .ok (.tuple [placeD place, .str (S file)], r)
def worthP (fin : Place) : RP PyData := fun rest => match exprP fin (lowP fin 8) rest with
  | .error e => .error e
  | .ok (d, r) => match finishP fin r with
    | .error e => .error e
    | .ok (_, r2) => .ok (d, r2)
def nworthP (fin : Place) : RP (Place × List Nat × PyData) := fun rest => match nameP fin rest with
  | .error e => .error e
  | .ok ((name, place), r) => match needP fin [61] r with
    | .error e => .error e
    | .ok (_, r2) => match worthP fin r2 with
      | .error e => .error e
      | .ok (d, r3) => .ok ((place, name, d), r3)
def kindP (fin : Place) (place : Place) (name : List Nat) : RP PyData
  | [] => .error fin
  | t :: r => if t.2.1 ∈ kinds then .ok (.tuple [placeD place, .str (S name), .str (S t.2.1)], r) else .error (tkP t)
def partP (fin : Place) : RP PyData := fun rest => match nameP fin rest with
  | .error e => .error e
  | .ok ((name, place), r) => kindP fin place name r
def partsGo (fin : Place) : Nat → List PyData → RP (List PyData)
  | 0, ds, rest => .ok (ds, rest)
  | f + 1, ds, rest => if wordH rest = [44] ∧ ds.length < 6 then match needP fin [44] rest with
      | .error e => .error e
      | .ok (_, r) => match partP fin r with
        | .error e => .error e
        | .ok (d, r2) => partsGo fin f (ds ++ [d]) r2
    else .ok (ds, rest)
def plistP (fin : Place) : RP (List PyData) := fun r => if wordH r ≠ [41] then match partP fin r with
    | .error e => .error e
    | .ok (d, r2) => partsGo fin r2.length [d] r2
  else .ok ([], r)
def partsP (fin : Place) : RP PyData := fun rest => match needP fin [40] rest with
  | .error e => .error e
  | .ok (_, r) => match plistP fin r with
    | .error e => .error e
    | .ok (ds, r2) => match needP fin [41] r2 with
      | .error e => .error e
      | .ok (_, r3) => .ok (.tuple ds, r3)
def callP (fin : Place) : RP PyData := fun rest => match pathP fin rest with
  | .error e => .error e
  | .ok ((place, file, name), r) => match givenP fin (lowP fin 8) r with
    | .error e => .error e
    | .ok (ds, r2) => .ok (node oCall place [.str (S file), .str (S name), ds], r2)
def plainP (wd : List Nat) (place : Place) (fin : Place) : RP PyData := fun rest =>
  if wd = oLet then match nworthP fin rest with
    | .error e => .error e
    | .ok ((pl, name, d), r) => .ok (.tuple [.str (S oLet), placeD pl, .str (S name), d], r)
  else if wd = oDo then match callP fin rest with
    | .error e => .error e
    | .ok (d, r) => match finishP fin r with
      | .error e => .error e
      | .ok (_, r2) => .ok (.tuple [.str (S oDo), placeD place, d], r2)
  else if wd = oGive ∧ rest = [] then .ok (.tuple [.str (S oGive), placeD place, .none], [])
  else match worthP fin rest with
    | .error e => .error e
    | .ok (d, r) => .ok (.tuple [.str (S wd), placeD place, d], r)
/-! ### pages -/
def pwordP : List (List Tk) → List Nat
  | [] => []
  | row :: _ => wordH row
def aloneP (bh : Place) (wd : List Nat) : PP Place
  | [] => .error bh
  | row :: pr => match needP (endP row) wd row with
    | .error e => .error e
    | .ok (pl, r) => match finishP (endP row) r with
      | .error e => .error e
      | .ok _ => .ok (pl, pr)
def rowsGo (p : PP PyData) : Nat → List PyData → PP (List PyData)
  | 0, ds, pg => .ok (ds, pg)
  | f + 1, ds, pg => if pwordP pg ∈ [oEnd, oElse] then .ok (ds, pg) else match p pg with
    | .error e => .error e
    | .ok (d, pg2) => rowsGo p f (ds ++ [d]) pg2
def rowsOf (p : PP PyData) : PP PyData := fun pg => match rowsGo p (pg.length + 1) [] pg with
  | .error e => .error e
  | .ok (ds, pg2) => .ok (.tuple ds, pg2)
def othersP (bh : Place) (inner : PP PyData) : PP PyData := fun pg => if pwordP pg = oElse then match aloneP bh oElse pg with
    | .error e => .error e
    | .ok (_, pg2) => inner pg2
  else .ok (.tuple [], pg)
def blockT (bh : Place) (inner : PP PyData) (fin : Place) : List Tk → PP PyData
  | [], _ => .error fin
  | t :: r, pr => match worthP fin r with
    | .error e => .error e
    | .ok (d, _) => match inner pr with
      | .error e => .error e
      | .ok (rows, pg2) => if t.2.1 = oWhile then match aloneP bh oEnd pg2 with
          | .error e => .error e
          | .ok (_, pg3) => .ok (.tuple [.str (S oWhile), placeD (tkP t), d, rows], pg3)
        else match othersP bh inner pg2 with
          | .error e => .error e
          | .ok (others, pg3) => match aloneP bh oEnd pg3 with
            | .error e => .error e
            | .ok (_, pg4) => .ok (.tuple [.str (S oIf), placeD (tkP t), d, rows, others], pg4)
def blockP (bh : Place) (inner : Option (PP PyData)) (row : List Tk) : PP PyData := fun pr => match inner with
  | none => .error (spotP (endP row) row)
  | some p => blockT bh p (endP row) row pr
def restP (fin : Place) : RP PyData
  | [] => .error fin
  | t :: r => if t.2.1 ∈ [oLet, oGive, oSay, oDo] then plainP t.2.1 (tkP t) fin r else .error (tkP t)
def rowP (bh : Place) (inner : Option (PP PyData)) : PP PyData
  | [] => .error bh
  | row :: pr => if kindH row = kName then match nworthP (endP row) row with
      | .error e => .error e
      | .ok ((pl, name, d), _) => .ok (.tuple [.str (S oSet), placeD pl, .str (S name), d], pr)
    else if wordH row ∈ [oIf, oWhile] then blockP bh inner row pr
    else match restP (endP row) row with
      | .error e => .error e
      | .ok (d, _) => .ok (d, pr)
def rowsL (bh : Place) : Nat → PP PyData
  | 0 => rowsOf (rowP bh none)
  | n + 1 => rowsOf (rowP bh (some (rowsL bh n)))
def kindQ : List Tk → List Nat × List Tk
  | [] => ([], [])
  | t :: r => if t.2.1 ∈ kinds then (t.2.1, r) else ([], t :: r)
def defP (bh : Place) (out : Bool) (fin : Place) (rest : List Tk) : PP PyData := fun pr => match needP fin oDef rest with
  | .error e => .error e
  | .ok (_, r) => match nameP fin r with
    | .error e => .error e
    | .ok ((name, place), r2) => match partsP fin r2 with
      | .error e => .error e
      | .ok (parts, r3) => match finishP fin (kindQ r3).2 with
        | .error e => .error e
        | .ok _ => match rowsL bh 6 pr with
          | .error e => .error e
          | .ok (rows, pg2) => match aloneP bh oEnd pg2 with
            | .error e => .error e
            | .ok (pl, pg3) => .ok (.tuple [.str (S oDef), placeD place, .bool out, .str (S name), parts, .str (S (kindQ r3).1), rows, placeD pl], pg3)
def toldT (out : Bool) (fin : Place) : RP PyData
  | [] => .error fin
  | t :: r => if t.2.1 ∈ [oConst, oKeep] then match nworthP fin r with
      | .error e => .error e
      | .ok ((pl, name, d), r2) => .ok (.tuple [.str (S t.2.1), placeD pl, .bool out, .str (S name), d], r2)
    else .error (tkP t)
def outQ (row : List Tk) : Bool × List Tk := if wordH row = oOut then (true, row.drop 1) else (false, row)
def toldP (bh : Place) : PP PyData
  | [] => .error bh
  | row :: pr => if wordH (outQ row).2 = oDef then defP bh (outQ row).1 (endP row) (outQ row).2 pr else match toldT (outQ row).1 (endP row) (outQ row).2 with
    | .error e => .error e
    | .ok (d, _) => .ok (d, pr)
def useGo (fin : Place) : Nat → List PyData → RP (List PyData)
  | 0, ds, rest => .ok (ds, rest)
  | f + 1, ds, rest => if wordH rest = [44] then match needP fin [44] rest with
      | .error e => .error e
      | .ok (_, r) => match useP fin r with
        | .error e => .error e
        | .ok (d, r2) => useGo fin f (ds ++ [d]) r2
    else .ok (ds, rest)
def useRow (ds : List PyData) (fin : Place) : RP (List PyData) := fun rest => match needP fin oUse rest with
  | .error e => .error e
  | .ok (_, r) => match useP fin r with
    | .error e => .error e
    | .ok (d, r2) => match useGo fin r2.length (ds ++ [d]) r2 with
      | .error e => .error e
      | .ok (ds2, r3) => match finishP fin r3 with
        | .error e => .error e
        | .ok (_, r4) => .ok (ds2, r4)
def usesGo (bh : Place) : Nat → List PyData → PP (List PyData)
  | 0, ds, pg => .ok (ds, pg)
  | f + 1, ds, pg => if pwordP pg = oUse then match pg with
      | [] => .error bh
      | row :: pr => match useRow ds (endP row) row with
        | .error e => .error e
        | .ok (ds2, _) => usesGo bh f ds2 pr
    else .ok (ds, pg)
def toldGo (bh : Place) : Nat → List PyData → PP (List PyData)
  | 0, ds, pg => .ok (ds, pg)
  | f + 1, ds, pg => if pwordP pg ≠ [] then match toldP bh pg with
      | .error e => .error e
      | .ok (d, pg2) => toldGo bh f (ds ++ [d]) pg2
    else .ok (ds, pg)
def treeP (bh : Place) (pg : List (List Tk)) : Except Place PyData := match usesGo bh pg.length [] pg with
  | .error e => .error e
  | .ok (us, pg2) => match toldGo bh pg2.length [] pg2 with
    | .error e => .error e
    | .ok (ds, _) => .ok (.tuple [.tuple us, .tuple ds])
def worthTree (bh : Place) (pg : List (List Tk)) : Except Place PyData := match pg with
  | [] => .error (1, 1)
  | row :: pr => if wordH row = [] then .error (1, 1) else match worthP (endP row) row with
    | .error e => .error e
    | .ok (d, _) => match pr with
      | [] => .ok d
      | row2 :: _ => if wordH row2 = [] then .ok d else .error (spotP (endP row2) row2)
end Wt

set_option Elab.async false
set_option linter.all false
set_option maxRecDepth 100000
set_option maxHeartbeats 4000000
/-! Expressions that are written word by word are read so. -/
namespace Wt
open PySem PySem.Spec PyProof.Rows L2 SX Evl
def lOr : List (List Nat) := [oOr]
def lAnd : List (List Nat) := [oAnd]
/-- the signs of a degree -/
def opsAt : Nat → List (List Nat)
  | 0 => [oOr]
  | 1 => [oAnd]
  | 3 => sCmp
  | 4 => sSum
  | 5 => sProd
  | _ => []
/-- words that a name or a number is not -/
def specW : List (List Nat) := [oOr, oAnd, oNot, oMod, oYes, oNo, [61], [60, 62], [60], [60, 61], [43], [45], [42], [47], [40], [41], [44], [46], []]
/-- what may follow what is read at a degree -/
def Fol (L : Nat) (rest : List Tk) : Prop := wordH rest ≠ [46] ∧ wordH rest ≠ [40] ∧ ∀ k, L ≤ k → k ≤ 5 → wordH rest ∉ opsAt k
theorem Fol.up {L M : Nat} {rest : List Tk} (h : Fol L rest) (e : L ≤ M) : Fol M rest := ⟨h.1, h.2.1, fun k h1 h2 => h.2.2 k (Nat.le_trans e h1) h2⟩
theorem fol_nil {L : Nat} : Fol L [] := ⟨by decide, by decide, fun k _ h => by
  have : ∀ k, k ≤ 5 → wordH ([] : List Tk) ∉ opsAt k := by decide
  exact this k h⟩
theorem fol_word {t : Tk} {r : List Tk} (h : t.2.1 ∈ [[41], [44]]) (L : Nat) : Fol L (t :: r) := by
  have h1 : ∀ w ∈ [[41], [44]], w ≠ [46] ∧ w ≠ [40] ∧ ∀ k, k ≤ 5 → w ∉ opsAt k := by decide
  obtain ⟨a, b, c⟩ := h1 _ h
  exact ⟨a, b, fun k _ hk => c k hk⟩
theorem fol_op {t : Tk} {r : List Tk} {L : Nat} (h : t.2.1 ∈ opsAt L) (hL : L ≤ 5) : Fol (L + 1) (t :: r) := by
  have h1 : ∀ L, L ≤ 5 → ∀ w ∈ opsAt L, w ≠ [46] ∧ w ≠ [40] ∧ ∀ k, k ≤ 5 → L + 1 ≤ k → w ∉ opsAt k := fun L hL => by
    have : L = 0 ∨ L = 1 ∨ L = 2 ∨ L = 3 ∨ L = 4 ∨ L = 5 := by omega
    rcases this with rfl | rfl | rfl | rfl | rfl | rfl <;> decide
  obtain ⟨a, b, c⟩ := h1 L hL _ h
  exact ⟨a, b, fun k h1 h2 => c k h2 h1⟩
/-- a name, or f.n -/
inductive PathW : List Tk → Place → List Nat → List Nat → Prop
  | one {t : Tk} (k : t.1 = kName) (s : t.2.1 ∉ specW) : PathW [t] (tkP t) [] t.2.1
  | two {t u v : Tk} (k : t.1 = kName) (s : t.2.1 ∉ specW) (p : u.2.1 = [46]) (k2 : v.1 = kName) (s2 : v.2.1 ∉ specW) : PathW [t, u, v] (tkP t) t.2.1 v.2.1
mutual
inductive Core : Nat → Nat → List Tk → PyData → Prop
  | num {m n : Nat} {t : Tk} (k : t.1 = kNum) (s : t.2.1 ∉ specW) (e : NumText.digitsVal t.2.1 = n) : Core 7 m [t] (node kNum (tkP t) [.int (n : Int)])
  | tru {m : Nat} {b : Bool} {t : Tk} (k : t.1 = kOwn) (e : t.2.1 = if b = true then oYes else oNo) : Core 7 m [t] (node oTruth (tkP t) [.bool b])
  | name {m : Nat} {ts : List Tk} {p : Place} {f n : List Nat} (h : PathW ts p f n) : Core 7 m ts (node kName p [.str (S f), .str (S n)])
  | call {m : Nat} {ts us : List Tk} {p : Place} {f n : List Nat} {ds : List PyData} {o c : Tk} (h : PathW ts p f n) (ho : o.2.1 = [40]) (hc : c.2.1 = [41]) (a : Args m us ds) : Core 7 (m + 1) (ts ++ o :: (us ++ [c])) (node oCall p [.str (S f), .str (S n), .tuple ds])
  | neg {m : Nat} {t : Tk} {ts : List Tk} {d : PyData} (e : t.2.1 = [45]) (h : Put 6 m ts d) : Core 6 (m + 1) (t :: ts) (node oNeg (tkP t) [d])
  | not {m : Nat} {t : Tk} {ts : List Tk} {d : PyData} (e : t.2.1 = oNot) (h : Put 2 m ts d) : Core 2 (m + 1) (t :: ts) (node oNot (tkP t) [d])
  | left {L m : Nat} {t : Tk} {ts us : List Tk} {d e : PyData} (hL : L ∈ [0, 1, 4, 5]) (s : t.2.1 ∈ opsAt L) (h : Put L m ts d) (g : Put (L + 1) m us e) : Core L m (ts ++ t :: us) (node t.2.1 (tkP t) [d, e])
  | cmp {m : Nat} {t : Tk} {ts us : List Tk} {d e : PyData} (s : t.2.1 ∈ sCmp) (h : Put 4 m ts d) (g : Put 4 m us e) : Core 3 m (ts ++ t :: us) (node t.2.1 (tkP t) [d, e])
inductive Put : Nat → Nat → List Tk → PyData → Prop
  | plain {L M m : Nat} {ts : List Tk} {d : PyData} (h : Core M m ts d) (e : L ≤ M) : Put L m ts d
  | brack {L M m : Nat} {ts : List Tk} {d : PyData} {o c : Tk} (ko : o.1 = kSign) (ho : o.2.1 = [40]) (hc : c.2.1 = [41]) (h : Core M m ts d) : Put L (m + 1) (o :: (ts ++ [c])) d
inductive Args : Nat → List Tk → List PyData → Prop
  | nil {m : Nat} : Args m [] []
  | one {m : Nat} {ts : List Tk} {d : PyData} (h : Put 0 m ts d) : Args m ts [d]
  | cons {m : Nat} {ts us : List Tk} {d : PyData} {ds : List PyData} {c : Tk} (a : Args m ts ds) (n : ds ≠ []) (hc : c.2.1 = [44]) (h : Put 0 m us d) : Args m (ts ++ c :: us) (ds ++ [d])
end
theorem Put.up {L M m : Nat} {ts : List Tk} {d : PyData} (h : Put M m ts d) (e : L ≤ M) : Put L m ts d := by
  cases h with
  | plain h e2 => exact .plain h (Nat.le_trans e e2)
  | brack k ho hc h => exact .brack k ho hc h
/-- where the first operand of a degree begins -/
theorem path_ne {ts : List Tk} {p : Place} {f n : List Nat} (h : PathW ts p f n) : ∃ t r, ts = t :: r ∧ t.1 = kName ∧ t.2.1 ∉ specW := by
  cases h with
  | one k s => exact ⟨_, _, rfl, k, s⟩
  | two k s _ _ _ => exact ⟨_, _, rfl, k, s⟩
theorem nameP_ok {fin : Place} {t : Tk} {r : List Tk} (k : t.1 = kName) : nameP fin (t :: r) = .ok ((t.2.1, tkP t), r) := if_pos k
theorem needP_ok {fin : Place} {t : Tk} {r : List Tk} {w : List Nat} (h : t.2.1 = w) : needP fin w (t :: r) = .ok (tkP t, r) := if_pos h
theorem pathP_ok {fin : Place} {ts : List Tk} {p : Place} {f n : List Nat} (h : PathW ts p f n) {rest : List Tk} (hr : wordH rest ≠ [46]) : pathP fin (ts ++ rest) = .ok ((p, f, n), rest) := by
  cases h with
  | @one t k s =>
    unfold pathP
    rw [show [t] ++ rest = t :: rest from rfl, nameP_ok k]
    exact if_pos hr
  | @two t u v k s p k2 s2 =>
    unfold pathP
    rw [show [t, u, v] ++ rest = t :: u :: v :: rest from rfl, nameP_ok k]
    show (if wordH (u :: v :: rest) ≠ [46] then _ else _) = _
    rw [if_neg (fun z => z p), needP_ok p]
    show (match nameP fin (v :: rest) with | .error e => _ | .ok ((name, _), r3) => _) = _
    rw [nameP_ok k2]
section
variable {fin : Place}
/-- what reads a degree -/
def plP (fin : Place) (L : Nat) (b : Option Lev) : RP PyData := match L with
  | 0 => exprP fin b
  | 1 => bothP fin b
  | 2 => denP fin b
  | 3 => cmpP fin b
  | 4 => sumP fin b
  | 5 => prodP fin b
  | 6 => negP fin b
  | _ => singleP fin b
/-- texts of at most N words that are written for L are read so at L -/
def Rd (fin : Place) (N L : Nat) : Prop := ∀ ts d m n rest, ts.length ≤ N → Put L m ts d → m ≤ n → Fol L rest → plP fin L (lowP fin n) (ts ++ rest) = .ok (d, rest)
theorem Args.inv {m : Nat} {us : List Tk} {ds : List PyData} (a : Args m us ds) : (us = [] ∧ ds = []) ∨ (∃ d, ds = [d] ∧ Put 0 m us d) ∨ ∃ ts us2 d ds2 c, us = ts ++ c :: us2 ∧ ds = ds2 ++ [d] ∧ Args m ts ds2 ∧ ds2 ≠ [] ∧ c.2.1 = [44] ∧ Put 0 m us2 d := by
  cases a with
  | nil => exact .inl ⟨rfl, rfl⟩
  | one h => exact .inr (.inl ⟨_, rfl, h⟩)
  | cons a n hc h => exact .inr (.inr ⟨_, _, _, _, _, rfl, rfl, a, n, hc, h⟩)
/-- arguments one behind the other -/
theorem moreP_ok {N : Nat} (ih : Rd fin N 0) {n m : Nat} (hm : m ≤ n) : ∀ (l : Nat) {us : List Tk} {ds : List PyData}, ds.length = l → Args m us ds → us.length ≤ N → ∀ rest, ds ≠ [] → wordH rest ∈ [[41], [44]] →
    ∃ d0 more, plP fin 0 (lowP fin n) (us ++ rest) = .ok (d0, more ++ rest) ∧ (∀ k, moreP fin (plP fin 0 (lowP fin n)) (ds.length - 1 + k) [d0] (more ++ rest) = moreP fin (plP fin 0 (lowP fin n)) k ds rest) ∧ ds.length - 1 ≤ more.length := by
  intro l
  induction l with
  | zero => intro us ds hl _ _ _ hn; exact absurd (List.eq_nil_of_length_eq_zero hl) hn
  | succ l ihl =>
    intro us ds hl a hN rest hne hr
    have fr : Fol 0 rest := by
      have h1 : ∀ w ∈ [[41], [44]], w ≠ [46] ∧ w ≠ [40] ∧ ∀ k, k ≤ 5 → w ∉ opsAt k := by decide
      obtain ⟨a, b, c⟩ := h1 _ hr
      exact ⟨a, b, fun k _ hk => c k hk⟩
    rcases a.inv with ⟨rfl, rfl⟩ | ⟨d, rfl, h⟩ | ⟨ts, us2, d, ds2, c, rfl, rfl, a2, hn, hc, h⟩
    · exact absurd rfl hne
    · exact ⟨d, [], by simpa using ih us d m n rest hN h hm fr, fun k => by simp, by simp⟩
    · have hls : ts.length ≤ N ∧ us2.length ≤ N := by
        simp only [List.length_append, List.length_cons] at hN
        omega
      have hl2 : ds2.length = l := by simpa using hl
      obtain ⟨d0, more, e3, e4, e5⟩ := ihl hl2 a2 hls.1 (c :: (us2 ++ rest)) hn (by simp [wordH, hc])
      refine ⟨d0, more ++ c :: us2, ?_, fun k => ?_, ?_⟩
      · have : ts ++ c :: us2 ++ rest = ts ++ (c :: (us2 ++ rest)) := by simp
        rw [this, e3]
        simp
      · have hlen : (ds2 ++ [d]).length - 1 + k = ds2.length - 1 + (k + 1) := by
          have : 0 < ds2.length := List.length_pos_iff.mpr hn
          simp only [List.length_append, List.length_cons, List.length_nil]
          omega
        have e6 : more ++ c :: us2 ++ rest = more ++ (c :: (us2 ++ rest)) := by simp
        rw [hlen, e6, e4 (k + 1)]
        show (if wordH (c :: (us2 ++ rest)) = [44] then _ else _) = _
        rw [if_pos (show wordH (c :: (us2 ++ rest)) = [44] from hc), needP_ok hc]
        show (match plP fin 0 (lowP fin n) (us2 ++ rest) with | .error e => _ | .ok (d, r2) => _) = _
        rw [ih us2 d m n rest hls.2 h hm fr]
      · simp only [List.length_append, List.length_cons, List.length_nil]
        omega
/-- with which word it begins -/
def HeadOk (L : Nat) (ts : List Tk) : Prop := ∃ t r, ts = t :: r ∧ t.2.1 ≠ [41] ∧ (3 ≤ L → t.2.1 ≠ oNot) ∧ (7 ≤ L → t.2.1 ≠ [45]) ∧ t.2.1 ≠ []
theorem spec_ok {w : List Nat} (h : w ∉ specW) : w ≠ [41] ∧ w ≠ oNot ∧ w ≠ [45] ∧ w ≠ [] := ⟨fun z => h (z ▸ by decide), fun z => h (z ▸ by decide), fun z => h (z ▸ by decide), fun z => h (z ▸ by decide)⟩
theorem head_ok : ∀ (N L m : Nat) (ts : List Tk) (d : PyData), ts.length ≤ N → Put L m ts d → HeadOk L ts := by
  intro N
  induction N with
  | zero =>
    intro L m ts d hl h
    exfalso
    have hn : ts = [] := List.eq_nil_of_length_eq_zero (Nat.le_zero.mp hl)
    cases h with
    | plain h e =>
      cases h with
      | name h =>
        obtain ⟨t, r, e, _⟩ := path_ne h
        rw [e] at hn
        cases hn
      | num | tru | neg | not => cases hn
      | call h | left _ _ h | cmp _ h => simp at hn
    | brack => simp at hn
  | succ N ih =>
    intro L m ts d hl h
    cases h with
    | @plain _ M _ _ _ h e =>
      cases h with
      | num k s e2 =>
        obtain ⟨a, b, c, c2⟩ := spec_ok s
        exact ⟨_, _, rfl, a, fun _ => b, fun _ => c, c2⟩
      | @tru _ b t k e2 =>
        have : t.2.1 ≠ [41] ∧ t.2.1 ≠ oNot ∧ t.2.1 ≠ [45] ∧ t.2.1 ≠ [] := by
          rw [e2]
          cases b <;> decide
        exact ⟨_, _, rfl, this.1, fun _ => this.2.1, fun _ => this.2.2.1, this.2.2.2⟩
      | name h =>
        obtain ⟨t, r, rfl, k, s⟩ := path_ne h
        obtain ⟨a, b, c, c2⟩ := spec_ok s
        exact ⟨_, _, rfl, a, fun _ => b, fun _ => c, c2⟩
      | call h ho hc a =>
        obtain ⟨t, r, rfl, k, s⟩ := path_ne h
        obtain ⟨a, b, c, c2⟩ := spec_ok s
        exact ⟨_, _, rfl, a, fun _ => b, fun _ => c, c2⟩
      | neg e2 h => exact ⟨_, _, rfl, by rw [e2]; decide, fun _ => by rw [e2]; decide, fun z => by omega, by rw [e2]; decide⟩
      | not e2 h => exact ⟨_, _, rfl, by rw [e2]; decide, fun z => by omega, fun z => by omega, by rw [e2]; decide⟩
      | @left _ _ t ts us d2 d3 hL s h g =>
        have hl2 : ts.length ≤ N := by simp only [List.length_append, List.length_cons] at hl; omega
        obtain ⟨t0, r0, rfl, a, b, c, c2⟩ := ih _ _ _ _ hl2 h
        exact ⟨t0, _, rfl, a, fun z => b (Nat.le_trans z e), fun z => c (Nat.le_trans z e), c2⟩
      | @cmp _ t ts us d e s h g =>
        have hl2 : ts.length ≤ N := by simp only [List.length_append, List.length_cons] at hl; omega
        obtain ⟨t0, r0, rfl, a, b, c, c2⟩ := ih _ _ _ _ hl2 h
        exact ⟨t0, _, rfl, a, fun z => b (by omega), fun z => by omega, c2⟩
    | brack k ho hc h => exact ⟨_, _, rfl, by rw [ho]; decide, fun _ => by rw [ho]; decide, fun _ => by rw [ho]; decide, by rw [ho]; decide⟩
theorem Put.head {L m : Nat} {ts : List Tk} {d : PyData} (h : Put L m ts d) : HeadOk L ts := head_ok _ _ _ _ _ (Nat.le_refl _) h
theorem args_head {m : Nat} : ∀ (l : Nat) {us : List Tk} {ds : List PyData}, ds.length = l → Args m us ds → ds ≠ [] → HeadOk 0 us := by
  intro l
  induction l with
  | zero => intro us ds hl _ hn; exact absurd (List.eq_nil_of_length_eq_zero hl) hn
  | succ l ih =>
    intro us ds hl a hne
    rcases a.inv with ⟨rfl, rfl⟩ | ⟨d, rfl, h⟩ | ⟨ts, us2, d, ds2, c, rfl, rfl, a2, hn, hc, h⟩
    · exact absurd rfl hne
    · exact h.head
    · obtain ⟨t, r, rfl, a, b, c, c2⟩ := ih (by simpa using hl) a2 hn
      exact ⟨t, _, rfl, a, b, c, c2⟩
theorem givenP_ok {N : Nat} (ih : Rd fin N 0) {n m : Nat} {us : List Tk} {ds : List PyData} {o c : Tk} (a : Args m us ds) (hm : m ≤ n) (hN : us.length ≤ N) (ho : o.2.1 = [40]) (hc : c.2.1 = [41]) (rest : List Tk) :
    givenP fin (lowP fin (n + 1)) (o :: (us ++ [c]) ++ rest) = .ok (.tuple ds, rest) := by
  have e0 : o :: (us ++ [c]) ++ rest = o :: (us ++ c :: rest) := by simp
  rw [e0]
  show (match needP fin [40] (o :: (us ++ c :: rest)) with | .error e => _ | .ok (_, r) => _) = _
  rw [needP_ok ho]
  have lst : listP fin (levP fin n).expr (us ++ c :: rest) = .ok (ds, c :: rest) := by
    rw [levP_low]
    show listP fin (exprP fin (lowP fin n)) (us ++ c :: rest) = _
    by_cases hd : ds = []
    · subst hd
      rcases a.inv with ⟨rfl, _⟩ | ⟨d, h, _⟩ | ⟨ts, us2, d, ds2, c, _, h, _⟩
      · exact if_neg (fun z => z hc)
      · cases h
      · simp at h
    · obtain ⟨d1, more, e2, e3, e4⟩ := moreP_ok ih (n := n) hm _ rfl a hN (c :: rest) hd (by simp [wordH, hc])
      obtain ⟨t, r, e5, e6, _⟩ := args_head _ rfl a hd
      unfold listP
      rw [if_pos (by rw [e5]; exact e6)]
      have e2' : exprP fin (lowP fin n) (us ++ c :: rest) = .ok (d1, more ++ c :: rest) := e2
      rw [e2']
      have hl : ds.length - 1 ≤ (more ++ c :: rest).length := by
        rw [List.length_append]
        omega
      obtain ⟨k, hk⟩ : ∃ k, (more ++ c :: rest).length = ds.length - 1 + k := ⟨_, (Nat.add_sub_cancel' hl).symm⟩
      show moreP fin (exprP fin (lowP fin n)) (more ++ c :: rest).length [d1] (more ++ c :: rest) = _
      rw [hk]
      refine (e3 k).trans ?_
      cases k with
      | zero => rfl
      | succ k => exact if_neg (show ¬ c.2.1 = [44] by rw [hc]; decide)
  show (match listP fin (levP fin n).expr (us ++ c :: rest) with | .error e => _ | .ok (ds, r3) => _) = _
  rw [lst]
  show (match needP fin [41] (c :: rest) with | .error e => _ | .ok (_, r4) => _) = _
  rw [needP_ok hc]
/-! ### degree by degree -/
theorem low_some {n m : Nat} (h : m + 1 ≤ n) : ∃ k, n = k + 1 ∧ m ≤ k := ⟨n - 1, by omega, by omega⟩
theorem rd7 {N : Nat} (ih : ∀ L, L ≤ 7 → Rd fin N L) : Rd fin (N + 1) 7 := by
  intro ts d m n rest hl h hm hf
  have main : ∀ t r, ts = t :: r → t.1 ≠ kNum → t.1 = kName → singleP fin (lowP fin n) (ts ++ rest) = namedP fin (lowP fin n) (ts ++ rest) := fun t r e h1 h2 => by
    rw [e]
    show (if t.1 = kNum then _ else if t.1 = kName then _ else _) = _
    rw [if_neg h1, if_pos h2] <;> rfl
  have nn : kName ≠ kNum := by decide
  cases h with
  | @plain _ M _ _ _ h e =>
    show singleP fin (lowP fin n) (ts ++ rest) = _
    cases h with
    | num k s e2 =>
      show (if _ then _ else _) = _
      rw [if_pos k, e2] <;> rfl
    | @tru _ b t k e2 =>
      have h1 : t.1 ≠ kNum := by rw [k]; decide
      have h2 : t.1 ≠ kName := by rw [k]; decide
      have h3 : t.2.1 = oYes ∨ t.2.1 = oNo := by
        rw [e2]
        cases b
        · exact .inr rfl
        · exact .inl rfl
      have h4 : decide (t.2.1 = oYes) = b := by
        rw [e2]
        cases b <;> decide
      show (if t.1 = kNum then _ else if t.1 = kName then _ else if t.2.1 = oYes ∨ t.2.1 = oNo then _ else _) = _
      rw [if_neg h1, if_neg h2, if_pos h3, h4] <;> rfl
    | @name _ _ p f nm h =>
      obtain ⟨t, r, e3, k, s⟩ := path_ne h
      rw [main t r e3 (by rw [k]; exact nn) k]
      unfold namedP
      rw [pathP_ok h hf.1]
      show (if wordH rest ≠ [40] then _ else _) = _
      rw [if_pos hf.2.1]
    | @call m _ us p f nm ds o c h ho hc a =>
      obtain ⟨k, rfl, hk⟩ := low_some hm
      obtain ⟨t, r, e3, k2, s⟩ := path_ne h
      rw [main t (r ++ o :: (us ++ [c])) (by rw [e3]; rfl) (by rw [k2]; exact nn) k2]
      unfold namedP
      have hlen : us.length ≤ N := by
        simp only [List.length_append, List.length_cons] at hl
        omega
      rw [List.append_assoc, pathP_ok h (by show o.2.1 ≠ [46]; rw [ho]; decide)]
      show (if wordH (o :: (us ++ [c]) ++ rest) ≠ [40] then _ else _) = _
      rw [if_neg (fun z => z ho), givenP_ok (ih 0 (by decide)) a hk hlen ho hc rest]
    | neg | not | cmp => omega
    | left hL =>
      simp only [List.mem_cons, List.not_mem_nil, or_false] at hL
      omega
  | @brack _ M m ts d o c ko ho hc h =>
    obtain ⟨k, rfl, hk⟩ := low_some hm
    show singleP fin (lowP fin (k + 1)) (o :: (ts ++ [c]) ++ rest) = _
    have h1 : o.1 ≠ kNum := by rw [ko]; decide
    have h2 : o.1 ≠ kName := by rw [ko]; decide
    have h3 : ¬ (o.2.1 = oYes ∨ o.2.1 = oNo) := by rw [ho]; decide
    have e0 : o :: (ts ++ [c]) ++ rest = o :: (ts ++ c :: rest) := by simp
    rw [e0]
    show (if o.1 = kNum then _ else if o.1 = kName then _ else if o.2.1 = oYes ∨ o.2.1 = oNo then _ else bracketP fin (lowP fin (k + 1)) (o :: (ts ++ c :: rest))) = _
    rw [if_neg h1, if_neg h2, if_neg h3]
    show (match needP fin [40] (o :: (ts ++ c :: rest)) with | .error e => _ | .ok (_, r) => _) = _
    rw [needP_ok ho]
    have hlen : ts.length ≤ N := by
      simp only [List.length_append, List.length_cons] at hl
      omega
    have r0 : exprP fin (lowP fin k) (ts ++ c :: rest) = .ok (d, c :: rest) := ih 0 (by decide) ts d m k (c :: rest) hlen (.plain h (Nat.zero_le _)) hk (fol_word (by rw [hc]; decide) 0)
    show (match (levP fin k).expr (ts ++ c :: rest) with | .error e => _ | .ok (d, r2) => _) = _
    rw [levP_low]
    show (match exprP fin (lowP fin k) (ts ++ c :: rest) with | .error e => _ | .ok (d, r2) => _) = _
    rw [r0]
    show (match needP fin [41] (c :: rest) with | .error e => _ | .ok (_, r3) => _) = _
    rw [needP_ok hc]
theorem rd6 {N : Nat} (ih : ∀ L, L ≤ 7 → Rd fin N L) (r7 : Rd fin (N + 1) 7) : Rd fin (N + 1) 6 := by
  intro ts d m n rest hl h hm hf
  show negP fin (lowP fin n) (ts ++ rest) = _
  by_cases hneg : ∃ t0 ts0 d0 m0, ts = t0 :: ts0 ∧ m = m0 + 1 ∧ t0.2.1 = [45] ∧ Put 6 m0 ts0 d0 ∧ d = node oNeg (tkP t0) [d0]
  · obtain ⟨t0, ts0, d0, m0, rfl, rfl, e, g, rfl⟩ := hneg
    obtain ⟨k, rfl, hk⟩ := low_some hm
    unfold negP
    rw [if_neg (show ¬ wordH (t0 :: ts0 ++ rest) ≠ [45] from fun z => z e)]
    show (match needP fin [45] (t0 :: (ts0 ++ rest)) with | .error e => _ | .ok (pl, r) => _) = _
    rw [needP_ok e]
    show (match (levP fin k).neg (ts0 ++ rest) with | .error e => _ | .ok (d, r2) => _) = _
    rw [levP_low]
    show (match negP fin (lowP fin k) (ts0 ++ rest) with | .error e => _ | .ok (d, r2) => _) = _
    have r0 : negP fin (lowP fin k) (ts0 ++ rest) = .ok (d0, rest) := ih 6 (by decide) ts0 d0 m0 k rest (by simp only [List.length_cons] at hl; omega) g hk hf
    rw [r0]
  · have p7 : Put 7 m ts d := by
      cases h with
      | @plain _ M _ _ _ h e =>
        by_cases hM : 7 ≤ M
        · exact .plain h hM
        · exfalso
          cases h with
          | neg e2 h => exact hneg ⟨_, _, _, _, rfl, rfl, e2, h, rfl⟩
          | num | tru | name | call => omega
          | not | cmp => omega
          | left hL =>
            simp only [List.mem_cons, List.not_mem_nil, or_false] at hL
            omega
      | brack k ho hc h => exact .brack k ho hc h
    obtain ⟨t, r, e, _, _, c, _⟩ := p7.head
    unfold negP
    rw [if_pos (show wordH (ts ++ rest) ≠ [45] by rw [e]; exact c (Nat.le_refl _))]
    exact r7 ts d m n rest hl p7 hm (hf.up (by decide))
/-- what stands one behind the other at a degree: the first, then signs with what follows each -/
def itemsT : List (Tk × List Tk × PyData) → List Tk
  | [] => []
  | (t, ts, _) :: r => t :: (ts ++ itemsT r)
def itemsD (d : PyData) : List (Tk × List Tk × PyData) → PyData
  | [] => d
  | (t, _, e) :: r => itemsD (node t.2.1 (tkP t) [d, e]) r
theorem itemsT_app : ∀ a b, itemsT (a ++ b) = itemsT a ++ itemsT b
  | [], _ => rfl
  | (t, ts, d) :: r, b => by
    show t :: (ts ++ itemsT (r ++ b)) = t :: (ts ++ itemsT r) ++ itemsT b
    rw [itemsT_app r b]
    simp
theorem itemsD_app : ∀ a b d, itemsD d (a ++ b) = itemsD (itemsD d a) b
  | [], _, _ => rfl
  | (t, ts, e) :: r, b, d => itemsD_app r b _
def ItemOk (L m : Nat) (x : Tk × List Tk × PyData) : Prop := x.1.2.1 ∈ opsAt L ∧ Put (L + 1) m x.2.1 x.2.2
theorem chain {L : Nat} (hL : L ∈ [0, 1, 4, 5]) : ∀ (N m : Nat) (ts : List Tk) (d : PyData), ts.length ≤ N → Put L m ts d → ∃ ts0 d0 items, Put (L + 1) m ts0 d0 ∧ (∀ x ∈ items, ItemOk L m x) ∧ ts = ts0 ++ itemsT items ∧ d = itemsD d0 items := by
  intro N
  induction N with
  | zero =>
    intro m ts d hl h
    obtain ⟨t, r, rfl, _⟩ := h.head
    simp at hl
  | succ N ih =>
    intro m ts d hl h
    have none : Put (L + 1) m ts d → ∃ ts0 d0 items, Put (L + 1) m ts0 d0 ∧ (∀ x ∈ items, ItemOk L m x) ∧ ts = ts0 ++ itemsT items ∧ d = itemsD d0 items := fun p => ⟨ts, d, [], p, (fun _ h => absurd h (List.not_mem_nil)), (List.append_nil _).symm, rfl⟩
    cases h with
    | @plain _ M _ _ _ h e =>
      by_cases hM : L + 1 ≤ M
      · exact none (.plain h hM)
      · have hML : M = L := by omega
        subst hML
        cases h with
        | @left _ _ t ts us d e2 _ s h g =>
          have hl2 : ts.length ≤ N := by simp only [List.length_append, List.length_cons] at hl; omega
          obtain ⟨ts0, d0, items, p, q, rfl, rfl⟩ := ih m ts d hl2 h
          refine ⟨ts0, d0, items ++ [(t, us, e2)], p, fun x hx => ?_, ?_, ?_⟩
          · rcases List.mem_append.mp hx with h | h
            · exact q x h
            · rw [List.mem_singleton.mp h]
              exact ⟨s, g⟩
          · rw [itemsT_app]
            show ts0 ++ itemsT items ++ t :: us = ts0 ++ (itemsT items ++ (t :: (us ++ [])))
            simp
          · rw [itemsD_app]
            rfl
        | num | tru | name | call | neg | not | cmp => simp at hL
    | brack k ho hc h => exact none (.brack k ho hc h)
theorem goP_ok {L n m : Nat} (hL : L ≤ 5) {p : RP PyData} (hm : m ≤ n) : ∀ (items : List (Tk × List Tk × PyData)) (f : Nat) (d : PyData) (rest : List Tk), (∀ x ∈ items, ItemOk L m x) → (∀ x ∈ items, ∀ rest, Fol (L + 1) rest → p (x.2.1 ++ rest) = .ok (x.2.2, rest)) → items.length ≤ f → Fol L rest →
    leftGo (opsAt L) p f d (itemsT items ++ rest) = .ok (itemsD d items, rest)
  | [], f, d, rest, _, _, _, hf => by
    show leftGo (opsAt L) p f d rest = .ok (d, rest)
    cases f with
    | zero => rfl
    | succ f =>
      cases rest with
      | nil => rfl
      | cons t r => exact if_neg (hf.2.2 L (Nat.le_refl _) hL)
  | (t, ts, e) :: items, 0, d, rest, _, _, hz, _ => absurd hz (Nat.not_succ_le_zero _)
  | (t, ts, e) :: items, f + 1, d, rest, h1, h2, hz, hf => by
    have a := h1 _ (List.mem_cons_self ..)
    show (if t.2.1 ∈ opsAt L then (match p ((ts ++ itemsT items) ++ rest) with | .error e => _ | .ok (u, r2) => _) else _) = _
    have hf2 : Fol (L + 1) (itemsT items ++ rest) := by
      cases items with
      | nil => exact hf.up (Nat.le_succ L)
      | cons x items =>
        obtain ⟨t2, ts2, e2⟩ := x
        exact fol_op (h1 _ (List.mem_cons_of_mem _ (List.mem_cons_self ..))).1 hL
    rw [if_pos a.1, List.append_assoc, h2 _ (List.mem_cons_self ..) _ hf2]
    exact goP_ok hL hm items f _ rest (fun x hx => h1 x (List.mem_cons_of_mem _ hx)) (fun x hx => h2 x (List.mem_cons_of_mem _ hx)) (Nat.le_of_succ_le_succ hz) hf
theorem itemsT_len : ∀ items, items.length ≤ (itemsT items).length
  | [] => Nat.le_refl _
  | (t, ts, e) :: r => by
    have := itemsT_len r
    show r.length + 1 ≤ (ts ++ itemsT r).length + 1
    rw [List.length_append]
    omega
theorem item_len : ∀ {items : List (Tk × List Tk × PyData)} {x}, x ∈ items → x.2.1.length ≤ (itemsT items).length
  | (t, ts, e) :: r, x, h => by
    show _ ≤ (ts ++ itemsT r).length + 1
    rw [List.length_append]
    rcases List.mem_cons.mp h with rfl | h
    · show ts.length ≤ _
      omega
    · have := item_len h
      omega
theorem rd_left {N L : Nat} (hL : L ∈ [0, 1, 4, 5]) (hp : ∀ b, plP fin L b = fromLeft (opsAt L) (plP fin (L + 1) b)) (r : Rd fin (N + 1) (L + 1)) : Rd fin (N + 1) L := by
  have hL5 : L ≤ 5 := by
    simp only [List.mem_cons, List.not_mem_nil, or_false] at hL
    omega
  intro ts d m n rest hl h hm hf
  obtain ⟨ts0, d0, items, p, q, rfl, rfl⟩ := chain hL _ m ts d (Nat.le_refl _) h
  rw [List.length_append] at hl
  rw [hp, List.append_assoc]
  have hf2 : Fol (L + 1) (itemsT items ++ rest) := by
    cases items with
    | nil => exact hf.up (Nat.le_succ L)
    | cons x items =>
      obtain ⟨t2, ts2, e2⟩ := x
      exact fol_op (q _ (List.mem_cons_self ..)).1 hL5
  unfold fromLeft
  rw [r ts0 d0 m n _ (by omega) p hm hf2]
  refine goP_ok hL5 hm items _ d0 rest q (fun x hx rest2 hf3 => r x.2.1 x.2.2 m n rest2 (by have := item_len hx; omega) (q x hx).2 hm hf3) ?_ hf
  have := itemsT_len items
  rw [List.length_append]
  omega
theorem rd3 {N : Nat} (r4 : Rd fin (N + 1) 4) : Rd fin (N + 1) 3 := by
  intro ts d m n rest hl h hm hf
  show cmpP fin (lowP fin n) (ts ++ rest) = _
  have one : Put 4 m ts d → cmpP fin (lowP fin n) (ts ++ rest) = .ok (d, rest) := fun p => by
    unfold cmpP
    rw [show sumP fin (lowP fin n) (ts ++ rest) = .ok (d, rest) from r4 ts d m n rest hl p hm (hf.up (by decide))]
    cases rest with
    | nil => rfl
    | cons t r => exact if_neg (hf.2.2 3 (Nat.le_refl _) (by decide))
  cases h with
  | @plain _ M _ _ _ h e =>
    by_cases hM : 4 ≤ M
    · exact one (.plain h hM)
    · have hM3 : M = 3 := by omega
      subst hM3
      cases h with
      | @cmp _ t ts us d e2 s h g =>
        simp only [List.length_append, List.length_cons] at hl
        unfold cmpP
        have e0 : ts ++ t :: us ++ rest = ts ++ (t :: (us ++ rest)) := by simp
        rw [e0, show sumP fin (lowP fin n) (ts ++ (t :: (us ++ rest))) = .ok (d, t :: (us ++ rest)) from r4 ts d m n _ (by omega) h hm (fol_op (L := 3) s (by decide))]
        show (if t.2.1 ∈ sCmp then (match sumP fin (lowP fin n) (us ++ rest) with | .error e => _ | .ok (u, r2) => _) else _) = _
        rw [if_pos s, show sumP fin (lowP fin n) (us ++ rest) = .ok (e2, rest) from r4 us e2 m n rest (by omega) g hm (hf.up (by decide))]
      | left hL => simp at hL
  | brack k ho hc h => exact one (.brack k ho hc h)
theorem rd2 {N : Nat} (ih : ∀ L, L ≤ 7 → Rd fin N L) (r3 : Rd fin (N + 1) 3) : Rd fin (N + 1) 2 := by
  intro ts d m n rest hl h hm hf
  show denP fin (lowP fin n) (ts ++ rest) = _
  by_cases hnot : ∃ t0 ts0 d0 m0, ts = t0 :: ts0 ∧ m = m0 + 1 ∧ t0.2.1 = oNot ∧ Put 2 m0 ts0 d0 ∧ d = node oNot (tkP t0) [d0]
  · obtain ⟨t0, ts0, d0, m0, rfl, rfl, e, g, rfl⟩ := hnot
    obtain ⟨k, rfl, hk⟩ := low_some hm
    unfold denP
    rw [if_neg (show ¬ wordH (t0 :: ts0 ++ rest) ≠ oNot from fun z => z e)]
    show (match needP fin oNot (t0 :: (ts0 ++ rest)) with | .error e => _ | .ok (pl, r) => _) = _
    rw [needP_ok e]
    show (match (levP fin k).den (ts0 ++ rest) with | .error e => _ | .ok (d, r2) => _) = _
    rw [levP_low]
    show (match denP fin (lowP fin k) (ts0 ++ rest) with | .error e => _ | .ok (d, r2) => _) = _
    have r0 : denP fin (lowP fin k) (ts0 ++ rest) = .ok (d0, rest) := ih 2 (by decide) ts0 d0 m0 k rest (by simp only [List.length_cons] at hl; omega) g hk hf
    rw [r0]
  · have p3 : Put 3 m ts d := by
      cases h with
      | @plain _ M _ _ _ h e =>
        by_cases hM : 3 ≤ M
        · exact .plain h hM
        · exfalso
          cases h with
          | not e2 h => exact hnot ⟨_, _, _, _, rfl, rfl, e2, h, rfl⟩
          | num | tru | name | call => omega
          | neg | cmp => omega
          | left hL =>
            simp only [List.mem_cons, List.not_mem_nil, or_false] at hL
            omega
      | brack k ho hc h => exact .brack k ho hc h
    obtain ⟨t, r, e, _, c, _, _⟩ := p3.head
    unfold denP
    rw [if_pos (show wordH (ts ++ rest) ≠ oNot by rw [e]; exact c (Nat.le_refl _))]
    exact r3 ts d m n rest hl p3 hm (hf.up (by decide))
theorem rd_all : ∀ N L, L ≤ 7 → Rd fin N L
  | 0, L, _ => fun ts d m n rest hl h _ _ => by
    obtain ⟨t, r, rfl, _⟩ := h.head
    simp at hl
  | N + 1, L, hL => by
    have ih := rd_all N
    have r7 := rd7 ih
    have r6 := rd6 ih r7
    have r5 : Rd fin (N + 1) 5 := rd_left (by decide) (fun b => rfl) r6
    have r4 : Rd fin (N + 1) 4 := rd_left (by decide) (fun b => rfl) r5
    have r3 := rd3 r4
    have r2 := rd2 ih r3
    have r1 : Rd fin (N + 1) 1 := rd_left (by decide) (fun b => rfl) r2
    have r0 : Rd fin (N + 1) 0 := rd_left (by decide) (fun b => rfl) r1
    have : L = 0 ∨ L = 1 ∨ L = 2 ∨ L = 3 ∨ L = 4 ∨ L = 5 ∨ L = 6 ∨ L = 7 := by omega
    rcases this with rfl | rfl | rfl | rfl | rfl | rfl | rfl | rfl
    · exact r0
    · exact r1
    · exact r2
    · exact r3
    · exact r4
    · exact r5
    · exact r6
    · exact r7
/-- what is written as an E is read as that E -/
theorem exprP_put {ts : List Tk} {d : PyData} {m n : Nat} {rest : List Tk} (h : Put 0 m ts d) (hm : m ≤ n) (hf : Fol 0 rest) : exprP fin (lowP fin n) (ts ++ rest) = .ok (d, rest) := rd_all ts.length 0 (by decide) ts d m n rest (Nat.le_refl _) h hm hf
end
end Wt

set_option Elab.async false
set_option linter.all false
set_option maxRecDepth 100000
set_option maxHeartbeats 4000000
/-! What is drawn. -/
namespace Wt
open PySem PySem.Spec PyProof.Rows L2 SX Evl
open C8 (Def Cal cal0 fnScope_by fnScope)
def rNode (k : List Nat) (xs : List PyData) : PyData := .tuple (.str (S k) :: .none :: xs)
def binW : List (List Nat) := [oOr, oAnd, [61], [60, 62], [60], [60, 61], [43], [45], [42], [47], oMod]
mutual
/-- an E as it is drawn, without places: how deep it is, how many words it has at most, how much stands within one another at most -/
inductive RawD : Nat → Nat → Nat → PyData → Prop
  | num {h c b n : Nat} (l : n < 1000000) (hc : 3 ≤ c) (hb : 1 ≤ b) : RawD (h + 1) c b (rNode kNum [.int (n : Int)])
  | tru {h c b : Nat} {x : Bool} (hc : 3 ≤ c) (hb : 1 ≤ b) : RawD (h + 1) c b (rNode oTruth [.bool x])
  | name {h c b : Nat} {f n : List Nat} (gf : f = [] ∨ Good kName f) (gn : Good kName n) (hc : 5 ≤ c) (hb : 1 ≤ b) : RawD (h + 1) c b (rNode kName [.str (S f), .str (S n)])
  | call {h c b c2 b2 : Nat} {f n : List Nat} {ds : List PyData} (gf : f = [] ∨ Good kName f) (gn : Good kName n) (a : RawAll h c2 b2 ds) (hc : c2 + 7 ≤ c) (hb : b2 + 2 ≤ b) : RawD (h + 1) c b (rNode oCall [.str (S f), .str (S n), .tuple ds])
  | neg {h c b c2 b2 : Nat} {d : PyData} (r : RawD h c2 b2 d) (hc : c2 + 3 ≤ c) (hb : b2 + 2 ≤ b) : RawD (h + 1) c b (rNode oNeg [d])
  | not {h c b c2 b2 : Nat} {d : PyData} (r : RawD h c2 b2 d) (hc : c2 + 3 ≤ c) (hb : b2 + 2 ≤ b) : RawD (h + 1) c b (rNode oNot [d])
  | bin {h c b c1 b1 c2 b2 : Nat} {s : List Nat} {d e : PyData} (hs : s ∈ binW) (r1 : RawD h c1 b1 d) (r2 : RawD h c2 b2 e) (hc : c1 + c2 + 3 ≤ c) (h1 : b1 + 1 ≤ b) (h2 : b2 + 1 ≤ b) : RawD (h + 1) c b (rNode s [d, e])
inductive RawAll : Nat → Nat → Nat → List PyData → Prop
  | nil {h c b : Nat} : RawAll h c b []
  | cons {h c b c1 c2 : Nat} {d : PyData} {ds : List PyData} (r : RawD h c1 b d) (a : RawAll h c2 b ds) (hc : c1 + 1 + c2 ≤ c) : RawAll h c b (d :: ds)
end
/-- what can be compared -/
structure Shp (k : Nat) (d : PyData) : Prop where
  dp : d.depth ≤ k
  wd : wideD d = true
  ly : d.canLay0 = true
theorem Shp.up {k j : Nat} {d : PyData} (h : Shp k d) (e : k ≤ j) : Shp j d := ⟨Nat.le_trans h.dp e, h.wd, h.ly⟩
structure ShpA (k : Nat) (ds : List PyData) : Prop where
  dp : PyData.depthAll ds ≤ k
  wd : wideAll ds = true
  ly : PyData.canLayAll0 ds = true
theorem shpA_nil {k : Nat} : ShpA k [] := ⟨by unfold PyData.depthAll; exact Nat.zero_le _, by unfold wideAll; rfl, by unfold PyData.canLayAll0; rfl⟩
theorem shpA_cons {k : Nat} {d : PyData} {ds : List PyData} (h : Shp k d) (a : ShpA k ds) : ShpA k (d :: ds) := by
  refine ⟨?_, ?_, ?_⟩
  · unfold PyData.depthAll
    exact Nat.max_le.mpr ⟨h.dp, a.dp⟩
  · unfold wideAll
    rw [h.wd, a.wd] <;> rfl
  · unfold PyData.canLayAll0
    rw [h.ly, a.ly] <;> rfl
theorem shpA_app {k : Nat} : ∀ {ds es : List PyData}, ShpA k ds → ShpA k es → ShpA k (ds ++ es)
  | [], _, _, h => h
  | d :: ds, es, h, g => by
    have h1 : Shp k d := ⟨by
      have := h.dp
      unfold PyData.depthAll at this
      exact (Nat.max_le.mp this).1, by
      have := h.wd
      unfold wideAll at this
      exact (Bool.and_eq_true_iff.mp this).1, by
      have := h.ly
      unfold PyData.canLayAll0 at this
      exact (Bool.and_eq_true_iff.mp this).1⟩
    have h2 : ShpA k ds := ⟨by
      have := h.dp
      unfold PyData.depthAll at this
      exact (Nat.max_le.mp this).2, by
      have := h.wd
      unfold wideAll at this
      exact (Bool.and_eq_true_iff.mp this).2, by
      have := h.ly
      unfold PyData.canLayAll0 at this
      exact (Bool.and_eq_true_iff.mp this).2⟩
    exact shpA_cons h1 (shpA_app h2 g)
theorem shp_tup {k : Nat} {ds : List PyData} (h : ShpA k ds) (hl : ds.length ≤ 40000) : Shp (k + 1) (.tuple ds) := by
  refine ⟨?_, ?_, ?_⟩
  · unfold PyData.depth
    exact Nat.succ_le_succ h.dp
  · unfold wideD
    rw [decide_eq_true hl, h.wd] <;> rfl
  · unfold PyData.canLay0
    exact h.ly
theorem shp_lst {k : Nat} {ds : List PyData} (h : ShpA k ds) (hl : ds.length ≤ 40000) : Shp (k + 1) (.list ds) := by
  refine ⟨?_, ?_, ?_⟩
  · unfold PyData.depth
    exact Nat.succ_le_succ h.dp
  · unfold wideD
    rw [decide_eq_true hl, h.wd] <;> rfl
  · unfold PyData.canLay0
    exact h.ly
theorem shp_int {i : Int} : Shp 0 (.int i) := ⟨by unfold PyData.depth; exact Nat.le_refl _, by unfold wideD; rfl, by unfold PyData.canLay0; rfl⟩
theorem shp_bool {i : Bool} : Shp 0 (.bool i) := ⟨by unfold PyData.depth; exact Nat.le_refl _, by unfold wideD; rfl, by unfold PyData.canLay0; rfl⟩
theorem shp_str {w : List Nat} (h : w.all (fun c => decide (c < 128)) = true) : Shp 0 (.str (S w)) := ⟨by unfold PyData.depth; exact Nat.le_refl _, by unfold wideD; rfl, by
  unfold PyData.canLay0 PyData.strOk
  have e : (S w).cps = w.toArray := rfl
  rw [e, List.all_toArray, List.all_eq_true]
  intro c hc
  have := of_decide_eq_true (List.all_eq_true.mp h c hc)
  exact decide_eq_true (by omega)⟩
theorem shp_place {p : Place} : Shp 1 (placeD p) := shp_tup (shpA_cons shp_int (shpA_cons shp_int shpA_nil)) (by show 2 ≤ 40000; decide)
theorem shp_node {k : Nat} {w : List Nat} {p : Place} {xs : List PyData} (hk : 1 ≤ k) (hw : w.all (fun c => decide (c < 128)) = true) (h : ShpA k xs) (hl : xs.length ≤ 10) : Shp (k + 1) (node w p xs) :=
  shp_tup (shpA_cons ((shp_str hw).up (Nat.zero_le _)) (shpA_cons (shp_place.up hk) h)) (by simp; omega)
theorem el_any {σ : L2.St} {H : Hp} {te : TE} {xs ys : List V} (h : EvL te σ H xs) (e : xs = ys) : EvL te σ H ys := e ▸ h
theorem es_cl {σ : L2.St} {H : Hp} {x : Str} {w : List Nat} (e : x = S w) : EvS (tC (.str x)) σ H w := ev_is ev_c (congrArg V.str e)
theorem eat_lst2 {σ : L2.St} {H : Hp} {ta tb : TE} {a b : List Nat} (h1 : EvS ta σ H a) (h2 : EvS tb σ H b) : EvLT (tLst (tCons ta (tCons tb tNil))) σ H [a, b] := elt_lst (eat_cons h1 (eat_cons h2 eat_nil)) (by show 2 ≤ 100000; decide)
theorem good_low {k w : List Nat} (g : Good k w) : w.all (fun c => decide (c < 128)) = true := by
  have hL : ∀ c, isL c = true → c < 128 := fun c h => by
    have := of_decide_eq_true h
    have all : ∀ c ∈ letters, c < 128 := by decide
    exact all c this
  have hF : ∀ c, isF c = true → c < 128 := fun c h => by
    have := of_decide_eq_true h
    have all : ∀ c ∈ figures, c < 128 := by decide
    exact all c this
  rw [List.all_eq_true]
  intro c hc
  refine decide_eq_true ?_
  cases g with
  | name a => exact hL c (List.all_eq_true.mp a c hc)
  | own o => exact hL c (List.all_eq_true.mp (owns_let w o).1 c hc)
  | num a => exact hF c (List.all_eq_true.mp a c hc)
  | sign s =>
    have all : ∀ w ∈ signs, ∀ c ∈ w, c < 128 := by decide
    exact all w s c hc
theorem good_spec {w : List Nat} (g : Good kName w) : w ∉ specW := fun h => by
  cases g with
  | name a n l o =>
    have all : ∀ w ∈ specW, w = [] ∨ w ∈ owns ∨ w.all isL = false := by decide +kernel
    rcases all w h with z | z | z
    · exact n z
    · exact o z
    · rw [z] at a
      cases a
theorem num_spec {w : List Nat} (g : Good kNum w) : w ∉ specW := fun h => by
  cases g with
  | num a n l o =>
    have all : ∀ w ∈ specW, w = [] ∨ w.all isF = false := by decide +kernel
    rcases all w h with z | z
    · exact n z
    · rw [z] at a
      cases a
/-- all but what stands at wa -/
def ExB (wa : Addr) (H H' : Hp) : Prop := ∀ b o, b ≠ wa → H b = some o → H' b = some o
theorem ExB.trans {wa : Addr} {H H1 H2 : Hp} (a : ExB wa H H1) (b : ExB wa H1 H2) : ExB wa H H2 := fun x o n h => b x o n (a x o n h)
theorem ExB.of {wa : Addr} {H H' : Hp} (e : Ex H H') : ExB wa H H' := fun x o _ h => e x o h
def Ex2 (wa rl : Addr) (H H' : Hp) : Prop := ∀ b o, b ≠ wa → b ≠ rl → H b = some o → H' b = some o
theorem Ex2.trans {wa rl : Addr} {H H1 H2 : Hp} (a : Ex2 wa rl H H1) (b : Ex2 wa rl H1 H2) : Ex2 wa rl H H2 := fun x o n m h => b x o n m (a x o n m h)
theorem Ex2.of {wa rl : Addr} {H H' : Hp} (e : Ex H H') : Ex2 wa rl H H' := fun x o _ _ h => e x o h
theorem Ex2.ofB {wa rl : Addr} {H H' : Hp} (e : ExB wa H H') : Ex2 wa rl H H' := fun x o n _ h => e x o n h
mutual
/-- a row as it is drawn: how deep, how many rows of text at most -/
inductive RawRow : Nat → Nat → PyData → Prop
  | asg {h L : Nat} {w n : List Nat} {e : PyData} (hw : w = oLet ∨ w = oSet) (gn : Good kName n) (r : RawD 3 53 5 e) (hL : 1 ≤ L) : RawRow (h + 1) L (.tuple [.str (S w), .none, .str (S n), e])
  | worth {h L : Nat} {w : List Nat} {e : PyData} (hw : w = oGive ∨ w = oSay) (r : RawD 3 53 5 e) (hL : 1 ≤ L) : RawRow (h + 1) L (.tuple [.str (S w), .none, e])
  | give0 {h L : Nat} (hL : 1 ≤ L) : RawRow (h + 1) L (.tuple [.str (S oGive), .none, .none])
  | do_ {h L : Nat} {xs : List PyData} (r : RawD 3 53 5 (rNode oCall xs)) (hL : 1 ≤ L) : RawRow (h + 1) L (.tuple [.str (S oDo), .none, rNode oCall xs])
  | while_ {h L L1 : Nat} {e : PyData} {ds : List PyData} (r : RawD 3 53 5 e) (a : RawRows h L1 ds) (hL : L1 + 2 ≤ L) : RawRow (h + 1) L (.tuple [.str (S oWhile), .none, e, .tuple ds])
  | if_ {h L L1 L2 : Nat} {e : PyData} {ds es : List PyData} (r : RawD 3 53 5 e) (a : RawRows h L1 ds) (b : RawRows h L2 es) (hL : L1 + L2 + 3 ≤ L) : RawRow (h + 1) L (.tuple [.str (S oIf), .none, e, .tuple ds, .tuple es])
inductive RawRows : Nat → Nat → List PyData → Prop
  | nil {h L : Nat} : RawRows h L []
  | cons {h L L1 L2 : Nat} {d : PyData} {ds : List PyData} (r : RawRow h L1 d) (a : RawRows h L2 ds) (hL : L1 + L2 ≤ L) : RawRows h L (d :: ds)
end
theorem rawRow_pos {h L : Nat} {d : PyData} (r : RawRow h L d) : 1 ≤ L := by
  cases r <;> omega
theorem rawRows_len {h : Nat} : ∀ {ds : List PyData} {L : Nat}, RawRows h L ds → ds.length ≤ L
  | [], _, _ => Nat.zero_le _
  | d :: ds, L, a => by
    cases a with
    | cons r a hL =>
      have := rawRows_len a
      have := rawRow_pos r
      rw [List.length_cons]
      omega
/-- parts as they are drawn -/
def RawPart (d : PyData) : Prop := ∃ n k, d = .tuple [.none, .str (S n), .str (S k)] ∧ Good kName n ∧ k ∈ kinds
def RawUse (d : PyData) : Prop := ∃ f, d = .tuple [.none, .str (S f)] ∧ Good kName f
/-- const, keep, def as they are drawn -/
inductive RawTold (h : Nat) : Nat → PyData → Prop
  | worth {L : Nat} {w n : List Nat} {o : Bool} {e : PyData} (hw : w = oConst ∨ w = oKeep) (gn : Good kName n) (r : RawD 3 53 5 e) (hL : 1 ≤ L) : RawTold h L (.tuple [.str (S w), .none, .bool o, .str (S n), e])
  | def_ {L L1 : Nat} {n k : List Nat} {o : Bool} {ps ds : List PyData} (gn : Good kName n) (hp : ∀ p ∈ ps, RawPart p) (hl : ps.length ≤ 6) (hk : k = [] ∨ k ∈ kinds) (a : RawRows h L1 ds) (hL : L1 + 2 ≤ L) :
      RawTold h L (.tuple [.str (S oDef), .none, .bool o, .str (S n), .tuple ps, .str (S k), .tuple ds, .none])
inductive RawTolds (h : Nat) : Nat → List PyData → Prop
  | nil {L : Nat} : RawTolds h L []
  | cons {L L1 L2 : Nat} {d : PyData} {ds : List PyData} (r : RawTold h L1 d) (a : RawTolds h L2 ds) (hL : L1 + L2 ≤ L) : RawTolds h L (d :: ds)
theorem rawTold_pos {h L : Nat} {d : PyData} (r : RawTold h L d) : 1 ≤ L := by
  cases r <;> omega
theorem rawTolds_len {h : Nat} : ∀ {ds : List PyData} {L : Nat}, RawTolds h L ds → ds.length ≤ L
  | [], _, _ => Nat.zero_le _
  | d :: ds, L, a => by
    cases a with
    | cons r a hL =>
      have := rawTolds_len a
      have := rawTold_pos r
      rw [List.length_cons]
      omega
section
variable {K : PySem.W.Frag} {σ : L2.St} {H H' : Hp} {te : TE}
theorem ed_tupleOf {l : Addr} {xs : List V} {ds : List PyData} (h : Ev te σ H (.ref l)) (hl : H l = some (.lst xs)) (hT : TdAll H xs ds) :
    EvD (tCB (fun xs H Q => ∃ p ys, xs = [.ref p] ∧ ((SqL K H p ys ∧ ∀ l, H l = none → Q (.ref l) (upd H l (.tup ys))) ∨ (SqT K H p ys ∧ Q (.ref p) H))) (tCons te tNil)) σ H (.tuple ds) := fun H1 e Q q =>
  h H1 e _ fun H2 e2 => ⟨l, xs, rfl, .inl ⟨sq_of ((e.trans e2) _ _ hl), fun c hc => q _ _ (e2.trans (Ex.new hc)) (.tup upd_same (TdAll.tx (Tx.of ((e.trans e2).trans (Ex.new hc))) _ _ hT))⟩⟩
end
theorem rawAll_len {h b : Nat} : ∀ {ds : List PyData} {c : Nat}, RawAll h c b ds → ds.length ≤ c
  | [], _, _ => Nat.zero_le _
  | d :: ds, c, a => by
    cases a with
    | cons r a hc =>
      have := rawAll_len a
      rw [List.length_cons]
      omega
theorem bin_low : ∀ s ∈ binW, s.all (fun c => decide (c < 128)) = true := by decide
theorem shp_none {k : Nat} : Shp k .none := ⟨by unfold PyData.depth; exact Nat.zero_le _, by unfold wideD; rfl, by unfold PyData.canLay0; rfl⟩
theorem shp_rnode {k : Nat} {w : List Nat} {xs : List PyData} (hw : w.all (fun c => decide (c < 128)) = true) (h : ShpA k xs) (hl : xs.length ≤ 10) : Shp (k + 1) (rNode w xs) :=
  shp_tup (shpA_cons ((shp_str hw).up (Nat.zero_le _)) (shpA_cons shp_none h)) (by simp; omega)
theorem raw_shp : ∀ h, (∀ c b d, c ≤ 1000 → RawD h c b d → Shp (2 * h) d) ∧ ∀ ds c b, c ≤ 1000 → RawAll h c b ds → ShpA (2 * h) ds := by
  intro h
  have all : ∀ h, (∀ c b d, c ≤ 1000 → RawD h c b d → Shp (2 * h) d) → ∀ ds c b, c ≤ 1000 → RawAll h c b ds → ShpA (2 * h) ds := fun h p ds => by
    induction ds with
    | nil => intro c b _ _; exact shpA_nil
    | cons d ds ih =>
      intro c b hc a
      cases a with
      | cons r a hc2 => exact shpA_cons (p _ _ _ (by omega) r) (ih _ _ (by omega) a)
  have lows : ∀ w ∈ [kNum, oTruth, kName, oCall, oNeg, oNot], w.all (fun c => decide (c < 128)) = true := by decide
  have pth : ∀ {f : List Nat}, f = [] ∨ Good kName f → f.all (fun c => decide (c < 128)) = true := fun h => by
    rcases h with z | z
    · rw [z] <;> rfl
    · exact good_low z
  induction h with
  | zero => exact ⟨(fun c b d _ r => by cases r), all 0 (fun c b d _ r => by cases r)⟩
  | succ h ih =>
    obtain ⟨i1, i2⟩ := ih
    have p1 : ∀ c b d, c ≤ 1000 → RawD (h + 1) c b d → Shp (2 * (h + 1)) d := fun c b d hc1 r => by
      cases r with
      | num l hc hb => exact (shp_rnode (k := 0) (lows _ (by decide)) (shpA_cons shp_int shpA_nil) (by show 1 ≤ 10; decide)).up (by omega)
      | tru hc hb => exact (shp_rnode (k := 0) (lows _ (by decide)) (shpA_cons shp_bool shpA_nil) (by show 1 ≤ 10; decide)).up (by omega)
      | name gf gn hc hb => exact (shp_rnode (k := 0) (lows _ (by decide)) (shpA_cons (shp_str (pth gf)) (shpA_cons (shp_str (good_low gn)) shpA_nil)) (by show 2 ≤ 10; decide)).up (by omega)
      | call gf gn a hc hb =>
        have hl := rawAll_len a
        exact (shp_rnode (k := 2 * h + 1) (lows _ (by decide)) (shpA_cons ((shp_str (pth gf)).up (by omega)) (shpA_cons ((shp_str (good_low gn)).up (by omega)) (shpA_cons (shp_tup (i2 _ _ _ (by omega) a) (by omega)) shpA_nil))) (by show 3 ≤ 10; decide)).up (by omega)
      | neg r hc hb => exact (shp_rnode (lows _ (by decide)) (shpA_cons (i1 _ _ _ (by omega) r) shpA_nil) (by show 1 ≤ 10; decide)).up (by omega)
      | not r hc hb => exact (shp_rnode (lows _ (by decide)) (shpA_cons (i1 _ _ _ (by omega) r) shpA_nil) (by show 1 ≤ 10; decide)).up (by omega)
      | bin hs r1 r2 hc h1 h2 => exact (shp_rnode (bin_low _ hs) (shpA_cons (i1 _ _ _ (by omega) r1) (shpA_cons (i1 _ _ _ (by omega) r2) shpA_nil)) (by show 2 ≤ 10; decide)).up (by omega)
    exact ⟨p1, all _ p1⟩
theorem rawRow_shp : ∀ h, (∀ L d, L ≤ 1000 → RawRow h L d → Shp (8 + 2 * h) d) ∧ ∀ ds L, L ≤ 1000 → RawRows h L ds → ShpA (8 + 2 * h) ds := by
  intro h
  have all : ∀ h, (∀ L d, L ≤ 1000 → RawRow h L d → Shp (8 + 2 * h) d) → ∀ ds L, L ≤ 1000 → RawRows h L ds → ShpA (8 + 2 * h) ds := fun h p ds => by
    induction ds with
    | nil => intro L _ _; exact shpA_nil
    | cons d ds ih =>
      intro L hc a
      cases a with
      | cons r a hc2 => exact shpA_cons (p _ _ (by omega) r) (ih _ (by omega) a)
  have lows : ∀ w ∈ [oLet, oSet, oGive, oSay, oDo, oWhile, oIf], w.all (fun c => decide (c < 128)) = true := by decide
  have e6 : ∀ {k : Nat} {e : PyData}, 6 ≤ k → RawD 3 53 5 e → Shp k e := fun hk r => ((raw_shp 3).1 _ _ _ (by decide) r).up hk
  induction h with
  | zero => exact ⟨(fun L d _ r => by cases r), all 0 (fun L d _ r => by cases r)⟩
  | succ h ih =>
    obtain ⟨i1, i2⟩ := ih
    have p1 : ∀ L d, L ≤ 1000 → RawRow (h + 1) L d → Shp (8 + 2 * (h + 1)) d := fun L d hL1 r => by
      cases r with
      | asg hw gn r hL => exact (shp_rnode (k := 6) (lows _ (by rcases hw with z | z <;> rw [z] <;> decide)) (shpA_cons ((shp_str (good_low gn)).up (by decide)) (shpA_cons (e6 (by decide) r) shpA_nil)) (by show 2 ≤ 10; decide)).up (by omega)
      | worth hw r hL => exact (shp_rnode (k := 6) (lows _ (by rcases hw with z | z <;> rw [z] <;> decide)) (shpA_cons (e6 (by decide) r) shpA_nil) (by show 1 ≤ 10; decide)).up (by omega)
      | give0 hL => exact (shp_rnode (k := 6) (lows _ (by decide)) (shpA_cons shp_none shpA_nil) (by show 1 ≤ 10; decide)).up (by omega)
      | do_ r hL => exact (shp_rnode (k := 6) (lows _ (by decide)) (shpA_cons (e6 (by decide) r) shpA_nil) (by show 1 ≤ 10; decide)).up (by omega)
      | while_ r a hL =>
        have hl := rawRows_len a
        exact (shp_rnode (k := 8 + 2 * h + 1) (lows _ (by decide)) (shpA_cons (e6 (by omega) r) (shpA_cons (shp_tup (i2 _ _ (by omega) a) (by omega)) shpA_nil)) (by show 2 ≤ 10; decide)).up (by omega)
      | if_ r a b hL =>
        have hl := rawRows_len a
        have hl2 := rawRows_len b
        exact (shp_rnode (k := 8 + 2 * h + 1) (lows _ (by decide)) (shpA_cons (e6 (by omega) r) (shpA_cons (shp_tup (i2 _ _ (by omega) a) (by omega)) (shpA_cons (shp_tup (i2 _ _ (by omega) b) (by omega)) shpA_nil))) (by show 3 ≤ 10; decide)).up (by omega)
    exact ⟨p1, all _ p1⟩
section
variable {K : PySem.W.Frag} {σ : L2.St} {H H' : Hp} {te : TE}
/-- e[i] != () -/
theorem et_neNilT {v : V} {ds : List PyData} (ha : Ev te σ H v) (hT : Td H v (.tuple ds)) (hs : Shp 64 (.tuple ds)) : EvT (tTest (tOp (rNeD K) te (tTup tNil))) σ H (!decide (ds = [])) := et_test (ev_opU ha (eu_tup ea_nil (Nat.zero_le _)) fun p H6 h6 e6 H7 e7 Q7 q7 => by
  refine ⟨.tuple ds, .tuple [], Td.dp _ _ (Td.tx (Tx.of (e6.trans e7)) _ _ hT), Td.dp _ _ (Td.tup (e7 _ _ h6) .nil), ?_, by decide +kernel, ?_⟩
  · unfold SeqAt.shaped
    rw [hs.ly, decide_eq_true hs.dp] <;> rfl
  · have e : PyData.eqv (.tuple ds) (.tuple []) = decide (ds = []) := eqvAll_nil ds
    rw [e]
    exact q7 H7 (Ex.refl H7))
theorem et_eqNilT {v : V} {ds : List PyData} (ha : Ev te σ H v) (hT : Td H v (.tuple ds)) (hs : Shp 64 (.tuple ds)) : EvT (tTest (tOp (rEqD K) te (tTup tNil))) σ H (decide (ds = [])) := et_test (ev_opU ha (eu_tup ea_nil (Nat.zero_le _)) fun p H6 h6 e6 H7 e7 Q7 q7 => by
  refine ⟨.tuple ds, .tuple [], Td.dp _ _ (Td.tx (Tx.of (e6.trans e7)) _ _ hT), Td.dp _ _ (Td.tup (e7 _ _ h6) .nil), ?_, by decide +kernel, ?_⟩
  · unfold SeqAt.shaped
    rw [hs.ly, decide_eq_true hs.dp] <;> rfl
  · have e : PyData.eqv (.tuple ds) (.tuple []) = decide (ds = []) := eqvAll_nil ds
    rw [e]
    exact q7 H7 (Ex.refl H7))
theorem ev_neNilT {v : V} {ds : List PyData} (ha : Ev te σ H v) (hT : Td H v (.tuple ds)) (hs : Shp 64 (.tuple ds)) : Ev (tOp (rNeD K) te (tTup tNil)) σ H (.bl (!decide (ds = []))) := ev_opU ha (eu_tup ea_nil (Nat.zero_le _)) fun p H6 h6 e6 H7 e7 Q7 q7 => by
  refine ⟨.tuple ds, .tuple [], Td.dp _ _ (Td.tx (Tx.of (e6.trans e7)) _ _ hT), Td.dp _ _ (Td.tup (e7 _ _ h6) .nil), ?_, by decide +kernel, ?_⟩
  · unfold SeqAt.shaped
    rw [hs.ly, decide_eq_true hs.dp] <;> rfl
  · have e : PyData.eqv (.tuple ds) (.tuple []) = decide (ds = []) := eqvAll_nil ds
    rw [e]
    exact q7 H7 (Ex.refl H7)
end
end Wt

set_option Elab.async false
set_option linter.all false
set_option maxRecDepth 100000
set_option maxHeartbeats 4000000
namespace Wt
open PySem PySem.Spec PyProof.Rows L2 SX Evl
open C8 (Def Cal cal0 fnScope_by fnScope)
/-! The dice, likeness, a pick. -/
section
variable {P : Program} {w : World} {K : PySem.W.Frag} {mg : Str → Option Value} {base : Heap}
/-! ### _law_dice -/
abbrev s__law_dice : Stmt := topS 14
theorem sc__law_dice : FnScope ["_law_script", "_law_mixed", "_law_cell"] ["_law_script"] (fnScope s__law_dice) := fnScope_by (by decide +kernel)
theorem ok_dice0 (T : ModsL K mg) {f : Addr} {fd : FuncData} (F : Def K mg "_law_dice" s__law_dice f fd) (b : Binds K fd ["_law_script"] []) : Cal P w K mg base 1 "_law_dice" (spDice0 K) [] := by
  refine cal0 F b .nil sc__law_dice (fun vs H Q E h => ?_) (fun cdv A outer s H vs Q E hr h => ?_)
  · obtain ⟨_, _, rfl, _⟩ := h
    rfl
  · obtain ⟨a, ns, rfl, hS, q⟩ := h
    have m_int := T.m_int
    have m_len := T.m_len
    refine ⟨_, (pss_cons (ps_set (i := 1) sc__law_dice.nd rfl (.inl rfl) pe_int)
      (pss_cons (ps_for PassesOwn.never rfl (pi_list (pv 0)) (pg_name (i := 2) sc__law_dice.nd rfl (.inl rfl)) (pss_one (ps_set (i := 1) sc__law_dice.nd rfl (.inl rfl) (pe_op op_mod (pe_op op_add (pe_op op_add (pe_op op_mul (pv 1) pe_int) (pe_op op_mul (pe_op op_mod (pv 2) pe_int) pe_int)) pe_int) pe_int))))
      (pss_one (ps_ret (pe_lst (pa_cons (pv 0) (pa_cons pe_int (pa_cons (pe_op op_mul (pv 1) (pe_callTy call_int1 (by rfl) m_int Wt.bt_int (pa_cons (pe_cmpR op_gt (pe_callB call_len_seq (by rfl) m_len PySem.boot_len (pa_cons (pv 0) pa_nil)) pe_int (nomark _)) pa_nil))) (pa_cons pe_int pa_nil))))))))), ?_⟩
    refine q_asg ev_c fun H1 e1 => ?_
    refine q_forLn (ev_var rfl) (hS.ex e1).sq (fun i σ' H' => ∃ (m : Int) (y : Option V), σ' = [some (.ref a), some (.int m), y] ∧ 0 ≤ m ∧ m < 2147483647 ∧ Ex H H')
      (fun H2 e2 => ⟨0, none, rfl, by decide, by decide, e1.trans e2⟩) (fun i σ' H' _ ⟨_, _, _, _, _, e⟩ => (hS.ex e).sq) ?_ ?_
    · rintro i x σ' H' hx ⟨m, y, rfl, h0, h1, eH⟩
      rw [List.getElem?_map] at hx
      obtain ⟨c, rfl⟩ : ∃ c, x = V.int c := by
        cases hc : ns[i]? with
        | none =>
          rw [hc] at hx
          cases hx
        | some c =>
          rw [hc] at hx
          exact ⟨c, (Option.some.inj hx).symm⟩
      have b1 := Int.emod_nonneg c (show (2147483647 : Int) ≠ 0 by decide)
      have b2 := Int.emod_lt_of_pos c (show (0 : Int) < 2147483647 by decide)
      refine s_asg (ev_op (ev_op (ev_op (ev_op (ev_var rfl) ev_c (rv_I (.inl ⟨by omega, by omega⟩))) (ev_op (ev_op (ev_var rfl) ev_c (rv_I (show (0 : Int) < 2147483647 by decide))) ev_c (rv_I (.inl ⟨by omega, by omega⟩))) rv_I0) ev_c rv_I0) ev_c (rv_I (show (0 : Int) < 2147483647 by decide))) fun H2 e2 => ?_
      exact ⟨_, _, rfl, Int.emod_nonneg _ (by decide), Int.emod_lt_of_pos _ (by decide), eH.trans e2⟩
    · rintro σ' H' ⟨m, y, rfl, h0, h1, eH⟩
      have hq := hS.ex eH
      refine s_retL (xs := [.ref a, .int 0, .int (m * (if decide ((2 : Int) < ((ns.map V.int).length : Int)) = true then 1 else 0)), .int 0])
        (el_lst (ea_cons (ev_var rfl) (ea_cons ev_c (ea_cons (ev_op (ev_var rfl) (ev_cb (ea_cons (ev_op (ev_len (K := K) (ev_var rfl) hq.sq) ev_c rv_I0) ea_nil) (fun H1 _ Q q => .inr ⟨_, rfl, q H1 (Ex.refl H1)⟩)) (rv_I (.inl ⟨by omega, by omega⟩))) (ea_cons ev_c ea_nil)))) (by show 4 ≤ 100000; decide))
        fun p H2 hp e2 h2 => q p H2 _ (fresh_back eH hp) (eH.trans e2) ?_ ?_ h2
      · split <;> omega
      · split <;> omega
theorem ok_dice (c : Cal P w K mg base 1 "_law_dice" (spDice0 K) []) : Cal P w K mg base 1 "_law_dice" (spDice K) [] := by
  obtain ⟨f, fd, ps, ds, F, h1, h2, h3, h4⟩ := c.ex
  cases h4
  refine ⟨f, fd, ps, [], fn_seen F (fun vs H Q E h => ?_) (fun vs H Q E h hp ok => ?_), h1, h2, h3, .nil⟩
  · obtain ⟨a, ns, rfl, hS, q⟩ := h
    exact F.len [.ref a] H (fun v H' => True) E ⟨a, ns, rfl, hS, fun _ _ _ _ _ _ _ _ => trivial⟩
  · obtain ⟨a, ns, rfl, hS, q⟩ := h
    refine ⟨H, fun v H2 => ∃ p m, v = .ref p ∧ H p = none ∧ Ex H H2 ∧ 0 ≤ m ∧ m < 2147483647 ∧ H2 p = some (.lst [.ref a, .int 0, .int m, .int 0]), ⟨fun _ h => h, fun _ _ h => h, fun _ _ _ h => h, fun _ _ h => h⟩, ok,
      ⟨a, ns, rfl, hS, fun p H2 m hp2 e h0 h1 h2 => ⟨p, m, rfl, hp2, e, h0, h1, h2⟩⟩, ?_⟩
    rintro v H2 hp2 ok2 ⟨p, m, rfl, hn, e, h0, h1, h2⟩
    obtain ⟨al, ok3⟩ := dice_in ok2 h2 (Int.le_refl 0) h0 h1
    exact ⟨_, al, ok3, q p _ hn (Ex.mut e hn) upd_same⟩

/-! ### _law_next -/
abbrev s__law_next : Stmt := topS 15
theorem sc__law_next : FnScope ["_law_dice_here", "_law_many", "_law_found", "_law_cell"] ["_law_dice_here", "_law_many"] (fnScope s__law_next) := fnScope_by (by decide +kernel)
theorem ok_next0 (T : ModsL K mg) {f : Addr} {fd : FuncData} (F : Def K mg "_law_next" s__law_next f fd) (b : Binds K fd ["_law_dice_here", "_law_many"] []) : Cal P w K mg base 1 "_law_next" (spNext0 K) [] := by
  refine cal0 F b .nil sc__law_next (fun vs H Q E h => ?_) (fun cdv A outer s H vs Q E hr h => ?_)
  · obtain ⟨_, _, _, _, _, _, _, rfl, _⟩ := h
    rfl
  · obtain ⟨d, a, ns, many, i, m, r, rfl, hm0, hm1, hd, hi, h0, h1, hS, q⟩ := h
    have m_len := T.m_len
    refine ⟨_, (pss_cons (ps_if (pt_cmpR op_gt (pe_ix ix_list (pv 0) pe_int (fun _ _ => rfl)) pe_int (nomark _)) (pss_cons (ps_set (i := 2) sc__law_next.nd rfl (.inl rfl) (pe_op op_mod (pe_ix ix_list (pv 0) pe_int (fun _ _ => rfl)) (pv 1)))
      (pss_cons (ps_asg (pe_op op_fdiv (pe_ix ix_list (pv 0) pe_int (fun _ _ => rfl)) (pv 1)) (pg_sub (pv 0) pe_int set_list))
      (pss_one (ps_ret (pv 2))))) pss_nil)
      (pss_cons (ps_asg (pe_op op_add (pe_ix ix_list (pv 0) pe_int (fun _ _ => rfl)) pe_int) (pg_sub (pv 0) pe_int set_list))
      (pss_cons (ps_if (pt_cmpR op_le (pe_ix ix_list (pv 0) pe_int (fun _ _ => rfl)) (pe_callB call_len_seq (by rfl) m_len PySem.boot_len (pa_cons (pe_ix ix_list (pv 0) pe_int (fun _ _ => rfl)) pa_nil)) (nomark _)) (pss_cons (ps_set (i := 3) sc__law_next.nd rfl (.inl rfl) (pe_ix ix_list (pe_ix ix_list (pv 0) pe_int (fun _ _ => rfl)) (pe_op op_sub (pe_ix ix_list (pv 0) pe_int (fun _ _ => rfl)) pe_int) (fun _ _ => rfl)))
      (pss_cons (ps_asg (pe_ifExp (pt_cmpR op_ge (pv 3) (pe_op op_pow pe_int pe_int) (nomark _)) (pe_op op_fdiv (pv 3) (pv 1)) pe_int) (pg_sub (pv 0) pe_int set_list))
      (pss_one (ps_ret (pe_op op_mod (pv 3) (pv 1)))))) pss_nil)
      (pss_cons (ps_asg (pe_op op_mod (pe_op op_mul (pe_ix ix_list (pv 0) pe_int (fun _ _ => rfl)) pe_int) pe_int) (pg_sub (pv 0) pe_int set_list))
      (pss_one (ps_ret (pe_op op_mod (pe_op op_fdiv (pe_ix ix_list (pv 0) pe_int (fun _ _ => rfl)) pe_int) (pv 1)))))))), ?_⟩
    have ix : ∀ {H' : Hp} {σ : L2.St} {ta tb : TE} {xs : List V} {j : Nat} {v : V}, Ev ta σ H' (.ref d) → Ev tb σ H' (.int (j : Int)) → H' d = some (.lst xs) → xs[j]? = some v → Ev (tOp (rIxL K) ta tb) σ H' v :=
      fun ha hb h1 h2 => ev_op ha hb (rv_ixL (sq_of h1) (atI_nat h2))
    have c0 : ∀ {H' : Hp} {σ : L2.St}, Ev (tC (.int 0)) σ H' (.int ((0 : Nat) : Int)) := ev_c
    have c1 : ∀ {H' : Hp} {σ : L2.St}, Ev (tC (.int 1)) σ H' (.int ((1 : Nat) : Int)) := ev_c
    have c2 : ∀ {H' : Hp} {σ : L2.St}, Ev (tC (.int 2)) σ H' (.int ((2 : Nat) : Int)) := ev_c
    have c3 : ∀ {H' : Hp} {σ : L2.St}, Ev (tC (.int 3)) σ H' (.int ((3 : Nat) : Int)) := ev_c
    have hdiv : ∀ x : Int, CDiv x many := fun x => ⟨hm0, hm1⟩
    have rz : ∀ x : Int, 0 ≤ x % many ∧ x % many < many := fun x => ⟨Int.emod_nonneg x (by omega), Int.emod_lt_of_pos x hm0⟩
    refine q_when (et_test (ev_op (ix (ev_var rfl) c3 hd rfl) ev_c rv_I0)) (fun hb H1 e1 => ?_) (fun hb H1 e1 => ?_)
    · have hd1 := e1 d _ hd
      refine q_asg (ev_op (ix (ev_var rfl) c3 hd1 rfl) (ev_var rfl) (rv_I hm0)) fun H2 e2 => ?_
      have hd2 := e2 d _ hd1
      refine q_setL (xs := [.ref a, .int i, .int m, .int r]) (j := 3) hd2 (ev_op (ix (ev_var rfl) c3 hd2 rfl) (ev_var rfl) (rv_I (hdiv r))) (ev_var rfl) c3 (by show 3 < 4; decide) fun H3 e3 => ?_
      have x3 : Exd d H (upd H3 d (.lst ([V.ref a, .int i, .int m, .int r].set 3 (.int (r / many))))) := fun b o hb2 ho => by
        rw [upd_ne hb2]
        exact e3 b o (e2 b o (e1 b o ho))
      refine s_ret (ev_var rfl) fun H4 e4 => q _ H4 i m (r / many) (rz r).1 (rz r).2 hi h0 h1 (e4 d _ upd_same) fun b o hb2 ho => e4 b o (x3 b o hb2 ho)
    · have hd1 := e1 d _ hd
      refine q_setL (xs := [.ref a, .int i, .int m, .int r]) (j := 1) hd1 (ev_op (ix (ev_var rfl) c1 hd1 rfl) ev_c rv_I0) (ev_var rfl) c1 (by show 1 < 4; decide) fun H2 e2 => ?_
      have hd2 := e2 d _ hd1
      have hd3 : (upd H2 d (.lst ([V.ref a, .int i, .int m, .int r].set 1 (.int (i + 1))))) d = some (.lst [.ref a, .int (i + 1), .int m, .int r]) := upd_same
      have x3 : Exd d H (upd H2 d (.lst ([V.ref a, .int i, .int m, .int r].set 1 (.int (i + 1))))) := fun b o hb2 ho => by
        rw [upd_ne hb2]
        exact e2 b o (e1 b o ho)
      have hS3 : Scr K (upd H2 d (.lst ([V.ref a, .int i, .int m, .int r].set 1 (.int (i + 1))))) a ns := (hS.ex (e1.trans e2)).fx (Fx.mut hd2 True.intro)
      generalize upd H2 d (.lst ([V.ref a, .int i, .int m, .int r].set 1 (.int (i + 1)))) = H3 at hd3 x3 hS3 ⊢
      refine q_when (et_test (ev_op (ix (ev_var rfl) c1 hd3 rfl) (ev_len (K := K) (ix (ev_var rfl) c0 hd3 rfl) hS3.sq) rv_I0)) (fun hb2 H4 e4 => ?_) (fun hb2 H4 e4 => ?_)
      · have hle := of_decide_eq_true hb2
        rw [List.length_map] at hle
        have hd4 := e4 d _ hd3
        have hlt : i.toNat < ns.length := by omega
        have hg : (ns.map V.int)[i.toNat]? = some (.int ns[i.toNat]) := by
          rw [List.getElem?_map, List.getElem?_eq_getElem hlt] <;> rfl
        refine q_asg (ev_op (ix (ev_var rfl) c0 hd4 rfl) (ev_is (ev_op (ix (ev_var rfl) c1 hd4 rfl) ev_c rv_I0) (show V.int (i + 1 - 1) = V.int ((i.toNat : Nat) : Int) by rw [show i + 1 - 1 = ((i.toNat : Nat) : Int) by omega])) (rv_ixL (hS3.ex e4).sq (atI_nat hg))) fun H5 e5 => ?_
        have hd5 := e5 d _ hd4
        refine q_setL (xs := [.ref a, .int (i + 1), .int m, .int r]) (j := 3) (v := .int (if decide ((10 : Int) ^ (18 : Int).toNat ≤ ns[i.toNat]) = true then ns[i.toNat] / many else 0)) hd5
          (ev_if (et_test (ev_op (ev_var rfl) (ev_op ev_c ev_c (rv_I ⟨by decide, by decide, by decide⟩)) rv_I0)) (fun z => ?_) (fun z => ?_)) (ev_var rfl) c3 (by show 3 < 4; decide) fun H6 e6 => ?_
        · rw [if_pos z]
          exact ev_op (ev_var rfl) (ev_var rfl) (rv_I (hdiv _))
        · rw [if_neg (by rw [z]; exact Bool.false_ne_true)]
          exact ev_c
        · have x6 : Exd d H (upd H6 d (.lst ([V.ref a, .int (i + 1), .int m, .int r].set 3 (.int (if decide ((10 : Int) ^ (18 : Int).toNat ≤ ns[i.toNat]) = true then ns[i.toNat] / many else 0))))) := fun b o hb2 ho => by
            rw [upd_ne hb2]
            exact e6 b o (e5 b o (e4 b o (x3 b o hb2 ho)))
          refine s_ret (ev_op (ev_var rfl) (ev_var rfl) (rv_I hm0)) fun H7 e7 => q _ H7 (i + 1) m _ (rz _).1 (rz _).2 (by omega) h0 h1 (e7 d _ upd_same) fun b o hb2 ho => e7 b o (x6 b o hb2 ho)
      · have hd4 := e4 d _ hd3
        refine q_setL (xs := [.ref a, .int (i + 1), .int m, .int r]) (j := 2) hd4 (ev_op (ev_op (ix (ev_var rfl) c2 hd4 rfl) ev_c (rv_I (.inl ⟨by omega, by omega⟩))) ev_c (rv_I (show (0 : Int) < 2147483647 by decide))) (ev_var rfl) c2 (by show 2 < 4; decide) fun H5 e5 => ?_
        have hd6 : (upd H5 d (.lst ([V.ref a, .int (i + 1), .int m, .int r].set 2 (.int (m * 48271 % 2147483647))))) d = some (.lst [.ref a, .int (i + 1), .int (m * 48271 % 2147483647), .int r]) := upd_same
        have x6 : Exd d H (upd H5 d (.lst ([V.ref a, .int (i + 1), .int m, .int r].set 2 (.int (m * 48271 % 2147483647))))) := fun b o hb2 ho => by
          rw [upd_ne hb2]
          exact e5 b o (e4 b o (x3 b o hb2 ho))
        generalize upd H5 d (.lst ([V.ref a, .int (i + 1), .int m, .int r].set 2 (.int (m * 48271 % 2147483647)))) = H6 at hd6 x6 ⊢
        refine s_ret (ev_op (ev_op (ix (ev_var rfl) c2 hd6 rfl) ev_c (rv_I ⟨by decide, by decide⟩)) (ev_var rfl) (rv_I hm0)) fun H7 e7 => q _ H7 (i + 1) _ r (rz _).1 (rz _).2 (by omega) (Int.emod_nonneg _ (by decide)) (Int.emod_lt_of_pos _ (by decide)) (e7 d _ hd6) fun b o hb2 ho => e7 b o (x6 b o hb2 ho)
theorem ok_next (c : Cal P w K mg base 1 "_law_next" (spNext0 K) []) : Cal P w K mg base 1 "_law_next" (spNext K) [] := by
  obtain ⟨f, fd, ps, ds, F, h1, h2, h3, h4⟩ := c.ex
  cases h4
  refine ⟨f, fd, ps, [], fn_seen F (fun vs H Q E h => ?_) (fun vs H Q E h hp ok => ?_), h1, h2, h3, .nil⟩
  · obtain ⟨d, a, ns, many, rfl, m0, m1, hd, hS, q⟩ := h
    have hS2 : Scr K (upd H d (.lst [.ref a, .int 0, .int 0, .int 0])) a ns := hS.fx (Fx.mut hd True.intro)
    exact F.len [.ref d, .int many] _ (fun v H' => True) E ⟨d, a, ns, many, 0, 0, 0, rfl, m0, m1, upd_same, by decide, by decide, by decide, hS2, fun _ _ _ _ _ _ _ _ _ _ _ _ => trivial⟩
  · obtain ⟨d, a, ns, many, rfl, m0, m1, hd, hS, q⟩ := h
    obtain ⟨i, m, r, b0, b1, b2, al, ok1⟩ := dice_out ok hd
    refine ⟨_, fun v H2 => ∃ z i' m' r', v = .int z ∧ 0 ≤ z ∧ z < many ∧ 0 ≤ i' ∧ 0 ≤ m' ∧ m' < 2147483647 ∧ H2 d = some (.lst [.ref a, .int i', .int m', .int r']) ∧ Exd d (upd H d (.lst [.ref a, .int i, .int m, .int r])) H2, al, ok1,
      ⟨d, a, ns, many, i, m, r, rfl, m0, m1, upd_same, b0, b1, b2, hS.fx (Fx.mut hd True.intro), fun z H2 i' m' r' z0 z1 z2 z3 z4 z5 z6 => ⟨z, i', m', r', rfl, z0, z1, z2, z3, z4, z5, z6⟩⟩, ?_⟩
    rintro v H2 hp2 ok2 ⟨z, i', m', r', rfl, z0, z1, z2, z3, z4, z5, z6⟩
    obtain ⟨al2, ok3⟩ := dice_in ok2 z5 z2 z3 z4
    refine ⟨_, al2, ok3, q z _ z0 z1 fun b o ho => ?_⟩
    by_cases hb : b = d
    · subst hb
      rw [hd] at ho
      cases ho
      exact upd_same
    · rw [upd_ne hb]
      exact z6 b o hb (by rw [upd_ne hb]; exact ho)

/-! ### _law_pick -/
abbrev s__law_pick : Stmt := topS 17
theorem sc__law_pick : FnScope ["_law_d", "_law_some"] ["_law_d", "_law_some"] (fnScope s__law_pick) := fnScope_by (by decide +kernel)
def spPick (K : PySem.W.Frag) : Sp := fun vs H Q _ => ∃ (d a s : Addr) (ns : List Int) (xs : List V), vs = [.ref d, .ref s] ∧ Dc K H d a ns ∧ SqL K H s xs ∧ 0 < xs.length ∧ xs.length ≤ 1000 ∧ ∀ x H2, x ∈ xs → Ex H H2 → Q x H2
theorem ok_pick (T : ModsL K mg) (c__law_next : Cal P w K mg base 1 "_law_next" (spNext K) []) {f : Addr} {fd : FuncData} (F : Def K mg "_law_pick" s__law_pick f fd) (b : Binds K fd ["_law_d", "_law_some"] []) : Cal P w K mg base 2 "_law_pick" (spPick K) [] := by
  refine cal0 F b .nil sc__law_pick (fun vs H Q E h => ?_) (fun cdv A outer s H vs Q E hr h => ?_)
  · obtain ⟨_, _, _, _, _, rfl, _⟩ := h
    rfl
  · obtain ⟨d, a, sa, ns, xs, rfl, hD, hS, hl0, hl1, q⟩ := h
    have m_len := T.m_len
    refine ⟨_, (pss_one (ps_ret (pe_ix ix_list (pv 1) (C8.pe_c c__law_next hr (by first | decide | exact Nat.le_refl _ | omega) (by rfl) (pa_cons (pv 0) (pa_cons (pe_callB call_len_seq (by rfl) m_len PySem.boot_len (pa_cons (pv 1) pa_nil)) pa_nil))) (fun _ _ => rfl)))), ?_⟩
    refine sn_ret (P := fun x => x ∈ xs) (en_opV (EvN.of (ev_var rfl)) (fun x hx => en_next hD (ev_var rfl) (ev_len (K := K) (ev_var rfl) hS) (by omega) (by omega)) ?_) fun v H1 hv e1 => q v H1 hv e1
    rintro x y rfl ⟨z, rfl, z0, z1⟩
    obtain ⟨k, rfl⟩ : ∃ k : Nat, z = (k : Int) := ⟨z.toNat, by omega⟩
    have hlt : k < xs.length := by omega
    refine ⟨xs[k], List.getElem_mem hlt, ?_⟩
    exact rv_ixL hS (atI_nat (List.getElem?_eq_getElem hlt))
theorem sn_pick {H : Hp} {d a s : Addr} {ns : List Int} {xs : List V} (h : Dc K H d a ns) (hs : SqL K H s xs) (l0 : 0 < xs.length) (l1 : xs.length ≤ 1000) : SpN (spPick K) [.ref d, .ref s] H (fun v => v ∈ xs) :=
  fun H1 e Q q E => ⟨d, a, s, ns, xs, rfl, h.ex e, ex_l e hs, l0, l1, fun x H2 hx e2 => q x H2 hx e2⟩
/-- a pick out of a list made on the way -/
theorem en_pickL {H : Hp} {σ : L2.St} {E : XK} {ta tb : TE} {d a : Addr} {ns : List Int} {xs : List V} (h : Dc K H d a ns) (ha : Ev ta σ H (.ref d)) (hb : EvL tb σ H xs) (l0 : 0 < xs.length) (l1 : xs.length ≤ 1000) :
    EvN (tCall (spPick K) [] E (tCons ta (tCons tb tNil))) σ H (fun v => v ∈ xs) := fun H1 e Q q =>
  ha H1 e _ fun H2 e2 => hb H2 (e.trans e2) _ fun p H3 _ e3 hp => ⟨d, a, p, ns, xs, rfl, h.ex ((e.trans e2).trans e3), sq_of hp, l0, l1, fun x H4 hx e4 => q x H4 hx ((e2.trans e3).trans e4)⟩
end
end Wt

set_option Elab.async false
set_option linter.all false
set_option maxRecDepth 100000
set_option maxHeartbeats 4000000
namespace Wt
open PySem PySem.Spec PyProof.Rows L2 SX Evl
open C8 (Def Cal cal0 fnScope_by fnScope)
/-! Likeness: of two of the same data it tells True. -/
section
variable {P : Program} {w : World} {K : PySem.W.Frag} {mg : Str → Option Value} {base : Heap}
abbrev s__law_like : Stmt := topS 16
theorem sc__law_like : FnScope ["_law_found", "_law_due", "_law_k"] ["_law_found", "_law_due"] (fnScope s__law_like) := fnScope_by (by decide +kernel)
def spLike (K : PySem.W.Frag) (n : Nat) : Sp := fun vs H Q _ => ∃ (x y : V) (d : PyData), vs = [x, y] ∧ Dp K H x d ∧ Dp K H y d ∧ d.depth < n ∧ wideD d = true ∧ RetV (.bl true) H Q
theorem ok_like1 (T : ModsL K mg) (n : Nat) (c__law_like : Cal P w K mg base n "_law_like" (spLike K n) []) {f : Addr} {fd : FuncData} (F : Def K mg "_law_like" s__law_like f fd) (b : Binds K fd ["_law_found", "_law_due"] []) : Cal P w K mg base (n + 1) "_law_like" (spLike K (n + 1)) [] := by
  refine cal0 F b .nil sc__law_like (fun vs H Q E h => ?_) (fun cdv A outer s H vs Q E hr h => ?_)
  · obtain ⟨_, _, _, rfl, _⟩ := h
    rfl
  · obtain ⟨x, y, d, rfl, hx, hy, hdep, hwd, q⟩ := h
    have m_isinstance := T.m_isinstance
    have m_tuple := T.m_tuple
    have m_list := T.m_list
    have m_len := T.m_len
    have m_range := T.m_range
    have m_bool := T.m_bool
    have m_int := T.m_int
    have m_str := T.m_str
    have hu64 := hr.units
    refine ⟨_, (pss_cons (ps_if (PW.pt (pw_or (pt_val (pe_callB call_isi (by rfl) m_isinstance Wt.bt_isinstance (pa_cons (pv 1) (pa_cons (pe_bltn (v := .ty "tuple") (by rfl) m_tuple Wt.bt_tuple rfl) pa_nil)))) (pw_or1 (pt_val (pe_callB call_isi (by rfl) m_isinstance Wt.bt_isinstance (pa_cons (pv 1) (pa_cons (pe_bltn (v := .ty "list") (by rfl) m_list Wt.bt_list rfl) pa_nil))))))) (pss_cons (ps_if (pt_cmpR op_ne (pe_callB call_isi (by rfl) m_isinstance Wt.bt_isinstance (pa_cons (pv 0) (pa_cons (pe_bltn (v := .ty "tuple") (by rfl) m_tuple Wt.bt_tuple rfl) pa_nil))) (pe_callB call_isi (by rfl) m_isinstance Wt.bt_isinstance (pa_cons (pv 1) (pa_cons (pe_bltn (v := .ty "tuple") (by rfl) m_tuple Wt.bt_tuple rfl) pa_nil))) (nomark _)) (pss_one (ps_ret pe_bl)) pss_nil)
      (pss_cons (ps_if (PW.pt (pw_or (pt_cmpR op_ne (pe_callB call_isi (by rfl) m_isinstance Wt.bt_isinstance (pa_cons (pv 0) (pa_cons (pe_bltn (v := .ty "list") (by rfl) m_list Wt.bt_list rfl) pa_nil))) (pe_callB call_isi (by rfl) m_isinstance Wt.bt_isinstance (pa_cons (pv 1) (pa_cons (pe_bltn (v := .ty "list") (by rfl) m_list Wt.bt_list rfl) pa_nil))) (nomark _)) (pw_or1 (pt_cmpR op_ne (pe_callB call_len_seq (by rfl) m_len PySem.boot_len (pa_cons (pv 0) pa_nil)) (pe_callB call_len_seq (by rfl) m_len PySem.boot_len (pa_cons (pv 1) pa_nil)) (nomark _))))) (pss_one (ps_ret pe_bl)) pss_nil)
      (pss_one (ps_ret (pe_cmpR (op_eqD hu64) (pe_lc (own := [("_law_k", 2)]) (g := (gName 2)) rfl sc__law_like.nd (pi_range1 (by rfl) m_range (pa_cons (pe_callB call_len_seq (by rfl) m_len PySem.boot_len (pa_cons (pv 1) pa_nil)) pa_nil)) (blkOk_by (N := ["_law_found", "_law_due", "_law_k"]) (sc := C8.fnScope s__law_like) (by decide +kernel)) (fun _ _ _ _ _ => pg_name (i := 2) sc__law_like.nd rfl (Or.inl rfl)) (fun _ _ _ _ _ => pts_one (pt_not (pt_val (C8.pe_c c__law_like hr (by first | decide | exact Nat.le_refl _ | omega) (by rfl) (pa_cons (pe_ix (show IxR _ (rIx K) from ix_seq) (pv 0) (pv 2) (fun _ _ => rfl)) (pa_cons (pe_ix (show IxR _ (rIx K) from ix_seq) (pv 1) (pv 2) (fun _ _ => rfl)) pa_nil)))))) (fun _ _ _ _ _ => (pv 2))) (pe_lst pa_nil) (nomark _)))))) pss_nil)
      (pss_cons (ps_if (pt_cmpR op_ne (pe_callB call_isi (by rfl) m_isinstance Wt.bt_isinstance (pa_cons (pv 0) (pa_cons (pe_bltn (v := .ty "bool") (by rfl) m_bool Wt.bt_bool rfl) pa_nil))) (pe_callB call_isi (by rfl) m_isinstance Wt.bt_isinstance (pa_cons (pv 1) (pa_cons (pe_bltn (v := .ty "bool") (by rfl) m_bool Wt.bt_bool rfl) pa_nil))) (nomark _)) (pss_one (ps_ret pe_bl)) pss_nil)
      (pss_cons (ps_if (PW.pt (pw_or (pt_cmpR op_ne (pe_callB call_isi (by rfl) m_isinstance Wt.bt_isinstance (pa_cons (pv 0) (pa_cons (pe_bltn (v := .ty "int") (by rfl) m_int Wt.bt_int rfl) pa_nil))) (pe_callB call_isi (by rfl) m_isinstance Wt.bt_isinstance (pa_cons (pv 1) (pa_cons (pe_bltn (v := .ty "int") (by rfl) m_int Wt.bt_int rfl) pa_nil))) (nomark _)) (pw_or1 (pt_cmpR op_ne (pe_callB call_isi (by rfl) m_isinstance Wt.bt_isinstance (pa_cons (pv 0) (pa_cons (pe_bltn (v := .ty "str") (by rfl) m_str Wt.bt_str rfl) pa_nil))) (pe_callB call_isi (by rfl) m_isinstance Wt.bt_isinstance (pa_cons (pv 1) (pa_cons (pe_bltn (v := .ty "str") (by rfl) m_str Wt.bt_str rfl) pa_nil))) (nomark _))))) (pss_one (ps_ret pe_bl)) pss_nil)
      (pss_one (ps_ret (pe_cmpR op_eq (pv 0) (pv 1) (nomark _))))))), ?_⟩
    by_cases hs : ∃ ds, d = .list ds ∨ d = .tuple ds
    · obtain ⟨ds, hd⟩ := hs
      obtain ⟨p, xs, pq, ys, rfl, rfl, gx, gy, ax, ay⟩ := like_seq hd hx hy
      have lx := dpa_len ax
      have ly := dpa_len ay
      have hw2 : ds.length ≤ 40000 ∧ wideAll ds = true ∧ PyData.depthAll ds < n := by
        rcases hd with rfl | rfl
        · unfold wideD at hwd
          rw [Bool.and_eq_true] at hwd
          unfold PyData.depth at hdep
          exact ⟨of_decide_eq_true hwd.1, hwd.2, by omega⟩
        · unfold wideD at hwd
          rw [Bool.and_eq_true] at hwd
          unfold PyData.depth at hdep
          exact ⟨of_decide_eq_true hwd.1, hwd.2, by omega⟩
      obtain ⟨bt, bl, kt, kl, hor⟩ : ∃ bt bl : Bool, kitB (tyN d) "tuple" = some bt ∧ kitB (tyN d) "list" = some bl ∧ (bt || bl) = true := by
        rcases hd with rfl | rfl
        · exact ⟨false, true, (show kitB "list" "tuple" = some false by decide +kernel), (show kitB "list" "list" = some true by decide +kernel), rfl⟩
        · exact ⟨true, false, (show kitB "tuple" "tuple" = some true by decide +kernel), (show kitB "tuple" "list" = some false by decide +kernel), rfl⟩
      refine q_when (et_is (et_or (et_B (ev_isi (ev_var rfl) ev_c hy kt)) fun _ => et_B (ev_isi (ev_var rfl) ev_c hy kl)) hor) (fun _ H1 e1 => ?_) (fun z => by cases z)
      have hx1 := Dp.ex e1 d _ hx
      have hy1 := Dp.ex e1 d _ hy
      refine q_when (b := false) (et_is (et_test (ev_op (ev_isi (ev_var rfl) ev_c hx1 kt) (ev_isi (ev_var rfl) ev_c hy1 kt) (rv_ne rfl))) (by simp)) (fun z => by cases z) (fun _ H2 e2 => ?_)
      have hx2 := Dp.ex e2 d _ hx1
      have hy2 := Dp.ex e2 d _ hy1
      have e12 := e1.trans e2
      refine q_when (b := false) (et_is (et_or (et_test (ev_op (ev_isi (ev_var rfl) ev_c hx2 kl) (ev_isi (ev_var rfl) ev_c hy2 kl) (rv_ne rfl))) fun _ =>
        et_test (ev_op (ev_lenD (K := K) (ev_var rfl) (gx.imp (ex_l e12) (ex_t e12))) (ev_lenD (K := K) (ev_var rfl) (gy.imp (ex_l e12) (ex_t e12))) (rv_ne rfl))) (by simp [lx, ly])) (fun z => by cases z) (fun _ H3 e3 => ?_)
      have e13 := e12.trans e3
      have gx3 := gx.imp (ex_l e13) (ex_t e13)
      have gy3 := gy.imp (ex_l e13) (ex_t e13)
      refine s_ret (ev_eqNil (K := K) ?_) fun H4 e4 => q.go (e13.trans e4)
      have lc := el_lcR1 (j := 2) (vs := [2]) (n := (ys.length : Int)) (σ := [some (V.ref p), some (V.ref pq), none]) (H := H3) (fun _ => false) (fun _ => V.non)
        (ta := tCons (tCB (rLenS K) (tCons (tVar 1) tNil)) tNil) (te := tVar 2)
        (t := tNot (tB (tCall (spLike K n) [] C8.E0 (tCons (tOp (rIx K) (tVar 0) (tVar 2)) (tCons (tOp (rIx K) (tVar 1) (tVar 2)) tNil)))))
        (ea_cons (ev_lenD (K := K) (ev_var rfl) gy3) ea_nil) ⟨by omega, by rw [ly]; omega⟩ (fun _ => rfl) (fun i H4 e4 hi => ?_) (fun i H4 e4 hi z => by cases z)
      · rw [Int.toNat_natCast, given_none] at lc
        exact lc
      · have hid : i < ds.length := by omega
        obtain ⟨vx, d1, g1, g2, g3⟩ := dpa_get ax hid
        obtain ⟨vy, d2, k1, k2, k3⟩ := dpa_get ay hid
        rw [g2] at k2
        cases k2
        have e14 := e13.trans e4
        refine et_not (et_B (b := true) ?_)
        refine ev_call (dvs := []) (vs := [vx, vy]) (ea_cons (ev_ixD (ev_var rfl) (ev_var rfl) (gx.imp (ex_l e14) (ex_t e14)) g1) (ea_cons (ev_ixD (ev_var rfl) (ev_var rfl) (gy.imp (ex_l e14) (ex_t e14)) k1) ea_nil)) fun H5 e5 Q5 q5 E5 => ?_
        have e15 := e14.trans e5
        exact ⟨vx, vy, d1, rfl, Dp.ex e15 d1 _ g3, Dp.ex e15 d1 _ k3, Nat.lt_of_le_of_lt (depth_get g2) hw2.2.2, wide_get hw2.2.1 g2, fun H6 e6 => q5 H6 e6⟩
    · have n1 : ∀ ds, d ≠ .list ds := fun ds e => hs ⟨ds, .inl e⟩
      have n2 : ∀ ds, d ≠ .tuple ds := fun ds e => hs ⟨ds, .inr e⟩
      obtain ⟨rfl, hsc⟩ := like_flat n1 n2 hx hy
      obtain ⟨bb, bi, bs, kt, kl, kb, ki, ks⟩ : ∃ bb bi bs : Bool, kitB (tyN d) "tuple" = some false ∧ kitB (tyN d) "list" = some false ∧ kitB (tyN d) "bool" = some bb ∧ kitB (tyN d) "int" = some bi ∧ kitB (tyN d) "str" = some bs := by
        cases d with
        | none => exact ⟨false, false, false, (show kitB "NoneType" "tuple" = some false by decide +kernel), (show kitB "NoneType" "list" = some false by decide +kernel), (show kitB "NoneType" "bool" = some false by decide +kernel), (show kitB "NoneType" "int" = some false by decide +kernel), (show kitB "NoneType" "str" = some false by decide +kernel)⟩
        | bool _ => exact ⟨true, true, false, (show kitB "bool" "tuple" = some false by decide +kernel), (show kitB "bool" "list" = some false by decide +kernel), (show kitB "bool" "bool" = some true by decide +kernel), (show kitB "bool" "int" = some true by decide +kernel), (show kitB "bool" "str" = some false by decide +kernel)⟩
        | int _ => exact ⟨false, true, false, (show kitB "int" "tuple" = some false by decide +kernel), (show kitB "int" "list" = some false by decide +kernel), (show kitB "int" "bool" = some false by decide +kernel), (show kitB "int" "int" = some true by decide +kernel), (show kitB "int" "str" = some false by decide +kernel)⟩
        | str _ => exact ⟨false, false, true, (show kitB "str" "tuple" = some false by decide +kernel), (show kitB "str" "list" = some false by decide +kernel), (show kitB "str" "bool" = some false by decide +kernel), (show kitB "str" "int" = some false by decide +kernel), (show kitB "str" "str" = some true by decide +kernel)⟩
        | list ds => exact absurd rfl (n1 ds)
        | tuple ds => exact absurd rfl (n2 ds)
        | dict _ => cases hx
      refine q_when (et_is (et_or (et_B (ev_isi (ev_var rfl) ev_c hy kt)) fun _ => et_B (ev_isi (ev_var rfl) ev_c hy kl)) rfl) (fun z => by cases z) (fun _ H1 e1 => ?_)
      have hx1 := Dp.ex e1 d _ hx
      refine q_when (b := false) (et_is (et_test (ev_op (ev_isi (ev_var rfl) ev_c hx1 kb) (ev_isi (ev_var rfl) ev_c hx1 kb) (rv_ne rfl))) (by simp)) (fun z => by cases z) (fun _ H2 e2 => ?_)
      have hx2 := Dp.ex e2 d _ hx1
      refine q_when (b := false) (et_is (et_or (et_test (ev_op (ev_isi (ev_var rfl) ev_c hx2 ki) (ev_isi (ev_var rfl) ev_c hx2 ki) (rv_ne rfl))) fun _ =>
        et_test (ev_op (ev_isi (ev_var rfl) ev_c hx2 ks) (ev_isi (ev_var rfl) ev_c hx2 ks) (rv_ne rfl))) (by simp)) (fun z => by cases z) (fun _ H3 e3 => ?_)
      refine s_ret (ev_is (ev_op (ev_var rfl) (ev_var rfl) (rv_eq hsc)) (show V.bl (decide (x = x)) = .bl true by rw [decide_eq_true rfl])) fun H4 e4 => q.go (((e1.trans e2).trans e3).trans e4)
/-- to any depth -/
theorem ok_like (T : ModsL K mg) {f : Addr} {fd : FuncData} (F : Def K mg "_law_like" s__law_like f fd) (b : Binds K fd ["_law_found", "_law_due"] []) : ∀ n, Cal P w K mg base n "_law_like" (spLike K n) []
  | 0 => ⟨f, fd, _, [], ⟨fun vs H Q E ⟨_, _, d, _, _, _, h, _⟩ => absurd h (Nat.not_lt_zero _), fun A outer s H args us vs Q E _ _ _ _ ⟨_, _, d, _, _, _, h, _⟩ => absurd h (Nat.not_lt_zero _)⟩, F.mgf, F.kp, b, .nil⟩
  | n + 1 => ok_like1 T n (ok_like T F b n) F b
end
theorem wide_word (n : Nat) (w : Word) : wideD (wordD n w) = true := by
  unfold wordD
  simp [wideD, wideAll]
theorem depth_word (n : Nat) (w : Word) : (wordD n w).depth = 2 := by
  unfold wordD
  simp [PyData.depth, PyData.depthAll]
theorem wide_map (n : Nat) : ∀ (ws : List Word) (ds : List PyData), wideAll ds = true → wideAll (ws.map (wordD n) ++ ds) = true
  | [], ds, h => h
  | w :: ws, ds, h => by
    show (wideD (wordD n w) && wideAll (ws.map (wordD n) ++ ds)) = true
    rw [wide_word, wide_map n ws ds h] <;> rfl
theorem wide_all : ∀ (n : Nat) (rows : List (List Nat)), wideAll (allD n rows) = true
  | _, [] => rfl
  | n, r :: rows => wide_map n _ _ (wide_all (n + 1) rows)
theorem depth_map (n : Nat) : ∀ (ws : List Word) (ds : List PyData), PyData.depthAll ds ≤ 2 → PyData.depthAll (ws.map (wordD n) ++ ds) ≤ 2
  | [], ds, h => h
  | w :: ws, ds, h => by
    have ih := depth_map n ws ds h
    show PyData.depthAll (wordD n w :: (ws.map (wordD n) ++ ds)) ≤ 2
    unfold PyData.depthAll
    rw [depth_word]
    exact Nat.max_le.mpr ⟨Nat.le_refl _, ih⟩
theorem depth_all : ∀ (n : Nat) (rows : List (List Nat)), PyData.depthAll (allD n rows) ≤ 2
  | _, [] => by
    show PyData.depthAll [] ≤ 2
    unfold PyData.depthAll
    decide
  | n, r :: rows => depth_map n _ _ (depth_all (n + 1) rows)
end Wt

set_option Elab.async false
set_option linter.all false
set_option maxRecDepth 100000
set_option maxHeartbeats 4000000
/-! Names as they are drawn. -/
namespace Wt
open PySem PySem.Spec PyProof.Rows L2 SX Evl
def wFirst : List Nat := [98, 102, 104, 106, 112, 113, 114, 116, 118, 120, 122]
def wRest : List Nat := [97, 98, 100, 101, 102, 105, 108, 109, 110, 111, 115, 116, 117, 119, 121]
theorem first_let : ∀ c ∈ wFirst, isL c = true := by decide
theorem rest_let : ∀ c ∈ wRest, isL c = true := by decide
theorem own_first : ∀ w ∈ owns, w.headD 0 ∉ wFirst := by decide +kernel
/-- a name that is drawn is a name -/
theorem word_good {c : Nat} {r : List Nat} (hc : c ∈ wFirst) (hr : ∀ x ∈ r, x ∈ wRest) (hl : r.length ≤ 5) : Good kName (c :: r) := by
  refine .name ?_ (List.cons_ne_nil _ _) (by rw [List.length_cons]; omega) fun z => own_first _ z hc
  rw [List.all_eq_true]
  intro x hx
  rcases List.mem_cons.mp hx with rfl | hx
  · exact first_let _ hc
  · exact rest_let _ (hr x hx)
/-- the words that are tried one behind the other -/
def cand (k : Nat) : List Nat := wFirst.getD (k % 11) 0 :: List.replicate (1 + k / 165) (wRest.getD (k / 11 % 15) 0)
theorem cand_nodup : ((List.range 165).map cand).Nodup := by decide +kernel
theorem cand_good : ∀ k, k < 165 → Good kName (cand k) := fun k hk => by
  have all : ∀ i, i < 11 → wFirst.getD i 0 ∈ wFirst := by decide
  have all2 : ∀ i, i < 15 → wRest.getD i 0 ∈ wRest := by decide
  refine word_good (all _ (Nat.mod_lt _ (by decide))) (fun x hx => ?_) ?_
  · rw [List.eq_of_mem_replicate hx]
    exact all2 _ (Nat.mod_lt _ (by decide))
  · rw [List.length_replicate, Nat.div_eq_of_lt hk]
    decide
theorem nodup_len : ∀ (l us : List (List Nat)), l.Nodup → (∀ x ∈ l, x ∈ us) → l.length ≤ us.length
  | [], _, _, _ => Nat.zero_le _
  | x :: l, us, hn, h => by
    have hx := h x (List.mem_cons_self ..)
    obtain ⟨h1, h2⟩ := List.nodup_cons.mp hn
    have ih := nodup_len l (us.erase x) h2 fun y hy => (List.mem_erase_of_ne (a := y) (b := x) (fun e => h1 (by rw [← e]; exact hy))).mpr (h y (List.mem_cons_of_mem _ hy))
    have := List.length_erase_of_mem hx
    have hpos : 0 < us.length := List.length_pos_of_mem hx
    rw [List.length_cons]
    omega
/-- one of them is free -/
theorem cand_free {us : List (List Nat)} (h : us.length < 165) : ¬ ∀ k, k < 165 → cand k ∈ us := fun z => by
  have := nodup_len _ us cand_nodup fun x hx => by
    obtain ⟨k, hk, rfl⟩ := List.mem_map.mp hx
    exact z k (List.mem_range.mp hk)
  rw [List.length_map, List.length_range] at this
  omega
end Wt

set_option Elab.async false
set_option linter.all false
set_option maxRecDepth 100000
set_option maxHeartbeats 4000000
namespace Wt
open PySem PySem.Spec PyProof.Rows L2 SX Evl
open C8 (Def Cal cal0 fnScope_by fnScope)
/-! E are drawn. -/
/-- what names are drawn from: kind, file, name -/
def NameOk (d : PyData) : Prop := ∃ k f n, d = .tuple [.str (S k), .str (S f), .str (S n)] ∧ (f = [] ∨ Good kName f) ∧ Good kName n
/-- what defs are drawn from: file, name, parts' kinds, kind -/
def DefOk (pm : Nat) (d : PyData) : Prop := ∃ f n ps k, d = .tuple [.str (S f), .str (S n), .tuple ps, .str (S k)] ∧ (f = [] ∨ Good kName f) ∧ Good kName n ∧ ps.length ≤ pm ∧ ∀ p ∈ ps, p = .str (S kNum) ∨ p = .str (S oYes)
def lkN : Key := Sum.inr (Str.ofString "names")
def lkD : Key := Sum.inr (Str.ofString "defs")
def lkS : Key := Sum.inr (Str.ofString "signs")
/-- the dict that E are drawn from -/
structure CtxC (H : Hp) (ca : Addr) (pm : Nat) : Prop where
  ex : ∃ (kvs : List (Key × V)) (ln ld ls : Addr) (nv dv : List V) (ns ds : List PyData) (ss : List (List Nat)), H ca = some (.dK kvs) ∧ valV kvs lkN = some (.ref ln) ∧ valV kvs lkD = some (.ref ld) ∧ valV kvs lkS = some (.ref ls) ∧
    H ln = some (.lst nv) ∧ TdAll H nv ns ∧ (∀ d ∈ ns, NameOk d) ∧ ns.length ≤ 900 ∧ H ld = some (.lst dv) ∧ TdAll H dv ds ∧ (∀ d ∈ ds, DefOk pm d) ∧ ds.length ≤ 900 ∧
    H ls = some (.lst (ss.map fun z => V.str (S z))) ∧ ss ≠ [] ∧ ss.length ≤ 900 ∧ ∀ s ∈ ss, s ∈ binW
theorem CtxC.go {H H' : Hp} {ca : Addr} {pm : Nat} (c : CtxC H ca pm) (e : Ex H H') : CtxC H' ca pm := by
  obtain ⟨kvs, ln, ld, ls, nv, dv, ns, ds, ss, h1, h2, h3, h4, h5, h6, h7, h8, h9, h10, h11, h12, h13, h14⟩ := c.ex
  exact ⟨kvs, ln, ld, ls, nv, dv, ns, ds, ss, e _ _ h1, h2, h3, h4, e _ _ h5, TdAll.tx (Tx.of e) _ _ h6, h7, h8, e _ _ h9, TdAll.tx (Tx.of e) _ _ h10, h11, h12, e _ _ h13, h14⟩
/-- so many words at most -/
def cntE (pm : Nat) : Nat → Nat
  | 0 => 5
  | n + 1 => max (2 * cntE pm n + 3) (6 * pm + 7)
theorem cnt_pos (pm : Nat) : ∀ n, 5 ≤ cntE pm n
  | 0 => Nat.le_refl _
  | n + 1 => by
    have := cnt_pos pm n
    unfold cntE
    omega
def spEd (K : PySem.W.Frag) (pm N : Nat) : Sp := fun vs H Q _ => ∃ (d a ca : Addr) (ns : List Int) (k : List Nat) (n : Nat), vs = [.ref d, .str (S k), .ref ca, .int (n : Int)] ∧ n < N ∧ (k = kNum ∨ k = oYes) ∧ Dc K H d a ns ∧ CtxC H ca pm ∧ ∀ v H2 dE, Ex H H2 → Td H2 v dE → RawD (n + 1) (cntE pm n) (2 * n + 1) dE → Q v H2
section
variable {K : PySem.W.Frag} {σ : L2.St} {H H' : Hp} {ta tb te tx tl : TE} {tr : TA} {t u : TT} {R : PyData → Prop}
theorem er_e {E : XK} {pm N n : Nat} {d a ca : Addr} {ns : List Int} {k : List Nat} (h : EvA tr σ H [.ref d, .str (S k), .ref ca, .int (n : Int)]) (hn : n < N) (hk : k = kNum ∨ k = oYes) (hD : Dc K H d a ns) (hC : CtxC H ca pm) : EvR (tCall (spEd K pm N) [] E tr) σ H (RawD (n + 1) (cntE pm n) (2 * n + 1)) := fun H1 e Q q =>
  h H1 e _ fun H2 e2 => ⟨d, a, ca, ns, k, n, rfl, hn, hk, hD.ex (e.trans e2), hC.go (e.trans e2), fun v H3 dE e3 hv r => q v H3 dE r (e2.trans e3) hv⟩
theorem er_pick {E : XK} {d a l : Addr} {ns : List Int} {xs : List V} {ds : List PyData} (hD : Dc K H d a ns) (ha : Ev ta σ H (.ref d)) (hb : Ev tb σ H (.ref l)) (hl : H l = some (.lst xs)) (hT : TdAll H xs ds) (h0 : ds ≠ []) (h1 : ds.length ≤ 1000) : EvR (tCall (spPick K) [] E (tCons ta (tCons tb tNil))) σ H (· ∈ ds) := fun H1 e Q q =>
  en_call (ea_cons ha (ea_cons hb ea_nil)) (sn_pick hD (sq_of hl) (by rw [hT.len]; exact List.length_pos_iff.mpr h0) (by rw [hT.len]; exact h1)) H1 e Q fun v H2 hv e2 => by
    obtain ⟨x, hx, hTx⟩ := td_mem hT hv
    exact q v H2 x hx e2 (Td.tx (Tx.of (e.trans e2)) _ _ hTx)
theorem en_pickLs {E : XK} {d a : Addr} {ns : List Int} {Pt : List (List Nat) → Prop} (hD : Dc K H d a ns) (ha : Ev ta σ H (.ref d)) (hb : EvLs tb σ H Pt) (h0 : ∀ ts, Pt ts → ts ≠ [] ∧ ts.length ≤ 1000) : EvN (tCall (spPick K) [] E (tCons ta (tCons tb tNil))) σ H (fun v => ∃ ts s, Pt ts ∧ s ∈ ts ∧ v = .str (S s)) := fun H1 e Q q =>
  ha H1 e _ fun H2 e2 => hb H2 (e.trans e2) _ fun p H3 ts pt e3 hp => by
    obtain ⟨n0, n1⟩ := h0 ts pt
    refine ⟨d, a, p, ns, _, rfl, hD.ex ((e.trans e2).trans e3), sq_of hp, by rw [List.length_map]; exact List.length_pos_iff.mpr n0, by rw [List.length_map]; exact n1, fun x H4 hx e4 => ?_⟩
    obtain ⟨s, hs, rfl⟩ := List.mem_map.mp hx
    exact q _ H4 ⟨ts, s, pt, hs, rfl⟩ ((e2.trans e3).trans e4)
theorem er_next {E : XK} {d a : Addr} {ns : List Int} {many : Int} {N : Nat} (hD : Dc K H d a ns) (ha : Ev ta σ H (.ref d)) (hb : Ev tb σ H (.int many)) (hN : many = (N : Int)) (m0 : 0 < many := by decide) (m1 : many < 1073741824 := by decide) : EvR (tCall (spNext K) [] E (tCons ta (tCons tb tNil))) σ H (fun x => ∃ n : Nat, n < N ∧ x = .int (n : Int)) :=
  er_N (en_next hD ha hb m0 m1) fun v ⟨z, hz, z0, z1⟩ => by
    subst hz
    obtain ⟨n, rfl⟩ : ∃ n : Nat, z = (n : Int) := ⟨z.toNat, by omega⟩
    exact ⟨_, ⟨n, by omega, rfl⟩, fun _ => .int _⟩
/-- xs != [] of data -/
theorem et_neNil {l : Addr} {xs : List V} {ds : List PyData} (ha : Ev ta σ H (.ref l)) (hl : H l = some (.lst xs)) (hT : TdAll H xs ds) (hs : ShpA 20 ds) (hz : ds.length ≤ 40000) : EvT (tTest (tOp (rNeD K) ta (tLst tNil))) σ H (!decide (ds = [])) := et_test (ev_opL ha (el_lst ea_nil (Nat.zero_le _)) fun p H6 h6 e6 H7 e7 Q7 q7 => by
  have sh := shp_lst hs hz
  refine ⟨.list ds, .list [], .lst (sq_of ((e6.trans e7) _ _ hl)) (TdAll.dp _ _ (TdAll.tx (Tx.of (e6.trans e7)) _ _ hT)), .lst (sq_of (e7 _ _ h6)) .nil, ?_, by decide +kernel, ?_⟩
  · unfold SeqAt.shaped
    rw [sh.ly, decide_eq_true (Nat.le_trans sh.dp (by decide))] <;> rfl
  · have e : PyData.eqv (.list ds) (.list []) = decide (ds = []) := eqvAll_nil ds
    rw [e]
    exact q7 H7 (Ex.refl H7))
end
theorem shpA_all {k : Nat} : ∀ {ds : List PyData}, (∀ d ∈ ds, Shp k d) → ShpA k ds
  | [], _ => shpA_nil
  | d :: ds, h => shpA_cons (h d (List.mem_cons_self ..)) (shpA_all fun x hx => h x (List.mem_cons_of_mem _ hx))
theorem path_low {f : List Nat} (h : f = [] ∨ Good kName f) : f.all (fun c => decide (c < 128)) = true := by
  rcases h with z | z
  · rw [z] <;> rfl
  · exact good_low z
def kindOk (k : List Nat) : Prop := k.all (fun c => decide (c < 128)) = true
def headIs (k : List Nat) : PyData → Bool
  | .tuple (.str x :: _) => decide (V.str x = V.str (S k))
  | _ => false
def lastIs (k : List Nat) : PyData → Bool
  | .tuple [_, _, _, .str x] => decide (V.str x = V.str (S k))
  | _ => false
theorem lits_e : Str.ofString "names" = Str.ofString "names" ∧ Str.ofString "yes" = S oYes ∧ Str.ofString "num" = S kNum ∧ Str.ofString "neg" = S oNeg ∧ Str.ofString "not" = S oNot ∧ Str.ofString "name" = S kName ∧ Str.ofString "call" = S oCall ∧ Str.ofString "truth" = S oTruth := by
  refine ⟨rfl, ?_, ?_, ?_, ?_, ?_, ?_, ?_⟩ <;> decide +kernel
def boolW : List (List Nat) := [oOr, oAnd, [61], [60, 62], [60], [60, 61], [60], [61]]
theorem lit_boolW : [V.str (Str.ofString "or"), V.str (Str.ofString "and"), V.str (Str.ofString "="), V.str (Str.ofString "<>"), V.str (Str.ofString "<"), V.str (Str.ofString "<="), V.str (Str.ofString "<"), V.str (Str.ofString "=")] = boolW.map fun z => V.str (S z) := by decide +kernel
theorem boolW_bin : ∀ s ∈ boolW, s ∈ binW := by decide
theorem num_ne_yes : Str.ofString "num" ≠ Str.ofString "yes" := by decide +kernel
section
variable {P : Program} {w : World} {K : PySem.W.Frag} {mg : Str → Option Value} {base : Heap}
abbrev s__law_e : Stmt := topS 19
theorem sc__law_e : FnScope ["_law_d", "_law_kind", "_law_c", "_law_deep", "_law_one", "_law_names", "_law_defs", "_law_way", "_law_numbers", "_law_sign", "_law_within", "_law_part"] ["_law_d", "_law_kind", "_law_c", "_law_deep"] (fnScope s__law_e) := fnScope_by (by decide +kernel)
theorem ok_e1 (T : ModsL K mg) {k pm N : Nat} (hk : 2 ≤ k) (hpm : pm ≤ 8) (c__law_next : Cal P w K mg base 1 "_law_next" (spNext K) []) (c__law_pick : Cal P w K mg base 2 "_law_pick" (spPick K) []) (c__law_e : Cal P w K mg base k "_law_e" (spEd K pm N) [])
    {f : Addr} {fd : FuncData} (F : Def K mg "_law_e" s__law_e f fd) (b : Binds K fd ["_law_d", "_law_kind", "_law_c", "_law_deep"] []) : Cal P w K mg base (k + 1) "_law_e" (spEd K pm (N + 1)) [] := by
  refine cal0 F b .nil sc__law_e (fun vs H Q E h => ?_) (fun cdv A outer s H vs Q E hr h => ?_)
  · obtain ⟨_, _, _, _, _, _, rfl, _⟩ := h
    rfl
  · obtain ⟨d, a, ca, ns, kd, n, rfl, hn, hkd, hD, hC, q⟩ := h
    have m_tuple := T.m_tuple
    have hu64 := hr.units
    have hu := hu_of hr
    obtain ⟨_, z1, z2, z3, z4, z5, z6, z7⟩ := lits_e
    refine ⟨_, (pss_cons (ps_setLc (i := 5) (own := [("_law_one", 4)]) (g := (gName 4)) rfl sc__law_e.nd rfl rfl (sw_true rfl rfl rfl (by decide +kernel)) (pi_list (pe_dget hu (pv 2) pe_str (fun _ _ => rfl))) (blkOk_by (N := ["_law_d", "_law_kind", "_law_c", "_law_deep", "_law_one", "_law_names", "_law_defs", "_law_way", "_law_numbers", "_law_sign", "_law_within", "_law_part"]) (sc := C8.fnScope s__law_e) (by decide +kernel)) (fun _ _ _ _ _ => pg_name (i := 4) sc__law_e.nd rfl (Or.inl rfl)) (fun _ _ _ _ _ => pts_one (pt_cmpR op_eq (pe_ix (show IxR _ (rIxT K) from ix_tup) (pv 4) pe_int (fun _ _ => rfl)) (pv 1) (nomark _))) (fun _ _ _ _ _ => (pv 4)))
      (pss_cons (ps_setLc (i := 6) (own := [("_law_one", 4)]) (g := (gName 4)) rfl sc__law_e.nd rfl rfl (sw_true rfl rfl rfl (by decide +kernel)) (pi_list (pe_dget hu (pv 2) pe_str (fun _ _ => rfl))) (blkOk_by (N := ["_law_d", "_law_kind", "_law_c", "_law_deep", "_law_one", "_law_names", "_law_defs", "_law_way", "_law_numbers", "_law_sign", "_law_within", "_law_part"]) (sc := C8.fnScope s__law_e) (by decide +kernel)) (fun _ _ _ _ _ => pg_name (i := 4) sc__law_e.nd rfl (Or.inl rfl)) (fun _ _ _ _ _ => pts_one (pt_cmpR op_eq (pe_ix (show IxR _ (rIxT K) from ix_tup) (pv 4) pe_int (fun _ _ => rfl)) (pv 1) (nomark _))) (fun _ _ _ _ _ => (pv 4)))
      (pss_cons (ps_set (i := 7) sc__law_e.nd rfl (.inl rfl) (C8.pe_c c__law_next hr (by first | decide | exact Nat.le_refl _ | omega) (by rfl) (pa_cons (pv 0) (pa_cons pe_int pa_nil))))
      (pss_cons (ps_if (PW.pt (pw_and (pt_cmpR op_lt (pv 7) pe_int (nomark _)) (pw_and1 (pt_cmpR (op_neD hu64) (pv 5) (pe_lst pa_nil) (nomark _))))) (pss_one (ps_ret (pe_op op_catA (pe_tup (pa_cons pe_str (pa_cons pe_non pa_nil))) (pe_slice sl_tupA (C8.pe_c c__law_pick hr (by first | decide | exact Nat.le_refl _ | omega) (by rfl) (pa_cons (pv 0) (pa_cons (pv 5) pa_nil))) (po_some pe_int) po_none)))) pss_nil)
      (pss_cons (ps_if (PW.pt (pw_and (pt_cmpR op_eq (pv 7) pe_int (nomark _)) (pw_and (pt_cmpR op_gt (pv 3) pe_int (nomark _)) (pw_and1 (pt_cmpR (op_neD hu64) (pv 6) (pe_lst pa_nil) (nomark _)))))) (pss_cons (ps_set (i := 4) sc__law_e.nd rfl (.inl rfl) (C8.pe_c c__law_pick hr (by first | decide | exact Nat.le_refl _ | omega) (by rfl) (pa_cons (pv 0) (pa_cons (pv 6) pa_nil))))
      (pss_one (ps_ret (pe_tup (pa_cons pe_str (pa_cons pe_non (pa_cons (pe_ix ix_tup (pv 4) pe_int (fun _ _ => rfl)) (pa_cons (pe_ix ix_tup (pv 4) pe_int (fun _ _ => rfl)) (pa_cons (pe_callTy call_tuple_of (by rfl) m_tuple Wt.bt_tuple (pa_cons (pe_lc (own := [("_law_part", 11)]) (g := (gName 11)) (tt := tYes) rfl sc__law_e.nd (pi_tup (pe_ix ix_tup (pv 4) pe_int (fun _ _ => rfl))) (blkOk_by (N := ["_law_d", "_law_kind", "_law_c", "_law_deep", "_law_one", "_law_names", "_law_defs", "_law_way", "_law_numbers", "_law_sign", "_law_within", "_law_part"]) (sc := C8.fnScope s__law_e) (by decide +kernel)) (fun _ _ _ _ _ => pg_name (i := 11) sc__law_e.nd rfl (Or.inl rfl)) (fun _ _ _ _ _ => pts_nil) (fun _ _ _ _ _ => (C8.pe_c c__law_e hr (by first | decide | exact Nat.le_refl _ | omega) (by rfl) (pa_cons (pv 0) (pa_cons (pv 11) (pa_cons (pv 2) (pa_cons pe_int pa_nil))))))) pa_nil)) pa_nil))))))))) pss_nil)
      (pss_cons (ps_if (PW.pt (pw_or (pt_cmpR op_eq (pv 3) pe_int (nomark _)) (pw_or1 (pt_cmpR op_lt (pv 7) pe_int (nomark _))))) (pss_cons (ps_set (i := 8) sc__law_e.nd rfl (.inl rfl) (pe_lst (pa_cons (C8.pe_c c__law_next hr (by first | decide | exact Nat.le_refl _ | omega) (by rfl) (pa_cons (pv 0) (pa_cons pe_int pa_nil))) (pa_cons (C8.pe_c c__law_next hr (by first | decide | exact Nat.le_refl _ | omega) (by rfl) (pa_cons (pv 0) (pa_cons pe_int pa_nil))) (pa_cons (C8.pe_c c__law_next hr (by first | decide | exact Nat.le_refl _ | omega) (by rfl) (pa_cons (pv 0) (pa_cons pe_int pa_nil))) pa_nil)))))
      (pss_one (ps_ret (pe_ifExp (pt_cmpR op_eq (pv 1) pe_str (nomark _)) (pe_tup (pa_cons pe_str (pa_cons pe_non (pa_cons (C8.pe_c c__law_pick hr (by first | decide | exact Nat.le_refl _ | omega) (by rfl) (pa_cons (pv 0) (pa_cons (pv 8) pa_nil))) pa_nil)))) (pe_tup (pa_cons pe_str (pa_cons pe_non (pa_cons (pe_cmpR op_eq (C8.pe_c c__law_next hr (by first | decide | exact Nat.le_refl _ | omega) (by rfl) (pa_cons (pv 0) (pa_cons pe_int pa_nil))) pe_int (nomark _)) pa_nil)))))))) pss_nil)
      (pss_cons (ps_if (pt_cmpR op_eq (pv 7) pe_int (nomark _)) (pss_one (ps_ret (pe_tup (pa_cons (pe_dget hu (pe_disp (pps_cons pe_str pe_str (pps_cons pe_str pe_str pps_nil)) (by rfl) (by rfl) (by simp) (by decide)) (pv 1) (fun _ _ => rfl)) (pa_cons pe_non (pa_cons (C8.pe_c c__law_e hr (by first | decide | exact Nat.le_refl _ | omega) (by rfl) (pa_cons (pv 0) (pa_cons (pv 1) (pa_cons (pv 2) (pa_cons (pe_op op_sub (pv 3) pe_int) pa_nil))))) pa_nil)))))) pss_nil)
      (pss_cons (ps_set (i := 9) sc__law_e.nd rfl (.inl rfl) (C8.pe_c c__law_pick hr (by first | decide | exact Nat.le_refl _ | omega) (by rfl) (pa_cons (pv 0) (pa_cons (pe_ifExp (pt_cmpR op_eq (pv 1) pe_str (nomark _)) (pe_dget hu (pv 2) pe_str (fun _ _ => rfl)) (pe_lst (pa_cons pe_str (pa_cons pe_str (pa_cons pe_str (pa_cons pe_str (pa_cons pe_str (pa_cons pe_str (pa_cons pe_str (pa_cons pe_str pa_nil)))))))))) pa_nil))))
      (pss_cons (ps_set (i := 10) sc__law_e.nd rfl (.inl rfl) (pe_ifExp (pt_cmpR op_in_seq (pv 9) (pe_tup (pa_cons pe_str (pa_cons pe_str pa_nil))) (by with_unfolding_all rfl)) pe_str (pe_ifExp (pt_cmpR op_in_seq (pv 9) (pe_tup (pa_cons pe_str (pa_cons pe_str pa_nil))) (by with_unfolding_all rfl)) (C8.pe_c c__law_pick hr (by first | decide | exact Nat.le_refl _ | omega) (by rfl) (pa_cons (pv 0) (pa_cons (pe_lst (pa_cons pe_str (pa_cons pe_str pa_nil))) pa_nil))) pe_str)))
      (pss_one (ps_ret (pe_tup (pa_cons (pv 9) (pa_cons pe_non (pa_cons (C8.pe_c c__law_e hr (by first | decide | exact Nat.le_refl _ | omega) (by rfl) (pa_cons (pv 0) (pa_cons (pv 10) (pa_cons (pv 2) (pa_cons (pe_op op_sub (pv 3) pe_int) pa_nil))))) (pa_cons (C8.pe_c c__law_e hr (by first | decide | exact Nat.le_refl _ | omega) (by rfl) (pa_cons (pv 0) (pa_cons (pv 10) (pa_cons (pv 2) (pa_cons (pe_op op_sub (pv 3) pe_int) pa_nil))))) pa_nil)))))))))))))))), ?_⟩
    obtain ⟨kvs, ln, ld, ls, nv, dv, nds, dds, ss, h1, h2, h3, h4, h5, h6, h7, h8, h9, h10, h11, h12, h13, h14, h15, h16⟩ := hC.ex
    -- names
    refine q_asgDL (edl_filter (headIs kd) (ev_dget (ev_var rfl) ev_c h1 h2) h5 h6 (by omega) (fun _ => rfl) (fun _ => rfl) fun x dx H1 e1 hdx hTx => ?_) fun l1 H1 us1 hl10 e1 hl1 hT1 => ?_
    · obtain ⟨k0, f0, n0, rfl, _⟩ := h7 dx hdx
      cases hTx with
      | @tup ap as _ g1 g2 =>
        cases g2 with
        | @cons v vs _ _ g3 g4 =>
          cases g3
          exact et_test (ev_op (ev_op (ev_var rfl) ev_c (rv_ixT (st_of g1) (atI_nat (j := 0) rfl))) (ev_var rfl) (rv_eq rfl))
    -- defs
    refine q_asgDL (edl_filter (lastIs kd) (ev_dget (ev_var rfl) ev_c (e1 _ _ h1) h3) (e1 _ _ h9) (TdAll.tx (Tx.of e1) _ _ h10) (by omega) (fun _ => rfl) (fun _ => rfl) fun x dx H2 e2 hdx hTx => ?_) fun l2 H2 us2 hl20 e2 hl2 hT2 => ?_
    · obtain ⟨f0, n0, ps0, k0, rfl, _⟩ := h11 dx hdx
      cases hTx with
      | @tup ap as _ g1 g2 =>
        cases g2 with
        | cons _ g2 =>
          cases g2 with
          | cons _ g2 =>
            cases g2 with
            | cons _ g2 =>
              cases g2 with
              | @cons v vs _ _ g3 g4 =>
                cases g3
                exact et_test (ev_op (ev_op (ev_var rfl) ev_c (rv_ixT (st_of g1) (atI_nat (j := 3) rfl))) (ev_var rfl) (rv_eq rfl))
    have e02 := e1.trans e2
    have hD2 := hD.ex e02
    -- way
    refine qn_asg (en_next hD2 (ev_var rfl) ev_c) fun v H3 hv e3 => ?_
    obtain ⟨way, rfl, w0, w1⟩ := hv
    have e03 := e02.trans e3
    have hD3 := hD2.ex e3
    have hC3 := hC.go e03
    have hl1' := (e2.trans e3) _ _ hl1
    have hl2' := e3 _ _ hl2
    have hT1' := TdAll.tx (Tx.of (e2.trans e3)) _ _ hT1
    have hT2' := TdAll.tx (Tx.of e3) _ _ hT2
    have f1 := List.length_filter_le (headIs kd) nds
    have f2 := List.length_filter_le (lastIs kd) dds
    have m1 : ∀ x ∈ nds.filter (headIs kd), NameOk x := fun x hx => h7 x (List.mem_filter.mp hx).1
    have m2 : ∀ x ∈ dds.filter (lastIs kd), DefOk pm x := fun x hx => h11 x (List.mem_filter.mp hx).1
    have hkl : kd.all (fun c => decide (c < 128)) = true := by
      rcases hkd with rfl | rfl <;> decide
    have sh1 : ShpA 20 (nds.filter (headIs kd)) := shpA_all fun x hx => by
      have hh := (List.mem_filter.mp hx).2
      obtain ⟨k0, f0, n0, rfl, gf, gn⟩ := m1 x hx
      have hk0 : S k0 = S kd := by
        have := of_decide_eq_true hh
        exact V.str.inj this
      rw [hk0]
      exact (shp_tup (shpA_cons (shp_str hkl) (shpA_cons (shp_str (path_low gf)) (shpA_cons (shp_str (good_low gn)) shpA_nil))) (by show 3 ≤ 40000; decide)).up (by decide)
    have sh2 : ShpA 20 (dds.filter (lastIs kd)) := shpA_all fun x hx => by
      have hh := (List.mem_filter.mp hx).2
      obtain ⟨f0, n0, ps0, k0, rfl, gf, gn, hp1, hp2⟩ := m2 x hx
      have hk0 : S k0 = S kd := by
        have := of_decide_eq_true hh
        exact V.str.inj this
      rw [hk0]
      have shp : ShpA 0 ps0 := shpA_all fun p hp => by
        rcases hp2 p hp with rfl | rfl
        · exact shp_str (by decide)
        · exact shp_str (by decide)
      exact (shp_tup (k := 1) (shpA_cons ((shp_str (path_low gf)).up (by decide)) (shpA_cons ((shp_str (good_low gn)).up (by decide)) (shpA_cons (shp_tup shp (by omega)) (shpA_cons ((shp_str hkl).up (by decide)) shpA_nil)))) (by show 4 ≤ 40000; decide)).up (by decide)
    have hc5 := cnt_pos pm n
    generalize nds.filter (headIs kd) = nd at *
    generalize dds.filter (lastIs kd) = dd at *
    -- a name
    refine q_when (et_and (et_test (ev_op (ev_var rfl) ev_c rv_I0)) fun _ => et_neNil (ev_var rfl) hl1' hT1' sh1 (by omega)) (fun hb H4 e4 => ?_) (fun hb H4 e4 => ?_)
    · rw [Bool.and_eq_true] at hb
      have hne : nd ≠ [] := fun z => by
        have h2 := hb.2
        rw [z] at h2
        cases h2
      refine s_retR (er_catSl (k := 1) (ead_cons (ed_S (es_cl z5)) (ead_cons (ed_non ev_c) ead_nil)) (er_pick (hD3.ex e4) (ev_var rfl) (ev_var rfl) (e4 _ _ hl1') (TdAll.tx (Tx.of e4) _ _ hT1') hne (by omega)) (fun x hx => ?_) (by decide) (List.cons_ne_nil _ _) (by show 2 ≤ 100; decide)) fun v H5 dE hdE e5 hv => ?_
      · obtain ⟨k0, f0, n0, rfl, _⟩ := m1 x hx
        exact ⟨_, rfl, by show 1 < 3; decide, by show 3 ≤ 100; decide⟩
      · obtain ⟨es, hes, rfl⟩ := hdE
        obtain ⟨k0, f0, n0, e6, gf, gn⟩ := m1 _ hes
        cases e6
        exact q v H5 _ (e03.trans (e4.trans e5)) hv (.name gf gn hc5 (by omega))
    -- a call
    have hD4 := hD3.ex e4
    have hC4 := hC3.go e4
    refine q_when (et_and (et_test (ev_op (ev_var rfl) ev_c (rv_eq rfl))) fun _ => et_and (et_test (ev_op (ev_var rfl) ev_c rv_I0)) fun _ => et_neNil (ev_var rfl) (e4 _ _ hl2') (TdAll.tx (Tx.of e4) _ _ hT2') sh2 (by omega)) (fun hb2 H5 e5 => ?_) (fun hb2 H5 e5 => ?_)
    · rw [Bool.and_eq_true, Bool.and_eq_true] at hb2
      have hne : dd ≠ [] := fun z => by
        have h2 := hb2.2.2
        rw [z] at h2
        cases h2
      have hn0 : 0 < n := by
        have := of_decide_eq_true hb2.2.1
        omega
      obtain ⟨n', rfl⟩ : ∃ n', n = n' + 1 := ⟨n - 1, by omega⟩
      refine q_asgR (er_pick (hD4.ex e5) (ev_var rfl) (ev_var rfl) ((e4.trans e5) _ _ hl2') (TdAll.tx (Tx.of (e4.trans e5)) _ _ hT2') hne (by omega)) fun v H6 x hx e6 hv => ?_
      obtain ⟨f0, n0, ps0, k0, rfl, gf, gn, hp1, hp2⟩ := m2 x hx
      have hD6 := hD4.ex (e5.trans e6)
      have hC6 := hC4.go (e5.trans e6)
      cases hv with
      | @tup ap as _ g1 g2 =>
        cases g2 with
        | @cons v1 _ _ _ a1 g2 =>
          cases g2 with
          | @cons v2 _ _ _ a2 g2 =>
            cases g2 with
            | @cons v3 _ _ _ a3 g2 =>
              have ix : ∀ {i : Nat} {x : V} {xs : List V}, (v1 :: v2 :: v3 :: xs)[i]? = some x → ∀ {σ : L2.St} {H' : Hp}, H' ap = some (.tup (v1 :: v2 :: v3 :: xs)) → σ[4]? = some (some (.ref ap)) → Ev (tOp (rIxT K) (tVar 4) (tC (.int (i : Int)))) σ H' x := fun hi _ _ hap hs => ev_op (ev_var hs) ev_c (rv_ixT (st_of hap) (atI_nat hi))
              cases a3 with
              | @tup pp qs _ a4 a5 =>
                refine s_retR (er_tup (ear_one (ed_S (es_cl z6)) (ear_one (ed_non ev_c) (ear_one (ed_of (ix (i := 0) rfl g1 rfl) a1) (ear_one (ed_of (ix (i := 1) rfl g1 rfl) a2) (ear_cons (er_tupleOf (erl_lcT (R := RawD (0 + 1) (cntE pm 0) (2 * 0 + 1)) (ix (i := 2) rfl g1 rfl) a4 a5 (by omega) (fun _ => rfl) fun x dx H7 e7 hdx hTx => ?_)) ear_nil))))) ?_) fun v H7 dE hdE e7 hv => ?_
                · rcases hp2 dx hdx with rfl | rfl
                  · cases hTx
                    exact er_e (n := 0) (ea_cons (ev_var rfl) (ea_cons (ev_var rfl) (ea_cons (ev_var rfl) (ea_cons ev_c ea_nil)))) (by omega) (.inl rfl) (hD6.ex e7) (hC6.go e7)
                  · cases hTx
                    exact er_e (n := 0) (ea_cons (ev_var rfl) (ea_cons (ev_var rfl) (ea_cons (ev_var rfl) (ea_cons ev_c ea_nil)))) (by omega) (.inr rfl) (hD6.ex e7) (hC6.go e7)
                · rintro _ ⟨_, rfl, _, rfl, _, rfl, _, rfl, _, _, rfl, _, rfl⟩
                  show 5 ≤ 100000
                  decide
                · obtain ⟨_, ⟨_, rfl, _, rfl, _, rfl, _, rfl, dl, _, rfl, ⟨es, ⟨hes1, hes2⟩, rfl⟩, rfl⟩, rfl⟩ := hdE
                  refine q v H7 _ (e03.trans ((e4.trans e5).trans (e6.trans e7))) hv ?_
                  have hall : ∀ es : List PyData, (∀ d ∈ es, RawD (0 + 1) (cntE pm 0) (2 * 0 + 1) d) → RawAll (n' + 1) (6 * es.length) 1 es := fun es => by
                    induction es with
                    | nil => intro _; exact .nil
                    | cons x es ih =>
                      intro hx
                      have r : RawD (n' + 1) 5 1 x := by
                        have := hx x (List.mem_cons_self ..)
                        cases this with
                        | num l hc hb => exact .num l hc hb
                        | tru hc hb => exact .tru hc hb
                        | name gf gn hc hb => exact .name gf gn hc hb
                        | call gf gn a hc hb => omega
                        | neg r => cases r
                        | not r => cases r
                        | bin hs r => cases r
                      exact .cons r (ih fun y hy => hx y (List.mem_cons_of_mem _ hy)) (by rw [List.length_cons]; omega)
                  refine .call gf gn (hall es hes2) ?_ (by omega)
                  have h6 : 6 * es.length ≤ 6 * pm := Nat.mul_le_mul_left _ (by omega)
                  show 6 * es.length + 7 ≤ max (2 * cntE pm n' + 3) (6 * pm + 7)
                  omega
    have hD5 := hD4.ex e5
    have hC5 := hC4.go e5
    have e05 := e03.trans (e4.trans e5)
    -- a number, a truth
    refine q_when (et_or (et_test (ev_op (ev_var rfl) ev_c (rv_eq rfl))) fun _ => et_test (ev_op (ev_var rfl) ev_c rv_I0)) (fun hb3 H6 e6 => ?_) (fun hb3 H6 e6 => ?_)
    · refine q_asgRL (erl_lst (ear_cons (er_next (N := 4) (hD5.ex e6) (ev_var rfl) ev_c rfl) (ear_cons (er_next (N := 100) (hD5.ex e6) (ev_var rfl) ev_c rfl) (ear_cons (er_next (N := 1000000) (hD5.ex e6) (ev_var rfl) ev_c rfl) ear_nil))) ?_) fun l3 H7 us3 ds3 hds3 hl30 e7 hl3 hT3 => ?_
      · rintro _ ⟨_, _, rfl, _, _, _, rfl, _, _, _, rfl, _, rfl⟩
        show 3 ≤ 100000
        decide
      obtain ⟨_, _, rfl, ⟨n1, hn1, rfl⟩, _, _, rfl, ⟨n2, hn2, rfl⟩, _, _, rfl, ⟨n3, hn3, rfl⟩, rfl⟩ := hds3
      have hD7 := hD5.ex (e6.trans e7)
      refine s_retR (R := fun dE => RawD (n + 1) (cntE pm n) (2 * n + 1) dE) (er_if (b := decide (kd = kNum)) (et_test (ev_eqS (ev_var rfl) (es_cl z2))) (fun _ => ?_) (fun _ => ?_)) fun v H8 dE hdE e8 hv => q v H8 dE (e05.trans ((e6.trans e7).trans e8)) hv hdE
      · refine EvR.imp (er_tup (ear_one (ed_S (es_cl z2)) (ear_one (ed_non ev_c) (ear_cons (er_pick hD7 (ev_var rfl) (ev_var rfl) hl3 hT3 (List.cons_ne_nil _ _) (by show 3 ≤ 1000; decide)) ear_nil))) ?_) ?_
        · rintro _ ⟨_, rfl, _, rfl, _, _, rfl, _, rfl⟩
          show 3 ≤ 100000
          decide
        · rintro _ ⟨_, ⟨_, rfl, _, rfl, x, _, rfl, hx, rfl⟩, rfl⟩
          simp only [List.mem_cons, List.not_mem_nil, or_false] at hx
          rcases hx with rfl | rfl | rfl
          · exact .num (by omega) (by omega) (by omega)
          · exact .num (by omega) (by omega) (by omega)
          · exact .num (by omega) (by omega) (by omega)
      · refine EvR.imp (er_tup (ear_one (ed_S (es_cl z7)) (ear_one (ed_non ev_c) (ear_cons (R := fun x => ∃ y, x = .bool y) (er_N (P := fun v => ∃ y, v = .bl y) (en_opV (en_next hD7 (ev_var rfl) ev_c) (fun _ _ => EvN.of ev_c) ?_) ?_) ear_nil))) ?_) ?_
        · rintro x y ⟨z, rfl, _, _⟩ rfl
          exact ⟨_, ⟨_, rfl⟩, rv_eq rfl⟩
        · rintro v ⟨y, rfl⟩
          exact ⟨_, ⟨y, rfl⟩, fun _ => .bl y⟩
        · rintro _ ⟨_, rfl, _, rfl, _, _, rfl, _, rfl⟩
          show 3 ≤ 100000
          decide
        · rintro _ ⟨_, ⟨_, rfl, _, rfl, _, _, rfl, ⟨y, rfl⟩, rfl⟩, rfl⟩
          exact .tru (by omega) (by omega)
    have hn0 : 0 < n := by
      rw [Bool.or_eq_false_iff] at hb3
      have h0 := of_decide_eq_false hb3.1
      exact Nat.pos_of_ne_zero fun z => h0 (by rw [z] <;> rfl)
    obtain ⟨n', rfl⟩ : ∃ n', n = n' + 1 := ⟨n - 1, by omega⟩
    have hD6 := hD5.ex e6
    have hC6 := hC5.go e6
    have e06 := e05.trans e6
    have hc6 := cnt_pos pm n'
    have hcnt : cntE pm (n' + 1) = max (2 * cntE pm n' + 3) (6 * pm + 7) := rfl
    have arg : ∀ {σ : L2.St} {H' : Hp}, σ[3]? = some (some (.int ((n' + 1 : Nat) : Int))) → Ev (tOp (rI0 fun i j => .int (i - j)) (tVar 3) (tC (.int 1))) σ H' (.int (n' : Int)) := fun hs => ev_is (ev_op (ev_var hs) ev_c rv_I0) (congrArg V.int (by omega))
    -- not, neg
    refine q_when (et_test (ev_op (ev_var rfl) ev_c (rv_eq rfl))) (fun hb4 H7 e7 => ?_) (fun hb4 H7 e7 => ?_)
    · have hk2 : ∃ o, (o = oNeg ∨ o = oNot) ∧ ((S kd = Str.ofString "num" ∧ V.str (S o) = .str (Str.ofString "neg")) ∨ (S kd = Str.ofString "yes" ∧ V.str (S o) = .str (Str.ofString "not"))) := by
        rcases hkd with rfl | rfl
        · exact ⟨oNeg, .inl rfl, .inl ⟨z2.symm, congrArg V.str z3.symm⟩⟩
        · exact ⟨oNot, .inr rfl, .inr ⟨z1.symm, congrArg V.str z4.symm⟩⟩
      obtain ⟨o, ho, hv2⟩ := hk2
      refine s_retR (er_tup (ear_one (ed_S (ev_disp2 num_ne_yes (ev_var rfl) hv2)) (ear_one (ed_non ev_c) (ear_cons (er_e (n := n') (ea_cons (ev_var rfl) (ea_cons (ev_var rfl) (ea_cons (ev_var rfl) (ea_cons (arg rfl) ea_nil)))) (by omega) hkd (hD6.ex e7) (hC6.go e7)) ear_nil))) ?_) fun v H8 dE hdE e8 hv => ?_
      · rintro _ ⟨_, rfl, _, rfl, _, _, rfl, _, rfl⟩
        show 3 ≤ 100000
        decide
      · obtain ⟨_, ⟨_, rfl, _, rfl, x, _, rfl, hx, rfl⟩, rfl⟩ := hdE
        refine q v H8 _ (e06.trans (e7.trans e8)) hv ?_
        rcases ho with rfl | rfl
        · exact .neg hx (by omega) (by omega)
        · exact .not hx (by omega) (by omega)
    -- a sign
    refine qn_asg (en_pickLs (Pt := fun ts => ts ≠ [] ∧ ts.length ≤ 1000 ∧ ∀ s ∈ ts, s ∈ binW) (hD6.ex e7) (ev_var rfl) (els_if (b := decide (kd = kNum)) (et_test (ev_eqS (ev_var rfl) (es_cl z2))) (fun _ => els_at (ev_dget (ev_var rfl) ev_c ((e06.trans e7) _ _ h1) h4) ((e06.trans e7) _ _ h13) ⟨h14, by omega, h16⟩) (fun _ => els_new (ts := boolW) (el_any (el_lst (ea_cons ev_c (ea_cons ev_c (ea_cons ev_c (ea_cons ev_c (ea_cons ev_c (ea_cons ev_c (ea_cons ev_c (ea_cons ev_c ea_nil)))))))) (by show 8 ≤ 100000; decide)) lit_boolW) ⟨by decide, by decide, boolW_bin⟩)) fun ts h => ⟨h.1, h.2.1⟩) fun v H8 hv e8 => ?_
    obtain ⟨ts, sg, ⟨_, _, hall⟩, hsg, rfl⟩ := hv
    have hbin := hall sg hsg
    have hD8 := hD6.ex (e7.trans e8)
    have hC8 := hC6.go (e7.trans e8)
    refine qn_asg (P := fun v => ∃ k2, (k2 = kNum ∨ k2 = oYes) ∧ v = .str (S k2)) (en_if (et_test (ev_inU (ev_var rfl) (eu_tup (ea_cons ev_c (ea_cons ev_c ea_nil)) (by show 2 ≤ 100000; decide)) rfl rfl)) (fun _ => ?_) (fun _ => en_if (et_test (ev_inU (ev_var rfl) (eu_tup (ea_cons ev_c (ea_cons ev_c ea_nil)) (by show 2 ≤ 100000; decide)) rfl rfl)) (fun _ => ?_) (fun _ => ?_))) fun v H9 hv e9 => ?_
    · exact (EvN.of (es_cl z1)).imp fun v hv => ⟨oYes, .inr rfl, hv⟩
    · refine (en_pickLs (Pt := (· = [kNum, oYes])) hD8 (ev_var rfl) (els_new (ts := [kNum, oYes]) (eat_lst2 (es_cl z2) (es_cl z1)) rfl) fun ts h => by rw [h]; exact ⟨by decide, by decide⟩).imp ?_
      rintro v ⟨ts, s2, rfl, hs2, rfl⟩
      simp only [List.mem_cons, List.not_mem_nil, or_false] at hs2
      exact ⟨s2, hs2, rfl⟩
    · exact (EvN.of (es_cl z2)).imp fun v hv => ⟨kNum, .inl rfl, hv⟩
    obtain ⟨k2, hk2, rfl⟩ := hv
    have hD9 := hD8.ex e9
    have hC9 := hC8.go e9
    refine s_retR (er_tup (ear_one (ed_S (ev_var rfl)) (ear_one (ed_non ev_c) (ear_cons (er_e (n := n') (ea_cons (ev_var rfl) (ea_cons (ev_var rfl) (ea_cons (ev_var rfl) (ea_cons (arg rfl) ea_nil)))) (by omega) hk2 hD9 hC9) (ear_cons (er_e (n := n') (ea_cons (ev_var rfl) (ea_cons (ev_var rfl) (ea_cons (ev_var rfl) (ea_cons (arg rfl) ea_nil)))) (by omega) hk2 hD9 hC9) ear_nil)))) ?_) fun v H10 dE hdE e10 hv => ?_
    · rintro _ ⟨_, rfl, _, rfl, _, _, rfl, _, _, _, rfl, _, rfl⟩
      show 4 ≤ 100000
      decide
    · obtain ⟨_, ⟨_, rfl, _, rfl, x, _, rfl, hx, y, _, rfl, hy, rfl⟩, rfl⟩ := hdE
      exact q v H10 _ (e06.trans ((e7.trans e8).trans (e9.trans e10))) hv (.bin hbin hx hy (by omega) (by omega) (by omega))
theorem ok_e (T : ModsL K mg) {pm : Nat} (hpm : pm ≤ 8) (c__law_next : Cal P w K mg base 1 "_law_next" (spNext K) []) (c__law_pick : Cal P w K mg base 2 "_law_pick" (spPick K) []) {f : Addr} {fd : FuncData} (F : Def K mg "_law_e" s__law_e f fd) (b : Binds K fd ["_law_d", "_law_kind", "_law_c", "_law_deep"] []) : ∀ N, Cal P w K mg base (2 + N) "_law_e" (spEd K pm N) []
  | 0 => ⟨f, fd, _, [], ⟨fun vs H Q E ⟨_, _, _, _, _, _, _, h, _⟩ => absurd h (Nat.not_lt_zero _), fun A outer s H args us vs Q E _ _ _ _ ⟨_, _, _, _, _, _, _, h, _⟩ => absurd h (Nat.not_lt_zero _)⟩, F.mgf, F.kp, b, .nil⟩
  | N + 1 => ok_e1 T (Nat.le_add_right 2 N) hpm c__law_next c__law_pick (ok_e T hpm c__law_next c__law_pick F b N) F b
end
end Wt

set_option Elab.async false
set_option linter.all false
set_option maxRecDepth 100000
set_option maxHeartbeats 4000000
namespace Wt
open PySem PySem.Spec PyProof.Rows L2 SX Evl
open C8 (Def Cal cal0 fnScope_by fnScope)
/-! A name is drawn: none of those that are used. -/
theorem lit_wFirst : Str.ofString "bfhjpqrtvxz" = S wFirst := by decide +kernel
theorem lit_wRest : Str.ofString "abdefilmnostuwy" = S wRest := by decide +kernel
/-- a list of texts -/
abbrev tL (us : List (List Nat)) : HO := .lst (us.map fun z => V.str (S z))
theorem tL_snoc (us : List (List Nat)) (w : List Nat) : (us.map fun z => V.str (S z)) ++ [V.str (S w)] = (us ++ [w]).map fun z => V.str (S z) := by rw [List.map_append] <;> rfl
theorem texts_flat : ∀ us : List (List Nat), (us.map fun z => V.str (S z)).all flatV = true
  | [] => rfl
  | u :: us => by
    rw [List.map_cons, List.all_cons, texts_flat us] <;> rfl
def spWordU (K : PySem.W.Frag) : Sp := fun vs H Q _ => ∃ (d a u : Addr) (ns : List Int) (us : List (List Nat)), vs = [.ref d, .ref u] ∧ Dc K H d a ns ∧ H u = some (tL us) ∧ us.length < 165 ∧
  ∀ w H2, Good kName w → w ∉ us → ExB u H H2 → Dc K H2 d a ns → H2 u = some (tL (us ++ [w])) → Q (.str (S w)) H2
section
variable {P : Program} {w : World} {K : PySem.W.Frag} {mg : Str → Option Value} {base : Heap}
/-- one sign of a written text -/
theorem en_sign {H : Hp} {σ : L2.St} {tb : TE} {x : Str} {l : List Nat} (e : x = S l) (hl : l.length ≤ 1000) (hb : EvN tb σ H (fun v => ∃ z : Int, v = .int z ∧ 0 ≤ z ∧ z < (l.length : Int))) :
    EvN (tOp rIxS (tC (.str x)) tb) σ H (fun v => ∃ c, v = .str (S [c]) ∧ c ∈ l) := by
  subst e
  refine en_opV (EvN.of ev_c) (fun _ _ => hb) ?_
  rintro x y rfl ⟨z, rfl, z0, z1⟩
  obtain ⟨k, rfl⟩ : ∃ k : Nat, z = (k : Int) := ⟨z.toNat, by omega⟩
  have hlt : k < l.length := by omega
  exact ⟨.str (S [l[k]]), ⟨l[k], rfl, List.getElem_mem hlt⟩, rv_at (by omega) (List.getElem?_eq_getElem hlt)⟩
theorem es_sign {H : Hp} {σ : L2.St} {tb : TE} {x : Str} {l : List Nat} {k : Nat} (e : x = S l) (hl : l.length ≤ 1000) (hb : Ev tb σ H (.int (k : Int))) (hk : k < l.length) : EvS (tOp rIxS (tC (.str x)) tb) σ H [l.getD k 0] := by
  subst e
  exact ev_op ev_c hb (rv_at (by omega) (by rw [List.getD_eq_getElem?_getD, List.getElem?_eq_getElem hk] <;> rfl))
abbrev s__law_word : Stmt := topS 18
theorem sc__law_word : FnScope ["_law_d", "_law_used", "_law_found", "_law_k"] ["_law_d", "_law_used"] (fnScope s__law_word) := fnScope_by (by decide +kernel)
theorem ok_word (T : ModsL K mg) (c__law_next : Cal P w K mg base 1 "_law_next" (spNext K) []) {f : Addr} {fd : FuncData} (F : Def K mg "_law_word" s__law_word f fd) (b : Binds K fd ["_law_d", "_law_used"] []) : Cal P w K mg base 2 "_law_word" (spWordU K) [] := by
  refine cal0 F b .nil sc__law_word (fun vs H Q E h => ?_) (fun cdv A outer s H vs Q E hr h => ?_)
  · obtain ⟨_, _, _, _, _, rfl, _⟩ := h
    rfl
  · obtain ⟨d, a, u, ns, us, rfl, hD, hu0, hul, q⟩ := h
    have m_range := T.m_range
    refine ⟨_, (pss_cons (ps_set (i := 2) sc__law_word.nd rfl (.inl rfl) (pe_ix ix_str pe_str (C8.pe_c c__law_next hr (by first | decide | exact Nat.le_refl _ | omega) (by rfl) (pa_cons (pv 0) (pa_cons pe_int pa_nil))) (fun _ _ => rfl)))
      (pss_cons (ps_set (i := 2) sc__law_word.nd rfl (.inl rfl) (pe_op op_add_str (pv 2) (pe_join pe_str (pe_lc (own := [("_law_k", 3)]) (g := (gName 3)) (tt := tYes) rfl sc__law_word.nd (pi_range1 (by rfl) m_range (pa_cons (pe_op op_fdiv (C8.pe_c c__law_next hr (by first | decide | exact Nat.le_refl _ | omega) (by rfl) (pa_cons (pv 0) (pa_cons pe_int pa_nil))) pe_int) pa_nil)) (blkOk_by (N := ["_law_d", "_law_used", "_law_found", "_law_k"]) (sc := C8.fnScope s__law_word) (by decide +kernel)) (fun _ _ _ _ _ => pg_name (i := 3) sc__law_word.nd rfl (Or.inl rfl)) (fun _ _ _ _ _ => pts_nil) (fun _ _ _ _ _ => (pe_ix ix_str pe_str (C8.pe_c c__law_next hr (by first | decide | exact Nat.le_refl _ | omega) (by rfl) (pa_cons (pv 0) (pa_cons pe_int pa_nil))) (fun _ _ => rfl)))))))
      (pss_cons (ps_set (i := 3) sc__law_word.nd rfl (.inl rfl) pe_int)
      (pss_cons (ps_while PassesOwn.never (pt_cmpR op_in_seq (pv 2) (pv 1) (by with_unfolding_all rfl)) (pss_cons (ps_set (i := 2) sc__law_word.nd rfl (.inl rfl) (pe_op op_add_str (pe_ix ix_str pe_str (pe_op op_mod (pv 3) pe_int) (fun _ _ => rfl)) (pe_op Wt.op_rep_str (pe_ix ix_str pe_str (pe_op op_mod (pe_op op_fdiv (pv 3) pe_int) pe_int) (fun _ _ => rfl)) (pe_op op_add pe_int (pe_op op_fdiv (pv 3) pe_int)))))
      (pss_one (ps_set (i := 3) sc__law_word.nd rfl (.inl rfl) (pe_op op_add (pv 3) pe_int)))))
      (pss_cons (ps_expr (pe_bm PySem.F.plainAttrs_list PySem.F.slot_list_append PySem.F.type_list_append mt_append (pv 1) (pa_cons (pv 2) pa_nil)))
      (pss_one (ps_ret (pv 2)))))))), ?_⟩
    refine qn_asg (P := fun v => ∃ c, v = .str (S [c]) ∧ c ∈ wFirst) (en_sign lit_wFirst (by decide) (en_next hD (ev_var rfl) ev_c)) fun v H1 hv e1 => ?_
    obtain ⟨c, rfl, hc⟩ := hv
    have hD1 := hD.ex e1
    refine qn_asg (P := fun v => ∃ w, v = .str (S w) ∧ Good kName w ∧ w.length ≤ 3) (en_op (P := (· = .str (S [c]))) (P2 := fun v => ∃ cs : List Nat, v = .str (S cs) ∧ (∀ d ∈ cs, d ∈ wRest) ∧ cs.length ≤ 2) (EvN.of (ev_var rfl)) (fun _ _ => ?_) ?_) fun v H2 hv e2 => ?_
    · intro H2 e2 Q2 q2
      refine ⟨⟨_, rfl⟩, ?_⟩
      refine en_lcR (N := 2) (P := fun v => ∃ c, v = .str (S [c]) ∧ c ∈ wRest) (EvN.imp (P := fun v => ∃ z : Int, v = .int z ∧ 0 ≤ z ∧ z ≤ 2) (en_opV (en_next hD1 (ev_var rfl) ev_c) (fun _ _ => EvN.of ev_c) ?_) (fun v h => h)) (by decide) (fun _ => rfl) (fun i H3 e3 => en_sign lit_wRest (by decide) (en_next (hD1.ex e3) (ev_var rfl) ev_c)) H2 e2 _ ?_
      · rintro x y ⟨z, rfl, z0, z1⟩ rfl
        exact ⟨_, ⟨z / 4, rfl, by omega, by omega⟩, rv_I ⟨by decide, by decide⟩⟩
      · intro p H3 xs hxs hp e3 h3
        obtain ⟨hlen, hall⟩ := hxs
        obtain ⟨cs, rfl, hcs⟩ : ∃ cs : List Nat, xs = cs.map (fun c => V.str (S [c])) ∧ ∀ d ∈ cs, d ∈ wRest := by
          clear h3 hlen
          induction xs with
          | nil => exact ⟨[], rfl, fun _ h => absurd h (by simp)⟩
          | cons x xs ih =>
            obtain ⟨cs, e, h⟩ := ih fun y hy => hall y (List.mem_cons_of_mem _ hy)
            obtain ⟨c2, e2, h2⟩ := hall x (List.mem_cons_self ..)
            refine ⟨c2 :: cs, by rw [List.map_cons, ← e, ← e2], fun d hd => ?_⟩
            rcases List.mem_cons.mp hd with z | z
            · rw [z]
              exact h2
            · exact h d z
        rw [List.length_map] at hlen
        have ej : Txt.join (S []) ((cs.map fun c => [c]).map S) = S cs := by rw [join_S, joinL_nil]
        refine ⟨S [], p, (cs.map fun c => [c]).map S, congrArg V.str lit0, rfl, .inl (sq_of ?_), ?_, ?_⟩
        · rw [List.map_map, List.map_map]
          exact h3
        · rw [lens, List.map_map]
          have hone : (cs.map (List.length ∘ fun c => [c])).sum = cs.length := by
            clear hlen hcs h3 ej hall
            induction cs with
            | nil => rfl
            | cons c cs ih =>
              rw [List.map_cons, List.sum_cons, ih, List.length_cons]
              show 1 + cs.length = _
              omega
          rw [hone, List.length_map, List.length_map, S_len]
          simp
          omega
        · rw [ej]
          exact q2 _ H3 ⟨cs, rfl, hcs, hlen⟩ e3
    · rintro x y H2 rfl ⟨cs, rfl, h1, h2⟩ e2 Q2 q2
      exact rv_addS (a := [c]) (b := cs) (by rw [List.length_singleton]; omega) H2 (Ex.refl H2) Q2 fun H3 e3 => q2 _ H3 ⟨c :: cs, rfl, word_good hc h1 (by omega), by rw [List.length_cons]; omega⟩ e3
    obtain ⟨wd, rfl, hw, hwl⟩ := hv
    have e12 := e1.trans e2
    refine q_asg ev_c fun H3 e3 => ?_
    have hu3 := e3 u _ (e12 u _ hu0)
    refine q_while (fun m σ' H' => ∃ (k : Nat) (wk : List Nat), σ' = [some (.ref d), some (.ref u), some (.str (S wk)), some (.int (k : Int))] ∧ Ex H H' ∧ H' u = some (tL us) ∧ Good kName wk ∧ m + k = 166 ∧ (k = 0 ∨ wk = cand (k - 1)) ∧ ∀ j, j + 1 < k → cand j ∈ us) 166 ⟨0, wd, rfl, e12.trans e3, hu3, hw, rfl, .inl rfl, fun j hj => by omega⟩ ?_
    rintro m σ' H' ⟨k, wk, rfl, eH, hu', hgood, hm, hk, hall⟩
    refine ⟨decide (wk ∈ us), et_is (et_test (ev_op (ev_var rfl) (ev_var rfl) (rv_isL (K := K) (xs := us.map fun z => V.str (S z)) (sq_of hu') rfl (texts_flat us)))) (inV_S wk us), fun hb H4 e4 => ?_, fun hb H4 e4 => ?_⟩
    · have hmem := of_decide_eq_true hb
      have hall2 : ∀ j, j < k → cand j ∈ us := fun j hj => by
        rcases (show j + 1 < k ∨ j = k - 1 by omega) with z | z
        · exact hall j z
        · rcases hk with h0 | h0
          · omega
          · rw [z, ← h0]; exact hmem
      have hk165 : k < 165 := by
        rcases Nat.lt_or_ge k 165 with z | z
        · exact z
        · exact absurd (fun j hj => hall2 j (Nat.lt_of_lt_of_le hj z)) (cand_free hul)
      refine ⟨fun σ2 H2 => ∃ m', m' < m ∧ ∃ (k : Nat) (wk : List Nat), σ2 = [some (.ref d), some (.ref u), some (.str (S wk)), some (.int (k : Int))] ∧ Ex H H2 ∧ H2 u = some (tL us) ∧ Good kName wk ∧ m' + k = 166 ∧ (k = 0 ∨ wk = cand (k - 1)) ∧ ∀ j, j + 1 < k → cand j ∈ us, fun σ2 H2 h => h, ?_⟩
      have evk : ∀ {H'}, Ev (tVar 3) [some (V.ref d), some (.ref u), some (.str (S wk)), some (.int (k : Int))] H' (.int (k : Int)) := ev_var rfl
      refine q_asg (v := .str (S (cand k))) ?_ fun H5 e5 => ?_
      · have h1 : EvS (tOp rIxS (tC (.str (Str.ofString "bfhjpqrtvxz"))) (tOp (rI (fun _ j => 0 < j) fun i j => .int (i % j)) (tVar 3) (tC (.int 11)))) [some (V.ref d), some (.ref u), some (.str (S wk)), some (.int (k : Int))] H4 [wFirst.getD (k % 11) 0] :=
          es_sign lit_wFirst (by decide) (ev_is (ev_op evk ev_c (rv_I (by decide))) (congrArg V.int (by omega))) (Nat.mod_lt _ (by decide))
        have h2 : EvS (tOp rIxS (tC (.str (Str.ofString "abdefilmnostuwy"))) (tOp (rI (fun _ j => 0 < j) fun i j => .int (i % j)) (tOp (rI CDiv fun i j => .int (i / j)) (tVar 3) (tC (.int 11))) (tC (.int 15)))) [some (V.ref d), some (.ref u), some (.str (S wk)), some (.int (k : Int))] H4 [wRest.getD (k / 11 % 15) 0] :=
          es_sign lit_wRest (by decide) (ev_is (ev_op (ev_op evk ev_c (rv_I ⟨by decide, by decide⟩)) ev_c (rv_I (by decide))) (congrArg V.int (by omega))) (Nat.mod_lt _ (by decide))
        have h3 : Ev (tOp (rI0 fun i j => .int (i + j)) (tC (.int 1)) (tOp (rI CDiv fun i j => .int (i / j)) (tVar 3) (tC (.int 165)))) [some (V.ref d), some (.ref u), some (.str (S wk)), some (.int (k : Int))] H4 (.int ((1 + k / 165 : Nat) : Int)) :=
          ev_is (ev_op ev_c (ev_op evk ev_c (rv_I ⟨by decide, by decide⟩)) rv_I0) (congrArg V.int (by omega))
        have h4 := es_rep h2 h3 (by show 1 ≤ 16; decide) (by omega)
        have ecand : [wFirst.getD (k % 11) 0] ++ (List.replicate (1 + k / 165) [wRest.getD (k / 11 % 15) 0]).flatten = cand k := by
          unfold cand
          have : ∀ (n x : Nat), (List.replicate n [x]).flatten = List.replicate n x := fun n x => by
            induction n with
            | zero => rfl
            | succ n ih => rw [List.replicate_succ, List.replicate_succ, List.flatten_cons, ih] <;> rfl
          rw [this] <;> rfl
        exact ev_is (ev_op h1 h4 (rv_addS (by rw [List.length_singleton, List.length_flatten]; simp; omega))) (congrArg V.str (by rw [ecand]))
      · refine s_asg (v := .int ((k + 1 : Nat) : Int)) (ev_is (ev_op (ev_var rfl) ev_c rv_I0) (congrArg V.int (by omega))) fun H6 e6 => ⟨m - 1, by omega, k + 1, cand k, rfl, eH.trans (e4.trans (e5.trans e6)), (e4.trans (e5.trans e6)) _ _ hu', cand_good k hk165, by omega, .inr rfl, fun j hj => hall2 j (by omega)⟩
    have hnot := of_decide_eq_false hb
    have hulen : (us.map fun z => V.str (S z)).length < 100000 := by rw [List.length_map]; omega
    refine q_app (e4 u _ hu') (ev_var rfl) (ev_var rfl) hulen fun H5 e5 => ?_
    rw [tL_snoc]
    have e45 := eH.trans (e4.trans e5)
    have hdu : d ≠ u := ne_of hD.o hu0 (by intro z; unfold DiceO at z; cases z)
    have hD5 := hD.ex e45
    refine s_ret (ev_var rfl) fun H6 e6 => q wk H6 hgood hnot (fun b o hb ho => ?_) ⟨e6 _ _ (by rw [upd_ne hdu]; exact hD5.o), (hD5.s.fx (Fx.mut (show H5 u = some _ from (e4.trans e5) _ _ hu') True.intro)).ex e6⟩ (e6 u _ upd_same)
    refine e6 b o ?_
    rw [upd_ne hb]
    exact e45 b o ho
end
end Wt

set_option Elab.async false
set_option linter.all false
set_option maxRecDepth 100000
set_option maxHeartbeats 4000000
namespace Wt
open PySem PySem.Spec PyProof.Rows L2 SX Evl
open C8 (Def Cal cal0 fnScope_by fnScope)
/-! What rows of a def are drawn from. -/
def lkK : Key := Sum.inr (Str.ofString "kind")
def lkL : Key := Sum.inr (Str.ofString "left")
def lkU : Key := Sum.inr (Str.ofString "used")
def lkE : Key := Sum.inr (Str.ofString "sets")
/-- names, kind, left, used, defs, sets, signs -/
def cb (ln : Addr) (kd : List Nat) (left : Int) (lu ld ls lg : Addr) : List (Key × V) := [(lkN, .ref ln), (lkK, .str (S kd)), (lkL, .int left), (lkU, .ref lu), (lkD, .ref ld), (lkE, .ref ls), (lkS, .ref lg)]
section
variable {ln lu ld ls lg ln2 ls2 : Addr} {kd : List Nat} {left l2 : Int}
theorem cb_ne : lkN ≠ lkK ∧ lkN ≠ lkL ∧ lkN ≠ lkU ∧ lkN ≠ lkD ∧ lkN ≠ lkE ∧ lkN ≠ lkS ∧ lkK ≠ lkL ∧ lkK ≠ lkU ∧ lkK ≠ lkD ∧ lkK ≠ lkE ∧ lkK ≠ lkS ∧ lkL ≠ lkU ∧ lkL ≠ lkD ∧ lkL ≠ lkE ∧ lkL ≠ lkS ∧ lkU ≠ lkD ∧ lkU ≠ lkE ∧ lkU ≠ lkS ∧ lkD ≠ lkE ∧ lkD ≠ lkS ∧ lkE ≠ lkS := by decide +kernel
theorem cb_n : valV (cb ln kd left lu ld ls lg) lkN = some (.ref ln) := valV_pos (p := (lkN, V.ref ln)) rfl
theorem cb_k : valV (cb ln kd left lu ld ls lg) lkK = some (.str (S kd)) := by
  obtain ⟨h1, h2, h3, h4, h5, h6, h7, h8, h9, h10, h11, h12, h13, h14, h15, h16, h17, h18, h19, h20, h21⟩ := cb_ne
  unfold cb
  rw [valV_neg (p := (lkN, V.ref ln)) h1, valV_pos (p := (lkK, V.str (S kd))) rfl]
theorem cb_l : valV (cb ln kd left lu ld ls lg) lkL = some (.int left) := by
  obtain ⟨h1, h2, h3, h4, h5, h6, h7, h8, h9, h10, h11, h12, h13, h14, h15, h16, h17, h18, h19, h20, h21⟩ := cb_ne
  unfold cb
  rw [valV_neg (p := (lkN, V.ref ln)) h2, valV_neg (p := (lkK, V.str (S kd))) h7, valV_pos (p := (lkL, V.int left)) rfl]
theorem cb_u : valV (cb ln kd left lu ld ls lg) lkU = some (.ref lu) := by
  obtain ⟨h1, h2, h3, h4, h5, h6, h7, h8, h9, h10, h11, h12, h13, h14, h15, h16, h17, h18, h19, h20, h21⟩ := cb_ne
  unfold cb
  rw [valV_neg (p := (lkN, V.ref ln)) h3, valV_neg (p := (lkK, V.str (S kd))) h8, valV_neg (p := (lkL, V.int left)) h12, valV_pos (p := (lkU, V.ref lu)) rfl]
theorem cb_d : valV (cb ln kd left lu ld ls lg) lkD = some (.ref ld) := by
  obtain ⟨h1, h2, h3, h4, h5, h6, h7, h8, h9, h10, h11, h12, h13, h14, h15, h16, h17, h18, h19, h20, h21⟩ := cb_ne
  unfold cb
  rw [valV_neg (p := (lkN, V.ref ln)) h4, valV_neg (p := (lkK, V.str (S kd))) h9, valV_neg (p := (lkL, V.int left)) h13, valV_neg (p := (lkU, V.ref lu)) h16, valV_pos (p := (lkD, V.ref ld)) rfl]
theorem cb_e : valV (cb ln kd left lu ld ls lg) lkE = some (.ref ls) := by
  obtain ⟨h1, h2, h3, h4, h5, h6, h7, h8, h9, h10, h11, h12, h13, h14, h15, h16, h17, h18, h19, h20, h21⟩ := cb_ne
  unfold cb
  rw [valV_neg (p := (lkN, V.ref ln)) h5, valV_neg (p := (lkK, V.str (S kd))) h10, valV_neg (p := (lkL, V.int left)) h14, valV_neg (p := (lkU, V.ref lu)) h17, valV_neg (p := (lkD, V.ref ld)) h19, valV_pos (p := (lkE, V.ref ls)) rfl]
theorem cb_s : valV (cb ln kd left lu ld ls lg) lkS = some (.ref lg) := by
  obtain ⟨h1, h2, h3, h4, h5, h6, h7, h8, h9, h10, h11, h12, h13, h14, h15, h16, h17, h18, h19, h20, h21⟩ := cb_ne
  unfold cb
  rw [valV_neg (p := (lkN, V.ref ln)) h6, valV_neg (p := (lkK, V.str (S kd))) h11, valV_neg (p := (lkL, V.int left)) h15, valV_neg (p := (lkU, V.ref lu)) h18, valV_neg (p := (lkD, V.ref ld)) h20, valV_neg (p := (lkE, V.ref ls)) h21, valV_pos (p := (lkS, V.ref lg)) rfl]
theorem cb_putN : putK (cb ln kd left lu ld ls lg) lkN (.ref ln2) = cb ln2 kd left lu ld ls lg := by
  obtain ⟨h1, h2, h3, h4, h5, h6, h7, h8, h9, h10, h11, h12, h13, h14, h15, h16, h17, h18, h19, h20, h21⟩ := cb_ne
  unfold cb putK
  simp only [List.any_cons, decide_eq_true_eq, decide_true, Bool.true_or, if_true, List.map_cons, List.map_nil, h1.symm, h2.symm, h3.symm, h4.symm, h5.symm, h6.symm, if_false]
theorem cb_putL : putK (cb ln kd left lu ld ls lg) lkL (.int l2) = cb ln kd l2 lu ld ls lg := by
  obtain ⟨h1, h2, h3, h4, h5, h6, h7, h8, h9, h10, h11, h12, h13, h14, h15, h16, h17, h18, h19, h20, h21⟩ := cb_ne
  unfold cb putK
  simp only [List.any_cons, decide_eq_true_eq, decide_true, Bool.true_or, Bool.or_true, if_true, List.map_cons, List.map_nil, h2, h7, h12.symm, h13.symm, h14.symm, h15.symm, if_false]
theorem cb_putE : putK (cb ln kd left lu ld ls lg) lkE (.ref ls2) = cb ln kd left lu ld ls2 lg := by
  obtain ⟨h1, h2, h3, h4, h5, h6, h7, h8, h9, h10, h11, h12, h13, h14, h15, h16, h17, h18, h19, h20, h21⟩ := cb_ne
  unfold cb putK
  simp only [List.any_cons, decide_eq_true_eq, decide_true, Bool.true_or, Bool.or_true, if_true, List.map_cons, List.map_nil, h5, h10, h14, h17, h19, h21.symm, if_false]
theorem two_made {a b : V} : mergeK [] [(lkN, a), (lkE, b)] = [(lkN, a), (lkE, b)] := by
  have h5 : lkN ≠ lkE := cb_ne.2.2.2.2.1
  unfold mergeK
  simp only [List.foldl_cons, List.foldl_nil, putK, List.any_nil, List.any_cons, Bool.or_false, Bool.false_eq_true, if_false, List.nil_append, decide_eq_true_eq, h5, List.cons_append, Bool.or_self, decide_false]
theorem cb_two : mergeK (cb ln kd left lu ld ls lg) [(lkN, .ref ln2), (lkE, .ref ls2)] = cb ln2 kd left lu ld ls2 lg := by
  unfold mergeK
  rw [List.foldl_cons, List.foldl_cons, List.foldl_nil]
  show putK (putK (cb ln kd left lu ld ls lg) lkN (.ref ln2)) lkE (.ref ls2) = _
  rw [cb_putN, cb_putE]
end
/-- what may be set: kind, name -/
def SetOk (d : PyData) : Prop := ∃ k n, d = .tuple [.str (S k), .str (S n)] ∧ (k = kNum ∨ k = oYes) ∧ Good kName n
/-- names have a kind of these two -/
def NameKOk (d : PyData) : Prop := ∃ k f n, d = .tuple [.str (S k), .str (S f), .str (S n)] ∧ (f = [] ∨ Good kName f) ∧ Good kName n
/-- defs to be called: file, name, parts' kinds, kind -/
def DefK (d : PyData) : Prop := ∃ f n ps k, d = .tuple [.str (S f), .str (S n), .tuple ps, .str (S k)] ∧ (f = [] ∨ Good kName f) ∧ Good kName n ∧ ps.length ≤ 3 ∧ (∀ p ∈ ps, p = .str (S kNum) ∨ p = .str (S oYes)) ∧ (k = [] ∨ k = kNum ∨ k = oYes)
theorem DefK.ok {d : PyData} (h : DefK d) : DefOk 3 d := by
  obtain ⟨f, n, ps, k, e, gf, gn, hp, hq, _⟩ := h
  exact ⟨f, n, ps, k, e, gf, gn, hp, hq⟩
theorem kind_low {k : List Nat} (h : k = [] ∨ k = kNum ∨ k = oYes) : k.all (fun c => decide (c < 128)) = true := by rcases h with rfl | rfl | rfl <;> decide
theorem defK_shp {ds : List PyData} (h : ∀ d ∈ ds, DefK d) : ShpA 20 ds := shpA_all fun x hx => by
  obtain ⟨f0, n0, ps0, k0, rfl, gf, gn, hp1, hp2, hk⟩ := h x hx
  have shp : ShpA 0 ps0 := shpA_all fun p hp => by
    rcases hp2 p hp with rfl | rfl
    · exact shp_str (by decide)
    · exact shp_str (by decide)
  exact (shp_tup (k := 1) (shpA_cons ((shp_str (path_low gf)).up (by decide)) (shpA_cons ((shp_str (good_low gn)).up (by decide)) (shpA_cons (shp_tup shp (by omega)) (shpA_cons ((shp_str (kind_low hk)).up (by decide)) shpA_nil)))) (by show 4 ≤ 40000; decide)).up (by decide)
def LAt (H : Hp) (l : Addr) (Pd : PyData → Prop) (N : Nat) : Prop := ∃ vs ds, H l = some (.lst vs) ∧ TdAll H vs ds ∧ (∀ d ∈ ds, Pd d) ∧ ds.length ≤ N
theorem LAt.ex {H H' : Hp} {l : Addr} {Pd : PyData → Prop} {N : Nat} (h : LAt H l Pd N) (e : Ex H H') : LAt H' l Pd N := by
  obtain ⟨vs, ds, h1, h2, h3, h4⟩ := h
  exact ⟨vs, ds, e _ _ h1, TdAll.tx (Tx.of e) _ _ h2, h3, h4⟩
theorem LAt.up {H : Hp} {l : Addr} {Pd : PyData → Prop} {N M : Nat} (h : LAt H l Pd N) (e : N ≤ M) : LAt H l Pd M := by
  obtain ⟨vs, ds, h1, h2, h3, h4⟩ := h
  exact ⟨vs, ds, h1, h2, h3, Nat.le_trans h4 e⟩
/-- the dict at ca, its used names at lu, names at ln, sets at ls, defs at ld, signs at lg -/
structure BC (H : Hp) (ca lu ln ls ld lg : Addr) (kd : List Nat) (left : Int) (B : Nat) : Prop where
  d : H ca = some (.dK (cb ln kd left lu ld ls lg))
  u : ∃ us, H lu = some (tL us) ∧ us.length ≤ B
  n : LAt H ln NameOk B
  s : LAt H ls SetOk B
  f : LAt H ld DefK 900
  g : ∃ gs, H lg = some (tL gs) ∧ gs ≠ [] ∧ gs.length ≤ 900 ∧ ∀ s ∈ gs, s ∈ binW
  nu : ln ≠ lu
  su : ls ≠ lu
  fu : ld ≠ lu
  gu : lg ≠ lu
  k : kd = [] ∨ kd = kNum ∨ kd = oYes
  l4 : left ≤ 4
section
variable {H H' : Hp} {ca lu ln ls ld lg ln2 ls2 : Addr} {kd : List Nat} {left l2 : Int} {B C : Nat}
theorem BC.go (h : BC H ca lu ln ls ld lg kd left B) (e : Ex H H') : BC H' ca lu ln ls ld lg kd left B := by
  obtain ⟨us, u1, u2⟩ := h.u
  obtain ⟨gs, g1, g2⟩ := h.g
  exact ⟨e _ _ h.d, ⟨us, e _ _ u1, u2⟩, h.n.ex e, h.s.ex e, h.f.ex e, ⟨gs, e _ _ g1, g2⟩, h.nu, h.su, h.fu, h.gu, h.k, h.l4⟩
theorem BC.up (h : BC H ca lu ln ls ld lg kd left B) (e : B ≤ C) : BC H ca lu ln ls ld lg kd left C := by
  obtain ⟨us, u1, u2⟩ := h.u
  exact ⟨h.d, ⟨us, u1, Nat.le_trans u2 e⟩, h.n.up e, h.s.up e, h.f, h.g, h.nu, h.su, h.fu, h.gu, h.k, h.l4⟩
theorem BC.cu (h : BC H ca lu ln ls ld lg kd left B) : ca ≠ lu := by
  obtain ⟨us, u1, _⟩ := h.u
  exact ne_of h.d u1 (by intro z; cases z)
theorem BC.ctx (h : BC H ca lu ln ls ld lg kd left B) (hB : B ≤ 900) : CtxC H ca 3 := by
  obtain ⟨nv, nds, n1, n2, n3, n4⟩ := h.n
  obtain ⟨dv, dds, d1, d2, d3, d4⟩ := h.f
  obtain ⟨gs, g1, g2, g3, g4⟩ := h.g
  exact ⟨_, ln, ld, lg, nv, dv, nds, dds, gs, h.d, cb_n, cb_d, cb_s, n1, n2, n3, by omega, d1, d2, fun x hx => (d3 x hx).ok, d4, g1, g2, g3, g4⟩
/-- all but the dict and the used names stays -/
theorem BC.tx (h : BC H ca lu ln ls ld lg kd left B) (e : Ex2 ca lu H H') : Tx H H' := by
  obtain ⟨us, u1, _⟩ := h.u
  exact fun x xs hx => e x _ (ne_of hx h.d (by intro z; cases z)) (ne_of hx u1 (by intro z; cases z)) hx
theorem BC.lst (h : BC H ca lu ln ls ld lg kd left B) (e : Ex2 ca lu H H') {l : Addr} {xs : List V} (hl : H l = some (.lst xs)) (hn : l ≠ lu) : H' l = some (.lst xs) := e l _ (ne_of hl h.d (by intro z; cases z)) hn hl
theorem BC.at (h : BC H ca lu ln ls ld lg kd left B) (e : Ex2 ca lu H H') {l : Addr} {Pd : PyData → Prop} {N : Nat} (g : LAt H l Pd N) (hn : l ≠ lu) : LAt H' l Pd N := by
  obtain ⟨vs, ds, h1, h2, h3, h4⟩ := g
  exact ⟨vs, ds, h.lst e h1 hn, TdAll.tx (h.tx e) _ _ h2, h3, h4⟩
theorem BC.dc {K : PySem.W.Frag} {d a : Addr} {ns : List Int} (h : BC H ca lu ln ls ld lg kd left B) (e : Ex2 ca lu H H') (D : Dc K H d a ns) : Dc K H' d a ns := by
  obtain ⟨us, u1, _⟩ := h.u
  refine ⟨e _ _ (ne_of D.o h.d (by intro z; unfold DiceO at z; cases z)) (ne_of D.o u1 (by intro z; unfold DiceO at z; cases z)) D.o, D.s.fx fun b o u hb => e _ _ (ne_of hb h.d (by intro z; cases z)) (ne_of hb u1 (by intro z; cases z)) hb⟩
/-- another dict, the rest as it was -/
theorem BC.set (h : BC H ca lu ln ls ld lg kd left B) (e : Ex2 ca lu H H') (hd : H' ca = some (.dK (cb ln2 kd l2 lu ld ls2 lg))) (hu : ∃ us, H' lu = some (tL us) ∧ us.length ≤ C) (hn : LAt H' ln2 NameOk C) (hs : LAt H' ls2 SetOk C) (n2 : ln2 ≠ lu) (s2 : ls2 ≠ lu) (hl : l2 ≤ 4) : BC H' ca lu ln2 ls2 ld lg kd l2 C := by
  obtain ⟨gs, g1, g2⟩ := h.g
  exact ⟨hd, hu, hn, hs, h.at e h.f h.fu, ⟨gs, h.lst e g1 h.gu, g2⟩, n2, s2, h.fu, h.gu, h.k, hl⟩
theorem BC.mut (h : BC H ca lu ln ls ld lg kd left B) (hH : Ex2 ca lu H H') : Ex2 ca lu H (upd H' ca (.dK (cb ln2 kd l2 lu ld ls2 lg))) := fun b o n1 n2 ho => by
  rw [upd_ne n1]
  exact hH b o n1 n2 ho
end
/-! ### how many rows come at most -/
def tri (l : Int) : Int := if l ≤ 0 then 0 else if l ≤ 1 then 1 else if l ≤ 2 then 3 else if l ≤ 3 then 6 else 10
def phi (l r : Int) : Int := tri l + (if 0 < r - (if 0 < l then l else 0) then r - (if 0 < l then l else 0) else 0)
theorem tri_pos (l : Int) : 0 ≤ tri l ∧ tri l ≤ 10 := by unfold tri; repeat' split <;> omega
theorem tri_two {l g1 g2 : Int} (h : l ≤ 4) (p1 : 0 ≤ g1) (p2 : 0 ≤ g2) (h1 : g1 ≤ tri l) (h2 : g2 ≤ tri (l - g1)) : g1 + g2 ≤ tri l := by
  unfold tri at *
  repeat' split at * <;> omega
theorem phi_step {l r g : Int} (h : l ≤ 4) (hr : 1 ≤ r) (p : 0 ≤ g) (hg : g ≤ tri (l - 1)) : 1 + g + phi (l - 1 - g) (r - 1) ≤ phi l r := by
  unfold phi tri at *
  repeat' split at * <;> omega
theorem phi_start {l r : Int} (h : l ≤ 4) (hr : r ≤ l ∨ r ≤ 0) : phi l r ≤ tri l := by
  unfold phi tri at *
  repeat' split at * <;> omega
theorem phi_tri (l r : Int) : tri l ≤ phi l r := by
  unfold phi
  split <;> omega
theorem phi_one {l r : Int} (h : l ≤ 4) (hr : 1 ≤ r) : 1 + tri (l - 1) ≤ phi l r := by
  unfold phi tri at *
  repeat' split at * <;> omega
theorem rawRows_snoc {h : Nat} : ∀ {ds : List PyData} {L L1 : Nat} {d : PyData}, RawRows h L ds → RawRow h L1 d → RawRows h (L + L1) (ds ++ [d])
  | [], L, L1, d, _, r => RawRows.cons (L1 := L1) (L2 := 0) r .nil (by omega)
  | x :: ds, L, L1, d, a, r => by
    cases a with
    | @cons _ _ La Lb _ _ r1 a1 hL => exact .cons r1 (rawRows_snoc a1 r) (by omega)
end Wt

set_option Elab.async false
set_option linter.all false
set_option maxRecDepth 100000
set_option maxHeartbeats 4000000
namespace Wt
open PySem PySem.Spec PyProof.Rows L2 SX Evl
open C8 (Def Cal cal0 fnScope_by fnScope)
/-! _law_rows. -/
def spOne (K : PySem.W.Frag) (N : Nat) : Sp := fun vs H Q _ => ∃ (d a ca lu ln ls ld lg : Addr) (ns : List Int) (kd : List Nat) (left : Int) (B n : Nat), vs = [.ref d, .ref ca, .int (n : Int)] ∧ n < N ∧ Dc K H d a ns ∧ BC H ca lu ln ls ld lg kd left B ∧ (B : Int) + 1 + tri left ≤ 160 ∧ -500 ≤ left + B + 1 ∧
  ∀ v H2 dR (g : Nat) ln2 ls2, (g : Int) ≤ tri left → (ln2 = ln ∨ H ln2 = none) → (ls2 = ls ∨ H ls2 = none) → Ex2 ca lu H H2 → BC H2 ca lu ln2 ls2 ld lg kd (left - g) (B + g + 1) → Td H2 v dR → RawRow (n + 1) (3 * (g + 1)) dR → Q v H2
theorem BC.mutL {H : Hp} {ca lu ln ls ld lg : Addr} {kd : List Nat} {left : Int} {B : Nat} (h : BC H ca lu ln ls ld lg kd left B) {l : Addr} {xs ys : List V} (hl : H l = some (.lst xs)) (n1 : l ≠ lu) (n2 : ln ≠ l) (n3 : ls ≠ l) (n4 : ld ≠ l) (n5 : lg ≠ l) : BC (upd H l (.lst ys)) ca lu ln ls ld lg kd left B := by
  obtain ⟨us, u1, u2⟩ := h.u
  obtain ⟨gs, g1, g2⟩ := h.g
  have hc : ca ≠ l := ne_of h.d hl (by intro z; cases z)
  have tx : Tx H (upd H l (.lst ys)) := Tx.lst hl
  have at_ : ∀ {m : Addr} {Pd : PyData → Prop} {N : Nat}, LAt H m Pd N → m ≠ l → LAt (upd H l (.lst ys)) m Pd N := fun ⟨vs, ds, h1, h2, h3, h4⟩ hm => ⟨vs, ds, by rw [upd_ne hm]; exact h1, TdAll.tx tx _ _ h2, h3, h4⟩
  exact ⟨by rw [upd_ne hc]; exact h.d, ⟨us, by rw [upd_ne n1.symm]; exact u1, u2⟩, at_ h.n n2, at_ h.s n3, at_ h.f n4, ⟨gs, by rw [upd_ne n5]; exact g1, g2⟩, h.nu, h.su, h.fu, h.gu, h.k, h.l4⟩
def spRowsG (K : PySem.W.Frag) (N : Nat) : Sp := fun vs H Q _ => ∃ (d a ca lu ln ls ld lg : Addr) (ns : List Int) (kd : List Nat) (left many : Int) (B n : Nat), vs = [.ref d, .ref ca, .int (n : Int), .int many] ∧ n < N ∧ Dc K H d a ns ∧ BC H ca lu ln ls ld lg kd left B ∧ (B : Int) + tri left ≤ 160 ∧ many ≤ 100000 ∧ -100000 ≤ many ∧ -500 ≤ left + B ∧
  ∀ v H2 ds (g : Nat), (g : Int) ≤ tri left → Ex2 ca lu H H2 → BC H2 ca lu ln ls ld lg kd (left - g) (B + g) → Td H2 v (.tuple ds) → RawRows (n + 1) (3 * g) ds → Q v H2
section
variable {K : PySem.W.Frag} {σ : L2.St} {H H' : Hp} {ta tb te tx tl t1 t2 t3 : TE} {tr : TA} {t u : TT} {D : Ends} {tu tw tz : TS}
theorem q_par3L {i j l : Nat} {y z : V} (hy : ∀ H', Ex H H' → Ev t2 σ H' y) (hz : ∀ H', Ex H H' → Ev t3 σ H' z) (k : ∀ p H1, H p = none → Ex H H1 → H1 p = some (.lst []) → tz D (((σ.set i (some (.ref p))).set j (some y)).set l (some z)) H1) :
    tSeq (tPar3 i j l (tCons (tLst tNil) (tCons t2 (tCons t3 tNil)))) tz D σ H := ⟨Nat.zero_le _, fun p hp => by
  have e1 := Ex.new (o := HO.lst []) hp
  refine hy _ e1 _ (Ex.refl _) _ fun H2 e2 => hz H2 (e1.trans e2) H2 (Ex.refl _) _ fun H3 e3 => ⟨_, _, _, rfl, k p H3 hp ((e1.trans e2).trans e3) ((e2.trans e3) _ _ upd_same)⟩⟩
/-- for i in range(n), n perhaps below nought -/
theorem q_forRz {j : Nat} {n : Int} (h : EvA tr σ H [.int n]) (hn : -100000 ≤ n ∧ n ≤ 100000) (Pv : Nat → L2.St → Hp → Prop) (h0 : ∀ H1, Ex H H1 → Pv 0 σ H1)
    (hs : ∀ (i : Nat) σ' H', (i : Int) < n → Pv i σ' H' → tu { D with nx := Pv (i + 1), ct := Pv (i + 1), bk := tz D } (σ'.set j (some (.int (i : Int)))) H') (hd : ∀ σ' H', Pv n.toNat σ' H' → tz D σ' H') : tSeq (tFor (iRng1 tr) (gName j) tu) tz D σ H :=
  h H (Ex.refl H) _ fun H1 e => ⟨n, rfl, by omega, by omega, for_range (D := { D with nx := tz D }) (lo := 0) (n := n.toNat) Pv (h0 H1 e) (fun i σ' H' hi p => by
    have e0 : (0 : Int) + (i : Int) = (i : Int) := Int.zero_add _
    show tu { D with nx := Pv (i + 1), ct := Pv (i + 1), bk := tz D } (σ'.set j (some (.int ((0 : Int) + (i : Int))))) H'
    rw [e0]
    exact hs i σ' H' (by omega) p) hd⟩
theorem ev_min2 {i j : Int} (ha : Ev ta σ H (.int i)) (hb : Ev tb σ H (.int j)) : Ev (tCB (fun xs H Q => ∃ i j, xs = [.int i, .int j] ∧ Q (.int (if j < i then j else i)) H) (tCons ta (tCons tb tNil))) σ H (.int (if j < i then j else i)) := fun H1 e Q q => ha H1 e _ fun H2 e2 => hb H2 (e.trans e2) _ fun H3 e3 => ⟨i, j, rfl, q H3 (e2.trans e3)⟩
theorem q_dput {ca : Addr} {kvs : List (Key × V)} {k : Str} {y : V} (ht : Ev te σ H y) (ha : ∀ H', Ex H H' → Ev ta σ H' (.ref ca)) (hd : H ca = some (.dK kvs)) (hl : kvs.length < 100000) (c : ∀ H1, Ex H H1 → tz D σ (upd H1 ca (.dK (putK kvs (Sum.inr k : Key) y)))) : tSeq (sDPut ta (tC (.str k)) te) tz D σ H := ht H (Ex.refl H) _ fun H1 e1 => ha H1 e1 H1 (Ex.refl _) _ fun H2 e2 => ev_c H2 (Ex.refl H2) _ fun H3 e3 => by
  have e13 := (e1.trans e2).trans e3
  exact ⟨ca, _, rfl, DPut.k (k := (Sum.inr k : Key)) (e13 _ _ hd) (sz_lt hl), c H3 e13⟩
/-- c.update({names: .., sets: ..}) -/
theorem q_two {ca : Addr} {kvs : List (Key × V)} {y z : V} (ha : ∀ H', Ex H H' → Ev ta σ H' (.ref ca)) (h1 : ∀ H', Ex H H' → Ev t1 σ H' y) (h2 : ∀ H', Ex H H' → Ev t2 σ H' z) (hd : H ca = some (.dK kvs)) (hl : kvs.length ≤ 1000) (k : ∀ H1, Ex H H1 → tz D σ (upd H1 ca (.dK (mergeK kvs [(lkN, y), (lkE, z)])))) :
    tSeq (tDrop (tBM K "dict" rDUpd ta (tCons (tDisp [(tC (.str (Str.ofString "names")), t1), (tC (.str (Str.ofString "sets")), t2)]) tNil))) tz D σ H :=
  ha H (Ex.refl H) H (Ex.refl H) _ fun H1 e1 => ⟨.inr (.inr (.inl ⟨rfl, .inl ⟨_, e1 _ _ hd⟩⟩)), fun p hp => h1 _ (e1.trans (Ex.new hp)) _ (Ex.refl _) _ fun H2 e2 => h2 H2 ((e1.trans (Ex.new hp)).trans e2) H2 (Ex.refl _) _ fun H3 e3 => by
    have e13 := (Ex.new (o := .dK []) hp).trans (e2.trans e3)
    refine ⟨e3 p _ (e2 p _ upd_same), [(lkN, y), (lkE, z)], rfl, by show 2 ≤ 15; decide, ?_⟩
    have hwp : ca ≠ p := ne_of_none (e1 _ _ hd) hp
    have e4 : Ex H (upd H3 p (.dK (mergeK [] [(lkN, y), (lkE, z)]))) := Ex.mut (e1.trans e13) (fresh_back e1 hp)
    refine ⟨ca, p, _, [(lkN, y), (lkE, z)], rfl, rfl, hwp, e4 _ _ hd, by rw [two_made]; exact upd_same, sz_of (by show kvs.length + 2 ≤ 100000; omega), ?_⟩
    exact k _ e4⟩
theorem s_dropBM {T : String} {r : V → List V → Hp → VK → Prop} (h : te σ H fun x H1 => tyV K T x H1 ∧ tr σ H1 fun xs H2 => r x xs H2 fun _ H3 => D.nx σ H3) : tDrop (tBM K T r te tr) D σ H := h
theorem a_call {sp : Sp} {E : XK} {Q : List V → Hp → Prop} (h : tr σ H fun vs H1 => sp (vs ++ []) H1 (fun v H2 => Q [v] H2) E) : tCons (tCall sp [] E tr) tNil σ H Q := h
theorem s_retT {d : PyData} {v : V} {l : Addr} (h : Ev te σ H (.ref l)) {vs : List V} {ds : List PyData} (hl : H l = some (.lst vs)) (hT : TdAll H vs ds) (k : ∀ v H1, Ex H H1 → Td H1 v (.tuple ds) → D.rt v H1) : tRet (tCB (fun xs H Q => ∃ p ys, xs = [.ref p] ∧ ((SqL K H p ys ∧ ∀ l, H l = none → Q (.ref l) (upd H l (.tup ys))) ∨ (SqT K H p ys ∧ Q (.ref p) H))) (tCons te tNil)) D σ H :=
  ed_tupleOf (K := K) h hl hT H (Ex.refl H) _ k
end
section
variable {P : Program} {w : World} {K : PySem.W.Frag} {mg : Str → Option Value} {base : Heap}
abbrev s__law_rows : Stmt := topS 20
theorem sc__law_rows : FnScope ["_law_d", "_law_c", "_law_deep", "_law_many", "_law_found", "_law_names", "_law_sets", "_law_k"] ["_law_d", "_law_c", "_law_deep", "_law_many"] (fnScope s__law_rows) := fnScope_by (by decide +kernel)
theorem ok_rows (T : ModsL K mg) (m_min : mg "min" = none) {k N : Nat} (hk : 1 ≤ k) (c__law_one_row : Cal P w K mg base k "_law_one_row" (spOne K N) []) {f : Addr} {fd : FuncData} (F : Def K mg "_law_rows" s__law_rows f fd) (b : Binds K fd ["_law_d", "_law_c", "_law_deep", "_law_many"] []) : Cal P w K mg base (k + 1) "_law_rows" (spRowsG K N) [] := by
  refine cal0 F b .nil sc__law_rows (fun vs H Q E h => ?_) (fun cdv A outer s H vs Q E hr h => ?_)
  · obtain ⟨_, _, _, _, _, _, _, _, _, _, _, _, _, _, rfl, _⟩ := h
    rfl
  · obtain ⟨d, a, ca, lu, ln, ls, ld, lg, ns, kd, left, many, B, n, rfl, hn, hD, hC, hB, hm1, hm2, hl0, q⟩ := h
    have m_range := T.m_range
    have m_tuple := T.m_tuple
    have hu := hu_of hr
    refine ⟨_, (pss_cons (ps_par3 (i := 4) (j := 5) (l := 6) rfl sc__law_rows.nd rfl rfl rfl (by decide) (by decide) (by decide) (by rfl) (by rfl) (by rfl) (pa_cons (pe_lst pa_nil) (pa_cons (pe_dget hu (pv 1) pe_str (fun _ _ => rfl)) (pa_cons (pe_dget hu (pv 1) pe_str (fun _ _ => rfl)) pa_nil))) (by rfl))
      (pss_cons (ps_for PassesOwn.never rfl (pi_range1 (by rfl) m_range (pa_cons (pe_callB (call_min2 rfl) (by rfl) m_min PyProof.Rows.boot_min (pa_cons (pv 3) (pa_cons (pe_dget hu (pv 1) pe_str (fun _ _ => rfl)) pa_nil))) pa_nil)) (pg_name (i := 7) sc__law_rows.nd rfl (.inl rfl)) (pss_cons (ps_dput hu (pv 1) pe_str (pe_op op_sub (pe_dget hu (pv 1) pe_str (fun _ _ => rfl)) pe_int) rfl)
      (pss_one (ps_expr (pe_bm PySem.F.plainAttrs_list PySem.F.slot_list_append PySem.F.type_list_append mt_append (pv 4) (pa_cons (C8.pe_c c__law_one_row hr (by first | decide | exact Nat.le_refl _ | omega) (by rfl) (pa_cons (pv 0) (pa_cons (pv 1) (pa_cons (pv 2) pa_nil)))) pa_nil))))))
      (pss_cons (ps_expr (pe_bm PySem.F.plainAttrs_dict PySem.F.slot_dict_update PySem.F.type_dict_update Wt.mt_dupdate (pv 1) (pa_cons (pe_disp (pps_cons pe_str (pv 5) (pps_cons pe_str (pv 6) pps_nil)) (by rfl) (by rfl) (by simp) (by decide)) pa_nil)))
      (pss_one (ps_ret (pe_callTy call_tuple_of (by rfl) m_tuple Wt.bt_tuple (pa_cons (pv 4) pa_nil))))))), ?_⟩
    have hl4 := hC.l4
    refine q_par3L (fun H' e => ev_dget (ev_var rfl) ev_c ((hC.go e).d) cb_n) (fun H' e => ev_dget (ev_var rfl) ev_c ((hC.go e).d) cb_e) fun fl H1 hf0 e1 hf1 => ?_
    obtain ⟨us0, hu0, _⟩ := hC.u
    have hfc : fl ≠ ca := (ne_of_none hC.d hf0).symm
    have hfu : fl ≠ lu := (ne_of_none hu0 hf0).symm
    obtain ⟨_, _, hn0, _⟩ := hC.n
    obtain ⟨_, _, hs0, _⟩ := hC.s
    obtain ⟨_, _, hd0, _⟩ := hC.f
    obtain ⟨_, hg0, _⟩ := hC.g
    have hnf : ln ≠ fl := ne_of_none hn0 hf0
    have hsf : ls ≠ fl := ne_of_none hs0 hf0
    have hdf : ld ≠ fl := ne_of_none hd0 hf0
    have hgf : lg ≠ fl := ne_of_none hg0 hf0
    obtain ⟨m, em⟩ : ∃ m : Int, m = if left < many then left else many := ⟨_, rfl⟩
    have hm : m ≤ left ∧ m ≤ 100000 ∧ -100000 ≤ m := by
      have := (tri_pos left).1
      rw [em]
      split <;> omega
    refine q_forRz (n := m) (ea_cons (em ▸ ev_min2 (ev_var rfl) (ev_dget (ev_var rfl) ev_c ((hC.go e1).d) cb_l)) ea_nil) ⟨hm.2.2, hm.2.1⟩
      (fun i σ' H' => ∃ (y7 : Option V) (t : Nat) (ln2 ls2 : Addr) (vs : List V) (ds : List PyData), σ' = [some (.ref d), some (.ref ca), some (.int (n : Int)), some (.int many), some (.ref fl), some (.ref ln), some (.ref ls), y7] ∧ Ex2 ca lu H H' ∧ BC H' ca lu ln2 ls2 ld lg kd (left - t) (B + t) ∧ H' fl = some (.lst vs) ∧ TdAll H' vs ds ∧ RawRows (n + 1) (3 * t) ds ∧ ln2 ≠ fl ∧ ls2 ≠ fl ∧ (i : Int) ≤ t ∧ (t : Int) + phi (left - t) (m - i) ≤ tri left)
      (fun H2 e2 => ⟨_, 0, ln, ls, [], [], rfl, Ex2.of (e1.trans e2), by
        have := hC.go (e1.trans e2)
        rw [show left - ((0 : Nat) : Int) = left by omega]
        exact this, e2 _ _ hf1, .nil, .nil, hnf, hsf, by omega, by
        have := phi_start (l := left) (r := m) hl4 (by omega)
        rw [show left - ((0 : Nat) : Int) = left by omega, show m - ((0 : Nat) : Int) = m by omega]
        omega⟩) ?_ ?_
    · rintro i σ' H2 hi ⟨y7, t, ln2, ls2, vs, ds, rfl, x2, hC2, hf2, hvs2, hraw, hnf2, hsf2, hit, hphi⟩
      have hD2 := hC.dc x2 hD
      have ht10 : (t : Int) ≤ 10 := by
        have h1 := (tri_pos left).2
        have h2 := phi_tri (left - t) (m - i)
        have h3 := (tri_pos (left - t)).1
        omega
      have hlt4 : left - t ≤ 4 := hC2.l4
      have hone := phi_one (l := left - t) (r := m - i) hlt4 (by omega)
      have hl100 : 0 ≤ (t : Int) := by omega
      refine q_dput (kvs := cb ln2 kd (left - t) lu ld ls2 lg) (k := Str.ofString "left") (y := .int (left - t - 1)) (ev_op (ev_dget (ev_var rfl) ev_c hC2.d cb_l) ev_c rv_I0) (fun _ _ => ev_var rfl) hC2.d (by show 7 < 100000; decide) fun H3 e3 => ?_
      have eput : putK (cb ln2 kd (left - t) lu ld ls2 lg) (Sum.inr (Str.ofString "left") : Key) (.int (left - t - 1)) = cb ln2 kd (left - t - 1) lu ld ls2 lg := cb_putL
      rw [eput]
      have hC3 := hC2.go e3
      have x3 : Ex2 ca lu H3 (upd H3 ca (.dK (cb ln2 kd (left - t - 1) lu ld ls2 lg))) := hC3.mut (Ex2.of (Ex.refl H3))
      have x23 : Ex2 ca lu H (upd H3 ca (.dK (cb ln2 kd (left - t - 1) lu ld ls2 lg))) := x2.trans ((Ex2.of e3).trans x3)
      obtain ⟨us3, hus3, hus3l⟩ := hC3.u
      have hC4 : BC (upd H3 ca (.dK (cb ln2 kd (left - t - 1) lu ld ls2 lg))) ca lu ln2 ls2 ld lg kd (left - t - 1) (B + t) := hC3.set x3 upd_same ⟨us3, by rw [upd_ne hC3.cu.symm]; exact hus3, hus3l⟩ (hC3.at x3 hC3.n hC3.nu) (hC3.at x3 hC3.s hC3.su) hC3.nu hC3.su (by omega)
      have hf4 : (upd H3 ca (.dK (cb ln2 kd (left - t - 1) lu ld ls2 lg))) fl = some (.lst vs) := by rw [upd_ne hfc]; exact e3 _ _ hf2
      have hvs4 : TdAll (upd H3 ca (.dK (cb ln2 kd (left - t - 1) lu ld ls2 lg))) vs ds := TdAll.tx ((Tx.of e3).trans (hC3.tx x3)) _ _ hvs2
      generalize upd H3 ca (.dK (cb ln2 kd (left - t - 1) lu ld ls2 lg)) = H4 at x23 hC4 hf4 hvs4 x3
      have hD4 := hC.dc x23 hD
      -- found.append(one_row(..))
      refine s_dropBM ?_
      refine (show Ev (tVar 4) _ H4 (.ref fl) from ev_var rfl) H4 (Ex.refl H4) _ fun H5 e5 => ⟨Or.inl ⟨rfl, vs, sq_of (e5 _ _ hf4)⟩, ?_⟩
      refine a_call ?_
      refine (show EvA (tCons (tVar 0) (tCons (tVar 1) (tCons (tVar 2) tNil))) _ H5 [.ref d, .ref ca, .int (n : Int)] from ea_cons (ev_var rfl) (ea_cons (ev_var rfl) (ea_cons (ev_var rfl) ea_nil))) H5 (Ex.refl H5) _ fun H6 e6 => ?_
      have hC6 := hC4.go (e5.trans e6)
      refine ⟨d, a, ca, lu, ln2, ls2, ld, lg, ns, kd, left - t - 1, B + t, n, rfl, hn, hD4.ex (e5.trans e6), hC6, by omega, by omega, fun v H7 dR g ln3 ls3 hg hln3 hls3 x7 hC7 hv7 hrow => ?_⟩
      have hf7 := hC6.lst x7 ((e5.trans e6) _ _ hf4) hfu
      have hvs7 := TdAll.tx ((Tx.of (e5.trans e6)).trans (hC6.tx x7)) _ _ hvs4
      have lvs : vs.length ≤ 3 * t := by rw [hvs2.len]; exact rawRows_len hraw
      refine ⟨fl, vs, v, rfl, rfl, hf7, sz_lt (by omega), ?_⟩
      have tx : Tx H7 (upd H7 fl (.lst (vs ++ [v]))) := Tx.lst hf7
      have x07 : Ex2 ca lu H (upd H7 fl (.lst (vs ++ [v]))) := fun b o n1 n2 ho => by
        rw [upd_ne (ne_of_none ho hf0)]
        exact x7 b o n1 n2 ((e5.trans e6) b o (x23 b o n1 n2 ho))
      have m7 : ∀ {l : Addr} {o : HO}, H7 l = some o → l ≠ fl → (upd H7 fl (.lst (vs ++ [v]))) l = some o := fun h hne => by
        rw [upd_ne hne]
        exact h
      have hC8 : BC (upd H7 fl (.lst (vs ++ [v]))) ca lu ln3 ls3 ld lg kd (left - t - 1 - g) (B + t + g + 1) := by
        have hf6 := (e5.trans e6) _ _ hf4
        have hn3 : ln3 ≠ fl := by
          rcases hln3 with z | z
          · rw [z]; exact hnf2
          · exact (ne_of_none hf6 z).symm
        have hs3 : ls3 ≠ fl := by
          rcases hls3 with z | z
          · rw [z]; exact hsf2
          · exact (ne_of_none hf6 z).symm
        exact hC7.mutL hf7 hfu hn3 hs3 hdf hgf
      refine ⟨_, t + 1 + g, ln3, ls3, vs ++ [v], ds ++ [dR], rfl, x07, ?_, upd_same, (TdAll.tx tx _ _ hvs7).snoc (Td.tx tx _ _ hv7), ?_, ?_, ?_, by omega, ?_⟩
      · have e1 : left - ((t + 1 + g : Nat) : Int) = left - t - 1 - g := by omega
        have e2 : B + (t + 1 + g) = B + t + g + 1 := by omega
        rw [e1, e2]
        exact hC8
      · have := rawRows_snoc hraw hrow
        rw [show 3 * (t + 1 + g) = 3 * t + 3 * (g + 1) by omega]
        exact this
      · rcases hln3 with z | z
        · rw [z]; exact hnf2
        · exact (ne_of_none ((e5.trans e6) _ _ hf4) z).symm
      · rcases hls3 with z | z
        · rw [z]; exact hsf2
        · exact (ne_of_none ((e5.trans e6) _ _ hf4) z).symm
      · have h := phi_step (l := left - t) (r := m - i) (g := (g : Int)) hlt4 (by omega) (by omega) hg
        have e1 : left - ((t + 1 + g : Nat) : Int) = left - t - 1 - g := by omega
        have e2 : m - ((i + 1 : Nat) : Int) = m - i - 1 := by omega
        rw [e1, e2]
        omega
    · rintro σ' H2 ⟨y7, t, ln2, ls2, vs, ds, rfl, x2, hC2, hf2, hvs2, hraw, hnf2, hsf2, hit, hphi⟩
      have ht := phi_tri (left - t) (m - m.toNat)
      have ht2 := (tri_pos (left - t)).1
      refine q_two (ca := ca) (kvs := cb ln2 kd (left - t) lu ld ls2 lg) (y := .ref ln) (z := .ref ls) (fun _ _ => ev_var rfl) (fun _ _ => ev_var rfl) (fun _ _ => ev_var rfl) hC2.d (by show 7 ≤ 1000; decide) fun H3 e3 => ?_
      rw [cb_two]
      have hC3 := hC2.go e3
      have x3 : Ex2 ca lu H3 (upd H3 ca (.dK (cb ln kd (left - t) lu ld ls lg))) := hC3.mut (Ex2.of (Ex.refl H3))
      have x13 : Ex2 ca lu H (upd H3 ca (.dK (cb ln kd (left - t) lu ld ls lg))) := x2.trans ((Ex2.of e3).trans x3)
      obtain ⟨us3, hus3, hus3l⟩ := hC3.u
      have hC4 : BC (upd H3 ca (.dK (cb ln kd (left - t) lu ld ls lg))) ca lu ln ls ld lg kd (left - t) (B + t) := hC3.set x3 upd_same ⟨us3, by rw [upd_ne hC3.cu.symm]; exact hus3, hus3l⟩ ((hC.at x13 hC.n hC.nu).up (Nat.le_add_right _ _)) ((hC.at x13 hC.s hC.su).up (Nat.le_add_right _ _)) hC.nu hC.su hC3.l4
      have hf4 : (upd H3 ca (.dK (cb ln kd (left - t) lu ld ls lg))) fl = some (.lst vs) := by rw [upd_ne hfc]; exact e3 _ _ hf2
      have hvs4 : TdAll (upd H3 ca (.dK (cb ln kd (left - t) lu ld ls lg))) vs ds := TdAll.tx ((Tx.of e3).trans (hC3.tx x3)) _ _ hvs2
      refine s_retT (d := .none) (v := .non) (ev_var rfl) hf4 hvs4 fun v H5 e5 hv => q v H5 ds t (by omega) (x13.trans (Ex2.of e5)) (hC4.go e5) hv hraw
end
end Wt

set_option Elab.async false
set_option linter.all false
set_option maxRecDepth 100000
set_option maxHeartbeats 4000000
namespace Wt
open PySem PySem.Spec PyProof.Rows L2 SX Evl
open C8 (Def Cal cal0 fnScope_by fnScope)
/-! _law_one_row. -/
theorem cnt32 : cntE 3 2 = 53 := by decide
theorem lits_o : Str.ofString "let" = S oLet ∧ Str.ofString "set" = S oSet ∧ Str.ofString "while" = S oWhile ∧ Str.ofString "if" = S oIf ∧ Str.ofString "give" = S oGive ∧ Str.ofString "do" = S oDo ∧ Str.ofString "say" = S oSay := by
  refine ⟨?_, ?_, ?_, ?_, ?_, ?_, ?_⟩ <;> decide +kernel
theorem setOk_shp {ds : List PyData} (h : ∀ d ∈ ds, SetOk d) : ShpA 20 ds := shpA_all fun x hx => by
  obtain ⟨k, n, rfl, hk, gn⟩ := h x hx
  have hkl : k.all (fun c => decide (c < 128)) = true := by rcases hk with rfl | rfl <;> decide
  exact (shp_tup (shpA_cons (shp_str hkl) (shpA_cons (shp_str (good_low gn)) shpA_nil)) (by show 2 ≤ 40000; decide)).up (by decide)
theorem rawAll_of0 : ∀ es : List PyData, (∀ d ∈ es, RawD (0 + 1) (cntE 3 0) (2 * 0 + 1) d) → RawAll 2 (6 * es.length) 1 es
  | [], _ => .nil
  | x :: es, hx => by
    have r : RawD 2 5 1 x := by
      have := hx x (List.mem_cons_self ..)
      cases this with
      | num l hc hb => exact .num l hc hb
      | tru hc hb => exact .tru hc hb
      | name gf gn hc hb => exact .name gf gn hc hb
      | call gf gn a hc hb => omega
      | neg r => cases r
      | not r => cases r
      | bin hs r => cases r
    exact .cons r (rawAll_of0 es fun y hy => hx y (List.mem_cons_of_mem _ hy)) (by rw [List.length_cons]; omega)
section
variable {K : PySem.W.Frag} {σ : L2.St} {H H' : Hp} {ta tb te tx tl t1 t2 t3 td ti : TE} {tr : TA} {t u : TT} {D : Ends} {tu tw tz : TS} {gs : TGs} {E : XK} {Q : VK}
theorem qn_par2 {i j : Nat} {L : List V → Prop} (h : EAN tr σ H L) (k : ∀ vs H1, L vs → Ex H H1 → ∃ v w, vs = [v, w] ∧ tz D ((σ.set i (some v)).set j (some w)) H1) : tSeq (tPar i j tr) tz D σ H := h H (Ex.refl H) _ fun vs H1 l e => k vs H1 l e
theorem a_cons {Q : List V → Hp → Prop} (h : te σ H fun v H1 => tr σ H1 fun vs H2 => Q (v :: vs) H2) : tCons te tr σ H Q := h
theorem q_asgTup {i : Nat} (h : tr σ H fun xs H1 => xs.length ≤ sizeLine ∧ ∀ p, H1 p = none → tz D (σ.set i (some (.ref p))) (upd H1 p (.tup xs))) : tSeq (tAsg (tTup tr) (gName i)) tz D σ H := h
theorem s_retTup (h : tr σ H fun xs H1 => xs.length ≤ sizeLine ∧ ∀ p, H1 p = none → D.rt (.ref p) (upd H1 p (.tup xs))) : tRet (tTup tr) D σ H := h
theorem q_asgG {g : TG} (h : te σ H fun v H1 => g v σ H1 fun σ2 H2 => tz D σ2 H2) : tSeq (tAsg te g) tz D σ H := h
theorem t_tup1 {Q : VK} (h : te σ H fun v H1 => ∀ p, H1 p = none → Q (.ref p) (upd H1 p (.tup [v]))) : tTup (tCons te tNil) σ H Q := by
  have key : (fun v H1 => tNil σ H1 fun vs H2 => (v :: vs).length ≤ sizeLine ∧ ∀ p, H2 p = none → Q (.ref p) (upd H2 p (.tup (v :: vs)))) = (fun v H1 => ∀ p, H1 p = none → Q (.ref p) (upd H1 p (.tup [v]))) := by
    funext v H1
    exact propext ⟨fun h => h.2, fun h => ⟨by show 1 ≤ sizeLine; decide, h⟩⟩
  show te σ H (fun v H1 => tNil σ H1 fun vs H2 => (v :: vs).length ≤ sizeLine ∧ ∀ p, H2 p = none → Q (.ref p) (upd H2 p (.tup (v :: vs))))
  rw [key]
  exact h
theorem s_retIf {b : Bool} (h : EvT t σ H b) (h1 : b = true → ∀ H1, Ex H H1 → ta σ H1 D.rt) (h2 : b = false → ∀ H1, Ex H H1 → tb σ H1 D.rt) : tRet (tIf t ta tb) D σ H := h H (Ex.refl H) _ fun H1 e => by
  cases b with
  | true => exact h1 rfl H1 e
  | false => exact h2 rfl H1 e
theorem etn_andT {a : Bool} {B : Bool → Prop} (h1 : EvT t σ H a) (h2 : a = true → EvTN u σ H B) : EvTN (tAnd t u) σ H (fun b => (a = false ∧ b = false) ∨ (a = true ∧ B b)) := fun H1 e Q q => h1 H1 e _ fun H2 e2 => by
  cases a with
  | true =>
    show u σ H2 Q
    exact h2 rfl H2 (e.trans e2) Q fun b H3 p e3 => q b H3 (.inr ⟨rfl, p⟩) (e2.trans e3)
  | false =>
    show Q false H2
    exact q false H2 (.inl ⟨rfl, rfl⟩) e2
theorem etn_eq {i : Int} {z : Int} (ha : EvN ta σ H (fun v => ∃ z : Int, v = .int z ∧ 0 ≤ z ∧ z < i)) (hb : Ev tb σ H (.int z)) : EvTN (tTest (tOp rEq ta tb)) σ H (fun _ => True) := etn_test (P := fun v => ∃ b, v = .bl b) (en_opV ha (fun _ _ => EvN.of hb) (by
  rintro x y ⟨z, rfl, _, _⟩ rfl
  exact ⟨_, ⟨_, rfl⟩, rv_eq rfl⟩)) fun v ⟨b, h⟩ => ⟨b, h, True.intro⟩
theorem qn_when {B : Bool → Prop} (h : EvTN t σ H B) (h1 : B true → ∀ H1, Ex H H1 → tu { D with nx := tz D } σ H1) (h2 : B false → ∀ H1, Ex H H1 → tz D σ H1) : tSeq (tIfS t tu tNext) tz D σ H := qn_if h h1 h2
theorem c_call {sp : Sp} (h : tr σ H fun vs H1 => sp (vs ++ []) H1 Q E) : tCall sp [] E tr σ H Q := h
/-- x, y = a, f(..) -/
theorem q_parRaw {i j : Nat} (h : ta σ H fun x H1 => tb σ H1 fun y H2 => tz D ((σ.set i (some x)).set j (some y)) H2) : tSeq (tPar i j (tCons ta (tCons tb tNil))) tz D σ H := by
  have key : (fun x H2 => tb σ H2 (fun y H4 => tz D ((σ.set i (some x)).set j (some y)) H4)) = (fun v H1 => (tCons tb tNil) σ H1 fun vs H2 => ∃ a b, v :: vs = [a, b] ∧ tz D ((σ.set i (some a)).set j (some b)) H2) := by
    funext x H2
    show _ = tb σ H2 (fun y H4 => ∃ a b, [x, y] = [a, b] ∧ tz D ((σ.set i (some a)).set j (some b)) H4)
    congr 1
    funext y H4
    refine propext ⟨fun h => ⟨x, y, rfl, h⟩, fun ⟨a, b, e, h⟩ => ?_⟩
    cases e
    exact h
  rw [key] at h
  exact h
/-- c[k1], c[k2] = xs, ys -/
theorem q_two2 {ca : Addr} {kvs : List (Key × V)} {k1 k2 : Str} {ds1 ds2 : List PyData} (h1 : EvDL t1 σ H ds1) (h2 : EvDL t2 σ H ds2) (ha : ∀ H', Ev ta σ H' (.ref ca)) (hd : H ca = some (.dK kvs)) (hl : kvs.length < 1000) (hl2 : ∀ v, (putK kvs (Sum.inr k1 : Key) v).length < 1000)
    (k : ∀ p1 p2 xs1 xs2 H1, H p1 = none → H p2 = none → ExB ca H H1 → H1 ca = some (.dK (putK (putK kvs (Sum.inr k1 : Key) (.ref p1)) (Sum.inr k2 : Key) (.ref p2))) → H1 p1 = some (.lst xs1) → TdAll H1 xs1 ds1 → H1 p2 = some (.lst xs2) → TdAll H1 xs2 ds2 → tz D σ H1) :
    tSeq (tAsg (tTup (tCons t1 (tCons t2 tNil))) (gTup K 2 (gCons (gSub ta (tC (.str k1)) rSetD) (gCons (gSub ta (tC (.str k2)) rSetD) gNil)))) tz D σ H :=
  h1 H (Ex.refl H) _ fun p1 H2 xs1 hp1 e2 hp1' hT1 => h2 H2 e2 _ fun p2 H3 xs2 hp2 e3 hp2' hT2 => ⟨by show 2 ≤ sizeLine; decide, fun c hc => by
    have e4 := Ex.new (o := HO.tup [V.ref p1, .ref p2]) hc
    refine ⟨c, [.ref p1, .ref p2], rfl, st_of upd_same, rfl, .ref p1, [.ref p2], rfl, ?_⟩
    have e24 := (e2.trans e3).trans e4
    have n1 : ca ≠ p1 := ne_of_none hd hp1
    have n2 : ca ≠ p2 := ne_of_none (e2 _ _ hd) hp2
    generalize upd H3 c (.tup [V.ref p1, .ref p2]) = H4 at e4 e24
    refine ha H4 H4 (Ex.refl _) _ fun H5 e5 => ev_c H5 (Ex.refl H5) _ fun H6 e6 => ?_
    have e26 := e24.trans (e5.trans e6)
    refine ⟨ca, _, rfl, DPut.k (k := (Sum.inr k1 : Key)) (e26 _ _ hd) (sz_lt (by omega)), .ref p2, [], rfl, ?_⟩
    refine ha _ _ (Ex.refl _) _ fun H8 e8 => ev_c H8 (Ex.refl H8) _ fun H9 e9 => ?_
    have e79 := e8.trans e9
    have x9 : ExB ca H H9 := fun b o hb ho => e79 b o (by rw [upd_ne hb]; exact e26 b o ho)
    refine ⟨ca, _, rfl, DPut.k (k := (Sum.inr k2 : Key)) (e79 _ _ upd_same) (sz_lt (by have := hl2 (.ref p1); omega)), ?_⟩
    have e36 := (e4.trans e5).trans e6
    have tx9 : Tx H3 H9 := fun x us hx => e79 x _ (by rw [upd_ne (ne_of hx ((e2.trans e3) _ _ hd) (by intro z; cases z))]; exact e36 x _ hx)
    have txU : Tx H9 (upd H9 ca (.dK (putK (putK kvs (Sum.inr k1 : Key) (.ref p1)) (Sum.inr k2 : Key) (.ref p2)))) := Tx.dK (e79 _ _ upd_same)
    refine ⟨rfl, k p1 p2 xs1 xs2 _ hp1 (fresh_back e2 hp2) (fun b o hb ho => by rw [upd_ne hb]; exact x9 b o hb ho) upd_same ?_ (TdAll.tx (((Tx.of e3).trans tx9).trans txU) _ _ hT1) ?_ (TdAll.tx (tx9.trans txU) _ _ hT2)⟩
    · rw [upd_ne n1.symm]
      exact e79 _ _ (by rw [upd_ne n1.symm]; exact e36 _ _ (e3 _ _ hp1'))
    · rw [upd_ne n2.symm]
      exact e79 _ _ (by rw [upd_ne n2.symm]; exact e36 _ _ hp2')⟩
end
section
variable {P : Program} {w : World} {K : PySem.W.Frag} {mg : Str → Option Value} {base : Heap}
abbrev s__law_one_row : Stmt := topS 21
theorem sc__law_one_row : FnScope ["_law_d", "_law_c", "_law_deep", "_law_way", "_law_kind", "_law_row", "_law_n", "_law_test", "_law_rows_here", "_law_found", "_law_one", "_law_part"] ["_law_d", "_law_c", "_law_deep"] (fnScope s__law_one_row) := fnScope_by (by decide +kernel)
theorem ok_one (T : ModsL K mg) {k N : Nat} (hk : 5 ≤ k) (c__law_next : Cal P w K mg base 1 "_law_next" (spNext K) []) (c__law_pick : Cal P w K mg base 2 "_law_pick" (spPick K) []) (c__law_word : Cal P w K mg base 2 "_law_word" (spWordU K) []) (c__law_e : Cal P w K mg base 5 "_law_e" (spEd K 3 3) []) (c__law_rows : Cal P w K mg base k "_law_rows" (spRowsG K N) [])
    {f : Addr} {fd : FuncData} (F : Def K mg "_law_one_row" s__law_one_row f fd) (b : Binds K fd ["_law_d", "_law_c", "_law_deep"] []) : Cal P w K mg base (k + 1) "_law_one_row" (spOne K (N + 1)) [] := by
  refine cal0 F b .nil sc__law_one_row (fun vs H Q E h => ?_) (fun cdv A outer s H vs Q E hr h => ?_)
  · obtain ⟨_, _, _, _, _, _, _, _, _, _, _, _, _, rfl, _⟩ := h
    rfl
  · obtain ⟨d, a, ca, lu, ln, ls, ld, lg, ns, kd, left, B, n, rfl, hn, hD, hC, hB, hlB, q⟩ := h
    have m_tuple := T.m_tuple
    have hu := hu_of hr
    have hu64 := hr.units
    obtain ⟨_, z1, z2, z3, z4, z5, z6, z7⟩ := lits_e
    obtain ⟨o1, o2, o3, o4, o5, o6, o7⟩ := lits_o
    have htri := tri_pos left
    refine ⟨_, (pss_cons (ps_par (i := 3) (j := 4) rfl sc__law_one_row.nd rfl rfl (by decide) (by rfl) (by rfl) (pa_cons (C8.pe_c c__law_next hr (by first | decide | exact Nat.le_refl _ | omega) (by rfl) (pa_cons (pv 0) (pa_cons pe_int pa_nil))) (pa_cons (C8.pe_c c__law_pick hr (by first | decide | exact Nat.le_refl _ | omega) (by rfl) (pa_cons (pv 0) (pa_cons (pe_lst (pa_cons pe_str (pa_cons pe_str (pa_cons pe_str pa_nil)))) pa_nil))) pa_nil)) (by rfl))
      (pss_cons (ps_if (pt_cmpR op_lt (pv 3) pe_int (nomark _)) (pss_cons (ps_set (i := 5) sc__law_one_row.nd rfl (.inl rfl) (pe_tup (pa_cons pe_str (pa_cons pe_non (pa_cons (C8.pe_c c__law_word hr (by first | decide | exact Nat.le_refl _ | omega) (by rfl) (pa_cons (pv 0) (pa_cons (pe_dget hu (pv 1) pe_str (fun _ _ => rfl)) pa_nil))) (pa_cons (C8.pe_c c__law_e hr (by first | decide | exact Nat.le_refl _ | omega) (by rfl) (pa_cons (pv 0) (pa_cons (pv 4) (pa_cons (pv 1) (pa_cons pe_int pa_nil))))) pa_nil))))))
      (pss_cons (ps_asg (pe_tup (pa_cons (pe_op op_cat (pe_dget hu (pv 1) pe_str (fun _ _ => rfl)) (pe_lst (pa_cons (pe_tup (pa_cons (pv 4) (pa_cons pe_str (pa_cons (pe_ix ix_tup (pv 5) pe_int (fun _ _ => rfl)) pa_nil)))) pa_nil))) (pa_cons (pe_op op_cat (pe_dget hu (pv 1) pe_str (fun _ _ => rfl)) (pe_lst (pa_cons (pe_tup (pa_cons (pv 4) (pa_cons (pe_ix ix_tup (pv 5) pe_int (fun _ _ => rfl)) pa_nil))) pa_nil))) pa_nil))) (pg_tup rfl (pgs_cons (pg_sub (pv 1) pe_str (set_dict hu)) (pgs_cons (pg_sub (pv 1) pe_str (set_dict hu)) pgs_nil))))
      (pss_one (ps_ret (pv 5))))) pss_nil)
      (pss_cons (ps_if (PW.pt (pw_and (pt_cmpR op_lt (pv 3) pe_int (nomark _)) (pw_and1 (pt_cmpR (op_neD hu64) (pe_dget hu (pv 1) pe_str (fun _ _ => rfl)) (pe_lst pa_nil) (nomark _))))) (pss_cons (ps_asg (C8.pe_c c__law_pick hr (by first | decide | exact Nat.le_refl _ | omega) (by rfl) (pa_cons (pv 0) (pa_cons (pe_dget hu (pv 1) pe_str (fun _ _ => rfl)) pa_nil))) (pg_tup rfl (pgs_cons (pg_name (i := 4) sc__law_one_row.nd rfl (.inl rfl)) (pgs_cons (pg_name (i := 6) sc__law_one_row.nd rfl (.inl rfl)) pgs_nil))))
      (pss_one (ps_ret (pe_tup (pa_cons pe_str (pa_cons pe_non (pa_cons (pv 6) (pa_cons (C8.pe_c c__law_e hr (by first | decide | exact Nat.le_refl _ | omega) (by rfl) (pa_cons (pv 0) (pa_cons (pv 4) (pa_cons (pv 1) (pa_cons pe_int pa_nil))))) pa_nil)))))))) pss_nil)
      (pss_cons (ps_if (PW.pt (pw_and (pt_cmpR op_lt (pv 3) pe_int (nomark _)) (pw_and1 (pt_cmpR op_gt (pv 2) pe_int (nomark _))))) (pss_cons (ps_par (i := 7) (j := 8) rfl sc__law_one_row.nd rfl rfl (by decide) (by rfl) (by rfl) (pa_cons (C8.pe_c c__law_e hr (by first | decide | exact Nat.le_refl _ | omega) (by rfl) (pa_cons (pv 0) (pa_cons pe_str (pa_cons (pv 1) (pa_cons pe_int pa_nil))))) (pa_cons (C8.pe_c c__law_rows hr (by first | decide | exact Nat.le_refl _ | omega) (by rfl) (pa_cons (pv 0) (pa_cons (pv 1) (pa_cons (pe_op op_sub (pv 2) pe_int) (pa_cons (pe_op op_add pe_int (C8.pe_c c__law_next hr (by first | decide | exact Nat.le_refl _ | omega) (by rfl) (pa_cons (pv 0) (pa_cons pe_int pa_nil)))) pa_nil))))) pa_nil)) (by rfl))
      (pss_cons (ps_set (i := 9) sc__law_one_row.nd rfl (.inl rfl) (pe_tup (pa_cons pe_str (pa_cons pe_non (pa_cons (pv 7) (pa_cons (pv 8) pa_nil))))))
      (pss_one (ps_ret (pe_ifExp (pt_cmpR op_eq (pv 3) pe_int (nomark _)) (pv 9) (pe_op op_catA (pe_op op_catA (pe_tup (pa_cons pe_str pa_nil)) (pe_slice sl_tupA (pv 9) (po_some pe_int) po_none)) (pe_tup (pa_cons (C8.pe_c c__law_rows hr (by first | decide | exact Nat.le_refl _ | omega) (by rfl) (pa_cons (pv 0) (pa_cons (pv 1) (pa_cons (pe_op op_sub (pv 2) pe_int) (pa_cons (C8.pe_c c__law_next hr (by first | decide | exact Nat.le_refl _ | omega) (by rfl) (pa_cons (pv 0) (pa_cons pe_int pa_nil))) pa_nil))))) pa_nil)))))))) pss_nil)
      (pss_cons (ps_if (PW.pt (pw_and (pt_cmpR op_eq (pv 3) pe_int (nomark _)) (pw_and1 (pt_cmpR op_eq (C8.pe_c c__law_next hr (by first | decide | exact Nat.le_refl _ | omega) (by rfl) (pa_cons (pv 0) (pa_cons pe_int pa_nil))) pe_int (nomark _))))) (pss_one (ps_ret (pe_tup (pa_cons pe_str (pa_cons pe_non (pa_cons (pe_ifExp (pt_cmpR op_eq (pe_dget hu (pv 1) pe_str (fun _ _ => rfl)) pe_str (nomark _)) pe_non (C8.pe_c c__law_e hr (by first | decide | exact Nat.le_refl _ | omega) (by rfl) (pa_cons (pv 0) (pa_cons (pe_dget hu (pv 1) pe_str (fun _ _ => rfl)) (pa_cons (pv 1) (pa_cons pe_int pa_nil)))))) pa_nil)))))) pss_nil)
      (pss_cons (ps_if (PW.pt (pw_and (pt_cmpR op_eq (pv 3) pe_int (nomark _)) (pw_and1 (pt_cmpR (op_neD hu64) (pe_dget hu (pv 1) pe_str (fun _ _ => rfl)) (pe_lst pa_nil) (nomark _))))) (pss_cons (ps_set (i := 10) sc__law_one_row.nd rfl (.inl rfl) (C8.pe_c c__law_pick hr (by first | decide | exact Nat.le_refl _ | omega) (by rfl) (pa_cons (pv 0) (pa_cons (pe_dget hu (pv 1) pe_str (fun _ _ => rfl)) pa_nil))))
      (pss_one (ps_ret (pe_tup (pa_cons pe_str (pa_cons pe_non (pa_cons (pe_tup (pa_cons pe_str (pa_cons pe_non (pa_cons (pe_ix ix_tup (pv 10) pe_int (fun _ _ => rfl)) (pa_cons (pe_ix ix_tup (pv 10) pe_int (fun _ _ => rfl)) (pa_cons (pe_callTy call_tuple_of (by rfl) m_tuple Wt.bt_tuple (pa_cons (pe_lc (own := [("_law_part", 11)]) (g := (gName 11)) (tt := tYes) rfl sc__law_one_row.nd (pi_tup (pe_ix ix_tup (pv 10) pe_int (fun _ _ => rfl))) (blkOk_by (N := ["_law_d", "_law_c", "_law_deep", "_law_way", "_law_kind", "_law_row", "_law_n", "_law_test", "_law_rows_here", "_law_found", "_law_one", "_law_part"]) (sc := C8.fnScope s__law_one_row) (by decide +kernel)) (fun _ _ _ _ _ => pg_name (i := 11) sc__law_one_row.nd rfl (Or.inl rfl)) (fun _ _ _ _ _ => pts_nil) (fun _ _ _ _ _ => (C8.pe_c c__law_e hr (by first | decide | exact Nat.le_refl _ | omega) (by rfl) (pa_cons (pv 0) (pa_cons (pv 11) (pa_cons (pv 1) (pa_cons pe_int pa_nil))))))) pa_nil)) pa_nil)))))) pa_nil))))))) pss_nil)
      (pss_one (ps_ret (pe_tup (pa_cons pe_str (pa_cons pe_non (pa_cons (C8.pe_c c__law_e hr (by first | decide | exact Nat.le_refl _ | omega) (by rfl) (pa_cons (pv 0) (pa_cons (pv 4) (pa_cons (pv 1) (pa_cons pe_int pa_nil))))) pa_nil)))))))))))), ?_⟩
    refine qn_par2 (ean_cons (en_next (many := 14) hD (ev_var rfl) ev_c) (ean_cons (en_pickLs (Pt := (· = [kNum, kNum, oYes])) hD (ev_var rfl) (els_new (ts := [kNum, kNum, oYes]) (elt_lst (eat_cons (es_cl z2) (eat_cons (es_cl z2) (eat_cons (es_cl z1) eat_nil))) (by show 3 ≤ 100000; decide)) rfl) fun ts h => by rw [h]; exact ⟨by decide, by decide⟩) ean_nil)) fun vs H1 hvs e1 => ?_
    obtain ⟨_, _, rfl, ⟨way, rfl, w0, w1⟩, _, _, rfl, ⟨_, kk, rfl, hkk0, rfl⟩, rfl⟩ := hvs
    have hkk : kk = kNum ∨ kk = oYes := by
      simp only [List.mem_cons, List.not_mem_nil, or_false] at hkk0
      rcases hkk0 with h | h | h
      · exact .inl h
      · exact .inl h
      · exact .inr h
    refine ⟨_, _, rfl, ?_⟩
    have hD1 := hD.ex e1
    have hC1 := hC.go e1
    have hB9 : B ≤ 900 := by omega
    -- an E
    have evE : ∀ {σ : L2.St} {H' : Hp} {B' : Nat} {ln' ls' : Addr} {l' : Int} {tk : TE} {k2 : List Nat}, σ[0]? = some (some (.ref d)) → σ[1]? = some (some (.ref ca)) → Dc K H' d a ns → BC H' ca lu ln' ls' ld lg kd l' B' → B' ≤ 900 → Ev tk σ H' (.str (S k2)) → (k2 = kNum ∨ k2 = oYes) →
        EvR (tCall (spEd K 3 3) [] C8.E0 (tCons (tVar 0) (tCons tk (tCons (tVar 1) (tCons (tC (.int 2)) tNil))))) σ H' (RawD 3 53 5) := fun s0 s1 hD' hC' hB' htk hk2 => er_e (pm := 3) (N := 3) (n := 2) (ea_cons (ev_var s0) (ea_cons htk (ea_cons (ev_var s1) (ea_cons ev_c ea_nil)))) (by decide) hk2 hD' (hC'.ctx hB')
    -- let
    refine q_when (et_test (ev_op (ev_var rfl) ev_c rv_I0)) (fun hb H2 e2 => ?_) (fun hb H2 e2 => ?_)
    · have hC2 := hC1.go e2
      have hD2 := hD1.ex e2
      refine q_asgTup (a_cons ?_)
      refine es_cl o1 H2 (Ex.refl H2) _ fun H3 e3 => a_cons ?_
      refine ev_c H3 (Ex.refl H3) _ fun H4 e4 => a_cons (c_call ?_)
      have hC4 := hC2.go (e3.trans e4)
      have hD4 := hD2.ex (e3.trans e4)
      obtain ⟨us, hu4, hul⟩ := hC4.u
      refine (show EvA (tCons (tVar 0) (tCons (tDGet (tVar 1) (tC (.str (Str.ofString "used")))) tNil)) _ H4 [.ref d, .ref lu] from ea_cons (ev_var rfl) (ea_cons (ev_dget (ev_var rfl) ev_c hC4.d cb_u) ea_nil)) H4 (Ex.refl H4) _ fun H5 e5 => ?_
      have hC5 := hC4.go e5
      refine ⟨d, a, lu, ns, us, rfl, hD4.ex e5, e5 _ _ hu4, by omega, fun w H6 gw _ x6 hD6 hu6 => ?_⟩
      have x56 : Ex2 ca lu H5 H6 := fun b o _ h2 ho => x6 b o h2 ho
      have hC6 : BC H6 ca lu ln ls ld lg kd left (B + 1) := hC5.set x56 (x6 _ _ hC5.cu hC5.d) ⟨_, hu6, by rw [List.length_append, List.length_singleton]; omega⟩ ((hC5.at x56 hC5.n hC5.nu).up (Nat.le_succ B)) ((hC5.at x56 hC5.s hC5.su).up (Nat.le_succ B)) hC5.nu hC5.su hC5.l4
      refine a_cons ?_
      refine (evE rfl rfl hD6 hC6 (by omega) (ev_var rfl) hkk) H6 (Ex.refl H6) _ fun v H7 dE hdE e7 hv => ?_
      refine ⟨by show 4 ≤ sizeLine; decide, fun p hp => ?_⟩
      have e8 := Ex.new (o := HO.tup [.str (S oLet), .non, .str (S w), v]) hp
      have hrow : Td (upd H7 p (.tup [.str (S oLet), .non, .str (S w), v])) (.ref p) (.tuple [.str (S oLet), .none, .str (S w), dE]) := .tup upd_same (.cons (.str _) (.cons .non (.cons (.str _) (.cons (Td.tx (Tx.of e8) _ _ hv) .nil))))
      have hp8 : (upd H7 p (.tup [.str (S oLet), .non, .str (S w), v])) p = some (.tup [.str (S oLet), .non, .str (S w), v]) := upd_same
      have hC8 := (hC6.go e7).go e8
      have hnB := ((hC5.at x56 hC5.n hC5.nu).ex e7).ex e8
      have hsB := ((hC5.at x56 hC5.s hC5.su).ex e7).ex e8
      have x18 : Ex2 ca lu H (upd H7 p (.tup [.str (S oLet), .non, .str (S w), v])) := (Ex2.of (e1.trans (e2.trans ((e3.trans e4).trans e5)))).trans (x56.trans (Ex2.of (e7.trans e8)))
      generalize upd H7 p (.tup [.str (S oLet), .non, .str (S w), v]) = H8 at e8 hrow hp8 hC8 x18 hnB hsB
      obtain ⟨nv, nds, hn8, hnT, hnOk, hnl⟩ := hnB
      obtain ⟨sv, sds, hs8, hsT, hsOk, hsl⟩ := hsB
      have ix2 : Ev (tOp (rIxT K) (tVar 5) (tC (.int 2))) [some (V.ref d), some (.ref ca), some (.int (n : Int)), some (.int way), some (.str (S kk)), some (.ref p), none, none, none, none, none, none] H8 (.str (S w)) := ev_op (ev_var rfl) ev_c (rv_ixT (st_of hp8) (atI_nat (j := 2) rfl))
      refine q_two2 (ca := ca) (kvs := cb ln kd left lu ld ls lg) (k1 := Str.ofString "names") (k2 := Str.ofString "sets") (ds1 := nds ++ [.tuple [.str (S kk), .str (S []), .str (S w)]]) (ds2 := sds ++ [.tuple [.str (S kk), .str (S w)]])
        (edl_cat (ev_dget (ev_var rfl) ev_c hC8.d cb_n) hn8 hnT (edl_lst (ead_cons (ed_tup (ead_cons (ed_str (ev_var rfl)) (ead_cons (ed_str (es_cl lit0)) (ead_cons (ed_str ix2) ead_nil))) (by show 3 ≤ 100000; decide)) ead_nil) (by show 1 ≤ 100000; decide)) (by show nds.length + 1 ≤ 100000; omega))
        (edl_cat (ev_dget (ev_var rfl) ev_c hC8.d cb_e) hs8 hsT (edl_lst (ead_cons (ed_tup (ead_cons (ed_str (ev_var rfl)) (ead_cons (ed_str ix2) ead_nil)) (by show 2 ≤ 100000; decide)) ead_nil) (by show 1 ≤ 100000; decide)) (by show sds.length + 1 ≤ 100000; omega))
        (fun _ => ev_var rfl) hC8.d (by show 7 < 1000; decide) (fun v => by show (putK (cb ln kd left lu ld ls lg) lkN v).length < 1000; exact Nat.lt_of_le_of_lt (length_putK _ _ _) (by show 8 < 1000; decide)) fun p1 p2 xs1 xs2 H9 hp1 hp2 x9 hd9 h91 hT91 h92 hT92 => ?_
      have eput : putK (putK (cb ln kd left lu ld ls lg) (Sum.inr (Str.ofString "names") : Key) (.ref p1)) (Sum.inr (Str.ofString "sets") : Key) (.ref p2) = cb p1 kd left lu ld p2 lg := by
        show putK (putK (cb ln kd left lu ld ls lg) lkN (.ref p1)) lkE (.ref p2) = _
        rw [cb_putN, cb_putE]
      rw [eput] at hd9
      obtain ⟨us8, hu8, hul8⟩ := hC8.u
      have x89 : Ex2 ca lu H8 H9 := fun b o h1 _ ho => x9 b o h1 ho
      have hu9 := x9 _ _ hC8.cu.symm hu8
      have np1 : p1 ≠ lu := (ne_of_none hu8 hp1).symm
      have np2 : p2 ≠ lu := (ne_of_none hu8 hp2).symm
      have gk : SetOk (.tuple [.str (S kk), .str (S w)]) := ⟨kk, w, rfl, hkk, gw⟩
      have gn : NameOk (.tuple [.str (S kk), .str (S []), .str (S w)]) := ⟨kk, [], w, rfl, .inl rfl, gw⟩
      have hC9 : BC H9 ca lu p1 p2 ld lg kd left (B + 1) := hC8.set x89 hd9 ⟨us8, hu9, hul8⟩ ⟨_, _, h91, hT91, (fun x hx => by
          rcases List.mem_append.mp hx with z | z
          · exact hnOk x z
          · rw [List.mem_singleton.mp z]; exact gn), by rw [List.length_append, List.length_singleton]; omega⟩ ⟨_, _, h92, hT92, (fun x hx => by
          rcases List.mem_append.mp hx with z | z
          · exact hsOk x z
          · rw [List.mem_singleton.mp z]; exact gk), by rw [List.length_append, List.length_singleton]; omega⟩ np1 np2 hC8.l4
      have e18 : ∀ b, H8 b = none → H b = none := fun b hb => by
        cases ho : H b with
        | none => rfl
        | some o =>
          exfalso
          by_cases h1 : b = ca
          · rw [h1, hC8.d] at hb; cases hb
          · by_cases h2 : b = lu
            · rw [h2, hu8] at hb; cases hb
            · rw [x18 b o h1 h2 ho] at hb; cases hb
      refine s_ret (ev_var rfl) fun H10 e10 => q (.ref p) H10 _ 0 p1 p2 (by omega) (.inr (e18 _ hp1)) (.inr (e18 _ hp2)) (x18.trans (x89.trans (Ex2.of e10))) ?_ (Td.tx ((hC8.tx x89).trans (Tx.of e10)) _ _ hrow) (.asg (.inl rfl) gw hdE (by omega))
      rw [show left - ((0 : Nat) : Int) = left by omega]
      exact hC9.go e10
    have hC2 := hC1.go e2
    have hD2 := hD1.ex e2
    have fin : ∀ {v : V} {H2 : Hp} {dR : PyData}, Ex H H2 → Td H2 v dR → RawRow (n + 1) (3 * (0 + 1)) dR → Q v H2 := fun {v H2 dR} e hv hr => q v H2 dR 0 ln ls (by omega) (.inl rfl) (.inl rfl) (Ex2.of e) (by
      rw [show left - ((0 : Nat) : Int) = left by omega]
      exact (hC.go e).up (by omega)) hv hr
    -- set
    obtain ⟨sv, sds, hs2, hsT, hsOk, hsl⟩ := hC2.s
    refine q_when (et_and (et_test (ev_op (ev_var rfl) ev_c rv_I0)) fun _ => et_neNil (ev_dget (ev_var rfl) ev_c hC2.d cb_e) hs2 hsT (setOk_shp hsOk) (by omega)) (fun hb3 H3 e3 => ?_) (fun hb3 H3 e3 => ?_)
    · have hne : sds ≠ [] := fun z => by
        rw [Bool.and_eq_true, z] at hb3
        exact absurd hb3.2 (by decide)
      have hC3 := hC2.go e3
      have hD3 := hD2.ex e3
      refine q_asgG ?_
      refine er_pick hD3 (ev_var rfl) (ev_dget (ev_var rfl) ev_c hC3.d cb_e) (e3 _ _ hs2) (TdAll.tx (Tx.of e3) _ _ hsT) hne (by omega) H3 (Ex.refl H3) _ fun v H4 dx hdx e4 hTx => ?_
      obtain ⟨k2, nm, rfl, hk2, gn⟩ := hsOk dx hdx
      refine g_pair hTx fun x y hx hy => ?_
      rw [td_S hx, td_S hy]
      refine s_retR (er_tup (ear_one (ed_S (es_cl o2)) (ear_one (ed_non ev_c) (ear_one (ed_S (ev_var rfl)) (ear_cons (evE rfl rfl (hD3.ex e4) (hC3.go e4) (by omega) (ev_var rfl) hk2) ear_nil)))) ?_) fun v2 H5 dR hdR e5 hv2 => ?_
      · rintro _ ⟨_, rfl, _, rfl, _, rfl, _, _, rfl, _, rfl⟩
        show 4 ≤ 100000
        decide
      · obtain ⟨_, ⟨_, rfl, _, rfl, _, rfl, dE, _, rfl, hdE, rfl⟩, rfl⟩ := hdR
        exact fin (e1.trans (e2.trans (e3.trans (e4.trans e5)))) hv2 (.asg (.inr rfl) gn hdE (by omega))
    have hC3 := hC2.go e3
    have hD3 := hD2.ex e3
    have e03 := e1.trans (e2.trans e3)
    -- while, if
    refine q_when (et_and (et_test (ev_op (ev_var rfl) ev_c rv_I0)) fun _ => et_test (ev_op (ev_var rfl) ev_c rv_I0)) (fun hb4 H4 e4 => ?_) (fun hb4 H4 e4 => ?_)
    · rw [Bool.and_eq_true] at hb4
      have hn0 : 0 < n := by
        have := of_decide_eq_true hb4.2
        omega
      obtain ⟨n', rfl⟩ : ∃ n', n = n' + 1 := ⟨n - 1, by omega⟩
      have deep : ∀ {σ : L2.St} {H' : Hp}, σ[2]? = some (some (.int ((n' + 1 : Nat) : Int))) → Ev (tOp (rI0 fun i j => .int (i - j)) (tVar 2) (tC (.int 1))) σ H' (.int (n' : Int)) := fun hs => ev_is (ev_op (ev_var hs) ev_c rv_I0) (congrArg V.int (by omega))
      have hC4 := hC3.go e4
      have hD4 := hD3.ex e4
      refine q_parRaw ?_
      refine evE rfl rfl hD4 hC4 (by omega) (es_cl z1) (.inr rfl) H4 (Ex.refl H4) _ fun vt H5 dT hdT e5 hvt => ?_
      have hC5 := hC4.go e5
      have hD5 := hD4.ex e5
      refine c_call ?_
      refine (ean_cons (EvN.of (ev_var rfl)) (ean_cons (EvN.of (ev_var rfl)) (ean_cons (EvN.of (deep rfl)) (ean_cons (P := fun v => ∃ z : Int, v = .int z ∧ 0 ≤ z ∧ z < 10) (en_opV (EvN.of ev_c) (fun _ _ => en_next (many := 4) hD5 (ev_var rfl) ev_c) ?_) ean_nil)))) H5 (Ex.refl H5) _ fun vs H6 hvs e6 => ?_
      · rintro x y rfl ⟨z, rfl, h0, h1⟩
        exact ⟨_, ⟨_, rfl, by omega, by omega⟩, rv_I0⟩
      obtain ⟨_, _, rfl, rfl, _, _, rfl, rfl, _, _, rfl, rfl, _, _, rfl, ⟨many, rfl, hm0, hm1⟩, rfl⟩ := hvs
      have hC6 := hC5.go e6
      have hD6 := hD5.ex e6
      refine ⟨d, a, ca, lu, ln, ls, ld, lg, ns, kd, left, many, B + 1, n', rfl, by omega, hD6, hC6.up (Nat.le_succ B), by omega, by omega, by omega, by omega, fun v7 H7 ds1 g1 hg1 x7 hC7 hv7 hraw1 => ?_⟩
      have hD7 := hC6.dc x7 hD6
      have hvt7 : Td H7 vt dT := Td.tx ((Tx.of e6).trans (hC6.tx x7)) _ _ hvt
      refine q_asgD (ed_tup (ead_cons (ed_S (es_cl o3)) (ead_cons (ed_non ev_c) (ead_cons (ed_of (ev_var rfl) hvt7) (ead_cons (ed_of (ev_var rfl) hv7) ead_nil)))) (by show 4 ≤ 100000; decide)) fun vf H8 e8 hvf => ?_
      have x08 : Ex2 ca lu H H8 := (Ex2.of (e03.trans (e4.trans (e5.trans e6)))).trans (x7.trans (Ex2.of e8))
      have hC8 := hC7.go e8
      have hD8 := hD7.ex e8
      refine s_retIf (et_test (ev_op (ev_var rfl) ev_c (rv_eq rfl))) (fun hb5 H9 e9 => ?_) (fun hb5 H9 e9 => ?_)
      · refine ev_var rfl H9 (Ex.refl H9) _ fun H10 e10 => ?_
        refine q vf H10 _ g1 ln ls hg1 (.inl rfl) (.inl rfl) (x08.trans (Ex2.of (e9.trans e10))) ?_ (Td.tx (Tx.of (e9.trans e10)) _ _ hvf) (.while_ hdT hraw1 (by omega))
        rw [show B + g1 + 1 = B + 1 + g1 by omega]
        exact hC8.go (e9.trans e10)
      · have hC9 := hC8.go e9
        have hD9 := hD8.ex e9
        refine er_catSl (k := 1) (R := (· = .tuple [.str (S oWhile), .none, dT, .tuple ds1])) (ead_cons (ed_S (es_cl o4)) ead_nil) (er_of (ed_of (ev_var rfl) (Td.tx (Tx.of e9) _ _ hvf))) (fun x hx => ⟨_, hx, by show 1 < 4; decide, by show 4 ≤ 100; decide⟩) (by decide) (List.cons_ne_nil _ _) (by show 1 ≤ 100; decide) H9 (Ex.refl H9) _ fun vh H10 dh hdh e10 hvh => ?_
        obtain ⟨es, hes, rfl⟩ := hdh
        cases hes
        refine t_tup1 ?_
        refine c_call ?_
        have hC10 := hC9.go e10
        have hD10 := hD9.ex e10
        refine (ean_cons (EvN.of (ev_var rfl)) (ean_cons (EvN.of (ev_var rfl)) (ean_cons (EvN.of (deep rfl)) (ean_cons (en_next (many := 3) hD10 (ev_var rfl) ev_c) ean_nil)))) H10 (Ex.refl H10) _ fun vs H11 hvs e11 => ?_
        obtain ⟨_, _, rfl, rfl, _, _, rfl, rfl, _, _, rfl, rfl, _, _, rfl, ⟨many2, rfl, hm20, hm21⟩, rfl⟩ := hvs
        have hC11 := hC10.go e11
        have hD11 := hD10.ex e11
        have htri2 := (tri_pos (left - g1)).1
        have htwo : (g1 : Int) + tri (left - g1) ≤ tri left := tri_two hC.l4 (by omega) htri2 hg1 (Int.le_refl _)
        refine ⟨d, a, ca, lu, ln, ls, ld, lg, ns, kd, left - g1, many2, B + 1 + g1, n', rfl, by omega, hD11, hC11, by omega, by omega, by omega, by omega, fun v12 H12 ds2 g2 hg2 x12 hC12 hv12 hraw2 => fun pt hpt => ?_⟩
        have et := Ex.new (o := HO.tup [v12]) hpt
        have hvh12 : Td (upd H12 pt (.tup [v12])) vh _ := Td.tx (((Tx.of e11).trans (hC11.tx x12)).trans (Tx.of et)) _ _ hvh
        have hlst : TdAll (upd H12 pt (.tup [v12])) [v12] [.tuple ds2] := .cons (Td.tx (Tx.of et) _ _ hv12) .nil
        cases hvh12 with
        | @tup pa xs _ hpa hxs =>
          have hxl := hxs.len
          refine ⟨pa, pt, xs, [v12], rfl, rfl, st_of hpa, st_of upd_same, sz_of (by rw [hxl]; show 4 + 1 ≤ 100000; decide), fun z => ?_, fun _ z => (by cases z), fun _ _ pc hpc => ?_⟩
          · rw [z] at hxl
            cases hxl
          have eu := Ex.new (o := HO.tup (xs ++ [v12])) hpc
          refine q (.ref pc) _ _ (g1 + g2) ln ls (by omega) (.inl rfl) (.inl rfl) (x08.trans ((Ex2.of (e9.trans (e10.trans e11))).trans (x12.trans (Ex2.of (et.trans eu))))) ?_ (.tup upd_same (TdAll.tx (Tx.of eu) _ _ (hxs.app hlst))) (.if_ hdT hraw1 hraw2 (by omega))
          rw [show B + (g1 + g2) + 1 = B + 1 + g1 + g2 by omega, show left - ((g1 + g2 : Nat) : Int) = left - g1 - g2 by omega]
          exact (hC12.go et).go eu
    have hC4 := hC3.go e4
    have hD4 := hD3.ex e4
    have e04 := e03.trans e4
    -- give
    refine qn_when (etn_andT (B := fun _ => True) (et_test (ev_op (ev_var rfl) ev_c (rv_eq rfl))) fun _ => etn_eq (en_next (many := 3) hD4 (ev_var rfl) ev_c) ev_c) (fun _ H5 e5 => ?_) (fun _ H5 e5 => ?_)
    · have hC5 := hC4.go e5
      have hD5 := hD4.ex e5
      refine s_retR (er_tup (ear_one (ed_S (es_cl o5)) (ear_one (ed_non ev_c) (ear_cons (R := fun d => d = .none ∨ RawD 3 53 5 d) (er_if (b := decide (kd = [])) (et_test (ev_eqS (ev_dget (ev_var rfl) ev_c hC5.d cb_k) (es_cl lit0))) (fun _ => (er_of (ed_non ev_c)).imp fun _ h => .inl h) (fun hz => ?_)) ear_nil))) ?_) fun v H6 dR hdR e6 hv => ?_
      · refine (evE rfl rfl hD5 hC5 (by omega) (ev_dget (ev_var rfl) ev_c hC5.d cb_k) ?_).imp fun _ h => .inr h
        rcases hC.k with z | z
        · exact absurd z (of_decide_eq_false hz)
        · exact z
      · rintro _ ⟨_, rfl, _, rfl, _, _, rfl, _, rfl⟩
        show 3 ≤ 100000
        decide
      · obtain ⟨_, ⟨_, rfl, _, rfl, dE, _, rfl, hdE, rfl⟩, rfl⟩ := hdR
        rcases hdE with rfl | hdE
        · exact fin (e04.trans (e5.trans e6)) hv (.give0 (by omega))
        · exact fin (e04.trans (e5.trans e6)) hv (.worth (.inl rfl) hdE (by omega))
    have hC5 := hC4.go e5
    have hD5 := hD4.ex e5
    have e05 := e04.trans e5
    -- do
    obtain ⟨dv, dds, hd5, hdT, hdOk, hdl⟩ := hC5.f
    refine q_when (et_and (et_test (ev_op (ev_var rfl) ev_c (rv_eq rfl))) fun _ => et_neNil (ev_dget (ev_var rfl) ev_c hC5.d cb_d) hd5 hdT (defK_shp hdOk) (by omega)) (fun hb6 H6 e6 => ?_) (fun hb6 H6 e6 => ?_)
    · have hne : dds ≠ [] := fun z => by
        rw [Bool.and_eq_true, z] at hb6
        exact absurd hb6.2 (by decide)
      have hC6 := hC5.go e6
      have hD6 := hD5.ex e6
      refine q_asgR (er_pick hD6 (ev_var rfl) (ev_dget (ev_var rfl) ev_c hC6.d cb_d) (e6 _ _ hd5) (TdAll.tx (Tx.of e6) _ _ hdT) hne (by omega)) fun v H7 x hx e7 hv => ?_
      obtain ⟨f0, n0, ps0, k0, rfl, gf, gn, hp1, hp2, _⟩ := hdOk x hx
      have hD7 := hD6.ex e7
      have hC7 := hC6.go e7
      cases hv with
      | @tup ap as _ g1 g2 =>
        cases g2 with
        | @cons v1 _ _ _ a1 g2 =>
          cases g2 with
          | @cons v2 _ _ _ a2 g2 =>
            cases g2 with
            | @cons v3 _ _ _ a3 g2 =>
              have ix : ∀ {i : Nat} {x : V} {xs : List V}, (v1 :: v2 :: v3 :: xs)[i]? = some x → ∀ {σ : L2.St} {H' : Hp}, H' ap = some (.tup (v1 :: v2 :: v3 :: xs)) → σ[10]? = some (some (.ref ap)) → Ev (tOp (rIxT K) (tVar 10) (tC (.int (i : Int)))) σ H' x := fun hi _ _ hap hs => ev_op (ev_var hs) ev_c (rv_ixT (st_of hap) (atI_nat hi))
              cases a3 with
              | @tup pp qs _ a4 a5 =>
                refine s_retR (er_tup (ear_one (ed_S (es_cl o6)) (ear_one (ed_non ev_c) (ear_cons (er_tup (ear_one (ed_S (es_cl z6)) (ear_one (ed_non ev_c) (ear_one (ed_of (ix (i := 0) rfl g1 rfl) a1) (ear_one (ed_of (ix (i := 1) rfl g1 rfl) a2) (ear_cons (er_tupleOf (erl_lcT (R := RawD (0 + 1) (cntE 3 0) (2 * 0 + 1)) (ix (i := 2) rfl g1 rfl) a4 a5 (by omega) (fun _ => rfl) fun x dx H8 e8 hdx hTx => ?_)) ear_nil))))) ?_) ear_nil))) ?_) fun v H8 dR hdR e8 hv => ?_
                · rcases hp2 dx hdx with rfl | rfl
                  · cases hTx
                    exact er_e (n := 0) (ea_cons (ev_var rfl) (ea_cons (ev_var rfl) (ea_cons (ev_var rfl) (ea_cons ev_c ea_nil)))) (by omega) (.inl rfl) (hD7.ex e8) ((hC7.go e8).ctx hB9)
                  · cases hTx
                    exact er_e (n := 0) (ea_cons (ev_var rfl) (ea_cons (ev_var rfl) (ea_cons (ev_var rfl) (ea_cons ev_c ea_nil)))) (by omega) (.inr rfl) (hD7.ex e8) ((hC7.go e8).ctx hB9)
                · rintro _ ⟨_, rfl, _, rfl, _, rfl, _, rfl, _, _, rfl, _, rfl⟩
                  show 5 ≤ 100000
                  decide
                · rintro _ ⟨_, rfl, _, rfl, _, _, rfl, _, rfl⟩
                  show 3 ≤ 100000
                  decide
                · obtain ⟨_, ⟨_, rfl, _, rfl, _, _, rfl, ⟨_, ⟨_, rfl, _, rfl, _, rfl, _, rfl, dl, _, rfl, ⟨es, ⟨hes1, hes2⟩, rfl⟩, rfl⟩, rfl⟩, rfl⟩, rfl⟩ := hdR
                  refine fin (e05.trans (e6.trans (e7.trans e8))) hv (.do_ (.call gf gn (rawAll_of0 es hes2) ?_ (by omega)) (by omega))
                  have h6 : 6 * es.length ≤ 6 * 3 := Nat.mul_le_mul_left _ (by omega)
                  omega
    -- say
    have hC6 := hC5.go e6
    have hD6 := hD5.ex e6
    refine s_retR (er_tup (ear_one (ed_S (es_cl o7)) (ear_one (ed_non ev_c) (ear_cons (evE rfl rfl hD6 hC6 (by omega) (ev_var rfl) hkk) ear_nil))) ?_) fun v H7 dR hdR e7 hv => ?_
    · rintro _ ⟨_, rfl, _, rfl, _, _, rfl, _, rfl⟩
      show 3 ≤ 100000
      decide
    · obtain ⟨_, ⟨_, rfl, _, rfl, dE, _, rfl, hdE, rfl⟩, rfl⟩ := hdR
      exact fin (e05.trans (e6.trans e7)) hv (.worth (.inr rfl) hdE (by omega))
end
end Wt

set_option Elab.async false
set_option linter.all false
set_option maxRecDepth 100000
set_option maxHeartbeats 4000000
/-! enumerate(tuple). -/
namespace Wt
open PySem PySem.Spec PyProof.Rows L2 SX Evl
set_option maxHeartbeats 4000000 in
theorem meets_enumerate_newT {v : Value} {o : Obj} {H : Heap → Prop} (B : Begins v o H) :
    Meets (Builtin.«enumerate.__new__» ⟨[.type "enumerate", v], []⟩) (fun _ R s => H s.heap ∧
      R (.ok (.ret (.ref (s.heap.push o).objs.size))) { s with heap := (s.heap.push o).push { cls := .type "enumerate", data := .fields #[.none, .bool false, .ref s.heap.objs.size, rawInt 0, .none, .none] } }) :=
  .of_wp fun prog w A R s h => by
    obtain ⟨hp, g, d, tk, os⟩ := s; obtain ⟨h1, h⟩ := h
    have hsub := sub_enumerate
    have q1 : ∀ {A' : Around} {E : Value → Shared → Prop} {Q : Value → Shared → Prop}, Q (.ref hp.objs.size) ⟨hp.push o, g, d, tk, os⟩ → wpAny (model prog w) A' (pyIter v) Q E ⟨hp, g, d, tk, os⟩ :=
      fun q => B.iter prog w _ _ ⟨hp, g, d, tk, os⟩ _ h1 q
    wp_walk using q1
    refine wpAny_stack_any fun st => wpAny_pure ?_
    split
    · rename_i c _ _ _ _ _
      cases (c == Value.type "enumerate")
      · wp_walk using q1
        exact ⟨_, rfl, h⟩
      · wp_walk using q1
        exact ⟨_, rfl, h⟩
    · wp_walk using q1
      exact ⟨_, rfl, h⟩
section
variable {prog : Program} {w : World} {A : Around} {E : Value → Shared → Prop} {s : Shared}
theorem enum_begins1 {v : Value} {o : Obj} {H : Heap → Prop} {Q : Value → Shared → Prop} (B : Begins v o H) (h1 : H s.heap)
    (h : ∀ h', IsEnum h' (s.heap.objs.size + 1) s.heap.objs.size 0 .none → h'.get? s.heap.objs.size = some o → h'.objs.size = s.heap.objs.size + 2 →
      (∀ b o, s.heap.get? b = some o → h'.get? b = some o) → Q (.ref (s.heap.objs.size + 1)) { s with heap := h' }) :
    wpAny (model prog w) A (call (.type "enumerate") [v]) Q E s := by
  refine callType_new F.called_enumerate (by decide) (F.typeCall_enumerate_1 _) (F.newCall_enumerate_1 _) (fun obj => F.args_object_init_2 obj _) F.entry_enumerate_new
    (meets_enumerate_newT B) ⟨h1, ?_⟩
  have hz : (s.heap.push o).objs.size = s.heap.objs.size + 1 := Heap.size_push ..
  show _ ∧ _
  rw [hz]
  have he : IsEnum ((s.heap.push o).push { cls := .type "enumerate", data := .fields #[.none, .bool false, .ref s.heap.objs.size, rawInt 0, .none, .none] }) (s.heap.objs.size + 1) s.heap.objs.size 0 .none := by
    have := Heap.get?_push_size (s.heap.push o) (o := { cls := .type "enumerate", data := .fields #[.none, .bool false, .ref s.heap.objs.size, rawInt 0, .none, .none] }) rfl
    rw [hz] at this; exact this
  refine ⟨⟨_, he, rfl⟩, h _ he (Heap.get?_push_of_some _ (Heap.get?_push_size _ B.free)) (by rw [Heap.size_push, hz]) fun b o x => Heap.get?_push_of_some _ (Heap.get?_push_of_some _ x)⟩
end
/-- the tuple at a, each item in a new pair behind its number -/
def Itet (K : PySem.W.Frag) (a : Addr) : It :=
  ⟨fun i H => ∃ (xs : List V) (x : V), SqT K H a xs ∧ xs[i]? = some x, fun i H v H' => ∃ T x, v = .ref T ∧ H T = none ∧ H' = upd H T (.tup [.int (i : Nat), x]) ∧ ∀ xs, SqT K H a xs → xs[i]? = some x, fun i H => ∃ xs : List V, SqT K H a xs ∧ xs.length ≤ i⟩
theorem turn_enumT {P : Program} {w : World} {K : PySem.W.Frag} {elts : List Expr} {kk : Nat} {tpos : Pos} (a e it : Addr) (hai : a ≠ it) (hae : a ≠ e) :
    Turn P w K (.Tuple elts kk tpos) (Itet K a) [e, it] e (fun i h => (∃ old, IsEnum h e it ((i : Nat) : Int) old) ∧ h.IsTupleIter it a i ∧ e ≠ it) where
  mem := List.mem_cons_self ..
  obj := by
    rintro i h ⟨⟨old, he⟩, ⟨o, ho, hc, hd⟩, _⟩ b hb
    rcases List.mem_cons.mp hb with rfl | hb
    · exact ⟨_, he, fun v q => nomatch q⟩
    · rw [List.mem_singleton.mp hb]
      exact ⟨o, ho, fun v q => by rw [hd] at q; cases q⟩
  keep := by
    rintro i h h2 ⟨⟨old, he⟩, hi, hne⟩ kp
    exact ⟨⟨old, kp e (List.mem_cons_self ..) _ he⟩, hi.at fun o q => kp it (List.mem_cons_of_mem _ (List.mem_singleton.mpr rfl)) o q, hne⟩
  item := by
    intro X hP hw hK hc i pins s σ H E I hf st hg
    subst hP hw hK
    obtain ⟨⟨old, he⟩, hit, hne⟩ := st
    obtain ⟨xs, x, hq, hx⟩ := hg
    obtain ⟨its, rv, p, hz⟩ := I.tuple hq
    obtain ⟨u, hu, ru⟩ := rv.get hx
    have hel : e < s.heap.objs.size := Heap.lt_size he
    have hil : it < s.heap.objs.size := by
      obtain ⟨_, q, _⟩ := hit
      exact Heap.lt_size q
    have hlt : i < its.toArray.size := by
      have := (List.getElem?_eq_some_iff.mp hu).1
      rw [List.size_toArray]
      exact this
    refine wpAny_pyNext_enum_itemC (Draws.tuple (prog := X.prog) (w := X.w) (A := X.A.in1) (show X.A.in1.handled = none from I.ok.hd hc) it a hai its.toArray) he ⟨hit, show s.heap.IsTuple a its.toArray from p⟩ hlt hne (fun m => ?_) fun y h2 tk hy ho st2 hT hsz hk => ?_
    · rcases List.mem_cons.mp m with z | z
      · exact hne z
      · exact hae (List.mem_singleton.mp z).symm
    have hyu : y = u := by
      have z : its[i]? = some y := by simpa using hy
      rw [hu] at z
      exact (Option.some.inj z).symm
    subst hyu
    refine ⟨_, rfl, wpAny_letOwnedTupleGo_enum (s := { s with heap := h2, toks := tk + 1 }) ho fun h3 he3 sb => ?_⟩
    have hT2 := (sb.2 s.heap.objs.size (Nat.ne_of_gt hel)).trans hT
    have new : ObjOk X.prog X.w (upd H s.heap.objs.size (.tup [.int (i : Nat), x])) h3 s.heap.objs.size (.tup [.int (i : Nat), x]) :=
      ⟨by show 2 ≤ sizeLine; decide, [.int (i : Nat) tk, y], .cons ⟨_, rfl⟩ (.cons ru .nil), ⟨_, hT2, rfl, _, rfl⟩⟩
    have I1 := I.turnedNew (h' := h3) (t' := tk + 1) (ch := [e, it]) (fun b ob hb q => by
      have n1 : b ≠ e := fun z => hb (z ▸ List.mem_cons_self ..)
      have n2 : b ≠ it := fun z => hb (z ▸ List.mem_cons_of_mem _ (List.mem_singleton.mpr rfl))
      exact (sb.2 b n1).trans (hk b ob n1 n2 q)) hf (Nat.le_refl _) new
    refine ⟨.ref s.heap.objs.size, _, I1, rfl, ⟨_, x, rfl, I.hok.fresh (Nat.le_refl _), rfl, fun ys hy2 => ?_⟩, ⟨⟨y, ?_⟩, ?_, hne⟩, fun b hb => ?_⟩
    · rw [I.tuple_inj hy2 hq]
      exact hx
    · have e1 : ((i + 1 : Nat) : Int) = (i : Int) + 1 := by omega
      rw [e1]
      exact he3
    · exact st2.1.at fun o q => (sb.2 it (Ne.symm hne)).trans q
    · have hb2 : b < s.heap.objs.size := by
        rcases List.mem_cons.mp hb with rfl | z
        · exact hel
        · rw [List.mem_singleton.mp z]
          exact hil
      rw [upd_ne (Nat.ne_of_lt hb2)]
      exact (hf b hb).1
  done := by
    intro X hP hw hK hc i pins s σ H E I hf st hg
    subst hP hw hK
    obtain ⟨⟨old, he⟩, hit, hne⟩ := st
    obtain ⟨xs, hq, hx⟩ := hg
    obtain ⟨its, rv, p, hz⟩ := I.tuple hq
    obtain ⟨f0, f1, f2, f3, f4, f5⟩ := hf it (List.mem_cons_of_mem _ (List.mem_singleton.mpr rfl))
    have hl := rv.length
    have hT : s.TypeIs (.ref e) "enumerate" := ⟨_, he, rfl⟩
    have hnone : its.toArray[i]? = none := by
      simp
      omega
    unfold pyNext
    refine wpAny_bind (wpAny_attempt (wpAny_callSpecial?_slot (name := Str.ofString "__next__") hT PySem.F.slot_enumerate_next
      (wpAny_call_entry PySem.F.slot_enumerate_next hT PySem.F.entry_enumerate_next ?_ (PySem.F.args_enumerate_next_1 _))))
    show wpAny _ _ (field (.ref e) 2 >>= _) _ _ _
    refine wpAny_bind (wpAny_field he rfl (x := .ref it) rfl (wpAny_bind (wpAny_nextOf_tuple_end (I.ok.hd hc) hit (show s.heap.IsTuple a its.toArray from p) hnone fun h2 x2 hE2 hx2 => ?_)))
    obtain ⟨o2, ho2, hc2⟩ := hx2
    exact wpAny_bind (wpAny_isInstance (T := "StopIteration") (b := true) ⟨o2, ho2, hc2⟩ isSubtype_stop
      (wpAny_pure ⟨rfl, I.turned (t' := s.toks) (fun b o hb q => hE2 b o hb q) f0 f1 f3 f4 f5⟩))
  self := by
    rintro A i s Q E ⟨⟨_, he⟩, _⟩ h
    exact wpAny_pyIter_enum he h
def iEnumT (K : PySem.W.Frag) (ta : TA) : TI := fun σ H R => ta σ H fun vs H1 => ∃ a xs, vs = [.ref a] ∧ SqT K H1 a xs ∧ R (Itet K a) H1
theorem pi_enumT {X : Cx} {e : Expr} {ta : TA} {p pos tpos : Pos} {elts : List Expr} {kk : Nat} (hg : Gl X "enumerate") (hm : X.mg "enumerate" = none) (ha : PA X [e] ta) (hs : starEach [e] X.env = [(false, eval e X.env)] := by rfl) :
    PI X (.Tuple elts kk tpos) (.Call (.Name "enumerate" p) [e] [] pos) (iEnumT X.K ta) := by
  refine ⟨fun pins s σ H R I h => ?_⟩
  refine Call_ (ld_blt I hg hm boot_enumerate (PyProof.Rows.callWith_type1 (thn (ha.run pos pins s σ H _ I h) fun us s1 ⟨vs, H1, I1, r1, q1⟩ => ?_) hs rfl))
  obtain ⟨a, xs, ex, hq, q⟩ := q1
  subst ex
  cases r1 with
  | cons r rr =>
    cases rr
    cases r
    obtain ⟨its, rv, p', hz⟩ := I1.tuple hq
    have p2 : s1.heap.IsTuple a its.toArray := p'
    refine enum_begins1 (begins_tuple a its.toArray) p2 fun h' he hit hsz hk => wpAny_pyIter_enum he ?_
    have I2 : Inv X pins σ H1 { s1 with heap := h' } := I1.kept (t' := s1.toks) hk
    have hal : a < s1.heap.objs.size := by
      obtain ⟨o, ho, _⟩ := p2
      exact Heap.lt_size ho
    refine ⟨s1.heap.objs.size + 1, [s1.heap.objs.size + 1, s1.heap.objs.size], _, _, H1, rfl, I2, turn_enumT a (s1.heap.objs.size + 1) s1.heap.objs.size (Nat.ne_of_lt hal) (Nat.ne_of_lt (Nat.lt_succ_of_lt hal)), ⟨⟨.none, he⟩, ⟨_, hit, rfl, rfl⟩, Nat.succ_ne_self _⟩, fun b hb => ?_, q⟩
    have e' : b = s1.heap.objs.size + 1 ∨ b = s1.heap.objs.size := by simpa using hb
    have hle : s1.heap.objs.size ≤ b := by
      rcases e' with z | z
      · rw [z]; exact Nat.le_add_right _ _
      · rw [z]; exact Nat.le_refl _
    exact I1.fpOk hle (I1.hok.fresh hle)
theorem walk_enumT {K : PySem.W.Frag} {a : Addr} {xs : List V} : Walk (Itet K a) xs.length (fun H => SqT K H a xs) (YPair (fun i => some (.int (i : Nat))) (fun i => xs[i]?)) := by
  refine ⟨fun i _ hi q => ⟨xs, xs[i], q, by simp [hi]⟩, fun _ q => ⟨xs, q, Nat.le_refl _⟩, ?_⟩
  rintro i H v H' hi q ⟨T, x, rfl, hT, rfl, h⟩
  exact ⟨T, _, x, rfl, hT, rfl, rfl, h xs q⟩
end Wt

set_option Elab.async false
set_option linter.all false
set_option maxRecDepth 100000
set_option maxHeartbeats 4000000
/-! Readings: a dict made and walked, enumerate(tuple), comprehensions of data. -/
namespace Wt
open PySem PySem.Spec PyProof.Rows L2 SX Evl
/-- a thing that is made while an expression is worked out, locked from then on -/
def tFrz (t : TE) : TE := fun σ H Q => t σ H fun x H1 => ∃ d u, x = .ref d ∧ H1 d = some u ∧ Mut (some u) ∧ ∀ od, Q x (upd H1 d (.frz od u))
theorem pe_frz {X : Cx} {e : Expr} {t : TE} (h : PE X e t) : PE X e (tFrz t) := by
  refine ⟨fun pins s σ H Q I hw => ?_⟩
  refine thn (h.run pins s σ _ _ I hw) fun v s1 ⟨x, H1, I1, r, q⟩ => ?_
  obtain ⟨d, u, rfl, hd, mu, q⟩ := q
  obtain ⟨od, I2⟩ := I1.lock hd mu
  exact ⟨_, _, I2, r, q od⟩
/-- a new list of data -/
def RetDL (ds : List PyData) (H : Hp) (Q : VK) : Prop := ∀ p H2 vs, H p = none → Ex H H2 → H2 p = some (.lst vs) → TdAll H2 vs ds → Q (.ref p) H2
section
variable {K : PySem.W.Frag} {σ : L2.St} {H H' : Hp} {ta tb te tl t0 t1 t2 tv : TE} {tr : TA} {D : Ends} {tz tu : TS} {E : XK} {R : PyData → Prop}
/-- t[j], t a tuple of data -/
theorem ev_ixTd {v : V} {ds : List PyData} {j : Nat} {d : PyData} (ha : Ev ta σ H v) (hv : Td H v (.tuple ds)) (hb : Ev tb σ H (.int (j : Int))) (hj : ds[j]? = some d) : ∃ x, Td H x d ∧ Ev (tOp (rIxT K) ta tb) σ H x := by
  cases hv with
  | @tup a xs _ h1 h2 =>
    obtain ⟨x, hx, hT⟩ := td_get h2 hj
    exact ⟨x, hT, ev_op ha hb (rv_ixT (st_of h1) (atI_nat hx))⟩
theorem ed_ixTd {v : V} {ds : List PyData} {j : Nat} {d : PyData} (ha : Ev ta σ H v) (hv : Td H v (.tuple ds)) (hb : Ev tb σ H (.int (j : Int))) (hj : ds[j]? = some d) : EvD (tOp (rIxT K) ta tb) σ H d := by
  obtain ⟨x, hT, h⟩ := ev_ixTd (K := K) ha hv hb hj
  exact ed_of h hT
theorem ev_ixTs {v : V} {ds : List PyData} {j : Nat} {x : Str} (ha : Ev ta σ H v) (hv : Td H v (.tuple ds)) (hb : Ev tb σ H (.int (j : Int))) (hj : ds[j]? = some (.str x)) : Ev (tOp (rIxT K) ta tb) σ H (.str x) := by
  obtain ⟨x, hT, h⟩ := ev_ixTd (K := K) ha hv hb hj
  cases hT
  exact h
theorem ev_ixTi {v : V} {ds : List PyData} {j : Nat} {x : Int} (ha : Ev ta σ H v) (hv : Td H v (.tuple ds)) (hb : Ev tb σ H (.int (j : Int))) (hj : ds[j]? = some (.int x)) : Ev (tOp (rIxT K) ta tb) σ H (.int x) := by
  obtain ⟨x, hT, h⟩ := ev_ixTd (K := K) ha hv hb hj
  cases hT
  exact h
/-- for i, x in enumerate(t) -/
theorem q_forEnumT {a : Addr} {xs : List V} {i j : Nat} (h : Ev tl σ H (.ref a)) (hx : SqT K H a xs) (Pv : Nat → L2.St → Hp → Prop) (h0 : ∀ H1, Ex H H1 → Pv 0 σ H1) (hl : ∀ k σ' H', k ≤ xs.length → Pv k σ' H' → SqT K H' a xs)
    (hs : ∀ k x σ' H' H1, xs[k]? = some x → Pv k σ' H' → Ex H' H1 → tu { D with nx := Pv (k + 1), ct := Pv (k + 1), bk := tz D } ((σ'.set i (some (.int (k : Int)))).set j (some x)) H1) (hd : ∀ σ' H', Pv xs.length σ' H' → tz D σ' H') :
    tSeq (tFor (iEnumT K (tCons tl tNil)) (gTup K 2 (gCons (gName i) (gCons (gName j) gNil))) tu) tz D σ H := h H (Ex.refl H) _ fun H1 e1 => ⟨a, xs, rfl, ex_t e1 hx, by
  refine for_it (D := { D with nx := tz D }) (walk_enumT (K := K) (a := a) (xs := xs)) Pv (h0 H1 e1) (fun k σ' H' hk p => hl k σ' H' hk p) ?_ hd
  rintro k v σ' H2 H3 hk p ⟨T, x, y, rfl, hT, rfl, hx1, hy⟩
  cases hx1
  exact ⟨T, [.int (k : Int), y], rfl, st_of upd_same, rfl, .int (k : Int), [y], rfl, y, [], rfl, rfl, hs k y σ' H2 _ hy p (Ex.new hT)⟩⟩
/-- [e for x in t] over a tuple of data -/
theorem edl_lcT {a : Addr} {xs : List V} {ds : List PyData} {j : Nat} {vs : List Nat} {f : PyData → PyData} (h : Ev tl σ H (.ref a)) (hx : H a = some (.tup xs)) (hT : TdAll H xs ds) (hz : ds.length ≤ 40000) (hw : ∀ x, wipe ((wipe σ vs).set j (some x)) vs = wipe σ vs)
    (he : ∀ (x : V) (d : PyData) H1, Ex H H1 → d ∈ ds → Td H1 x d → EvD te ((wipe σ vs).set j (some x)) H1 (f d)) : EvDL (tLc (iTup K tl) (gName j) tYes te vs) σ H (ds.map f) := fun H0 e Q q => h H0 e _ fun H1 e1 => ⟨a, rfl, ⟨xs, st_of ((e.trans e1) _ _ hx)⟩, fun Dl hD => by
  have hx1 := (e.trans e1) _ _ hx
  have hT1 := TdAll.tx (Tx.of (e.trans e1)) _ _ hT
  refine lc_it (walk_tup (K := K) (a := a) (xs := xs)) (fun i H' => ∃ acc, Ex H1 H' ∧ H' Dl = some (.lst acc) ∧ TdAll H' acc ((ds.take i).map f)) ⟨[], Ex.new hD, upd_same, .nil⟩ (fun _ H' _ ⟨_, e2, _⟩ => st_of (e2 _ _ hx1)) ?_ ?_
  · rintro i x H2 H3 hi ⟨acc, e2, hDl, hA⟩ ⟨rfl, hxi⟩
    refine ⟨hw x, ?_⟩
    have hlen := hT1.len
    have hi2 : i < ds.length := by omega
    have hd : ds[i]? = some ds[i] := List.getElem?_eq_getElem hi2
    obtain ⟨v, hv, hTv⟩ := td_get hT1 hd
    rw [hxi] at hv
    cases hv
    show te ((wipe σ vs).set j (some x)) H3 _
    refine he x ds[i] H3 ((e.trans e1).trans e2) (List.getElem_mem hi2) (Td.tx (Tx.of e2) _ _ hTv) H3 (Ex.refl _) _ fun y H4 e4 hy => ?_
    have hal := hA.len
    rw [List.length_map, List.length_take] at hal
    refine ⟨acc, e4 _ _ hDl, sz_lt (by omega), acc ++ [y], Ex.mut (e2.trans e4) hD, upd_same, ?_⟩
    have tx : Tx H4 (upd H4 Dl (.lst (acc ++ [y]))) := Tx.lst (e4 _ _ hDl)
    rw [List.take_succ, hd, List.map_append]
    exact (TdAll.tx ((Tx.of e4).trans tx) _ _ hA).snoc (Td.tx tx _ _ hy)
  · rintro H2 ⟨acc, e2, hDl, hA⟩
    rw [hT1.len, List.take_length] at hA
    exact q Dl H2 acc (fresh_back e1 hD) (e1.trans e2) hDl hA⟩
/-- [e for x in l] over a list of data -/
theorem edl_lcL {a : Addr} {xs : List V} {ds : List PyData} {j : Nat} {vs : List Nat} {f : PyData → PyData} (h : Ev tl σ H (.ref a)) (hx : H a = some (.lst xs)) (hT : TdAll H xs ds) (hz : ds.length ≤ 40000) (hw : ∀ x, wipe ((wipe σ vs).set j (some x)) vs = wipe σ vs)
    (he : ∀ (x : V) (d : PyData) H1, Ex H H1 → d ∈ ds → Td H1 x d → EvD te ((wipe σ vs).set j (some x)) H1 (f d)) : EvDL (tLc (iList K tl) (gName j) tYes te vs) σ H (ds.map f) := fun H0 e Q q => h H0 e _ fun H1 e1 => ⟨a, rfl, ⟨xs, sq_of ((e.trans e1) _ _ hx)⟩, fun Dl hD => by
  have hx1 := (e.trans e1) _ _ hx
  have hT1 := TdAll.tx (Tx.of (e.trans e1)) _ _ hT
  refine lc_it (walk_list (K := K) (a := a) (xs := xs)) (fun i H' => ∃ acc, Ex H1 H' ∧ H' Dl = some (.lst acc) ∧ TdAll H' acc ((ds.take i).map f)) ⟨[], Ex.new hD, upd_same, .nil⟩ (fun _ H' _ ⟨_, e2, _⟩ => sq_of (e2 _ _ hx1)) ?_ ?_
  · rintro i x H2 H3 hi ⟨acc, e2, hDl, hA⟩ ⟨rfl, hxi⟩
    refine ⟨hw x, ?_⟩
    have hlen := hT1.len
    have hi2 : i < ds.length := by omega
    have hd : ds[i]? = some ds[i] := List.getElem?_eq_getElem hi2
    obtain ⟨v, hv, hTv⟩ := td_get hT1 hd
    rw [hxi] at hv
    cases hv
    show te ((wipe σ vs).set j (some x)) H3 _
    refine he x ds[i] H3 ((e.trans e1).trans e2) (List.getElem_mem hi2) (Td.tx (Tx.of e2) _ _ hTv) H3 (Ex.refl _) _ fun y H4 e4 hy => ?_
    have hal := hA.len
    rw [List.length_map, List.length_take] at hal
    refine ⟨acc, e4 _ _ hDl, sz_lt (by omega), acc ++ [y], Ex.mut (e2.trans e4) hD, upd_same, ?_⟩
    have tx : Tx H4 (upd H4 Dl (.lst (acc ++ [y]))) := Tx.lst (e4 _ _ hDl)
    rw [List.take_succ, hd, List.map_append]
    exact (TdAll.tx ((Tx.of e4).trans tx) _ _ hA).snoc (Td.tx tx _ _ hy)
  · rintro H2 ⟨acc, e2, hDl, hA⟩
    rw [hT1.len, List.take_length] at hA
    exact q Dl H2 acc (fresh_back e1 hD) (e1.trans e2) hDl hA⟩
/-- .. over a list that is new -/
theorem edl_lcDL {ds : List PyData} {j : Nat} {vs : List Nat} {f : PyData → PyData} (h : EvDL tl σ H ds) (hz : ds.length ≤ 40000) (hw : ∀ x, wipe ((wipe σ vs).set j (some x)) vs = wipe σ vs)
    (he : ∀ (x : V) (d : PyData) H1, Ex H H1 → d ∈ ds → Td H1 x d → EvD te ((wipe σ vs).set j (some x)) H1 (f d)) : EvDL (tLc (iList K tl) (gName j) tYes te vs) σ H (ds.map f) := fun H0 e Q q => h H0 e _ fun a H1 xs ha e1 hx1 hT1 => ⟨a, rfl, ⟨xs, sq_of hx1⟩, fun Dl hD => by
  refine lc_it (walk_list (K := K) (a := a) (xs := xs)) (fun i H' => ∃ acc, Ex H1 H' ∧ H' Dl = some (.lst acc) ∧ TdAll H' acc ((ds.take i).map f)) ⟨[], Ex.new hD, upd_same, .nil⟩ (fun _ H' _ ⟨_, e2, _⟩ => sq_of (e2 _ _ hx1)) ?_ ?_
  · rintro i x H2 H3 hi ⟨acc, e2, hDl, hA⟩ ⟨rfl, hxi⟩
    refine ⟨hw x, ?_⟩
    have hlen := hT1.len
    have hi2 : i < ds.length := by omega
    have hd : ds[i]? = some ds[i] := List.getElem?_eq_getElem hi2
    obtain ⟨v, hv, hTv⟩ := td_get hT1 hd
    rw [hxi] at hv
    cases hv
    show te ((wipe σ vs).set j (some x)) H3 _
    refine he x ds[i] H3 ((e.trans e1).trans e2) (List.getElem_mem hi2) (Td.tx (Tx.of e2) _ _ hTv) H3 (Ex.refl _) _ fun y H4 e4 hy => ?_
    have hal := hA.len
    rw [List.length_map, List.length_take] at hal
    refine ⟨acc, e4 _ _ hDl, sz_lt (by omega), acc ++ [y], Ex.mut (e2.trans e4) hD, upd_same, ?_⟩
    have tx : Tx H4 (upd H4 Dl (.lst (acc ++ [y]))) := Tx.lst (e4 _ _ hDl)
    rw [List.take_succ, hd, List.map_append]
    exact (TdAll.tx ((Tx.of e4).trans tx) _ _ hA).snoc (Td.tx tx _ _ hy)
  · rintro H2 ⟨acc, e2, hDl, hA⟩
    rw [hT1.len, List.take_length] at hA
    exact q Dl H2 acc (fresh_back e1 hD) (e1.trans e2) hDl hA⟩
theorem s_retDL {ds : List PyData} {Q : VK} (h : EvDL te σ H ds) (hq : D.rt = Q) (q : RetDL ds H Q) : tRet te D σ H := h H (Ex.refl H) _ fun p H1 vs hp e h1 hT => by
  rw [hq]
  exact q p H1 vs hp e h1 hT
theorem RetDL.go {ds : List PyData} {Q : VK} (k : RetDL ds H Q) (e : Ex H H') : RetDL ds H' Q := fun p H2 vs hp e2 h hT => k p H2 vs (fresh_back e hp) (e.trans e2) h hT
theorem eqW {a b : Str} (ha : Ev ta σ H (.str a)) (hb : Ev tb σ H (.str b)) : Ev (tOp rEq ta tb) σ H (.bl (decide (V.str a = V.str b))) := ev_op ha hb (rv_eq rfl)
/-- a comprehension of a dict over a walk -/
theorem dc_it {J : It} {n : Nat} {G : Hp → Prop} {Y : Nat → Hp → V → Hp → Prop} (w : Walk J n G Y) {g : TG} {tt : TT} {tk tv : TE} {vs : List Nat} {σ : L2.St} {H1 : Hp} {D : Addr} {Qd : Hp → Prop} (Pv : Nat → Hp → Prop) (h0 : Pv 0 (upd H1 D (.dK []))) (hG : ∀ i H, i ≤ n → Pv i H → G H)
    (hs : ∀ i x H H', i < n → Pv i H → Y i H x H' → g x (wipe σ vs) H' fun σ2 H2 => wipe σ2 vs = wipe σ vs ∧ tt σ2 H2 fun b H3 =>
      if b = true then tk σ2 H3 fun y H4 => tv σ2 H4 fun z H5 => ∃ kvs k, y = kV k ∧ H5 D = some (.dK kvs) ∧ kvs.length < sizeLine ∧ Pv (i + 1) (upd H5 D (.dK (putK kvs k z))) else Pv (i + 1) H3) (hd : ∀ H, Pv n H → Qd H) :
    ∃ W : Nat → Nat → Hp → Prop, (∃ m, W 0 m (upd H1 D (.dK []))) ∧ ∀ i m H, W i m H →
      (J.stop i H ∧ Qd H) ∨ (J.go i H ∧ ∃ Nx : Hp → Prop, (∀ H', Nx H' → ∃ m', m' < m ∧ W (i + 1) m' H') ∧ ∀ x H', J.yld i H x H' → g x (wipe σ vs) H' fun σ2 H2 => wipe σ2 vs = wipe σ vs ∧ tt σ2 H2 fun b H3 =>
        if b = true then tk σ2 H3 fun y H4 => tv σ2 H4 fun z H5 => ∃ kvs k, y = kV k ∧ H5 D = some (.dK kvs) ∧ kvs.length < sizeLine ∧ Nx (upd H5 D (.dK (putK kvs k z))) else Nx H3) := by
  refine ⟨fun i m H => m = n - i ∧ i ≤ n ∧ Pv i H, ⟨n, by simp, Nat.zero_le _, h0⟩, ?_⟩
  rintro i m H ⟨rfl, hi, p⟩
  have q := hG i H hi p
  by_cases hlt : i < n
  · refine .inr ⟨w.goes i H hlt q, Pv (i + 1), fun H' p' => ⟨n - (i + 1), by omega, rfl, hlt, p'⟩, fun x H' y => hs i x H H' hlt p (w.yields i H x H' hlt q y)⟩
  · have e : i = n := by omega
    subst e
    exact .inl ⟨w.stops H q, hd H p⟩
theorem putK_new {kvs : List (Key × V)} {k : Key} {v : V} (h : k ∉ kvs.map Prod.fst) : putK kvs k v = kvs ++ [(k, v)] := by
  unfold putK
  rw [if_neg]
  intro z
  obtain ⟨p, hp, e⟩ := List.any_eq_true.mp z
  exact h (List.mem_map.mpr ⟨p, hp, of_decide_eq_true e⟩)
/-- numbers as keys -/
def intKv (l : List (Int × Nat)) (f : Nat → Nat) : List (Key × V) := l.map fun p => ((Sum.inl p.1 : Key), V.int (f p.2 : Int))
theorem intKv_val (f : Nat → Nat) (k : Int) : ∀ l : List (Int × Nat), valV (intKv l f) (Sum.inl k : Key) = (l.lookup k).map fun i => V.int (f i : Int)
  | [] => rfl
  | (a, b) :: l => by
    have ih := intKv_val f k l
    show valV (((Sum.inl a : Key), V.int (f b : Int)) :: intKv l f) (Sum.inl k) = _
    by_cases h : k = a
    · subst h
      rw [valV_pos (p := ((Sum.inl k : Key), V.int (f b : Int))) rfl]
      simp [List.lookup]
    · have hne : ¬ (Sum.inl a : Key) = Sum.inl k := fun z => h (Sum.inl.inj z).symm
      rw [valV_neg (p := ((Sum.inl a : Key), V.int (f b : Int))) hne, ih]
      have h2 : (k == a) = false := by simpa using h
      simp [List.lookup, h2]
theorem intKv_keys (f : Nat → Nat) (l : List (Int × Nat)) : (intKv l f).map Prod.fst = (l.map Prod.fst).map Sum.inl := by
  unfold intKv
  rw [List.map_map, List.map_map]
  rfl
theorem ev_dgetI {kvs : List (Key × V)} {a : Addr} {k : Int} {v : V} (ha : Ev ta σ H (.ref a)) (hb : Ev tb σ H (.int k)) (h : H a = some (.dK kvs)) (hv : valV kvs (Sum.inl k : Key) = some v) : Ev (tDGet ta tb) σ H v := fun H1 e Q q =>
  ha H1 e _ fun H2 e2 => hb H2 (e.trans e2) _ fun H3 e3 => ⟨a, v, rfl, by
    have g := DGet.k (k := (Sum.inl k : Key)) ((e2.trans e3) a _ (e a _ h))
    rw [hv] at g
    exact g, q H3 (e2.trans e3)⟩
/-- l.extend(new) -/
theorem q_extDL {l : Addr} {xs : List V} {ds : List PyData} (hl : H l = some (.lst xs)) (ha : Ev ta σ H (.ref l)) (h : EvDL te σ H ds) (hz : xs.length + ds.length ≤ 100000) (k : ∀ vs H1, Ex H H1 → TdAll H1 vs ds → tz D σ (upd H1 l (.lst (xs ++ vs)))) :
    tSeq (tDrop (tBM K "list" rExtend ta (tCons te tNil))) tz D σ H := ha H (Ex.refl H) _ fun H1 e1 =>
  ⟨Or.inl ⟨rfl, xs, sq_of (e1 l _ hl)⟩, h H1 e1 _ fun p H2 vs hp e2 hpl hT => ⟨l, p, xs, vs, rfl, rfl, e2 l _ (e1 l _ hl), hpl, sz_of (by rw [hT.len]; exact hz), k vs H2 (e1.trans e2) hT⟩⟩
theorem s_extDL {l : Addr} {xs : List V} {ds : List PyData} (hl : H l = some (.lst xs)) (ha : Ev ta σ H (.ref l)) (h : EvDL te σ H ds) (hz : xs.length + ds.length ≤ 100000) (k : ∀ vs H1, Ex H H1 → TdAll H1 vs ds → D.nx σ (upd H1 l (.lst (xs ++ vs)))) :
    tDrop (tBM K "list" rExtend ta (tCons te tNil)) D σ H := q_extDL (D := D) (tz := tNext) hl ha h hz k
theorem edl_callRet {sp : Sp} {vs : List V} {ds : List PyData} (h : EvA tr σ H vs) (hs : ∀ H1, Ex H H1 → ∀ Q : VK, RetDL ds H1 Q → sp vs H1 Q E) : EvDL (tCall sp [] E tr) σ H ds := fun H1 e Q q => h H1 e _ fun H2 e2 => by
  rw [List.append_nil]
  exact hs H2 (e.trans e2) Q fun p H3 ws hp e3 h3 hT => q p H3 ws (fresh_back e2 hp) (e2.trans e3) h3 hT
/-- t + u, both of data -/
theorem ed_catA {va : V} {ds1 ds2 : List PyData} (ha : Ev ta σ H va) (hv : Td H va (.tuple ds1)) (h1 : ds1 ≠ []) (l1 : ds1.length ≤ 100) (hb : EvD tb σ H (.tuple ds2)) (h2 : ds2 ≠ []) (l2 : ds2.length ≤ 100) : EvD (tOp (rCatA K) ta tb) σ H (.tuple (ds1 ++ ds2)) := fun H1 e Q q => ha H1 e _ fun H2 e2 => hb H2 (e.trans e2) _ fun v H3 e3 hw => by
  have hv3 := Td.tx (Tx.of ((e.trans e2).trans e3)) _ _ hv
  cases hv3 with
  | @tup a xs _ hx1 hx2 =>
    cases hw with
    | @tup b ys _ hy1 hy2 =>
      have lx := hx2.len
      have ly := hy2.len
      have nx : xs ≠ [] := fun z => h1 (by rw [z] at hx2; cases hx2; rfl)
      have ny : ys ≠ [] := fun z => h2 (by rw [z] at hy2; cases hy2; rfl)
      exact ⟨a, b, xs, ys, rfl, rfl, st_of hx1, st_of hy1, sz_of (by omega), fun z => absurd z nx, fun _ z => absurd z ny, fun _ _ p hp => q _ _ ((e2.trans e3).trans (Ex.new hp)) (.tup upd_same (TdAll.tx (Tx.of (Ex.new hp)) _ _ (hx2.app hy2)))⟩
theorem et_notNone {v : V} {b : Bool} (h : Ev te σ H v) (e : (!decide (v = .non)) = b) : EvT (tTest (tOp (fun x y H Q => y = .non ∧ Q (.bl (!decide (x = .non))) H) te (tC .non))) σ H b := et_test (ev_is (ev_op h ev_c fun H1 _ Q q => ⟨rfl, q H1 (Ex.refl H1)⟩) (congrArg V.bl e))
theorem et_isNone {v : V} {b : Bool} (h : Ev te σ H v) (e : decide (v = .non) = b) : EvT (tTest (tOp (fun x y H Q => y = .non ∧ Q (.bl (decide (x = .non))) H) te (tC .non))) σ H b := et_test (ev_is (ev_op h ev_c fun H1 _ Q q => ⟨rfl, q H1 (Ex.refl H1)⟩) (congrArg V.bl e))
/-- a, b, .. = a tuple -/
theorem q_unpack {n : Nat} {gs : TGs} {a : Addr} {xs : List V} (h : Ev te σ H (.ref a)) (ha : H a = some (.tup xs)) (hn : xs.length = n) (k : ∀ H1, Ex H H1 → gs xs σ H1 fun σ' H' => tz D σ' H') : tSeq (tAsg te (gTup K n gs)) tz D σ H :=
  h H (Ex.refl H) _ fun H1 e1 => ⟨a, xs, rfl, st_of (e1 _ _ ha), hn, k H1 e1⟩
theorem eqWT {a b c : Str} {r : Bool} (ha : Ev ta σ H (.str a)) (hb : Ev tb σ H (.str b)) (e : a = c) (h : decide (c = b) = r) : EvT (tTest (tOp rEq ta tb)) σ H r := by
  subst e h
  refine et_test (ev_is (ev_op ha hb (rv_eq rfl)) (congrArg V.bl ?_))
  by_cases z : a = b
  · subst z
    rw [decide_eq_true rfl, decide_eq_true rfl]
  · rw [decide_eq_false z, decide_eq_false fun y => z (V.str.inj y)]
theorem inWT {p : Addr} {xs : List V} {a c : Str} {r : Bool} (ha : Ev ta σ H (.str a)) (hb : Ev tb σ H (.ref p)) (hp : SqT K H p xs) (hf : xs.all flatV = true) (e : a = c) (h : inV (.str c) xs = r) : EvT (tTest (tOp (rIn K false) ta tb)) σ H r := by
  subst e h
  exact et_test (ev_op ha hb (rv_isT hp rfl hf))
theorem inWU {xs : List V} {a c : Str} {r : Bool} (ha : Ev ta σ H (.str a)) (hb : EvU tb σ H xs) (hf : xs.all flatV = true) (e : a = c) (h : inV (.str c) xs = r) : EvT (tTest (tOp (rIn K false) ta tb)) σ H r := by
  subst e h
  exact et_test (ev_inU ha hb rfl hf)
theorem ev_lenT {p : Addr} {xs : List V} (ha : Ev ta σ H (.ref p)) (h : SqT K H p xs) : Ev (tCB (rLenS K) (tCons ta tNil)) σ H (.int (xs.length : Int)) := fun H1 e Q q =>
  ha H1 e _ fun H2 e2 => ⟨p, xs, rfl, .inr (ex_t (e.trans e2) h), q H2 e2⟩
/-- [e for x in l], item by item -/
theorem edl_lcLi {a : Addr} {xs : List V} {ds es : List PyData} {j : Nat} {vs : List Nat} (h : Ev tl σ H (.ref a)) (hx : H a = some (.lst xs)) (hT : TdAll H xs ds) (hz : ds.length ≤ 40000) (hes : es.length = ds.length) (hw : ∀ x, wipe ((wipe σ vs).set j (some x)) vs = wipe σ vs)
    (he : ∀ (i : Nat) (x : V) (d e : PyData) H1, Ex H H1 → ds[i]? = some d → es[i]? = some e → Td H1 x d → EvD te ((wipe σ vs).set j (some x)) H1 e) : EvDL (tLc (iList K tl) (gName j) tYes te vs) σ H es := fun H0 e Q q => h H0 e _ fun H1 e1 => ⟨a, rfl, ⟨xs, sq_of ((e.trans e1) _ _ hx)⟩, fun Dl hD => by
  have hx1 := (e.trans e1) _ _ hx
  have hT1 := TdAll.tx (Tx.of (e.trans e1)) _ _ hT
  refine lc_it (walk_list (K := K) (a := a) (xs := xs)) (fun i H' => ∃ acc, Ex H1 H' ∧ H' Dl = some (.lst acc) ∧ TdAll H' acc (es.take i)) ⟨[], Ex.new hD, upd_same, .nil⟩ (fun _ H' _ ⟨_, e2, _⟩ => sq_of (e2 _ _ hx1)) ?_ ?_
  · rintro i x H2 H3 hi ⟨acc, e2, hDl, hA⟩ ⟨rfl, hxi⟩
    refine ⟨hw x, ?_⟩
    have hlen := hT1.len
    have hi2 : i < ds.length := by omega
    have hd : ds[i]? = some ds[i] := List.getElem?_eq_getElem hi2
    have hi3 : i < es.length := by omega
    have hd3 : es[i]? = some es[i] := List.getElem?_eq_getElem hi3
    obtain ⟨v, hv, hTv⟩ := td_get hT1 hd
    rw [hxi] at hv
    cases hv
    show te ((wipe σ vs).set j (some x)) H3 _
    refine he i x ds[i] es[i] H3 ((e.trans e1).trans e2) hd hd3 (Td.tx (Tx.of e2) _ _ hTv) H3 (Ex.refl _) _ fun y H4 e4 hy => ?_
    have hal := hA.len
    rw [List.length_take] at hal
    refine ⟨acc, e4 _ _ hDl, sz_lt (by omega), acc ++ [y], Ex.mut (e2.trans e4) hD, upd_same, ?_⟩
    have tx : Tx H4 (upd H4 Dl (.lst (acc ++ [y]))) := Tx.lst (e4 _ _ hDl)
    rw [List.take_succ, hd3]
    exact (TdAll.tx ((Tx.of e4).trans tx) _ _ hA).snoc (Td.tx tx _ _ hy)
  · rintro H2 ⟨acc, e2, hDl, hA⟩
    rw [hT1.len, ← hes, List.take_length] at hA
    exact q Dl H2 acc (fresh_back e1 hD) (e1.trans e2) hDl hA⟩
theorem tYes_go {f h : Hp → Prop} (x : f H) : tYes σ H (fun b H3 => if b = true then f H3 else h H3) := by
  show (if true = true then f H else h H)
  rw [if_pos rfl]
  exact x
/-- a cut of data -/
def cutDs (ds : List PyData) (lo hi : Option Int) : List PyData := (ds.drop (HT.sIx ds.length 0 lo)).take (HT.sIx ds.length ds.length hi - HT.sIx ds.length 0 lo)
theorem td_takeM {H : Hp} : ∀ {n : Nat} {us : List V} {ds : List PyData}, TdAll H us ds → TdAll H (us.take n) (ds.take n)
  | 0, _, _, _ => .nil
  | _ + 1, _, _, .nil => .nil
  | n + 1, _, _, .cons a b => .cons a (td_takeM (n := n) b)
theorem td_cut {xs : List V} {ds : List PyData} (h : TdAll H xs ds) (lo hi : Option Int) : TdAll H (cutV xs lo hi) (cutDs ds lo hi) := by
  unfold cutV cutDs
  rw [h.len]
  exact td_takeM (td_drop h)
theorem ed_slT {v : V} {ds es : List PyData} {lo hi : Option Int} {tlo thi : TO} (ha : Ev ta σ H v) (hv : Td H v (.tuple ds)) (hlo : EvO tlo σ H lo) (hhi : EvO thi σ H hi) (e : cutDs ds lo hi = es) : EvD (tSl (rSlA K) ta tlo thi) σ H (.tuple es) := fun H1 e1 Q q =>
  ha H1 e1 _ fun H2 e2 => hlo H2 (e1.trans e2) _ fun H3 e3 => hhi H3 ((e1.trans e2).trans e3) _ fun H4 e4 => by
    subst e
    have e14 := ((e1.trans e2).trans e3).trans e4
    have hv4 := Td.tx (Tx.of e14) _ _ hv
    cases hv4 with
    | @tup a xs _ h1 h2 =>
      refine ⟨a, xs, rfl, st_of h1, fun hw => ?_, fun _ p hp => q _ _ (((e2.trans e3).trans e4).trans (Ex.new hp)) (.tup upd_same (TdAll.tx (Tx.of (Ex.new hp)) _ _ (td_cut h2 lo hi)))⟩
      refine q _ H4 ((e2.trans e3).trans e4) (.tup h1 ?_)
      have : cutDs ds lo hi = ds := by
        unfold cutDs
        rw [← h2.len, hw.1, hw.2, List.drop_zero, Nat.sub_zero, h2.len]
        exact List.take_length ..
      rw [this]
      exact h2
/-- t[-1] -/
theorem ev_ixTl {v : V} {ds : List PyData} {k : Int} (ha : Ev ta σ H v) (hv : Td H v (.tuple (ds ++ [.int k]))) : Ev (tOp (rIxT K) ta (tUn (rU fun i => .int (-i)) (tC (.int 1)))) σ H (.int k) := by
  cases hv with
  | @tup a xs _ h1 h2 =>
    have hl := h2.len
    rw [List.length_append] at hl
    obtain ⟨x, hx, hT⟩ := td_get h2 (i := ds.length) (d := .int k) (by simp)
    cases hT
    have e : xs = xs.dropLast ++ [.int k] := by
      have hne : xs ≠ [] := fun z => by rw [z] at hl; simp at hl
      have h3 := List.dropLast_concat_getLast hne
      have h4 : xs.getLast hne = .int k := by
        rw [List.getLast_eq_getElem]
        have h5 : xs.length - 1 = ds.length := by rw [hl]; rfl
        have h6 := List.getElem?_eq_some_iff.mp hx
        obtain ⟨h7, h8⟩ := h6
        simp only [h5]
        exact h8
      rw [h4] at h3
      exact h3.symm
    refine ev_op ha (ev_un ev_c ru_neg) (rv_ixT (i := -1) (st_of h1) ?_)
    rw [e]
    exact atI_last _ _
/-- [e for x in t], t a tuple that may be new -/
theorem edl_lcTD {ds : List PyData} {j : Nat} {vs : List Nat} {f : PyData → PyData} (h : EvD tl σ H (.tuple ds)) (hz : ds.length ≤ 40000) (hw : ∀ x, wipe ((wipe σ vs).set j (some x)) vs = wipe σ vs)
    (he : ∀ (x : V) (d : PyData) H1, Ex H H1 → d ∈ ds → Td H1 x d → EvD te ((wipe σ vs).set j (some x)) H1 (f d)) : EvDL (tLc (iTup K tl) (gName j) tYes te vs) σ H (ds.map f) := fun H0 e Q q => h H0 e _ fun v H1 e1 hv => by
  cases hv with
  | @tup a xs _ hx1 hT1 =>
  refine ⟨a, rfl, ⟨xs, st_of hx1⟩, fun Dl hD => ?_⟩
  refine lc_it (walk_tup (K := K) (a := a) (xs := xs)) (fun i H' => ∃ acc, Ex H1 H' ∧ H' Dl = some (.lst acc) ∧ TdAll H' acc ((ds.take i).map f)) ⟨[], Ex.new hD, upd_same, .nil⟩ (fun _ H' _ ⟨_, e2, _⟩ => st_of (e2 _ _ hx1)) ?_ ?_
  · rintro i x H2 H3 hi ⟨acc, e2, hDl, hA⟩ ⟨rfl, hxi⟩
    refine ⟨hw x, ?_⟩
    have hlen := hT1.len
    have hi2 : i < ds.length := by omega
    have hd : ds[i]? = some ds[i] := List.getElem?_eq_getElem hi2
    obtain ⟨v, hv, hTv⟩ := td_get hT1 hd
    rw [hxi] at hv
    cases hv
    show te ((wipe σ vs).set j (some x)) H3 _
    refine he x ds[i] H3 ((e.trans e1).trans e2) (List.getElem_mem hi2) (Td.tx (Tx.of e2) _ _ hTv) H3 (Ex.refl _) _ fun y H4 e4 hy => ?_
    have hal := hA.len
    rw [List.length_map, List.length_take] at hal
    refine ⟨acc, e4 _ _ hDl, sz_lt (by omega), acc ++ [y], Ex.mut (e2.trans e4) hD, upd_same, ?_⟩
    have tx : Tx H4 (upd H4 Dl (.lst (acc ++ [y]))) := Tx.lst (e4 _ _ hDl)
    rw [List.take_succ, hd, List.map_append]
    exact (TdAll.tx ((Tx.of e4).trans tx) _ _ hA).snoc (Td.tx tx _ _ hy)
  · rintro H2 ⟨acc, e2, hDl, hA⟩
    rw [hT1.len, List.take_length] at hA
    exact q Dl H2 acc (fresh_back e1 hD) (e1.trans e2) hDl hA
/-- a <= b < c -/
theorem ev_chain {i j k : Int} (ha : Ev ta σ H (.int i)) (hb : Ev tb σ H (.int j)) (hc : Ev te σ H (.int k)) : Ev (tChain (rI0 fun i j => .bl (decide (i ≤ j))) (rI0 fun i j => .bl (decide (i < j))) ta tb te) σ H (.bl (decide (i ≤ j) && decide (j < k))) := fun H1 e Q q =>
  ha H1 e _ fun H2 e2 => hb H2 (e.trans e2) _ fun H3 e3 => ⟨i, j, rfl, rfl, decide (i ≤ j), rfl, by
    by_cases h : i ≤ j
    · rw [decide_eq_true h, if_pos rfl]
      refine hc H3 ((e.trans e2).trans e3) _ fun H4 e4 => ⟨j, k, rfl, rfl, ?_⟩
      have := q H4 ((e2.trans e3).trans e4)
      rw [decide_eq_true h, Bool.true_and] at this
      exact this
    · rw [decide_eq_false h, if_neg Bool.false_ne_true]
      have := q H3 (e2.trans e3)
      rw [decide_eq_false h, Bool.false_and] at this
      exact this⟩
theorem dpa_bools : ∀ bs : List Bool, DpAll K H (bs.map V.bl) (bs.map PyData.bool)
  | [] => .nil
  | x :: xs => .cons (.bl x) (dpa_bools xs)
/-- two lists of truths, the same ones -/
theorem ev_eqBL {bs : List Bool} (ha : EvL ta σ H (bs.map .bl)) (hb : EvL tb σ H (bs.map .bl)) (hs : SeqAt.shaped (.list (bs.map .bool)) = true) : Ev (tOp (rEqD K) ta tb) σ H (.bl true) := ev_opLL ha hb fun p q H1 h1 h2 _ H2 e2 Q q2 =>
  ⟨.list (bs.map .bool), .list (bs.map .bool), .lst (sq_of (e2 p _ h1)) (dpa_bools bs), .lst (sq_of (e2 q _ h2)) (dpa_bools bs), hs, hs, by
    rw [SeqAt.eqv_refl]
    · exact q2 H2 (Ex.refl H2)
    · exact (Bool.and_eq_true_iff.mp hs).1⟩
theorem ev_eqBLv {bs : List Bool} {l : Addr} (ha : Ev ta σ H (.ref l)) (hl : H l = some (.lst (bs.map .bl))) (hb : EvL tb σ H (bs.map .bl)) (hs : SeqAt.shaped (.list (bs.map .bool)) = true) : Ev (tOp (rEqD K) ta tb) σ H (.bl true) := ev_opL ha hb fun q H1 h2 e1 H2 e2 Q q2 =>
  ⟨.list (bs.map .bool), .list (bs.map .bool), .lst (sq_of ((e1.trans e2) _ _ hl)) (dpa_bools bs), .lst (sq_of (e2 q _ h2)) (dpa_bools bs), hs, hs, by
    rw [SeqAt.eqv_refl]
    · exact q2 H2 (Ex.refl H2)
    · exact (Bool.and_eq_true_iff.mp hs).1⟩
/-- two things of the same data -/
theorem ev_eqDD {d : PyData} (ha : EvD ta σ H d) (hb : EvD tb σ H d) (hs : SeqAt.shaped d = true) : Ev (tOp (rEqD K) ta tb) σ H (.bl true) := fun H1 e Q q => ha H1 e _ fun v H2 e2 hv => hb H2 (e.trans e2) _ fun w H3 e3 hw =>
  ⟨d, d, Td.dp _ _ (Td.tx (Tx.of e3) _ _ hv), Td.dp _ _ hw, hs, hs, by
    rw [SeqAt.eqv_refl]
    · exact q H3 (e2.trans e3)
    · exact (Bool.and_eq_true_iff.mp hs).1⟩
theorem td_bools : ∀ {vs : List V} {bs : List Bool}, TdAll H vs (bs.map .bool) → vs = bs.map .bl
  | _, [], .nil => rfl
  | _, b :: bs, .cons a t => by
    cases a
    rw [td_bools t] <;> rfl
theorem ev_lenTd {v : V} {ds : List PyData} (ha : Ev ta σ H v) (hv : Td H v (.tuple ds)) : Ev (tCB (rLenS K) (tCons ta tNil)) σ H (.int (ds.length : Int)) := by
  cases hv with
  | @tup a xs _ h1 h2 => exact ev_is (ev_lenT (K := K) ha (st_of h1)) (by rw [h2.len])
theorem ev_eqSame {a : Str} (ha : Ev ta σ H (.str a)) (hb : Ev tb σ H (.str a)) : Ev (tOp rEq ta tb) σ H (.bl true) := ev_is (ev_op ha hb (rv_eq rfl)) (congrArg V.bl (decide_eq_true rfl))
theorem ev_eqSameI {a b : Int} (ha : Ev ta σ H (.int a)) (hb : Ev tb σ H (.int b)) (h : a = b) : Ev (tOp rEq ta tb) σ H (.bl true) := by
  subst h
  exact ev_is (ev_op ha hb (rv_eq rfl)) (congrArg V.bl (decide_eq_true rfl))
theorem ev_tt {x y : TE} (h1 : Ev x σ H (.bl true)) (h2 : Ev y σ H (.bl true)) : Ev (tAndV x y) σ H (.bl true) := ev_is (ev_andV h1 fun _ => h2) rfl
theorem el_rep2 {b : V} : EvL (tOp rRep (tLst (tCons (tC b) tNil)) (tC (.int 2))) σ H [b, b] := fun H1 e Q q =>
  (show EvL (tLst (tCons (tC b) tNil)) σ H [b] from el_lst (ea_cons ev_c ea_nil) (by show 1 ≤ 100000; decide)) H1 e _ fun l H2 hl0 e2 hl => ⟨l, 2, _, rfl, rfl, hl, by decide, by decide, by show 1 * 2 ≤ sizeLine; decide, fun c hc => q c _ (fresh_back e2 hc) (e2.trans (Ex.new hc)) upd_same⟩
theorem ed_catDD {ds1 ds2 : List PyData} (ha : EvD ta σ H (.tuple ds1)) (h1 : ds1 ≠ []) (l1 : ds1.length ≤ 100) (hb : EvD tb σ H (.tuple ds2)) (h2 : ds2 ≠ []) (l2 : ds2.length ≤ 100) : EvD (tOp (rCatA K) ta tb) σ H (.tuple (ds1 ++ ds2)) := fun H1 e Q q => ha H1 e _ fun u H2 e2 hu => hb H2 (e.trans e2) _ fun v H3 e3 hw => by
  have hv3 := Td.tx (Tx.of e3) _ _ hu
  cases hv3 with
  | @tup a xs _ hx1 hx2 =>
    cases hw with
    | @tup b ys _ hy1 hy2 =>
      have lx := hx2.len
      have ly := hy2.len
      have nx : xs ≠ [] := fun z => h1 (by rw [z] at hx2; cases hx2; rfl)
      have ny : ys ≠ [] := fun z => h2 (by rw [z] at hy2; cases hy2; rfl)
      exact ⟨a, b, xs, ys, rfl, rfl, st_of hx1, st_of hy1, sz_of (by omega), fun z => absurd z nx, fun _ z => absurd z ny, fun _ _ p hp => q _ _ ((e2.trans e3).trans (Ex.new hp)) (.tup upd_same (TdAll.tx (Tx.of (Ex.new hp)) _ _ (hx2.app hy2)))⟩
/-- {k: v}.get(x, z) -/
theorem ev_get1 {k1 k : Str} {v1 z : V} {r : V} (hb : ∀ H', Ev tb σ H' (.str k)) (hz : ∀ H', Ev te σ H' z) (h : (k = k1 ∧ r = v1) ∨ (k ≠ k1 ∧ r = z)) : Ev (tDGet2 (tDisp [(tC (.str k1), tC v1)]) tb te) σ H r := fun H1 e Q q => fun p hp => by
  refine ⟨upd_same, [((Sum.inr k1 : Key), v1)], rfl, by show 1 ≤ 15; decide, ?_⟩
  have hm : mergeK [] [((Sum.inr k1 : Key), v1)] = [((Sum.inr k1 : Key), v1)] := rfl
  rw [hm]
  have e1 : Ex H1 (upd (upd H1 p (.dK [])) p (.dK [((Sum.inr k1 : Key), v1)])) := Ex.mut (Ex.new hp) hp
  have hp2 : (upd (upd H1 p (.dK [])) p (.dK [((Sum.inr k1 : Key), v1)])) p = some (.dK [((Sum.inr k1 : Key), v1)]) := upd_same
  generalize upd (upd H1 p (.dK [])) p (.dK [((Sum.inr k1 : Key), v1)]) = H2 at e1 hp2 ⊢
  refine ⟨p, rfl, .inl ⟨_, .inl hp2⟩, hb H2 H2 (Ex.refl _) _ fun H3 e3 => hz H3 H3 (Ex.refl _) _ fun H4 e4 => ?_⟩
  refine ⟨_, DGet.k (k := (Sum.inr k : Key)) ((e3.trans e4) _ _ hp2), ?_⟩
  rcases h with ⟨rfl, rfl⟩ | ⟨hne, rfl⟩
  · rw [valV_pos (p := ((Sum.inr k : Key), r)) rfl]
    exact q H4 (e1.trans (e3.trans e4))
  · rw [valV_neg (p := ((Sum.inr k1 : Key), v1)) (fun y => hne (Sum.inr.inj y).symm)]
    exact q H4 (e1.trans (e3.trans e4))
theorem cutP_from1 {d : PyData} {es : List PyData} : cutDs (d :: es) (some 1) none = es := by
  unfold cutDs
  have h1 : HT.sIx (d :: es).length 0 (some 1) = 1 := by
    have := HT.sIx_nat (d :: es).length 0 1
    rw [show ((1 : Nat) : Int) = 1 from rfl] at this
    rw [this, List.length_cons]
    omega
  rw [h1, HT.sIx_none, List.drop_succ_cons, List.drop_zero, List.length_cons]
  exact List.take_length ..
theorem cutV_last {xs : List V} {x : V} : cutV (xs ++ [x]) (some (-1)) none = [x] := by
  unfold cutV
  have h1 : HT.sIx (xs ++ [x]).length 0 (some (-1)) = xs.length := by
    show (if (-1 : Int) < 0 then ((-1 : Int) + ((xs ++ [x]).length : Int)).toNat else min (-1 : Int).toNat (xs ++ [x]).length) = _
    rw [if_pos (by decide), List.length_append]
    show (-1 + ((xs.length + 1 : Nat) : Int)).toNat = _
    omega
  rw [h1, HT.sIx_none, List.drop_left, List.length_append]
  show [x].take (xs.length + 1 - xs.length) = [x]
  rw [show xs.length + 1 - xs.length = 1 by omega] <;> rfl
end
end Wt

set_option Elab.async false
set_option linter.all false
set_option maxRecDepth 100000
set_option maxHeartbeats 4000000
/-! Values of which something is true in the heap that stands then; displays; comprehensions with tests. -/
namespace Wt
open PySem PySem.Spec PyProof.Rows L2 SX Evl
/-- a block within a block that takes nothing out of the outer one -/
theorem blkOk_any {N : List Str} {sc scope : Scope} {own : List (Str × Nat)} (h : blkC N { kind := ScopeKind.function, names := [], isGenerator := false, isCoroutine := false } scope own = true) : BlkOk N sc scope own := by
  refine blkOk_by ?_
  unfold blkC at h ⊢
  simp only [Bool.and_eq_true, List.all_eq_true] at h ⊢
  refine ⟨h.1, fun y hy => ?_⟩
  have := h.2 y hy
  revert this
  cases y.2 <;> intro hz
  all_goals first | exact hz | (exfalso; revert hz; simp)
/-- tuple(..) -/
abbrev rTupO (K : PySem.W.Frag) : List V → Hp → VK → Prop := fun xs H Q => ∃ p ys, xs = [.ref p] ∧ ((SqL K H p ys ∧ ∀ l, H l = none → Q (.ref l) (upd H l (.tup ys))) ∨ (SqT K H p ys ∧ Q (.ref p) H))
def EvP (te : TE) (σ : L2.St) (H : Hp) (P : V → Hp → Prop) : Prop := ∀ H1, Ex H H1 → ∀ Q : VK, (∀ v H2, Ex H1 H2 → P v H2 → Q v H2) → te σ H1 Q
def EPs (trs : List (TE × TE)) (σ : L2.St) (H : Hp) (L : List (Key × V) → Hp → Prop) : Prop := ∀ H1, Ex H H1 → ∀ Q : List (V × V) → Hp → Prop, (∀ kvs H2, Ex H1 H2 → L kvs H2 → Q (kvs.map fun kv => (kV kv.1, kv.2)) H2) → tPairs trs σ H1 Q
/-- what stays where things only come -/
def Ups (P : V → Hp → Prop) : Prop := ∀ v H H', Ex H H' → P v H → P v H'
/-- a list of data at l of which something is true -/
def LAtP (H : Hp) (l : Addr) (L : List PyData → Prop) : Prop := ∃ vs ds, H l = some (.lst vs) ∧ TdAll H vs ds ∧ L ds
theorem LAtP.ex {H H' : Hp} {l : Addr} {L : List PyData → Prop} (h : LAtP H l L) (e : Ex H H') : LAtP H' l L := by
  obtain ⟨vs, ds, h1, h2, h3⟩ := h
  exact ⟨vs, ds, e _ _ h1, TdAll.tx (Tx.of e) _ _ h2, h3⟩
theorem LAtP.imp {H : Hp} {l : Addr} {L L2 : List PyData → Prop} (h : LAtP H l L) (i : ∀ ds, L ds → L2 ds) : LAtP H l L2 := by
  obtain ⟨vs, ds, h1, h2, h3⟩ := h
  exact ⟨vs, ds, h1, h2, i ds h3⟩
theorem LAtP.dK {H : Hp} {l p : Addr} {L : List PyData → Prop} {ks ls : List (Key × V)} (h : LAtP H l L) (hp : H p = some (.dK ks)) : LAtP (upd H p (.dK ls)) l L := by
  obtain ⟨vs, ds, h1, h2, h3⟩ := h
  exact ⟨vs, ds, by rw [upd_ne (ne_of h1 hp (by intro z; cases z))]; exact h1, TdAll.tx (Tx.dK hp) _ _ h2, h3⟩
theorem LAtP.lst {H : Hp} {l p : Addr} {L : List PyData → Prop} {xs ys : List V} (h : LAtP H l L) (hp : H p = some (.lst xs)) (hn : l ≠ p) : LAtP (upd H p (.lst ys)) l L := by
  obtain ⟨vs, ds, h1, h2, h3⟩ := h
  exact ⟨vs, ds, by rw [upd_ne hn]; exact h1, TdAll.tx (Tx.lst hp) _ _ h2, h3⟩
/-- .. a new one, since H0 -/
def NLs (H0 : Hp) (L : List PyData → Prop) : V → Hp → Prop := fun v H => ∃ l, v = .ref l ∧ H0 l = none ∧ LAtP H l L
theorem nls_ups {H0 : Hp} {L : List PyData → Prop} : Ups (NLs H0 L) := fun v H H' e ⟨l, h1, h2, h3⟩ => ⟨l, h1, h2, h3.ex e⟩
section
variable {K : PySem.W.Frag} {σ : L2.St} {H H' H0 : Hp} {ta tb te tx tl : TE} {tr : TA} {t u : TT} {v w : V} {R R2 : PyData → Prop} {L L1 L2 : List PyData → Prop} {D : Ends} {tu tw tz : TS} {P P2 : V → Hp → Prop} {trs : List (TE × TE)}
theorem ep_of (h : Ev te σ H v) : EvP te σ H (fun x _ => x = v) := fun H1 e Q q => h H1 e Q fun H2 e2 => q v H2 e2 rfl
theorem ep_N {Pn : V → Prop} (h : EvN te σ H Pn) : EvP te σ H (fun x _ => Pn x) := fun H1 e Q q => h H1 e Q fun x H2 p e2 => q x H2 e2 p
theorem ep_R (h : EvR te σ H R) : EvP te σ H (fun x H' => ∃ d, R d ∧ Td H' x d) := fun H1 e Q q => h H1 e Q fun x H2 d r e2 hv => q x H2 e2 ⟨d, r, hv⟩
theorem ep_RL (h : EvRL te σ H L) : EvP te σ H (NLs H L) := fun H1 e Q q => h H1 e Q fun p H2 vs ds r hp e2 h2 hT => q _ H2 e2 ⟨p, rfl, fresh_back e hp, vs, ds, h2, hT, r⟩
theorem ep_LT {ts : List (List Nat)} (h : EvLT te σ H ts) : EvP te σ H (fun x H' => ∃ l, x = .ref l ∧ H l = none ∧ H' l = some (.lst (ts.map fun z => V.str (S z)))) := fun H1 e Q q => h H1 e Q fun l H2 hl e2 h2 => q _ H2 e2 ⟨l, rfl, fresh_back e hl, h2⟩
theorem EvP.imp (h : EvP te σ H P) (i : ∀ v H', P v H' → P2 v H') : EvP te σ H P2 := fun H1 e Q q => h H1 e Q fun v H2 e2 p => q v H2 e2 (i v H2 p)
theorem EvP.mono (e : Ex H H') (h : EvP te σ H P) : EvP te σ H' P := fun H1 e1 Q q => h H1 (e.trans e1) Q q
theorem EvRL.imp (h : EvRL te σ H L) (i : ∀ ds, L ds → L1 ds) : EvRL te σ H L1 := fun H1 e Q q => h H1 e Q fun p H2 vs ds r => q p H2 vs ds (i ds r)
theorem EvRL.mono (e : Ex H H') (h : EvRL te σ H L) : EvRL te σ H' L := fun H1 e1 Q q => h H1 (e.trans e1) Q q
theorem erl_of {ds : List PyData} (h : EvDL te σ H ds) : EvRL te σ H (· = ds) := fun H1 e Q q => h H1 e Q fun p H2 vs hp e2 h2 hT => q p H2 vs ds rfl hp e2 h2 hT
theorem eps_nil : EPs [] σ H (fun l _ => l = []) := fun H1 _ Q q => q [] H1 (Ex.refl _) rfl
theorem eps_cons {k : Str} {Lk : List (Key × V) → Hp → Prop} (h : EvP te σ H P) (up : Ups P) (hr : EPs trs σ H Lk) : EPs ((tC (.str k), te) :: trs) σ H (fun l H' => ∃ v r, l = ((Sum.inr k : Key), v) :: r ∧ P v H' ∧ Lk r H') := fun H1 e Q q =>
  ev_c H1 (Ex.refl _) _ fun H2 e2 => h H2 (e.trans e2) _ fun v H3 e3 p => hr H3 ((e.trans e2).trans e3) _ fun r H4 e4 l => q (((Sum.inr k : Key), v) :: r) H4 ((e2.trans e3).trans e4) ⟨v, r, rfl, up v H3 H4 e4 p, l⟩
theorem ups_c {w : V} : Ups (fun x _ => x = w) := fun _ _ _ _ h => h
theorem ups_N {Pn : V → Prop} : Ups (fun x _ => Pn x) := fun _ _ _ _ h => h
theorem ups_lt {H0 : Hp} {ts : List (List Nat)} : Ups (fun x H' => ∃ l, x = .ref l ∧ H0 l = none ∧ H' l = some (.lst (ts.map fun z => V.str (S z)))) := fun v H H' e ⟨l, h1, h2, h3⟩ => ⟨l, h1, h2, e _ _ h3⟩
/-- d = {..} -/
theorem q_disp {i : Nat} {Lk : List (Key × V) → Hp → Prop} (h : EPs trs σ H Lk) (hl : ∀ kvs H', Lk kvs H' → kvs.length ≤ 15) (k : ∀ p H2 kvs, H p = none → Ex (upd H p (.dK [])) H2 → Ex H H2 → Lk kvs H2 → H2 p = some (.dK []) → tz D (σ.set i (some (.ref p))) (upd H2 p (.dK (mergeK [] kvs)))) :
    tSeq (tAsg (tDisp trs) (gName i)) tz D σ H := fun p hp => h _ (Ex.new hp) _ fun kvs H2 e2 l => ⟨e2 _ _ upd_same, kvs, rfl, hl kvs H2 l, k p H2 kvs hp e2 ((Ex.new hp).trans e2) l (e2 _ _ upd_same)⟩
theorem q_dputP {ca : Addr} {kvs : List (Key × V)} {k : Str} (ht : EvP te σ H P) (up : Ups P) (ha : ∀ H', Ex H H' → Ev ta σ H' (.ref ca)) (hd : H ca = some (.dK kvs)) (hl : kvs.length < 100000) (c : ∀ y H1, Ex H H1 → P y H1 → tz D σ (upd H1 ca (.dK (putK kvs (Sum.inr k : Key) y)))) : tSeq (sDPut ta (tC (.str k)) te) tz D σ H := ht H (Ex.refl H) _ fun y H1 e1 p => ha H1 e1 H1 (Ex.refl _) _ fun H2 e2 => ev_c H2 (Ex.refl H2) _ fun H3 e3 => by
  have e13 := (e1.trans e2).trans e3
  exact ⟨ca, _, rfl, DPut.k (k := (Sum.inr k : Key)) (e13 _ _ hd) (sz_lt hl), c y H3 e13 (up _ _ _ (e2.trans e3) p)⟩
theorem s_dputP {ca : Addr} {kvs : List (Key × V)} {k : Str} (ht : EvP te σ H P) (up : Ups P) (ha : ∀ H', Ex H H' → Ev ta σ H' (.ref ca)) (hd : H ca = some (.dK kvs)) (hl : kvs.length < 100000) (c : ∀ y H1, Ex H H1 → P y H1 → D.nx σ (upd H1 ca (.dK (putK kvs (Sum.inr k : Key) y)))) : sDPut ta (tC (.str k)) te D σ H := ht H (Ex.refl H) _ fun y H1 e1 p => ha H1 e1 H1 (Ex.refl _) _ fun H2 e2 => ev_c H2 (Ex.refl H2) _ fun H3 e3 => by
  have e13 := (e1.trans e2).trans e3
  exact ⟨ca, _, rfl, DPut.k (k := (Sum.inr k : Key)) (e13 _ _ hd) (sz_lt hl), c y H3 e13 (up _ _ _ (e2.trans e3) p)⟩
/-- d.update({..}) -/
theorem q_updP {ca : Addr} {kvs : List (Key × V)} {Lk : List (Key × V) → Hp → Prop} (ha : ∀ H', Ex H H' → Ev ta σ H' (.ref ca)) (h : EPs trs σ H Lk) (hk : ∀ more H', Lk more H' → more.length ≤ 15 ∧ mergeK [] more = more) (hd : H ca = some (.dK kvs)) (hl : kvs.length ≤ 1000)
    (k : ∀ p H2 more, H p = none → ca ≠ p → Ex H H2 → H2 p = some (.dK []) → Lk more H2 → tz D σ (upd (upd H2 p (.dK more)) ca (.dK (mergeK kvs more)))) :
    tSeq (tDrop (tBM K "dict" rDUpd ta (tCons (tDisp trs) tNil))) tz D σ H :=
  ha H (Ex.refl H) H (Ex.refl H) _ fun H1 e1 => ⟨.inr (.inr (.inl ⟨rfl, .inl ⟨_, e1 _ _ hd⟩⟩)), fun p hp => h _ (e1.trans (Ex.new hp)) _ fun more H2 e2 l => by
    obtain ⟨h15, hm⟩ := hk more H2 l
    have hwp : ca ≠ p := ne_of_none (e1 _ _ hd) hp
    have hp0 := fresh_back e1 hp
    have e3 : Ex H H2 := e1.trans ((Ex.new hp).trans e2)
    refine ⟨e2 _ _ upd_same, more, rfl, h15, ca, p, kvs, more, rfl, rfl, hwp, ?_, by rw [hm]; exact upd_same, sz_of (by omega), ?_⟩
    · rw [upd_ne hwp]
      exact e3 _ _ hd
    · rw [hm]
      exact k p H2 more hp0 hwp e3 (e2 _ _ upd_same) l⟩
/-- l + new -/
theorem erl_cat {l : Addr} {xs : List V} {ds : List PyData} {n : Nat} (ha : Ev ta σ H (.ref l)) (hl : H l = some (.lst xs)) (hT : TdAll H xs ds) (hb : EvRL tb σ H L) (hn : ∀ es, L es → es.length ≤ n) (hz : ds.length + n ≤ 100000) : EvRL (tOp rCat ta tb) σ H (fun zs => ∃ es, L es ∧ zs = ds ++ es) := fun H1 e Q q =>
  ha H1 e _ fun H2 e2 => hb H2 (e.trans e2) _ fun p H3 ys es r hp e3 h3 hy => ⟨l, p, xs, ys, rfl, rfl, e3 l _ (e2 l _ (e l _ hl)), h3, sz_of (by rw [hT.len, hy.len]; have := hn es r; omega), fun c hc =>
    q c _ _ _ ⟨es, r, rfl⟩ (fresh_back (e2.trans e3) hc) ((e2.trans e3).trans (Ex.new hc)) upd_same (TdAll.tx (Tx.of (Ex.new hc)) _ _ ((TdAll.tx (Tx.of ((e.trans e2).trans e3)) _ _ hT).app hy))⟩
/-- new + new -/
theorem erl_catN {n1 n2 : Nat} (ha : EvRL ta σ H L1) (hb : EvRL tb σ H L2) (h1 : ∀ es, L1 es → es.length ≤ n1) (h2 : ∀ es, L2 es → es.length ≤ n2) (hz : n1 + n2 ≤ 100000) : EvRL (tOp rCat ta tb) σ H (fun zs => ∃ ds es, L1 ds ∧ L2 es ∧ zs = ds ++ es) := fun H1 e Q q =>
  ha H1 e _ fun l H2 xs ds r1 hl0 e2 hl hT => hb H2 (e.trans e2) _ fun p H3 ys es r hp e3 h3 hy => ⟨l, p, xs, ys, rfl, rfl, e3 l _ hl, h3, sz_of (by rw [hT.len, hy.len]; have := h1 ds r1; have := h2 es r; omega), fun c hc =>
    q c _ _ _ ⟨ds, es, r1, r, rfl⟩ (fresh_back (e2.trans e3) hc) ((e2.trans e3).trans (Ex.new hc)) upd_same (TdAll.tx (Tx.of (Ex.new hc)) _ _ ((TdAll.tx (Tx.of e3) _ _ hT).app hy))⟩
theorem tdAll_rep {H : Hp} {xs : List V} {ds : List PyData} (h : TdAll H xs ds) : ∀ k, TdAll H (List.replicate k xs).flatten (List.replicate k ds).flatten
  | 0 => .nil
  | k + 1 => by
    rw [List.replicate_succ, List.replicate_succ, List.flatten_cons, List.flatten_cons]
    exact h.app (tdAll_rep h k)
theorem edl_rep {ds : List PyData} {k : Nat} {i : Int} (ha : EvDL ta σ H ds) (hb : Ev tb σ H (.int i)) (hi : i = (k : Int)) (hz : ds.length * k ≤ 100000) (hk : k ≤ 100000) : EvDL (tOp rRep ta tb) σ H (List.replicate k ds).flatten := fun H1 e Q q =>
  ha H1 e _ fun l H2 xs hl0 e2 hl hT => hb H2 (e.trans e2) _ fun H3 e3 => ⟨l, i, xs, rfl, rfl, e3 l _ hl, by subst hi; omega, by subst hi; omega, by
    subst hi
    rw [hT.len]
    exact sz_of hz, fun c hc => q c _ _ (fresh_back (e2.trans e3) hc) ((e2.trans e3).trans (Ex.new hc)) upd_same (by
      subst hi
      exact TdAll.tx (Tx.of (e3.trans (Ex.new hc))) _ _ (tdAll_rep hT k))⟩
theorem et_yes : EvT tYes σ H true := fun H1 _ Q q => q H1 (Ex.refl _)
/-- [e for x in xs if ..] -/
theorem erl_lcF {a : Addr} {xs : List V} {ds : List PyData} {j : Nat} {vs : List Nat} (h : Ev tl σ H (.ref a)) (hx : H a = some (.lst xs)) (hT : TdAll H xs ds) (hz : ds.length ≤ 40000) (hw : ∀ x, wipe ((wipe σ vs).set j (some x)) vs = wipe σ vs)
    (he : ∀ (x : V) (d : PyData) H1, Ex H H1 → d ∈ ds → Td H1 x d → ∃ b, EvT t ((wipe σ vs).set j (some x)) H1 b ∧ (b = true → EvR te ((wipe σ vs).set j (some x)) H1 R)) : EvRL (tLc (iList K tl) (gName j) t te vs) σ H (fun es => es.length ≤ ds.length ∧ ∀ d ∈ es, R d) := fun H0 e Q q => h H0 e _ fun H1 e1 => ⟨a, rfl, ⟨xs, sq_of ((e.trans e1) _ _ hx)⟩, fun Dl hD => by
  have hx1 := (e.trans e1) _ _ hx
  have hT1 := TdAll.tx (Tx.of (e.trans e1)) _ _ hT
  refine lc_it (walk_list (K := K) (a := a) (xs := xs)) (fun i H' => ∃ acc es, Ex H1 H' ∧ H' Dl = some (.lst acc) ∧ TdAll H' acc es ∧ es.length ≤ i ∧ ∀ d ∈ es, R d) ⟨[], [], Ex.new hD, upd_same, .nil, Nat.le_refl _, fun _ h => by cases h⟩ (fun _ H' _ ⟨_, _, e2, _⟩ => sq_of (e2 _ _ hx1)) ?_ ?_
  · rintro i x H2 H3 hi ⟨acc, es, e2, hDl, hA, hes, hR⟩ ⟨rfl, hxi⟩
    refine ⟨hw x, ?_⟩
    have hlen := hT1.len
    have hi2 : i < ds.length := by omega
    have hd : ds[i]? = some ds[i] := List.getElem?_eq_getElem hi2
    obtain ⟨v, hv, hTv⟩ := td_get hT1 hd
    rw [hxi] at hv
    cases hv
    obtain ⟨b, h1, h2⟩ := he x ds[i] H3 ((e.trans e1).trans e2) (List.getElem_mem hi2) (Td.tx (Tx.of e2) _ _ hTv)
    refine h1 H3 (Ex.refl _) _ fun H4 e4 => ?_
    cases b with
    | false =>
      rw [if_neg (by decide)]
      exact ⟨acc, es, e2.trans e4, e4 _ _ hDl, TdAll.tx (Tx.of e4) _ _ hA, by omega, hR⟩
    | true =>
      rw [if_pos rfl]
      refine h2 rfl H4 e4 _ fun y H5 d r e5 hy => ?_
      have hal := hA.len
      refine ⟨acc, (e4.trans e5) _ _ hDl, sz_lt (by omega), acc ++ [y], es ++ [d], Ex.mut (e2.trans (e4.trans e5)) hD, upd_same, ?_, by rw [List.length_append, List.length_singleton]; omega, fun d2 hd2 => ?_⟩
      · have tx : Tx H5 (upd H5 Dl (.lst (acc ++ [y]))) := Tx.lst ((e4.trans e5) _ _ hDl)
        exact (TdAll.tx ((Tx.of (e4.trans e5)).trans tx) _ _ hA).snoc (Td.tx tx _ _ hy)
      · rcases List.mem_append.mp hd2 with z | z
        · exact hR d2 z
        · rw [List.mem_singleton.mp z]
          exact r
  · rintro H2 ⟨acc, es, e2, hDl, hA, hes, hR⟩
    exact q Dl H2 acc es ⟨by rw [← hT1.len]; exact hes, hR⟩ (fresh_back e1 hD) (e1.trans e2) hDl hA⟩
/-- .. over a list of texts -/
theorem erl_lcS {a : Addr} {us : List (List Nat)} {j : Nat} {vs : List Nat} (h : Ev tl σ H (.ref a)) (hx : H a = some (.lst (us.map fun z => V.str (S z)))) (hz : us.length ≤ 40000) (hw : ∀ x, wipe ((wipe σ vs).set j (some x)) vs = wipe σ vs)
    (he : ∀ (z : List Nat) H1, Ex H H1 → z ∈ us → EvR te ((wipe σ vs).set j (some (.str (S z)))) H1 R) : EvRL (tLc (iList K tl) (gName j) tYes te vs) σ H (fun es => es.length ≤ us.length ∧ ∀ d ∈ es, R d) := by
  have hT : ∀ us : List (List Nat), TdAll H (us.map fun z => V.str (S z)) (us.map fun z => PyData.str (S z)) := fun us => by
    induction us with
    | nil => exact .nil
    | cons z us ih => exact .cons (.str _) ih
  have := erl_lcF (K := K) (t := tYes) (te := te) (R := R) (j := j) h hx (hT us) (by rw [List.length_map]; exact hz) hw (fun x d H1 e hd hT => ⟨true, et_yes, fun _ => by
    obtain ⟨z, hz, rfl⟩ := List.mem_map.mp hd
    cases hT
    exact he z H1 e hz⟩)
  rw [List.length_map] at this
  exact this
/-- t[i] -/
theorem er_ixT {v : V} {ds : List PyData} {j : Nat} {d : PyData} (ha : Ev ta σ H v) (hv : Td H v (.tuple ds)) (hj : ds[j]? = some d) : EvR (tOp (rIxT K) ta (tC (.int (j : Int)))) σ H (· = d) := er_of (ed_ixTd ha hv ev_c hj)
theorem cutP_from {ds : List PyData} {k : Nat} (h : k ≤ ds.length) : cutDs ds (some (k : Int)) none = ds.drop k := by
  have h1 : HT.sIx ds.length 0 (some (k : Int)) = k := by
    rw [HT.sIx_nat]
    omega
  have h2 : HT.sIx ds.length ds.length none = ds.length := rfl
  unfold cutDs
  rw [h1, h2]
  exact List.take_of_length_le (by rw [List.length_drop]; omega)
theorem cutP_to {ds : List PyData} {k : Nat} (h : k ≤ ds.length) : cutDs ds none (some (k : Int)) = ds.take k := by
  have h1 : HT.sIx ds.length 0 none = 0 := rfl
  have h2 : HT.sIx ds.length ds.length (some (k : Int)) = k := by
    rw [HT.sIx_nat]
    omega
  unfold cutDs
  rw [h1, h2]
  rfl
theorem ed_slF {v : V} {ds : List PyData} {k : Nat} (ha : Ev ta σ H v) (hv : Td H v (.tuple ds)) (h : k ≤ ds.length) : EvD (tSl (rSlA K) ta (tPart (tC (.int (k : Int)))) tNoPart) σ H (.tuple (ds.drop k)) := ed_slT ha hv (eo_some ev_c) eo_none (cutP_from h)
theorem ed_slTo {v : V} {ds : List PyData} {k : Nat} (ha : Ev ta σ H v) (hv : Td H v (.tuple ds)) (h : k ≤ ds.length) : EvD (tSl (rSlA K) ta tNoPart (tPart (tC (.int (k : Int))))) σ H (.tuple (ds.take k)) := ed_slT ha hv eo_none (eo_some ev_c) (cutP_to h)
/-- return f(..) -/
theorem s_retC {sp : Sp} {E : XK} (h : tr σ H fun vs H1 => sp (vs ++ []) H1 D.rt E) : tRet (tCall sp [] E tr) D σ H := h
theorem s_retS {z : List Nat} (h : EvS te σ H z) (k : ∀ H1, Ex H H1 → D.rt (.str (S z)) H1) : tRet te D σ H := h H (Ex.refl H) _ k
/-- if c: x = e, then the rest, told by what both ways reach -/
theorem q_whenK2 {b : Bool} (M : List (Option V) → Hp → Prop) (h : EvT t σ H b) (k : ∀ σ' H', M σ' H' → tz D σ' H') (h1 : (∀ σ' H', M σ' H' → tz D σ' H') → b = true → ∀ H1, Ex H H1 → tu { D with nx := tz D } σ H1) (h2 : b = false → ∀ H1, Ex H H1 → M σ H1) : tSeq (tIfS t tu tNext) tz D σ H := q_when h (h1 k) fun b H1 e => k σ H1 (h2 b H1 e)
end
end Wt

set_option Elab.async false
set_option linter.all false
set_option maxRecDepth 100000
set_option maxHeartbeats 4000000
namespace Wt
open PySem PySem.Spec PyProof.Rows L2 SX Evl
open C8 (Def Cal cal0 fnScope_by fnScope)
/-! _law_filled: what a file tells is drawn. -/
def Kd2 (k : List Nat) : Prop := k = kNum ∨ k = oYes
def Kd3 (k : List Nat) : Prop := k = [] ∨ k = kNum ∨ k = oYes
def ToldWd (w : List Nat) : Prop := w = oConst ∨ w = oKeep ∨ w = oDef
/-- parts as they are drawn -/
def PartK (p : PyData) : Prop := ∃ n k, p = .tuple [.none, .str (S n), .str (S k)] ∧ Good kName n ∧ Kd2 k
theorem PartK.raw {p : PyData} (h : PartK p) : RawPart p := by
  obtain ⟨n, k, e, g, hk⟩ := h
  refine ⟨n, k, e, g, ?_⟩
  rcases hk with rfl | rfl <;> decide
/-- what is told, as it is planned: word, out, name, parts, kind -/
def PlanOk (d : PyData) : Prop := ∃ w o n ps k, d = .tuple [.str (S w), .none, .bool o, .str (S n), .tuple ps, .str (S k)] ∧ ToldWd w ∧ Good kName n ∧ ps.length ≤ 3 ∧ (∀ p ∈ ps, PartK p) ∧ Kd3 k ∧ (w ≠ oDef → Kd2 k)
/-- what may be named: word, file, name, parts, kind -/
def AllOk (d : PyData) : Prop := ∃ w f n ps k, d = .tuple [.str (S w), .str (S f), .str (S n), .tuple ps, .str (S k)] ∧ ToldWd w ∧ (f = [] ∨ Good kName f) ∧ Good kName n ∧ ps.length ≤ 3 ∧ (∀ p ∈ ps, PartK p) ∧ Kd3 k ∧ (w ≠ oDef → Kd2 k)
/-- .. of a def, without its word -/
def DefA (d : PyData) : Prop := ∃ f n ps k, d = .tuple [.str (S f), .str (S n), .tuple ps, .str (S k)] ∧ (f = [] ∨ Good kName f) ∧ Good kName n ∧ ps.length ≤ 3 ∧ (∀ p ∈ ps, PartK p) ∧ Kd3 k
def MineOk (d : PyData) : Prop := ∃ k n, d = .tuple [.str (S k), .str (S []), .str (S n)] ∧ Kd2 k ∧ Good kName n
theorem MineOk.name {d : PyData} (h : MineOk d) : NameOk d := by
  obtain ⟨k, n, e, _, g⟩ := h
  exact ⟨k, [], n, e, .inl rfl, g⟩
theorem lits_t : Str.ofString "const" = S oConst ∧ Str.ofString "keep" = S oKeep ∧ Str.ofString "def" = S oDef ∧ Str.ofString "give" = S oGive ∧ Str.ofString "" = S [] := by
  refine ⟨?_, ?_, ?_, ?_, ?_⟩ <;> decide +kernel
def sgns2 : List (List Nat) := [[43], [45]]
def sgns5 : List (List Nat) := [[43], [45], [42], [47], oMod]
theorem lits_s : Str.ofString "+" = S [43] ∧ Str.ofString "-" = S [45] ∧ Str.ofString "*" = S [42] ∧ Str.ofString "/" = S [47] ∧ Str.ofString "mod" = S oMod := by
  refine ⟨?_, ?_, ?_, ?_, ?_⟩ <;> decide +kernel
def AllP (Pd : PyData → Prop) (N : Nat) : List PyData → Prop := fun ds => (∀ d ∈ ds, Pd d) ∧ ds.length ≤ N
theorem LAtP.lat {H : Hp} {l : Addr} {Pd : PyData → Prop} {N : Nat} (h : LAtP H l (AllP Pd N)) : LAt H l Pd N := by
  obtain ⟨vs, ds, h1, h2, h3, h4⟩ := h
  exact ⟨vs, ds, h1, h2, h3, h4⟩
theorem LAt.latp {H : Hp} {l : Addr} {Pd : PyData → Prop} {N : Nat} (h : LAt H l Pd N) : LAtP H l (AllP Pd N) := by
  obtain ⟨vs, ds, h1, h2, h3, h4⟩ := h
  exact ⟨vs, ds, h1, h2, h3, h4⟩
/-- names, defs, signs -/
def c3 (ln ld lg : Addr) : List (Key × V) := [(lkN, .ref ln), (lkD, .ref ld), (lkS, .ref lg)]
theorem c3_made {a b : V} : mergeK [] [(lkN, a), (lkD, b)] = [(lkN, a), (lkD, b)] := by
  have h5 : lkN ≠ lkD := cb_ne.2.2.2.1
  unfold mergeK
  simp only [List.foldl_cons, List.foldl_nil, putK, List.any_nil, List.any_cons, Bool.or_false, Bool.false_eq_true, if_false, List.nil_append, decide_eq_true_eq, h5, List.cons_append, Bool.or_self, decide_false]
theorem c3_putS {ln ld lg : Addr} : putK [(lkN, V.ref ln), (lkD, V.ref ld)] lkS (.ref lg) = c3 ln ld lg := by
  obtain ⟨h1, h2, h3, h4, h5, h6, h7, h8, h9, h10, h11, h12, h13, h14, h15, h16, h17, h18, h19, h20, h21⟩ := cb_ne
  unfold c3 putK
  simp only [List.any_cons, List.any_nil, decide_eq_true_eq, h6, h20, decide_false, Bool.or_self, Bool.false_eq_true, if_false, List.cons_append, List.nil_append]
theorem c3_putN {ln ld lg : Addr} {v : V} : putK (c3 ln ld lg) lkN v = [(lkN, v), (lkD, .ref ld), (lkS, .ref lg)] := by
  obtain ⟨h1, h2, h3, h4, h5, h6, h7, h8, h9, h10, h11, h12, h13, h14, h15, h16, h17, h18, h19, h20, h21⟩ := cb_ne
  unfold c3 putK
  simp only [List.any_cons, decide_eq_true_eq, decide_true, Bool.true_or, if_true, List.map_cons, List.map_nil, h4.symm, h6.symm, if_false]
theorem c3_n {ln ld lg : Addr} : valV (c3 ln ld lg) lkN = some (.ref ln) := valV_pos (p := (lkN, V.ref ln)) rfl
theorem c3_d {ln ld lg : Addr} : valV (c3 ln ld lg) lkD = some (.ref ld) := by
  unfold c3
  rw [valV_neg (p := (lkN, V.ref ln)) cb_ne.2.2.2.1, valV_pos (p := (lkD, V.ref ld)) rfl]
theorem c3_s {ln ld lg : Addr} : valV (c3 ln ld lg) lkS = some (.ref lg) := by
  obtain ⟨h1, h2, h3, h4, h5, h6, h7, h8, h9, h10, h11, h12, h13, h14, h15, h16, h17, h18, h19, h20, h21⟩ := cb_ne
  unfold c3
  rw [valV_neg (p := (lkN, V.ref ln)) h6, valV_neg (p := (lkD, V.ref ld)) h20, valV_pos (p := (lkS, V.ref lg)) rfl]
/-- what consts and keeps are drawn from, at ca; what is found, at fl -/
structure FC (H : Hp) (ca fl ln ld lg : Addr) (N : Nat) : Prop where
  d : H ca = some (.dK (c3 ln ld lg))
  n : LAt H ln NameOk N
  f : H ld = some (.lst [])
  g : H lg = some (tL sgns2)
  n1 : ln ≠ fl
  f1 : ld ≠ fl
  g1 : lg ≠ fl
theorem FC.go {H H' : Hp} {ca fl ln ld lg : Addr} {N : Nat} (h : FC H ca fl ln ld lg N) (e : Ex H H') : FC H' ca fl ln ld lg N := ⟨e _ _ h.d, h.n.ex e, e _ _ h.f, e _ _ h.g, h.n1, h.f1, h.g1⟩
theorem FC.ctx {H : Hp} {ca fl ln ld lg : Addr} {N : Nat} (h : FC H ca fl ln ld lg N) (hN : N ≤ 900) : CtxC H ca 3 := by
  obtain ⟨nv, nds, n1, n2, n3, n4⟩ := h.n
  exact ⟨_, ln, ld, lg, nv, [], nds, [], sgns2, h.d, c3_n, c3_d, c3_s, n1, n2, n3, by omega, h.f, .nil, (fun _ z => by cases z), by show 0 ≤ 900; decide, h.g, by decide, by decide, by decide⟩
theorem LAt.lst {H : Hp} {l p : Addr} {Pd : PyData → Prop} {N : Nat} {xs ys : List V} (h : LAt H l Pd N) (hp : H p = some (.lst xs)) (hn : l ≠ p) : LAt (upd H p (.lst ys)) l Pd N := (h.latp.lst hp hn).lat
theorem LAt.dK {H : Hp} {l p : Addr} {Pd : PyData → Prop} {N : Nat} {ks ls : List (Key × V)} (h : LAt H l Pd N) (hp : H p = some (.dK ks)) : LAt (upd H p (.dK ls)) l Pd N := (h.latp.dK hp).lat
theorem FC.add {H : Hp} {ca fl ln ld lg : Addr} {N : Nat} {xs ys : List V} (h : FC H ca fl ln ld lg N) (hf : H fl = some (.lst xs)) : FC (upd H fl (.lst ys)) ca fl ln ld lg N := ⟨by rw [upd_ne (ne_of h.d hf (by intro z; cases z))]; exact h.d, h.n.lst hf h.n1, by rw [upd_ne h.f1]; exact h.f, by rw [upd_ne h.g1]; exact h.g, h.n1, h.f1, h.g1⟩
theorem rawTolds_snoc {h : Nat} : ∀ {ds : List PyData} {L L1 : Nat} {d : PyData}, RawTolds h L ds → RawTold h L1 d → RawTolds h (L + L1) (ds ++ [d])
  | [], L, L1, d, _, r => RawTolds.cons (L1 := L1) (L2 := 0) r .nil (by omega)
  | x :: ds, L, L1, d, a, r => by
    cases a with
    | @cons _ La Lb _ _ r1 a1 hL => exact .cons r1 (rawTolds_snoc a1 r) (by omega)
def spFilled (K : PySem.W.Frag) : Sp := fun vs H Q _ => ∃ (d a pl al us : Addr) (ns : List Int) (pv av : List V) (pds ads : List PyData) (uw : List (List Nat)), vs = [.ref d, .ref pl, .ref al, .ref us] ∧ Dc K H d a ns ∧ H pl = some (.lst pv) ∧ TdAll H pv pds ∧ (∀ p ∈ pds, PlanOk p) ∧ pds.length ≤ 8 ∧
  H al = some (.lst av) ∧ TdAll H av ads ∧ (∀ p ∈ ads, AllOk p) ∧ ads.length ≤ 60 ∧ H us = some (tL uw) ∧ uw.length ≤ 60 ∧
  ∀ v H2 ds, Ex H H2 → Td H2 v (.tuple ds) → RawTolds 4 (33 * pds.length) ds → ds.length = pds.length → Q v H2
section
variable {K : PySem.W.Frag} {σ : L2.St} {H H' : Hp} {ta tb te tx tl t1 t2 t3 td ti : TE} {tr : TA} {t u : TT} {D : Ends} {tu tw tz : TS} {gs : TGs} {E : XK} {Q : VK}
/-- c[k], x = [..], [] -/
theorem q_setNew {ca : Addr} {kvs : List (Key × V)} {k1 : Str} {i : Nat} {ts : List (List Nat)} (h1 : EvLT t1 σ H ts) (ha : ∀ H', Ev ta σ H' (.ref ca)) (hd : H ca = some (.dK kvs)) (hl : kvs.length < 1000)
    (k : ∀ p1 p2 H1, H p1 = none → H p2 = none → p1 ≠ p2 → ExB ca H H1 → H1 ca = some (.dK (putK kvs (Sum.inr k1 : Key) (.ref p1))) → H1 p1 = some (tL ts) → H1 p2 = some (.lst []) → tz D (σ.set i (some (.ref p2))) H1) :
    tSeq (tAsg (tTup (tCons t1 (tCons (tLst tNil) tNil))) (gTup K 2 (gCons (gSub ta (tC (.str k1)) rSetD) (gCons (gName i) gNil)))) tz D σ H :=
  h1 H (Ex.refl H) _ fun p1 H2 hp1 e2 hp1' => ⟨Nat.zero_le _, fun p2 hp2 => ⟨by show 2 ≤ sizeLine; decide, fun c hc => by
    have e3 := Ex.new (o := HO.lst []) hp2
    have e4 := Ex.new (o := HO.tup [V.ref p1, .ref p2]) hc
    refine ⟨c, [.ref p1, .ref p2], rfl, st_of upd_same, rfl, .ref p1, [.ref p2], rfl, ?_⟩
    have n1 : ca ≠ p1 := ne_of_none hd hp1
    have n2 : ca ≠ p2 := ne_of_none (e2 _ _ hd) hp2
    have n12 : p1 ≠ p2 := ne_of_none hp1' hp2
    have e24 := (e2.trans e3).trans e4
    have hp1'' := (e3.trans e4) _ _ hp1'
    have hp2'' := e4 _ _ (upd_same (H := H2) (a := p2) (o := HO.lst []))
    generalize upd (upd H2 p2 (.lst [])) c (.tup [V.ref p1, .ref p2]) = H4 at e4 e24 hp1'' hp2''
    refine ha H4 H4 (Ex.refl _) _ fun H5 e5 => ev_c H5 (Ex.refl H5) _ fun H6 e6 => ?_
    have e26 := e24.trans (e5.trans e6)
    refine ⟨ca, _, rfl, DPut.k (k := (Sum.inr k1 : Key)) (e26 _ _ hd) (sz_lt (by omega)), .ref p2, [], rfl, rfl, ?_⟩
    exact k p1 p2 _ hp1 (fresh_back e2 hp2) n12 (fun b o hb ho => by rw [upd_ne hb]; exact e26 b o ho) upd_same (by rw [upd_ne n1.symm]; exact (e5.trans e6) _ _ hp1'') (by rw [upd_ne n2.symm]; exact (e5.trans e6) _ _ hp2'')⟩⟩
theorem g_six {i1 i2 i3 i4 i5 i6 : Nat} {x : V} {d1 d2 d3 d4 d5 d6 : PyData} {Q : L2.St → Hp → Prop} (h : Td H x (.tuple [d1, d2, d3, d4, d5, d6])) (k : ∀ v1 v2 v3 v4 v5 v6, Td H v1 d1 → Td H v2 d2 → Td H v3 d3 → Td H v4 d4 → Td H v5 d5 → Td H v6 d6 → Q ((((((σ.set i1 (some v1)).set i2 (some v2)).set i3 (some v3)).set i4 (some v4)).set i5 (some v5)).set i6 (some v6)) H) : gTup K 6 (gCons (gName i1) (gCons (gName i2) (gCons (gName i3) (gCons (gName i4) (gCons (gName i5) (gCons (gName i6) gNil)))))) x σ H Q := by
  cases h with
  | @tup a xs _ h1 h2 =>
    cases h2 with
    | cons a1 h2 =>
      cases h2 with
      | cons a2 h2 =>
        cases h2 with
        | cons a3 h2 =>
          cases h2 with
          | cons a4 h2 =>
            cases h2 with
            | cons a5 h2 =>
              cases h2 with
              | cons a6 h2 =>
                cases h2
                exact ⟨a, _, rfl, st_of h1, rfl, _, _, rfl, _, _, rfl, _, _, rfl, _, _, rfl, _, _, rfl, _, _, rfl, rfl, k _ _ _ _ _ _ a1 a2 a3 a4 a5 a6⟩
theorem elt_listOf {l : Addr} {us : List (List Nat)} (h : Ev te σ H (.ref l)) (hl : H l = some (tL us)) : EvLT (tCB (rListS K) (tCons te tNil)) σ H us := el_list h (sq_of hl)
end
/-- the used names are new, the heap of a turn stays -/
theorem Ex.two {H H1 H2 : Hp} {a b : Addr} (e : Ex H H1) (ha : H a = none) (hb : H b = none) (x : Ex2 a b H1 H2) : Ex H H2 := fun c o ho => x c o (ne_of_none ho ha) (ne_of_none ho hb) (e c o ho)
end Wt

set_option Elab.async false
set_option linter.all false
set_option maxRecDepth 100000
set_option maxHeartbeats 4000000
namespace Wt
open PySem PySem.Spec PyProof.Rows L2 SX Evl
open C8 (Def Cal cal0 fnScope_by fnScope)
/-! _law_filled: the walk. -/
section
variable {K : PySem.W.Frag} {σ : L2.St} {H H' : Hp} {ta tb te tx tl t1 t2 t3 td ti : TE} {tr : TA} {t u : TT} {D : Ends} {tu tw tz : TS} {gs : TGs} {E : XK} {Q : VK} {R : PyData → Prop} {P P2 : V → Hp → Prop} {trs : List (TE × TE)}
theorem eps_consD {k : Str} {Lk : V → List (Key × V) → Hp → Prop} (h : EvP te σ H P) (up : Ups P) (hr : ∀ v H3, Ex H H3 → P v H3 → EPs trs σ H3 (Lk v)) : EPs ((tC (.str k), te) :: trs) σ H (fun l H' => ∃ v r, l = ((Sum.inr k : Key), v) :: r ∧ P v H' ∧ Lk v r H') := fun H1 e Q q =>
  ev_c H1 (Ex.refl _) _ fun H2 e2 => h H2 (e.trans e2) _ fun v H3 e3 p => hr v H3 ((e.trans e2).trans e3) p H3 (Ex.refl _) _ fun r H4 e4 l => q (((Sum.inr k : Key), v) :: r) H4 ((e2.trans e3).trans e4) ⟨v, r, rfl, up v H3 H4 e4 p, l⟩
theorem edl_catVV {l m : Addr} {xs ys : List V} {ds es : List PyData} (ha : Ev ta σ H (.ref l)) (hl : H l = some (.lst xs)) (hT : TdAll H xs ds) (hb : Ev tb σ H (.ref m)) (hm : H m = some (.lst ys)) (hT2 : TdAll H ys es) (hz : ds.length + es.length ≤ 100000) : EvDL (tOp rCat ta tb) σ H (ds ++ es) := fun H1 e Q q =>
  ha H1 e _ fun H2 e2 => hb H2 (e.trans e2) _ fun H3 e3 => ⟨l, m, xs, ys, rfl, rfl, ((e.trans e2).trans e3) l _ hl, ((e.trans e2).trans e3) m _ hm, sz_of (by rw [hT.len, hT2.len]; exact hz), fun c hc =>
    q c _ _ (fresh_back (e2.trans e3) hc) ((e2.trans e3).trans (Ex.new hc)) upd_same (TdAll.tx (Tx.of (((e.trans e2).trans e3).trans (Ex.new hc))) _ _ (hT.app hT2))⟩
/-- t + u, t may be empty -/
theorem er_catV {va : V} {ds1 : List PyData} (ha : Ev ta σ H va) (hv : Td H va (.tuple ds1)) (l1 : ds1.length ≤ 1000) (hb : EvR tb σ H R) (hR : ∀ d, R d → ∃ es, d = .tuple es ∧ es ≠ [] ∧ es.length ≤ 1000) : EvR (tOp (rCatA K) ta tb) σ H (fun d => ∃ es, R (.tuple es) ∧ d = .tuple (ds1 ++ es)) := fun H1 e Q q => ha H1 e _ fun H2 e2 => hb H2 (e.trans e2) _ fun y H3 d r e3 hy => by
  obtain ⟨es, rfl, hne, l2⟩ := hR d r
  have hv3 := Td.tx (Tx.of ((e.trans e2).trans e3)) _ _ hv
  cases hv3 with
  | @tup a xs _ h1 h2 =>
    cases hy with
    | @tup b ys _ g1 g2 =>
      have lx := h2.len
      have ly := g2.len
      refine ⟨a, b, xs, ys, rfl, rfl, st_of h1, st_of g1, sz_of (by omega), fun z => ?_, fun _ z => ?_, fun _ _ c hc => ?_⟩
      · subst z
        cases h2
        exact q _ H3 _ ⟨es, r, rfl⟩ (e2.trans e3) (.tup g1 g2)
      · rw [z] at ly
        exact absurd (List.length_eq_zero_iff.mp ly.symm) hne
      · exact q _ _ _ ⟨es, r, rfl⟩ ((e2.trans e3).trans (Ex.new hc)) (.tup upd_same (TdAll.tx (Tx.of (Ex.new hc)) _ _ (h2.app g2)))
theorem er_catDR {ds1 : List PyData} (ha : EvD ta σ H (.tuple ds1)) (l1 : ds1.length ≤ 1000) (hb : EvR tb σ H R) (hR : ∀ d, R d → ∃ es, d = .tuple es ∧ es ≠ [] ∧ es.length ≤ 1000) : EvR (tOp (rCatA K) ta tb) σ H (fun d => ∃ es, R (.tuple es) ∧ d = .tuple (ds1 ++ es)) := fun H1 e Q q => ha H1 e _ fun v H2 e2 hv => by
  have main := er_catV (K := K) (σ := σ) (ta := fun _ H Q => Q v H) (tb := tb) (fun H1 _ Q q => q H1 (Ex.refl _)) hv l1 (EvR.mono (e.trans e2) hb) hR H2 (Ex.refl _) Q fun w H3 d r e3 hw => q w H3 d r (e2.trans e3) hw
  exact main
theorem s_apR {l : Addr} {xs : List V} (hl : H l = some (.lst xs)) (ha : Ev ta σ H (.ref l)) (h : EvR te σ H R) (hz : xs.length < 100000) (k : ∀ v H1 d, R d → Ex H H1 → Td H1 v d → D.nx σ (upd H1 l (.lst (xs ++ [v])))) : tDrop (tBM K "list" rAppend ta (tCons te tNil)) D σ H := ha H (Ex.refl H) _ fun H1 e1 =>
  ⟨Or.inl ⟨rfl, xs, sq_of (e1 l _ hl)⟩, h H1 e1 _ fun v H2 d r e2 hv => ⟨l, xs, v, rfl, rfl, e2 l _ (e1 l _ hl), sz_lt hz, k v H2 d r (e1.trans e2) hv⟩⟩
theorem q_apR {l : Addr} {xs : List V} (hl : H l = some (.lst xs)) (ha : Ev ta σ H (.ref l)) (h : EvR te σ H R) (hz : xs.length < 100000) (k : ∀ v H1 d, R d → Ex H H1 → Td H1 v d → tz D σ (upd H1 l (.lst (xs ++ [v])))) : tSeq (tDrop (tBM K "list" rAppend ta (tCons te tNil))) tz D σ H := s_apR (D := { D with nx := tz D }) hl ha h hz k
theorem qn_whenK {B : Bool → Prop} (M : L2.St → Hp → Prop) (h : EvTN t σ H B) (k : ∀ σ' H', M σ' H' → tz D σ' H') (h1 : (∀ σ' H', M σ' H' → tz D σ' H') → B true → ∀ H1, Ex H H1 → tu { D with nx := tz D } σ H1) (h2 : B false → ∀ H1, Ex H H1 → M σ H1) : tSeq (tIfS t tu tNext) tz D σ H := qn_when h (h1 k) fun b H1 e => k σ H1 (h2 b H1 e)
theorem etn_gt {i z : Int} (ha : EvN ta σ H (fun v => ∃ z : Int, v = .int z ∧ 0 ≤ z ∧ z < i)) (hb : Ev tb σ H (.int z)) : EvTN (tTest (tOp (rI0 fun i j => .bl (decide (i > j))) ta tb)) σ H (fun _ => True) := etn_test (P := fun v => ∃ b, v = .bl b) (en_opV ha (fun _ _ => EvN.of hb) (by
  rintro x y ⟨z, rfl, _, _⟩ rfl
  exact ⟨_, ⟨_, rfl⟩, rv_I0⟩)) fun v ⟨b, h⟩ => ⟨b, h, True.intro⟩
theorem s_asgR {i : Nat} (h : EvR te σ H R) (k : ∀ v H1 d, R d → Ex H H1 → Td H1 v d → D.nx (σ.set i (some v)) H1) : tAsg te (gName i) D σ H := h H (Ex.refl H) _ k
theorem ev_int01 {b : Bool} (h : Ev te σ H (.bl b)) : Ev (tCB (fun xs H Q => (∃ i, xs = [.int i] ∧ Q (.int i) H) ∨ ∃ k, xs = [.bl k] ∧ Q (.int (if k then 1 else 0)) H) (tCons te tNil)) σ H (.int (((if b = true then 1 else 0 : Nat)) : Int)) := fun H1 e Q q => h H1 e _ fun H2 e2 => .inr ⟨b, rfl, by
  have := q H2 e2
  cases b <;> exact this⟩
/-- [e for x in t[i]] -/
theorem erl_lcTi {v : V} {es ds : List PyData} {i j : Nat} {vs : List Nat} (ha : Ev ta σ H v) (hv : Td H v (.tuple es)) (hi : es[i]? = some (.tuple ds)) (hz : ds.length ≤ 40000) (hw : ∀ x, wipe ((wipe σ vs).set j (some x)) vs = wipe σ vs)
    (he : ∀ (x : V) (d : PyData) H1, Ex H H1 → d ∈ ds → Td H1 x d → EvR te ((wipe σ vs).set j (some x)) H1 R) : EvRL (tLc (iTup K (tOp (rIxT K) ta (tC (.int (i : Int))))) (gName j) tYes te vs) σ H (fun es => es.length = ds.length ∧ ∀ d ∈ es, R d) := by
  obtain ⟨x, hT, hE⟩ := ev_ixTd (K := K) ha hv ev_c hi
  cases hT with
  | @tup a xs _ h1 h2 => exact erl_lcT hE h1 h2 hz hw he
end
def b4 (ln lu : Addr) (kd : List Nat) : List (Key × V) := [(lkN, .ref ln), (lkK, .str (S kd)), (lkL, .int 4), (lkU, .ref lu)]
theorem b4_made {a b c d : V} : mergeK [] [(lkN, a), (lkK, b), (lkL, c), (lkU, d)] = [(lkN, a), (lkK, b), (lkL, c), (lkU, d)] := by
  obtain ⟨h1, h2, h3, h4, h5, h6, h7, h8, h9, h10, h11, h12, h13, h14, h15, h16, h17, h18, h19, h20, h21⟩ := cb_ne
  unfold mergeK
  simp only [List.foldl_cons, List.foldl_nil, putK, List.any_nil, List.any_cons, Bool.or_false, Bool.false_eq_true, if_false, List.nil_append, decide_eq_true_eq, h1, h2, h3, h7, h8, h12, List.cons_append, Bool.or_self, decide_false]
theorem b4_putD {ln lu : Addr} {kd : List Nat} {v : V} : putK (b4 ln lu kd) lkD v = b4 ln lu kd ++ [(lkD, v)] := by
  obtain ⟨h1, h2, h3, h4, h5, h6, h7, h8, h9, h10, h11, h12, h13, h14, h15, h16, h17, h18, h19, h20, h21⟩ := cb_ne
  unfold b4 putK
  simp only [List.any_cons, List.any_nil, decide_eq_true_eq, h4, h9, h13, h16, decide_false, Bool.or_self, Bool.false_eq_true, if_false, List.cons_append, List.nil_append]
theorem b4_putE {ln lu : Addr} {kd : List Nat} {v x : V} : putK (b4 ln lu kd ++ [(lkD, v)]) lkE x = b4 ln lu kd ++ [(lkD, v), (lkE, x)] := by
  obtain ⟨h1, h2, h3, h4, h5, h6, h7, h8, h9, h10, h11, h12, h13, h14, h15, h16, h17, h18, h19, h20, h21⟩ := cb_ne
  unfold b4 putK
  simp only [List.any_cons, List.any_nil, decide_eq_true_eq, h5, h10, h14, h17, h19, decide_false, Bool.or_self, Bool.false_eq_true, if_false, List.cons_append, List.nil_append]
theorem b4_e {ln lu : Addr} {kd : List Nat} {v x : V} : valV (b4 ln lu kd ++ [(lkD, v), (lkE, x)]) lkE = some x := by
  obtain ⟨h1, h2, h3, h4, h5, h6, h7, h8, h9, h10, h11, h12, h13, h14, h15, h16, h17, h18, h19, h20, h21⟩ := cb_ne
  show valV [(lkN, .ref ln), (lkK, .str (S kd)), (lkL, .int 4), (lkU, .ref lu), (lkD, v), (lkE, x)] lkE = _
  rw [valV_neg (p := (lkN, V.ref ln)) h5, valV_neg (p := (lkK, V.str (S kd))) h10, valV_neg (p := (lkL, V.int 4)) h14, valV_neg (p := (lkU, V.ref lu)) h17, valV_neg (p := (lkD, v)) h19, valV_pos (p := (lkE, x)) rfl]
theorem es_made {a b : V} : mergeK [] [(lkE, a), (lkS, b)] = [(lkE, a), (lkS, b)] := by
  have h5 : lkE ≠ lkS := cb_ne.2.2.2.2.2.2.2.2.2.2.2.2.2.2.2.2.2.2.2.2
  unfold mergeK
  simp only [List.foldl_cons, List.foldl_nil, putK, List.any_nil, List.any_cons, Bool.or_false, Bool.false_eq_true, if_false, List.nil_append, decide_eq_true_eq, h5, List.cons_append, Bool.or_self, decide_false]
theorem b4_all {ln lu ld ls lg : Addr} {kd : List Nat} {x : V} : mergeK (b4 ln lu kd ++ [(lkD, .ref ld), (lkE, x)]) [(lkE, .ref ls), (lkS, .ref lg)] = cb ln kd 4 lu ld ls lg := by
  obtain ⟨h1, h2, h3, h4, h5, h6, h7, h8, h9, h10, h11, h12, h13, h14, h15, h16, h17, h18, h19, h20, h21⟩ := cb_ne
  unfold mergeK b4 cb
  simp only [List.foldl_cons, List.foldl_nil, putK, List.any_nil, List.any_cons, decide_eq_true_eq, decide_true, h5, h10, h14, h17, h19, h6, h11, h15, h18, h20, h21, decide_false, Bool.or_self, Bool.or_false, Bool.false_or, Bool.or_true, Bool.true_or, if_true, Bool.false_eq_true, if_false, List.map_cons, List.map_nil, List.cons_append, List.nil_append]
section
variable {P : Program} {w : World} {K : PySem.W.Frag} {mg : Str → Option Value} {base : Heap}
abbrev s__law_filled : Stmt := topS 24
theorem sc__law_filled : FnScope ["_law_d", "_law_plan", "_law_all_told", "_law_used", "_law_c", "_law_found", "_law_word_here", "_law_none", "_law_out", "_law_n", "_law_parts", "_law_kind", "_law_names", "_law_mine", "_law_b", "_law_defs", "_law_rows_here", "_law_one", "_law_part"] ["_law_d", "_law_plan", "_law_all_told", "_law_used"] (fnScope s__law_filled) := fnScope_by (by decide +kernel)
theorem ok_filled (T : ModsL K mg) {k : Nat} (hk : 5 ≤ k) (c__law_next : Cal P w K mg base 1 "_law_next" (spNext K) []) (c__law_e : Cal P w K mg base 5 "_law_e" (spEd K 3 3) []) (c__law_rows : Cal P w K mg base k "_law_rows" (spRowsG K 4) [])
    {f : Addr} {fd : FuncData} (F : Def K mg "_law_filled" s__law_filled f fd) (b : Binds K fd ["_law_d", "_law_plan", "_law_all_told", "_law_used"] []) : Cal P w K mg base (k + 1) "_law_filled" (spFilled K) [] := by
  refine cal0 F b .nil sc__law_filled (fun vs H Q E h => ?_) (fun cdv A outer s H vs Q E hr h => ?_)
  · obtain ⟨_, _, _, _, _, _, _, _, _, _, _, rfl, _⟩ := h
    rfl
  · obtain ⟨d, a, pl, al, us, ns, pz, av, pds, ads, uw, rfl, hD, hpl, hpT, hpOk, hpl8, hal, haT, haOk, hal60, hus, hus60, q⟩ := h
    have m_list := T.m_list
    have m_tuple := T.m_tuple
    have m_int := T.m_int
    have hu := hu_of hr
    have hu64 := hr.units
    obtain ⟨lC, lK, lD, lG, l0⟩ := lits_t
    obtain ⟨g1, g2, g3, g4, g5⟩ := lits_s
    refine ⟨_, (pss_cons (ps_set (i := 4) sc__law_filled.nd rfl (.inl rfl) (pe_disp (pps_cons pe_str (pe_lc (own := [("_law_one", 17)]) (g := (gName 17)) rfl sc__law_filled.nd (pi_list (pv 2)) (blkOk_by (N := ["_law_d", "_law_plan", "_law_all_told", "_law_used", "_law_c", "_law_found", "_law_word_here", "_law_none", "_law_out", "_law_n", "_law_parts", "_law_kind", "_law_names", "_law_mine", "_law_b", "_law_defs", "_law_rows_here", "_law_one", "_law_part"]) (sc := C8.fnScope s__law_filled) (by decide +kernel)) (fun _ _ _ _ _ => pg_name (i := 17) sc__law_filled.nd rfl (Or.inl rfl)) (fun _ _ _ _ _ => pts_one (PW.pt (pw_and (pt_cmpR op_eq (pe_ix (show IxR _ (rIxT K) from ix_tup) (pv 17) pe_int (fun _ _ => rfl)) pe_str (nomark _)) (pw_and1 (pt_cmpR op_ne (pe_ix (show IxR _ (rIxT K) from ix_tup) (pv 17) pe_int (fun _ _ => rfl)) pe_str (nomark _)))))) (fun _ _ _ _ _ => (pe_tup (pa_cons (pe_ix (show IxR _ (rIxT K) from ix_tup) (pv 17) pe_int (fun _ _ => rfl)) (pa_cons (pe_ix (show IxR _ (rIxT K) from ix_tup) (pv 17) pe_int (fun _ _ => rfl)) (pa_cons (pe_ix (show IxR _ (rIxT K) from ix_tup) (pv 17) pe_int (fun _ _ => rfl)) pa_nil)))))) (pps_cons pe_str (pe_lst pa_nil) pps_nil)) (by rfl) (by rfl) (by simp) (by decide)))
      (pss_cons (ps_asg (pe_tup (pa_cons (pe_lst (pa_cons pe_str (pa_cons pe_str pa_nil))) (pa_cons (pe_lst pa_nil) pa_nil))) (pg_tup rfl (pgs_cons (pg_sub (pv 4) pe_str (set_dict hu)) (pgs_cons (pg_name (i := 5) sc__law_filled.nd rfl (.inl rfl)) pgs_nil))))
      (pss_cons (ps_for PassesOwn.never rfl (pi_list (pv 1)) (pg_tup rfl (pgs_cons (pg_name (i := 6) sc__law_filled.nd rfl (.inl rfl)) (pgs_cons (pg_name (i := 7) sc__law_filled.nd rfl (.inl rfl)) (pgs_cons (pg_name (i := 8) sc__law_filled.nd rfl (.inl rfl)) (pgs_cons (pg_name (i := 9) sc__law_filled.nd rfl (.inl rfl)) (pgs_cons (pg_name (i := 10) sc__law_filled.nd rfl (.inl rfl)) (pgs_cons (pg_name (i := 11) sc__law_filled.nd rfl (.inl rfl)) pgs_nil))))))) (pss_one (ps_if (pt_cmpR op_eq (pv 6) pe_str (nomark _)) (pss_cons (ps_setLc (i := 12) (own := [("_law_one", 17)]) (g := (gName 17)) rfl sc__law_filled.nd rfl rfl (sw_true rfl rfl rfl (by decide +kernel)) (pi_list (pv 2)) (blkOk_by (N := ["_law_d", "_law_plan", "_law_all_told", "_law_used", "_law_c", "_law_found", "_law_word_here", "_law_none", "_law_out", "_law_n", "_law_parts", "_law_kind", "_law_names", "_law_mine", "_law_b", "_law_defs", "_law_rows_here", "_law_one", "_law_part"]) (sc := C8.fnScope s__law_filled) (by decide +kernel)) (fun _ _ _ _ _ => pg_name (i := 17) sc__law_filled.nd rfl (Or.inl rfl)) (fun _ _ _ _ _ => pts_one (pt_cmpR op_ne (pe_ix (show IxR _ (rIxT K) from ix_tup) (pv 17) pe_int (fun _ _ => rfl)) pe_str (nomark _))) (fun _ _ _ _ _ => (pe_tup (pa_cons (pe_ix (show IxR _ (rIxT K) from ix_tup) (pv 17) pe_int (fun _ _ => rfl)) (pa_cons (pe_ix (show IxR _ (rIxT K) from ix_tup) (pv 17) pe_int (fun _ _ => rfl)) (pa_cons (pe_ix (show IxR _ (rIxT K) from ix_tup) (pv 17) pe_int (fun _ _ => rfl)) pa_nil))))))
      (pss_cons (ps_setLc (i := 13) (own := [("_law_part", 18)]) (g := (gName 18)) (tt := tYes) rfl sc__law_filled.nd rfl rfl (sw_true rfl rfl rfl (by decide +kernel)) (pi_tup (pv 10)) (blkOk_by (N := ["_law_d", "_law_plan", "_law_all_told", "_law_used", "_law_c", "_law_found", "_law_word_here", "_law_none", "_law_out", "_law_n", "_law_parts", "_law_kind", "_law_names", "_law_mine", "_law_b", "_law_defs", "_law_rows_here", "_law_one", "_law_part"]) (sc := C8.fnScope s__law_filled) (by decide +kernel)) (fun _ _ _ _ _ => pg_name (i := 18) sc__law_filled.nd rfl (Or.inl rfl)) (fun _ _ _ _ _ => pts_nil) (fun _ _ _ _ _ => (pe_tup (pa_cons (pe_ix (show IxR _ (rIxT K) from ix_tup) (pv 18) pe_int (fun _ _ => rfl)) (pa_cons pe_str (pa_cons (pe_ix (show IxR _ (rIxT K) from ix_tup) (pv 18) pe_int (fun _ _ => rfl)) pa_nil))))))
      (pss_cons (ps_set (i := 14) sc__law_filled.nd rfl (.inl rfl) (pe_disp (pps_cons pe_str (pe_op op_cat (pv 12) (pv 13)) (pps_cons pe_str (pv 11) (pps_cons pe_str pe_int (pps_cons pe_str (pe_callTy call_list_of (by rfl) m_list Wt.bt_list (pa_cons (pv 3) pa_nil)) pps_nil)))) (by rfl) (by rfl) (by simp) (by decide)))
      (pss_cons (ps_setLc (i := 15) (own := [("_law_one", 17)]) (g := (gName 17)) rfl sc__law_filled.nd rfl rfl (sw_true rfl rfl rfl (by decide +kernel)) (pi_list (pv 2)) (blkOk_by (N := ["_law_d", "_law_plan", "_law_all_told", "_law_used", "_law_c", "_law_found", "_law_word_here", "_law_none", "_law_out", "_law_n", "_law_parts", "_law_kind", "_law_names", "_law_mine", "_law_b", "_law_defs", "_law_rows_here", "_law_one", "_law_part"]) (sc := C8.fnScope s__law_filled) (by decide +kernel)) (fun _ _ _ _ _ => pg_name (i := 17) sc__law_filled.nd rfl (Or.inl rfl)) (fun _ _ _ _ _ => pts_one (pt_cmpR op_eq (pe_ix (show IxR _ (rIxT K) from ix_tup) (pv 17) pe_int (fun _ _ => rfl)) pe_str (nomark _))) (fun _ _ _ _ _ => (pe_slice (show SlR _ (rSlA K) from sl_tupA) (pv 17) (po_some pe_int) po_none)))
      (pss_cons (ps_dput hu (pv 14) pe_str (pe_lc (own := [("_law_one", 17)]) (g := (gName 17)) (tt := tYes) rfl sc__law_filled.nd (pi_list (pv 15)) (blkOk_by (N := ["_law_d", "_law_plan", "_law_all_told", "_law_used", "_law_c", "_law_found", "_law_word_here", "_law_none", "_law_out", "_law_n", "_law_parts", "_law_kind", "_law_names", "_law_mine", "_law_b", "_law_defs", "_law_rows_here", "_law_one", "_law_part"]) (sc := C8.fnScope s__law_filled) (by decide +kernel)) (fun _ _ _ _ _ => pg_name (i := 17) sc__law_filled.nd rfl (Or.inl rfl)) (fun _ _ _ _ _ => pts_nil) (fun _ _ _ _ _ => (pe_op (show OpR _ (binaryOp .Add) (rCatA K) from op_catA) (pe_slice (show SlR _ (rSlA K) from sl_tupA) (pv 17) po_none (po_some pe_int)) (pe_tup (pa_cons (pe_callTy (show CallR _ (PySem.Value.type "tuple") (Wt.rTupO K) from call_tuple_of) (by rfl) m_tuple Wt.bt_tuple (pa_cons (pe_lc (own := [("_law_part", 18)]) (g := (gName 18)) (tt := tYes) rfl sc__law_filled.nd (show PI _ _ _ (iTup K _) from (pi_tup (pe_ix (show IxR _ (rIxT K) from ix_tup) (pv 17) pe_int (fun _ _ => rfl)))) (Wt.blkOk_any (N := ["_law_d", "_law_plan", "_law_all_told", "_law_used", "_law_c", "_law_found", "_law_word_here", "_law_none", "_law_out", "_law_n", "_law_parts", "_law_kind", "_law_names", "_law_mine", "_law_b", "_law_defs", "_law_rows_here", "_law_one", "_law_part"]) (by decide +kernel)) (fun _ _ _ _ _ => pg_name (i := 18) sc__law_filled.nd rfl (Or.inl rfl)) (fun _ _ _ _ _ => pts_nil) (fun _ _ _ _ _ => (pe_ix (show IxR _ (rIxT K) from ix_tup) (pv 18) pe_int (fun _ _ => rfl)))) pa_nil)) (pa_cons (pe_ix (show IxR _ (rIxT K) from ix_tup) (pv 17) pe_int (fun _ _ => rfl)) pa_nil)))))) rfl)
      (pss_cons (ps_dput hu (pv 14) pe_str (pe_lc (own := [("_law_one", 17)]) (g := (gName 17)) rfl sc__law_filled.nd (pi_list (pv 2)) (blkOk_by (N := ["_law_d", "_law_plan", "_law_all_told", "_law_used", "_law_c", "_law_found", "_law_word_here", "_law_none", "_law_out", "_law_n", "_law_parts", "_law_kind", "_law_names", "_law_mine", "_law_b", "_law_defs", "_law_rows_here", "_law_one", "_law_part"]) (sc := C8.fnScope s__law_filled) (by decide +kernel)) (fun _ _ _ _ _ => pg_name (i := 17) sc__law_filled.nd rfl (Or.inl rfl)) (fun _ _ _ _ _ => pts_one (PW.pt (pw_and (pt_cmpR op_eq (pe_ix (show IxR _ (rIxT K) from ix_tup) (pv 17) pe_int (fun _ _ => rfl)) pe_str (nomark _)) (pw_and1 (pt_cmpR op_eq (pe_ix (show IxR _ (rIxT K) from ix_tup) (pv 17) pe_int (fun _ _ => rfl)) pe_str (nomark _)))))) (fun _ _ _ _ _ => (pe_tup (pa_cons (pe_ix (show IxR _ (rIxT K) from ix_tup) (pv 17) pe_int (fun _ _ => rfl)) (pa_cons (pe_ix (show IxR _ (rIxT K) from ix_tup) (pv 17) pe_int (fun _ _ => rfl)) pa_nil))))) rfl)
      (pss_cons (ps_expr (pe_bm PySem.F.plainAttrs_dict PySem.F.slot_dict_update PySem.F.type_dict_update Wt.mt_dupdate (pv 14) (pa_cons (pe_disp (pps_cons pe_str (pe_op op_cat (pe_dget hu (pv 14) pe_str (fun _ _ => rfl)) (pe_lc (own := [("_law_one", 17)]) (g := (gName 17)) (tt := tYes) rfl sc__law_filled.nd (pi_list (pv 13)) (blkOk_by (N := ["_law_d", "_law_plan", "_law_all_told", "_law_used", "_law_c", "_law_found", "_law_word_here", "_law_none", "_law_out", "_law_n", "_law_parts", "_law_kind", "_law_names", "_law_mine", "_law_b", "_law_defs", "_law_rows_here", "_law_one", "_law_part"]) (sc := C8.fnScope s__law_filled) (by decide +kernel)) (fun _ _ _ _ _ => pg_name (i := 17) sc__law_filled.nd rfl (Or.inl rfl)) (fun _ _ _ _ _ => pts_nil) (fun _ _ _ _ _ => (pe_tup (pa_cons (pe_ix (show IxR _ (rIxT K) from ix_tup) (pv 17) pe_int (fun _ _ => rfl)) (pa_cons (pe_ix (show IxR _ (rIxT K) from ix_tup) (pv 17) pe_int (fun _ _ => rfl)) pa_nil)))))) (pps_cons pe_str (pe_lst (pa_cons pe_str (pa_cons pe_str (pa_cons pe_str (pa_cons pe_str (pa_cons pe_str pa_nil)))))) pps_nil)) (by rfl) (by rfl) (by simp) (by decide)) pa_nil)))
      (pss_cons (ps_set (i := 16) sc__law_filled.nd rfl (.inl rfl) (C8.pe_c c__law_rows hr (by first | decide | exact Nat.le_refl _ | omega) (by rfl) (pa_cons (pv 0) (pa_cons (pv 14) (pa_cons pe_int (pa_cons pe_int pa_nil))))))
      (pss_cons (ps_if (PW.pt (pw_and (pt_cmpR op_ne (pv 11) pe_str (nomark _)) (pw_and1 (pt_cmpR op_gt (C8.pe_c c__law_next hr (by first | decide | exact Nat.le_refl _ | omega) (by rfl) (pa_cons (pv 0) (pa_cons pe_int pa_nil))) pe_int (nomark _))))) (pss_one (ps_set (i := 16) sc__law_filled.nd rfl (.inl rfl) (pe_op op_catA (pv 16) (pe_tup (pa_cons (pe_tup (pa_cons pe_str (pa_cons pe_non (pa_cons (C8.pe_c c__law_e hr (by first | decide | exact Nat.le_refl _ | omega) (by rfl) (pa_cons (pv 0) (pa_cons (pv 11) (pa_cons (pv 14) (pa_cons pe_int pa_nil))))) pa_nil)))) pa_nil))))) pss_nil)
      (pss_one (ps_expr (pe_bm PySem.F.plainAttrs_list PySem.F.slot_list_append PySem.F.type_list_append mt_append (pv 5) (pa_cons (pe_tup (pa_cons (pv 6) (pa_cons pe_non (pa_cons (pv 8) (pa_cons (pv 9) (pa_cons (pv 10) (pa_cons (pv 11) (pa_cons (pv 16) (pa_cons pe_non pa_nil))))))))) pa_nil))))))))))))) (pss_cons (ps_expr (pe_bm PySem.F.plainAttrs_list PySem.F.slot_list_append PySem.F.type_list_append mt_append (pv 5) (pa_cons (pe_tup (pa_cons (pv 6) (pa_cons pe_non (pa_cons (pv 8) (pa_cons (pv 9) (pa_cons (C8.pe_c c__law_e hr (by first | decide | exact Nat.le_refl _ | omega) (by rfl) (pa_cons (pv 0) (pa_cons (pv 11) (pa_cons (pv 4) (pa_cons pe_int pa_nil))))) pa_nil)))))) pa_nil)))
      (pss_one (ps_dput hu (pv 4) pe_str (pe_op op_cat (pe_dget hu (pv 4) pe_str (fun _ _ => rfl)) (pe_op op_rep (pe_lst (pa_cons (pe_tup (pa_cons (pv 11) (pa_cons pe_str (pa_cons (pv 9) pa_nil)))) pa_nil)) (pe_callTy call_int1 (by rfl) m_int Wt.bt_int (pa_cons (pe_cmpR op_eq (pv 6) pe_str (nomark _)) pa_nil)))) rfl))))))
      (pss_one (ps_ret (pe_callTy call_tuple_of (by rfl) m_tuple Wt.bt_tuple (pa_cons (pv 5) pa_nil))))))), ?_⟩
    -- names of used files
    have comp1 : ∀ {σ : L2.St} {H' : Hp} {vs : List Nat}, Ex H H' → σ[2]? = some (some (.ref al)) → (∀ x, wipe ((wipe σ vs).set 17 (some x)) vs = wipe σ vs) → (∀ x, ((wipe σ vs).set 17 (some x))[17]? = some (some x)) → EvRL (tLc (iList K (tVar 2)) (gName 17) (tAnd (tTest (tOp rEq (tOp (rIxT K) (tVar 17) (tC (.int 0))) (tC (.str (Str.ofString "const"))))) (tTest (tOp rNe (tOp (rIxT K) (tVar 17) (tC (.int 1))) (tC (.str (Str.ofString "")))))) (tTup (tCons (tOp (rIxT K) (tVar 17) (tC (.int 4))) (tCons (tOp (rIxT K) (tVar 17) (tC (.int 1))) (tCons (tOp (rIxT K) (tVar 17) (tC (.int 2))) tNil)))) vs) σ H' (AllP NameOk 60) := fun e h2 hw hj =>
      (erl_lcF (R := NameOk) (ev_var h2) (e _ _ hal) (TdAll.tx (Tx.of e) _ _ haT) (by omega) hw fun x dx H1 e1 hdx hTx => by
        obtain ⟨w, f, n, ps, k0, rfl, hw, hf, hn, hp3, hps, hk3, hk2⟩ := haOk dx hdx
        exact ⟨_, et_and (et_test (ev_eqS (ev_ixTs (j := 0) (ev_var (hj _)) hTx ev_c rfl) (es_cl lC))) fun _ => et_test (ev_neS (ev_ixTs (j := 1) (ev_var (hj _)) hTx ev_c rfl) (es_cl l0)), fun _ => (er_of (ed_tup (ead_cons (ed_ixTd (j := 4) (ev_var (hj _)) hTx ev_c rfl) (ead_cons (ed_ixTd (j := 1) (ev_var (hj _)) hTx ev_c rfl) (ead_cons (ed_ixTd (j := 2) (ev_var (hj _)) hTx ev_c rfl) ead_nil))) (by show 3 ≤ 100000; decide))).imp fun _ h => h ▸ ⟨k0, f, n, rfl, hf, hn⟩⟩).imp fun ds h => ⟨h.2, Nat.le_trans h.1 hal60⟩
    refine q_disp (eps_cons (ep_RL (comp1 (Ex.refl H) rfl (fun _ => rfl) (fun _ => rfl))) nls_ups (eps_cons (ep_RL (erl_lst ear_nil (fun ds h => by rw [h]; exact Nat.zero_le _))) nls_ups eps_nil)) ?_ fun ca H1 kvs hca e1' e1 hkv hca1 => ?_
    · rintro kvs H' ⟨_, _, rfl, _, _, _, rfl, _, rfl⟩
      show 2 ≤ 15
      decide
    obtain ⟨_, _, rfl, ⟨ln, rfl, hln0, hln⟩, _, _, rfl, ⟨ld, rfl, hld0, hld⟩, rfl⟩ := hkv
    rw [show mergeK [] [((Sum.inr (Str.ofString "names") : Key), V.ref ln), (Sum.inr (Str.ofString "defs"), .ref ld)] = [(lkN, V.ref ln), (lkD, .ref ld)] from c3_made]
    have e2 : Ex H (upd H1 ca (.dK [(lkN, V.ref ln), (lkD, .ref ld)])) := Ex.mut e1 hca
    have hd2 : (upd H1 ca (.dK [(lkN, V.ref ln), (lkD, .ref ld)])) ca = some (.dK [(lkN, V.ref ln), (lkD, .ref ld)]) := upd_same
    have hln2 := hln.dK (ls := [(lkN, V.ref ln), (lkD, .ref ld)]) hca1
    have hld2 := hld.dK (ls := [(lkN, V.ref ln), (lkD, .ref ld)]) hca1
    generalize upd H1 ca (.dK [(lkN, V.ref ln), (lkD, .ref ld)]) = H2 at e2 hd2 hln2 hld2
    -- signs, found
    refine q_setNew (ts := sgns2) (elt_lst (eat_cons (es_cl g1) (eat_cons (es_cl g2) eat_nil)) (by show 2 ≤ 100000; decide)) (fun H' => ev_var rfl) hd2 (by show 2 < 1000; decide) fun lg fl H3 hlg0 hfl0 hne x3 hd3 hlg3 hfl3 => ?_
    rw [show putK [(lkN, V.ref ln), (lkD, .ref ld)] (Sum.inr (Str.ofString "signs") : Key) (V.ref lg) = c3 ln ld lg from c3_putS] at hd3
    have e3 : Ex H H3 := fun b o ho => x3 b o (ne_of_none ho hca) (e2 b o ho)
    have hfl : H fl = none := fresh_back e2 hfl0
    have hln3 : LAt H3 ln NameOk 60 := by
      obtain ⟨vs, ds, h1, h2, h3, h4⟩ := hln2
      exact ⟨vs, ds, x3 _ _ (ne_of h1 hd2 (by intro z; cases z)) h1, TdAll.tx (fun x xs hx => x3 x _ (ne_of hx hd2 (by intro z; cases z)) hx) _ _ h2, h3, h4⟩
    have hld3 : H3 ld = some (.lst []) := by
      obtain ⟨vs, ds, h1, h2, h3⟩ := hld2
      subst h3
      cases h2
      exact x3 _ _ (ne_of h1 hd2 (by intro z; cases z)) h1
    have hln2' : ln ≠ fl := by
      obtain ⟨vs, ds, h1, _⟩ := hln2
      exact ne_of_none h1 hfl0
    have hld2' : ld ≠ fl := by
      obtain ⟨vs, ds, h1, _⟩ := hld2
      exact ne_of_none h1 hfl0
    have hF3 : FC H3 ca fl ln ld lg (60 + 0) := ⟨hd3, hln3, hld3, hlg3, hln2', hld2', hne⟩
    clear hln hld hln2 hld2 hd2 x3 e2 hln3 hld3
    -- all that is planned
    refine q_forL (ev_var rfl) (sq_of (e3 _ _ hpl)) (fun i σ' H' => ∃ (ln : Addr) (vs : List V) (ds : List PyData) (y6 y7 y8 y9 y10 y11 y12 y13 y14 y15 y16 : Option V), σ' = [some (.ref d), some (.ref pl), some (.ref al), some (.ref us), some (.ref ca), some (.ref fl), y6, y7, y8, y9, y10, y11, y12, y13, y14, y15, y16, none, none] ∧ Ex H H' ∧ FC H' ca fl ln ld lg (60 + i) ∧ H' fl = some (.lst vs) ∧ TdAll H' vs ds ∧ RawTolds 4 (33 * i) ds ∧ ds.length = i)
      (fun H4 e4 => ⟨ln, [], [], none, none, none, none, none, none, none, none, none, none, none, rfl, e3.trans e4, hF3.go e4, e4 _ _ hfl3, .nil, .nil, rfl⟩) (fun i σ' H' _ ⟨_, _, _, _, _, _, _, _, _, _, _, _, _, _, _, e, _⟩ => sq_of (e _ _ hpl)) ?_ ?_
    · rintro i x σ' H4 hxi ⟨ln, vs, ds, y6, y7, y8, y9, y10, y11, y12, y13, y14, y15, y16, rfl, e4, hF, hfl4, hT4, hraw, hlen⟩
      have hpl' := hpT.len
      have hi : i < pds.length := by
        have := (List.getElem?_eq_some_iff.mp hxi).1
        omega
      obtain ⟨dp, hdp, hTx⟩ := (TdAll.tx (Tx.of e4) _ _ hpT).at hxi
      obtain ⟨wd, out, nm, ps, kd, rfl, hwd, hnm, hps3, hps, hkd3, hkd2⟩ := hpOk dp (List.mem_of_getElem? hdp)
      refine g_six hTx fun v1 v2 v3 v4 v5 v6 h1 h2 h3 h4 h5 h6 => ?_
      obtain rfl := td_S h1
      obtain rfl := td_S h4
      obtain rfl := td_S h6
      cases h2
      cases h3
      have hvs := hT4.len
      dsimp only [List.set]
      refine s_if (et_test (ev_eqS (ev_var rfl) (es_cl lD))) (fun hb H5 e5 => ?_) (fun hb H5 e5 => ?_)
      · have hwd0 : wd = oDef := of_decide_eq_true hb
        subst hwd0
        have e05 := e4.trans e5
        have hal5 := e05 _ _ hal
        have haT5 := TdAll.tx (Tx.of e05) _ _ haT
        have h5T := Td.tx (Tx.of e5) _ _ h5
        -- names
        refine q_asgRL ((erl_lcF (R := NameOk) (ev_var rfl) hal5 haT5 (by omega) (fun _ => rfl) fun x dx H1 e1 hdx hTx => ?_).imp (L1 := AllP NameOk 60) fun ds h => ⟨h.2, Nat.le_trans h.1 hal60⟩) fun l12 H6 n6 dn6 hdn6 hl12 e6 hn6 hnT6 => ?_
        · obtain ⟨w, f, n, ps, k0, rfl, hw, hf, hn, hp3, hps, hk3, hk2⟩ := haOk dx hdx
          exact ⟨_, et_test (ev_neS (ev_ixTs (j := 0) (ev_var rfl) hTx ev_c rfl) (es_cl lD)), fun _ => (er_of (ed_tup (ead_cons (ed_ixTd (j := 4) (ev_var rfl) hTx ev_c rfl) (ead_cons (ed_ixTd (j := 1) (ev_var rfl) hTx ev_c rfl) (ead_cons (ed_ixTd (j := 2) (ev_var rfl) hTx ev_c rfl) ead_nil))) (by show 3 ≤ 100000; decide))).imp fun _ h => h ▸ ⟨k0, f, n, rfl, hf, hn⟩⟩
        -- parts
        have h5T6 := Td.tx (Tx.of e6) _ _ h5T
        dsimp only [List.set]
        cases h5T6 with
        | @tup pa pxs _ hpa hpx =>
        refine q_asgRL ((erl_lcT (R := MineOk) (ev_var rfl) hpa hpx (by omega) (fun _ => rfl) fun x dx H1 e1 hdx hTx => ?_).imp (L1 := AllP MineOk 3) fun ds h => ⟨h.2, by omega⟩) fun l13 H7 n7 dn7 hdn7 hl13 e7 hn7 hnT7 => ?_
        · obtain ⟨n, k0, rfl, hn, hk0⟩ := hps dx hdx
          exact (er_of (ed_tup (ead_cons (ed_ixTd (j := 2) (ev_var rfl) hTx ev_c rfl) (ead_cons (ed_S (es_cl l0)) (ead_cons (ed_ixTd (j := 1) (ev_var rfl) hTx ev_c rfl) ead_nil))) (by show 3 ≤ 100000; decide))).imp fun _ h => h ▸ ⟨k0, n, rfl, hk0, hn⟩
        have e07 := e05.trans (e6.trans e7)
        dsimp only [List.set]
        -- what rows are drawn from
        refine q_disp (eps_consD (ep_RL (erl_of (edl_catVV (ev_var rfl) (e7 _ _ hn6) (TdAll.tx (Tx.of e7) _ _ hnT6) (ev_var rfl) hn7 hnT7 (by have := hdn6.2; have := hdn7.2; omega)))) nls_ups (fun v H3 e3 hv => eps_cons (ep_of (ev_var rfl)) ups_c (eps_cons (ep_of ev_c) ups_c (eps_cons (P := fun x H' => ∃ l, x = .ref l ∧ V.ref l ≠ v ∧ H7 l = none ∧ H' l = some (tL uw)) ((ep_LT (elt_listOf (ev_var rfl) ((e07.trans e3) _ _ hus))).imp fun x H' ⟨l, h1, h2, h3⟩ => ⟨l, h1, ?_, fresh_back e3 h2, h3⟩) (fun v H H' e ⟨l, h1, h2, h3, h4⟩ => ⟨l, h1, h2, h3, e _ _ h4⟩) eps_nil)))) ?_ fun pb H8 kvs hpb e8' e8 hkv hpb8 => ?_
        · intro z
          obtain ⟨m, hm, _, vs, ds, h5, _⟩ := hv
          rw [hm] at z
          cases z
          rw [h2] at h5
          cases h5
        · rintro kvs H' ⟨_, _, rfl, _, _, _, rfl, _, _, _, rfl, _, _, _, rfl, _, rfl⟩
          show 4 ≤ 15
          decide
        obtain ⟨_, _, rfl, ⟨lnb, rfl, hlnb0, hlnb⟩, _, _, rfl, rfl, _, _, rfl, rfl, _, _, rfl, ⟨lub, rfl, hne0, hlub0, hlub⟩, rfl⟩ := hkv
        have hne1 : lnb ≠ lub := fun z => hne0 (by rw [z])
        rw [show mergeK [] [((Sum.inr (Str.ofString "names") : Key), V.ref lnb), (Sum.inr (Str.ofString "kind"), .str (S kd)), (Sum.inr (Str.ofString "left"), .int 4), (Sum.inr (Str.ofString "used"), .ref lub)] = b4 lnb lub kd from b4_made]
        have e9 : Ex H7 (upd H8 pb (.dK (b4 lnb lub kd))) := Ex.mut e8 hpb
        have hpb9 : (upd H8 pb (.dK (b4 lnb lub kd))) pb = some (.dK (b4 lnb lub kd)) := upd_same
        have hlnb9 : LAt (upd H8 pb (.dK (b4 lnb lub kd))) lnb NameOk 63 := ((hlnb.imp (L2 := AllP NameOk 63) fun ds h => by
          subst h
          refine ⟨fun x hx => ?_, ?_⟩
          · rcases List.mem_append.mp hx with z | z
            · exact hdn6.1 x z
            · exact (hdn7.1 x z).name
          · rw [List.length_append]
            have := hdn6.2
            have := hdn7.2
            omega).dK hpb8).lat
        have hlub9 : (upd H8 pb (.dK (b4 lnb lub kd))) lub = some (tL uw) := by
          rw [upd_ne (ne_of hlub hpb8 (by intro z; cases z))]
          exact hlub
        generalize upd H8 pb (.dK (b4 lnb lub kd)) = H9 at e9 hpb9 hlnb9 hlub9
        clear hlnb hlub hpb8 e8 e8'
        have e09 := e07.trans e9
        dsimp only [List.set]
        -- defs
        refine q_asgRL ((erl_lcF (R := DefA) (ev_var rfl) (e09 _ _ hal) (TdAll.tx (Tx.of e09) _ _ haT) (by omega) (fun _ => rfl) fun x dx H1 e1 hdx hTx => ?_).imp (L1 := AllP DefA 60) fun ds h => ⟨h.2, Nat.le_trans h.1 hal60⟩) fun l15 H10 n10 dn10 hdn10 hl15 e10 hn10 hnT10 => ?_
        · obtain ⟨w, f, n, ps, k0, rfl, hw, hf, hn, hp3, hps, hk3, hk2⟩ := haOk dx hdx
          exact ⟨_, et_test (ev_eqS (ev_ixTs (j := 0) (ev_var rfl) hTx ev_c rfl) (es_cl lD)), fun _ => (er_of (ed_slF (k := 1) (ev_var rfl) hTx (by show 1 ≤ 5; decide))).imp fun _ h => h ▸ ⟨f, n, ps, k0, rfl, hf, hn, hp3, hps, hk3⟩⟩
        refine q_dputP (ep_RL ((erl_lcF (R := DefK) (ev_var rfl) hn10 hnT10 (by have := hdn10.2; omega) (fun _ => rfl) fun x dx H1 e1 hdx hTx => ?_).imp (L1 := AllP DefK 60) fun ds h => ⟨h.2, Nat.le_trans h.1 hdn10.2⟩)) nls_ups (fun H' e => ev_var rfl) (e10 _ _ hpb9) (by show 4 < 100000; decide) fun y H11 e11 hy => ?_
        · obtain ⟨f, n, ps, k0, rfl, hf, hn, hp3, hps, hk3⟩ := hdn10.1 dx hdx
          refine ⟨true, et_yes, fun _ => (er_catDR (ed_slTo (k := 2) (ev_var rfl) hTx (by show 2 ≤ 4; decide)) (by show 2 ≤ 1000; decide) (er_tup (ear_cons (er_tupleOf (erl_lcTi (i := 2) (R := fun p => p = .str (S kNum) ∨ p = .str (S oYes)) (ev_var rfl) hTx rfl (by omega) (fun _ => rfl) fun x2 dx2 H2 e2 hdx2 hTx2 => ?_)) (ear_one (ed_ixTd (j := 3) (ev_var rfl) hTx ev_c rfl) ear_nil)) ?_) ?_).imp ?_⟩
          · obtain ⟨n2, k2, rfl, hn2, hk2⟩ := hps dx2 hdx2
            exact (er_of (ed_ixTd (j := 2) (ev_var rfl) hTx2 ev_c rfl)).imp fun _ h => by
              subst h
              rcases hk2 with rfl | rfl
              · exact .inl rfl
              · exact .inr rfl
          · rintro _ ⟨_, _, rfl, _, _, rfl, rfl⟩
            show 2 ≤ 100000
            decide
          · rintro _ ⟨_, ⟨_, _, rfl, _, _, rfl, rfl⟩, rfl⟩
            exact ⟨_, rfl, List.cons_ne_nil _ _, by show 2 ≤ 1000; decide⟩
          · rintro _ ⟨_, ⟨_, ⟨_, _, rfl, ⟨es, ⟨hes1, hes2⟩, rfl⟩, _, rfl, rfl⟩, h⟩, rfl⟩
            cases h
            exact ⟨f, n, es, k0, rfl, hf, hn, by omega, hes2, hk3⟩
        obtain ⟨ld2, rfl, hld20, hld2⟩ := hy
        dsimp only [List.set]
        rw [show putK (b4 lnb lub kd) (Sum.inr (Str.ofString "defs") : Key) (V.ref ld2) = b4 lnb lub kd ++ [(lkD, .ref ld2)] from b4_putD]
        have hpb11 := e11 _ _ (e10 _ _ hpb9)
        have e12 : Ex H7 (upd H11 pb (.dK (b4 lnb lub kd ++ [(lkD, .ref ld2)]))) := Ex.mut (e9.trans (e10.trans e11)) hpb
        have hpb12 : (upd H11 pb (.dK (b4 lnb lub kd ++ [(lkD, .ref ld2)]))) pb = some (.dK (b4 lnb lub kd ++ [(lkD, .ref ld2)])) := upd_same
        have hlnb12 : LAt (upd H11 pb (.dK (b4 lnb lub kd ++ [(lkD, .ref ld2)]))) lnb NameOk 63 := (hlnb9.ex (e10.trans e11)).dK hpb11
        have hld12 : LAt (upd H11 pb (.dK (b4 lnb lub kd ++ [(lkD, .ref ld2)]))) ld2 DefK 60 := (hld2.dK hpb11).lat
        have hlub12 : (upd H11 pb (.dK (b4 lnb lub kd ++ [(lkD, .ref ld2)]))) lub = some (tL uw) := by
          rw [upd_ne (ne_of hlub9 hpb9 (by intro z; cases z))]
          exact (e10.trans e11) _ _ hlub9
        have hld2u : ld2 ≠ lub := (ne_of_none (e10 _ _ hlub9) hld20).symm
        generalize upd H11 pb (.dK (b4 lnb lub kd ++ [(lkD, .ref ld2)])) = H12 at e12 hpb12 hlnb12 hld12 hlub12
        clear hpb11 hld2 e11 hn10 hnT10 e10 hlnb9 hlub9 hpb9 e9 e09
        have e012 := e07.trans e12
        -- sets
        refine q_dputP (ep_RL ((erl_lcF (R := SetOk) (ev_var rfl) (e012 _ _ hal) (TdAll.tx (Tx.of e012) _ _ haT) (by omega) (fun _ => rfl) fun x dx H1 e1 hdx hTx => ?_).imp (L1 := AllP SetOk 60) fun ds h => ⟨h.2, Nat.le_trans h.1 hal60⟩)) nls_ups (fun H' e => ev_var rfl) hpb12 (by show 5 < 100000; decide) fun y H13 e13 hy => ?_
        · obtain ⟨w, f, n, ps, k0, rfl, hw, hf, hn, hp3, hps, hk3, hk2⟩ := haOk dx hdx
          refine ⟨_, et_and (et_test (ev_eqS (ev_ixTs (j := 0) (ev_var rfl) hTx ev_c rfl) (es_cl lK))) fun _ => et_test (ev_eqS (ev_ixTs (j := 1) (ev_var rfl) hTx ev_c rfl) (es_cl l0)), fun hz => (er_of (ed_tup (ead_cons (ed_ixTd (j := 4) (ev_var rfl) hTx ev_c rfl) (ead_cons (ed_ixTd (j := 2) (ev_var rfl) hTx ev_c rfl) ead_nil)) (by show 2 ≤ 100000; decide))).imp fun _ h => h ▸ ⟨k0, n, rfl, hk2 ?_, hn⟩⟩
          rw [Bool.and_eq_true] at hz
          rw [of_decide_eq_true hz.1]
          decide
        obtain ⟨ls1, rfl, hls10, hls1⟩ := hy
        rw [show putK (b4 lnb lub kd ++ [(lkD, .ref ld2)]) (Sum.inr (Str.ofString "sets") : Key) (V.ref ls1) = b4 lnb lub kd ++ [(lkD, .ref ld2), (lkE, .ref ls1)] from b4_putE]
        have hpb13 := e13 _ _ hpb12
        have e14 : Ex H7 (upd H13 pb (.dK (b4 lnb lub kd ++ [(lkD, .ref ld2), (lkE, .ref ls1)]))) := Ex.mut (e12.trans e13) hpb
        have hpb14 : (upd H13 pb (.dK (b4 lnb lub kd ++ [(lkD, .ref ld2), (lkE, .ref ls1)]))) pb = some (.dK (b4 lnb lub kd ++ [(lkD, .ref ld2), (lkE, .ref ls1)])) := upd_same
        have hlnb14 : LAt (upd H13 pb (.dK (b4 lnb lub kd ++ [(lkD, .ref ld2), (lkE, .ref ls1)]))) lnb NameOk 63 := (hlnb12.ex e13).dK hpb13
        have hld14 : LAt (upd H13 pb (.dK (b4 lnb lub kd ++ [(lkD, .ref ld2), (lkE, .ref ls1)]))) ld2 DefK 60 := (hld12.ex e13).dK hpb13
        have hls14 : LAt (upd H13 pb (.dK (b4 lnb lub kd ++ [(lkD, .ref ld2), (lkE, .ref ls1)]))) ls1 SetOk 60 := (hls1.dK hpb13).lat
        have hlub14 : (upd H13 pb (.dK (b4 lnb lub kd ++ [(lkD, .ref ld2), (lkE, .ref ls1)]))) lub = some (tL uw) := by
          rw [upd_ne (ne_of hlub12 hpb12 (by intro z; cases z))]
          exact e13 _ _ hlub12
        generalize upd H13 pb (.dK (b4 lnb lub kd ++ [(lkD, .ref ld2), (lkE, .ref ls1)])) = H14 at e14 hpb14 hlnb14 hld14 hls14 hlub14
        clear hpb13 hls1 e13 hlnb12 hlub12 hpb12 hld12 e12 e012
        obtain ⟨sv, sds, hsv, hsT, hsOk, hs60⟩ := hls14
        -- sets, signs
        refine q_updP (fun H' e => ev_var rfl) (eps_cons (P := NLs H14 (AllP SetOk 63)) (ep_RL ((erl_cat (n := 3) (ev_dget (ev_var rfl) ev_c hpb14 b4_e) hsv hsT ((erl_lcF (R := SetOk) (ev_var rfl) (e14 _ _ hn7) (TdAll.tx (Tx.of e14) _ _ hnT7) (by have := hdn7.2; omega) (fun _ => rfl) fun x dx H1 e1 hdx hTx => ?_)) (fun es h => Nat.le_trans h.1 hdn7.2) (by omega)).imp fun zs h => ?_)) nls_ups (eps_cons (ep_LT (elt_lst (ts := sgns5) (eat_cons (es_cl g1) (eat_cons (es_cl g2) (eat_cons (es_cl g3) (eat_cons (es_cl g4) (eat_cons (es_cl g5) eat_nil))))) (by show 5 ≤ 100000; decide))) ups_lt eps_nil)) ?_ hpb14 (by show 6 ≤ 1000; decide) fun p H15 more hp hpbp e15 hp15 hmore => ?_
        · obtain ⟨k0, n, rfl, hk0, hn⟩ := hdn7.1 dx hdx
          exact ⟨true, et_yes, fun _ => (er_of (ed_tup (ead_cons (ed_ixTd (j := 0) (ev_var rfl) hTx ev_c rfl) (ead_cons (ed_ixTd (j := 2) (ev_var rfl) hTx ev_c rfl) ead_nil)) (by show 2 ≤ 100000; decide))).imp fun _ h => h ▸ ⟨k0, n, rfl, hk0, hn⟩⟩
        · obtain ⟨es, ⟨h1, h2⟩, rfl⟩ := h
          refine ⟨fun x hx => ?_, ?_⟩
          · rcases List.mem_append.mp hx with z | z
            · exact hsOk x z
            · exact h2 x z
          · rw [List.length_append]
            have := hdn7.2
            omega
        · rintro more H' ⟨_, _, rfl, _, _, _, rfl, _, rfl⟩
          exact ⟨by show 2 ≤ 15; decide, es_made⟩
        obtain ⟨_, _, rfl, ⟨ls2, rfl, hls20, hls2⟩, _, _, rfl, ⟨lg2, rfl, hlg20, hlg2⟩, rfl⟩ := hmore
        rw [show mergeK (b4 lnb lub kd ++ [(lkD, .ref ld2), (lkE, .ref ls1)]) [((Sum.inr (Str.ofString "sets") : Key), V.ref ls2), (Sum.inr (Str.ofString "signs"), V.ref lg2)] = cb lnb kd 4 lub ld2 ls2 lg2 from b4_all]
        have hpb15 := e15 _ _ hpb14
        have hpb16 : (upd H15 p (.dK [((Sum.inr (Str.ofString "sets") : Key), V.ref ls2), (Sum.inr (Str.ofString "signs"), V.ref lg2)])) pb = some (.dK (b4 lnb lub kd ++ [(lkD, .ref ld2), (lkE, .ref ls1)])) := by
          rw [upd_ne hpbp]
          exact hpb15
        have hC : BC (upd (upd H15 p (.dK [((Sum.inr (Str.ofString "sets") : Key), V.ref ls2), (Sum.inr (Str.ofString "signs"), V.ref lg2)])) pb (.dK (cb lnb kd 4 lub ld2 ls2 lg2))) pb lub lnb ls2 ld2 lg2 kd 4 63 := by
          refine ⟨upd_same, ⟨uw, ?_, by omega⟩, ((hlnb14.ex e15).dK hp15).dK hpb16, ((hls2.lat).dK hp15).dK hpb16, (((hld14.ex e15).dK hp15).dK hpb16).up (by decide), ⟨sgns5, ?_, by decide, by decide, by decide⟩, hne1, (ne_of_none hlub14 hls20).symm, hld2u, (ne_of_none hlub14 hlg20).symm, hkd3, by decide⟩
          · rw [upd_ne (ne_of hlub14 hpb14 (by intro z; cases z)), upd_ne (ne_of (e15 _ _ hlub14) hp15 (by intro z; cases z))]
            exact e15 _ _ hlub14
          · rw [upd_ne (ne_of hlg2 hpb15 (by intro z; cases z)), upd_ne (ne_of hlg2 hp15 (by intro z; cases z))]
            exact hlg2
        have e16 : Ex H7 (upd (upd H15 p (.dK [((Sum.inr (Str.ofString "sets") : Key), V.ref ls2), (Sum.inr (Str.ofString "signs"), V.ref lg2)])) pb (.dK (cb lnb kd 4 lub ld2 ls2 lg2))) := Ex.mut (Ex.mut (e14.trans e15) (fresh_back e14 hp)) hpb
        generalize upd (upd H15 p (.dK [((Sum.inr (Str.ofString "sets") : Key), V.ref ls2), (Sum.inr (Str.ofString "signs"), V.ref lg2)])) pb (.dK (cb lnb kd 4 lub ld2 ls2 lg2)) = H16 at hC e16
        clear hpb15 hpb16 hpb14 hlnb14 hld14 hlub14 hp15 hls2 hlg2 e15 hsv hsT e14
        have hD16 := hD.ex (e07.trans e16)
        -- rows
        refine q_asgG (c_call ?_)
        refine (show EvA (tCons (tVar 0) (tCons (tVar 14) (tCons (tC (.int 3)) (tCons (tC (.int 5)) tNil)))) _ H16 [.ref d, .ref pb, .int 3, .int 5] from ea_cons (ev_var rfl) (ea_cons (ev_var rfl) (ea_cons ev_c (ea_cons ev_c ea_nil)))) H16 (Ex.refl H16) _ fun H17 e17 => ?_
        have hC17 := hC.go e17
        refine ⟨d, a, pb, lub, lnb, ls2, ld2, lg2, ns, kd, 4, 5, 63, 3, rfl, by decide, hD16.ex e17, hC17, by decide, by decide, by decide, by decide, fun v H18 rds g hg x18 hC18 hv18 hraw18 => ?_⟩
        have htri4 : tri 4 = 10 := by decide
        dsimp only [List.set]
        have e18 : Ex H7 H18 := Ex.two (e16.trans e17) hpb hlub0 x18
        have hD18 := hD.ex (e07.trans e18)
        have hrl := rawRows_len hraw18
        -- the last give
        refine qn_whenK (fun σ' H' => ∃ (v : V) (rds : List PyData) (L : Nat), σ' = [some (.ref d), some (.ref pl), some (.ref al), some (.ref us), some (.ref ca), some (.ref fl), some (.str (S oDef)), some .non, some (.bl out), some (.str (S nm)), some (.ref pa), some (.str (S kd)), some (.ref l12), some (.ref l13), some (.ref pb), some (.ref l15), some v, none, none] ∧ Ex H7 H' ∧ Td H' v (.tuple rds) ∧ RawRows 4 L rds ∧ L ≤ 31) (etn_andT (et_test (ev_neS (ev_var rfl) (es_cl l0))) fun _ => etn_gt (en_next (many := 5) hD18 (ev_var rfl) ev_c) ev_c) (fun σ' H' ⟨v, rds, L, hσ, eM, hvM, hrM, hL⟩ => ?_) (fun kk hB H19 e19 => ?_) (fun _ H19 e19 => ⟨v, rds, 3 * g, rfl, e18.trans e19, Td.tx (Tx.of e19) _ _ hv18, hraw18, by omega⟩)
        · subst hσ
          have e0M := e07.trans eM
          have e4M := (e5.trans (e6.trans e7)).trans eM
          have hflM := e4M _ _ hfl4
          refine s_apR hflM (ev_var rfl) (er_of (ed_tup (ead_cons (ed_S (ev_var rfl)) (ead_cons (ed_non ev_c) (ead_cons (ed_bl (ev_var rfl)) (ead_cons (ed_S (ev_var rfl)) (ead_cons (ed_of (ev_var rfl) (Td.tx (Tx.of e4M) _ _ h5)) (ead_cons (ed_S (ev_var rfl)) (ead_cons (ed_of (ev_var rfl) hvM) (ead_cons (ed_non ev_c) ead_nil)))))))) (by show 8 ≤ 100000; decide))) (by omega) fun v2 H20 d2 hd2 e20 hv2 => ?_
          subst hd2
          have e4N := e4M.trans e20
          have hflN := e4N _ _ hfl4
          refine ⟨ln, vs ++ [v2], ds ++ [_], _, _, _, _, _, _, _, _, _, _, _, rfl, Ex.mut (e0M.trans e20) hfl, ⟨?_, ?_, ?_, ?_, hF.n1, hF.f1, hF.g1⟩, upd_same, (TdAll.tx ((Tx.of e4N).trans (Tx.lst hflN)) _ _ hT4).snoc (Td.tx (Tx.lst hflN) _ _ hv2), ?_, by rw [List.length_append, hlen, List.length_singleton]⟩
          · exact ((hF.go e4N).add hflN).d
          · exact (((hF.go e4N).add hflN).n).up (by omega)
          · exact ((hF.go e4N).add hflN).f
          · exact ((hF.go e4N).add hflN).g
          · rw [show 33 * (i + 1) = 33 * i + 33 by omega]
            exact rawTolds_snoc hraw (.def_ hnm (fun p hp => (hps p hp).raw) (by omega) (by
              rcases hkd3 with z | z | z
              · exact .inl z
              · exact .inr (by rw [z]; decide)
              · exact .inr (by rw [z]; decide)) hrM (by omega))
        · have hk2 : kd = kNum ∨ kd = oYes := by
            rcases hB with ⟨_, z⟩ | ⟨z, _⟩
            · cases z
            · rcases hkd3 with z2 | z2
              · rw [z2] at z
                exact absurd z (by decide)
              · exact z2
          refine s_asgR (er_catV (ev_var rfl) (Td.tx (Tx.of e19) _ _ hv18) (by omega) (er_tup (ear_cons (er_tup (ear_one (ed_S (es_cl lG)) (ear_one (ed_non ev_c) (ear_cons (er_e (pm := 3) (N := 3) (n := 2) (ea_cons (ev_var rfl) (ea_cons (ev_var rfl) (ea_cons (ev_var rfl) (ea_cons ev_c ea_nil)))) (by decide) hk2 (hD18.ex e19) ((hC18.go e19).ctx (by omega))) ear_nil))) ?_) ear_nil) ?_) ?_) fun v2 H20 d2 hd2 e20 hv2 => ?_
          · rintro _ ⟨_, rfl, _, rfl, _, _, rfl, _, rfl⟩
            show 3 ≤ 100000
            decide
          · rintro _ ⟨_, _, rfl, _, rfl⟩
            show 1 ≤ 100000
            decide
          · rintro _ ⟨_, ⟨_, _, rfl, _, rfl⟩, rfl⟩
            exact ⟨_, rfl, List.cons_ne_nil _ _, by show 1 ≤ 1000; decide⟩
          · obtain ⟨_, ⟨_, ⟨_, _, rfl, ⟨_, ⟨_, rfl, _, rfl, dE, _, rfl, hdE, rfl⟩, rfl⟩, rfl⟩, h⟩, rfl⟩ := hd2
            cases h
            exact kk _ H20 ⟨v2, _, 3 * g + 1, rfl, (e18.trans e19).trans e20, hv2, rawRows_snoc hraw18 (.worth (.inl rfl) hdE (by omega)), by omega⟩
      · have hk2 : Kd2 kd := hkd2 fun z => by
          have := of_decide_eq_false hb
          exact this z
        have hF5 := hF.go e5
        have e05 := e4.trans e5
        have hfl5 := e5 _ _ hfl4
        refine q_apR hfl5 (ev_var rfl) (er_tup (ear_one (ed_S (ev_var rfl)) (ear_one (ed_non ev_c) (ear_one (ed_bl (ev_var rfl)) (ear_one (ed_S (ev_var rfl)) (ear_cons (er_e (pm := 3) (N := 3) (n := 2) (ea_cons (ev_var rfl) (ea_cons (ev_var rfl) (ea_cons (ev_var rfl) (ea_cons ev_c ea_nil)))) (by decide) hk2 (hD.ex e05) (hF5.ctx (by omega))) ear_nil))))) ?_) (by omega) fun v2 H6 d2 hd2 e6 hv2 => ?_
        · rintro _ ⟨_, rfl, _, rfl, _, rfl, _, rfl, _, _, rfl, _, rfl⟩
          show 5 ≤ 100000
          decide
        obtain ⟨_, ⟨_, rfl, _, rfl, _, rfl, _, rfl, dE, _, rfl, hdE, rfl⟩, rfl⟩ := hd2
        have hfl6 := e6 _ _ hfl5
        have hF7 := (hF5.go e6).add (ys := vs ++ [v2]) hfl6
        have e07 : Ex H (upd H6 fl (.lst (vs ++ [v2]))) := Ex.mut (e05.trans e6) hfl
        have hfl7 : (upd H6 fl (.lst (vs ++ [v2]))) fl = some (.lst (vs ++ [v2])) := upd_same
        have hT7 := (TdAll.tx ((Tx.of (e5.trans e6)).trans (Tx.lst (ys := vs ++ [v2]) hfl6)) _ _ hT4).snoc (Td.tx (Tx.lst (ys := vs ++ [v2]) hfl6) _ _ hv2)
        generalize upd H6 fl (.lst (vs ++ [v2])) = H7 at hF7 e07 hfl7 hT7
        obtain ⟨nv, nds, hn1, hn2, hn3, hn4⟩ := hF7.n
        refine s_dputP (ep_RL (erl_of (edl_cat (ev_dget (ev_var rfl) ev_c hF7.d c3_n) hn1 hn2 (edl_rep (ds := [.tuple [.str (S kd), .str (S []), .str (S nm)]]) (k := if decide (wd = oConst) = true then 1 else 0) (edl_lst (ead_cons (ed_tup (ead_cons (ed_S (ev_var rfl)) (ead_cons (ed_S (es_cl l0)) (ead_cons (ed_S (ev_var rfl)) ead_nil))) (by show 3 ≤ 100000; decide)) ead_nil) (by show 1 ≤ 100000; decide)) (ev_int01 (ev_eqS (ev_var rfl) (es_cl lC))) rfl ?_ ?_) ?_))) nls_ups (fun H' e => ev_var rfl) hF7.d (by show 3 < 100000; decide) fun y H8 e8 hy => ?_
        · split
          · show 1 * 1 ≤ 100000
            decide
          · show 1 * 0 ≤ 100000
            decide
        · split <;> decide
        · split
          · show nds.length + 1 ≤ 100000
            omega
          · show nds.length + 0 ≤ 100000
            omega
        obtain ⟨ln2, rfl, hln20, hln2⟩ := hy
        rw [show putK (c3 ln ld lg) (Sum.inr (Str.ofString "names") : Key) (V.ref ln2) = c3 ln2 ld lg from c3_putN]
        have hF8 := hF7.go e8
        have hln3 : LAt (upd H8 ca (.dK (c3 ln2 ld lg))) ln2 NameOk (60 + (i + 1)) := ((hln2.imp (L2 := AllP NameOk (60 + (i + 1))) fun zs h => by
          subst h
          have hnm2 : NameOk (.tuple [.str (S kd), .str (S []), .str (S nm)]) := ⟨kd, [], nm, rfl, .inl rfl, hnm⟩
          split
          · refine ⟨fun x hx => ?_, ?_⟩
            · rcases List.mem_append.mp hx with z | z
              · exact hn3 x z
              · have z2 : x ∈ [PyData.tuple [.str (S kd), .str (S []), .str (S nm)]] := z
                rw [List.mem_singleton.mp z2]
                exact hnm2
            · rw [List.length_append]
              show nds.length + 1 ≤ _
              omega
          · refine ⟨fun x hx => ?_, ?_⟩
            · rcases List.mem_append.mp hx with z | z
              · exact hn3 x z
              · have z2 : x ∈ ([] : List PyData) := z
                cases z2
            · rw [List.length_append]
              show nds.length + 0 ≤ _
              omega).dK hF8.d).lat
        have hfl8 := e8 _ _ hfl7
        refine ⟨ln2, vs ++ [v2], _, _, _, _, _, _, _, _, _, _, _, _, rfl, Ex.mut (e07.trans e8) hca, ⟨upd_same, hln3, ?_, ?_, (ne_of_none hfl7 hln20).symm, hF8.f1, hF8.g1⟩, ?_, TdAll.tx ((Tx.of e8).trans (Tx.dK hF8.d)) _ _ hT7, ?_, by rw [List.length_append, hlen, List.length_singleton]⟩
        · rw [upd_ne (ne_of hF8.f hF8.d (by intro z; cases z))]
          exact hF8.f
        · rw [upd_ne (ne_of hF8.g hF8.d (by intro z; cases z))]
          exact hF8.g
        · rw [upd_ne (ne_of hfl8 hF8.d (by intro z; cases z))]
          exact hfl8
        · rw [show 33 * (i + 1) = 33 * i + 33 by omega]
          refine rawTolds_snoc hraw (.worth ?_ hnm hdE (by omega))
          rcases hwd with z | z | z
          · exact .inl z
          · exact .inr z
          · exact absurd z (of_decide_eq_false hb)
    · rintro σ' H4 ⟨ln, vs, ds, y6, y7, y8, y9, y10, y11, y12, y13, y14, y15, y16, rfl, e4, hF, hfl4, hT4, hraw, hlen⟩
      have hpl' := hpT.len
      rw [hpl'] at hraw hlen
      exact s_retT (d := .none) (v := .non) (ev_var rfl) hfl4 hT4 fun v H5 e5 hv => q v H5 ds (e4.trans e5) hv hraw hlen
end
end Wt

set_option Elab.async false
set_option linter.all false
set_option maxRecDepth 100000
set_option maxHeartbeats 4000000
namespace Wt
open PySem PySem.Spec PyProof.Rows L2 SX Evl
open C8 (Def Cal cal0 fnScope_by fnScope)
/-! A house that is drawn. -/
/-- by names: what is found -/
def kvF (hs : List (List Nat × V)) : List (Key × V) := hs.map fun x => ((Sum.inr (S x.1) : Key), x.2)
def kvA (fs : List (List Nat × Addr)) : List (Key × V) := fs.map fun x => ((Sum.inr (S x.1) : Key), V.ref x.2)
theorem kvF_keys (hs : List (List Nat × V)) : (kvF hs).map Prod.fst = hs.map fun x => (Sum.inr (S x.1) : Key) := by unfold kvF; rw [List.map_map] <;> rfl
theorem kvA_keys (hs : List (List Nat × Addr)) : (kvA hs).map Prod.fst = hs.map fun x => (Sum.inr (S x.1) : Key) := by unfold kvA; rw [List.map_map] <;> rfl
theorem key_ne {a b : List Nat} (h : a ≠ b) : (Sum.inr (S a) : Key) ≠ Sum.inr (S b) := fun z => h (S_inj (Sum.inr.inj z))
theorem kvF_put {hs : List (List Nat × V)} {w : List Nat} {v : V} (h : w ∉ hs.map (·.1)) : putK (kvF hs) (Sum.inr (S w) : Key) v = kvF (hs ++ [(w, v)]) := by
  rw [putK_new (fun z => ?_)]
  · unfold kvF
    rw [List.map_append] <;> rfl
  · rw [kvF_keys] at z
    obtain ⟨x, hx, e⟩ := List.mem_map.mp z
    exact h (List.mem_map.mpr ⟨x, hx, S_inj (Sum.inr.inj e)⟩)
theorem kvA_put {hs : List (List Nat × Addr)} {w : List Nat} {v : Addr} (h : w ∉ hs.map (·.1)) : putK (kvA hs) (Sum.inr (S w) : Key) (.ref v) = kvA (hs ++ [(w, v)]) := by
  rw [putK_new (fun z => ?_)]
  · unfold kvA
    rw [List.map_append] <;> rfl
  · rw [kvA_keys] at z
    obtain ⟨x, hx, e⟩ := List.mem_map.mp z
    exact h (List.mem_map.mpr ⟨x, hx, S_inj (Sum.inr.inj e)⟩)
theorem kvA_get : ∀ {hs : List (List Nat × Addr)} {w : List Nat}, w ∈ hs.map (·.1) → ∃ x ∈ hs, valV (kvA hs) (Sum.inr (S w) : Key) = some (.ref x.2)
  | [], _, h => by cases h
  | x :: hs, w, h => by
    by_cases hw : x.1 = w
    · exact ⟨x, List.mem_cons_self .., valV_pos (p := ((Sum.inr (S x.1) : Key), V.ref x.2)) (by rw [hw])⟩
    · obtain ⟨y, hy, e⟩ := kvA_get (hs := hs) (w := w) (by
        rcases List.mem_cons.mp h with z | z
        · exact absurd z.symm hw
        · exact z)
      refine ⟨y, List.mem_cons_of_mem _ hy, ?_⟩
      show valV (((Sum.inr (S x.1) : Key), V.ref x.2) :: kvA hs) _ = _
      rw [valV_neg (p := ((Sum.inr (S x.1) : Key), V.ref x.2)) (key_ne hw)]
      exact e
theorem kvF_get : ∀ {hs : List (List Nat × V)} {w : List Nat}, w ∈ hs.map (·.1) → ∃ x ∈ hs, x.1 = w ∧ valV (kvF hs) (Sum.inr (S w) : Key) = some x.2
  | [], _, h => by cases h
  | x :: hs, w, h => by
    by_cases hw : x.1 = w
    · exact ⟨x, List.mem_cons_self .., hw, valV_pos (p := ((Sum.inr (S x.1) : Key), x.2)) (by rw [hw])⟩
    · obtain ⟨y, hy, e1, e⟩ := kvF_get (hs := hs) (w := w) (by
        rcases List.mem_cons.mp h with z | z
        · exact absurd z.symm hw
        · exact z)
      refine ⟨y, List.mem_cons_of_mem _ hy, e1, ?_⟩
      show valV (((Sum.inr (S x.1) : Key), x.2) :: kvF hs) _ = _
      rw [valV_neg (p := ((Sum.inr (S x.1) : Key), x.2)) (key_ne hw)]
      exact e
theorem rawTolds_up {h L L2 : Nat} {ds : List PyData} (r : RawTolds h L ds) (e : L ≤ L2) : RawTolds h L2 ds := by
  cases r with
  | nil => exact .nil
  | cons r a hL => exact .cons r a (by omega)
/-- a file as it is drawn: uses, what is told -/
def FileOk (N : Nat) (H : Hp) (v : V) : Prop := ∃ us ds, Td H v (.tuple [.tuple us, .tuple ds]) ∧ (∀ u ∈ us, RawUse u) ∧ us.length ≤ 2 ∧ RawTolds 4 (33 * N) ds ∧ ds.length ≤ N ∧ 1 ≤ ds.length
theorem FileOk.tx {N : Nat} {H H' : Hp} {v : V} (h : FileOk N H v) (e : Tx H H') : FileOk N H' v := by
  obtain ⟨us, ds, h1, h2⟩ := h
  exact ⟨us, ds, Td.tx e _ _ h1, h2⟩
/-- a house that is drawn, at p -/
def HouseAt (N : Nat) (H : Hp) (p : Addr) : Prop := ∃ hs : List (List Nat × V), H p = some (.dK (kvF hs)) ∧ (hs.map (·.1)).Nodup ∧ hs ≠ [] ∧ hs.length ≤ 3 ∧ (∀ x ∈ hs, Good kName x.1) ∧ ∀ x ∈ hs, FileOk N H x.2
def spHouse (K : PySem.W.Frag) (N : Nat) : Sp := fun vs H Q _ => ∃ (d a : Addr) (ns : List Int) (many size : Nat), vs = [.ref d, .int (many : Int), .int (size : Int)] ∧ 1 ≤ many ∧ many ≤ 3 ∧ 1 ≤ size ∧ size ≤ N ∧ Dc K H d a ns ∧
  ∀ p H2, Ex H H2 → H p = none → HouseAt N H2 p → Q (.ref p) H2
structure HS (N : Nat) (H : Hp) (pf pa pl : Addr) (hs : List (List Nat × V)) (fs : List (List Nat × Addr)) (us : List (List Nat)) : Prop where
  f : H pf = some (.dK (kvF hs))
  a : H pa = some (.dK (kvA fs))
  l : H pl = some (tL us)
  ok : ∀ x ∈ hs, FileOk N H x.2
  fa : ∀ x ∈ fs, LAt H x.2 AllOk N ∧ x.2 ≠ pl
  ne : pf ≠ pa
section
variable {N : Nat} {H H' : Hp} {pf pa pl : Addr} {hs : List (List Nat × V)} {fs : List (List Nat × Addr)} {us us2 : List (List Nat)}
theorem HS.exB (h : HS N H pf pa pl hs fs us) (e : ExB pl H H') (hl : H' pl = some (tL us2)) : HS N H' pf pa pl hs fs us2 := by
  have tx : Tx H H' := fun x xs hx => e x _ (ne_of hx h.l (by intro z; cases z)) hx
  refine ⟨e _ _ (ne_of h.f h.l (by intro z; cases z)) h.f, e _ _ (ne_of h.a h.l (by intro z; cases z)) h.a, hl, fun x hx => (h.ok x hx).tx tx, fun x hx => ?_, h.ne⟩
  obtain ⟨⟨vs, ds, h1, h2, h3, h4⟩, hn⟩ := h.fa x hx
  exact ⟨⟨vs, ds, e _ _ hn h1, TdAll.tx tx _ _ h2, h3, h4⟩, hn⟩
theorem HS.go (h : HS N H pf pa pl hs fs us) (e : Ex H H') : HS N H' pf pa pl hs fs us := h.exB (fun b o _ ho => e b o ho) (e _ _ h.l)
theorem HS.face (h : HS N H pf pa pl hs fs us) {w : List Nat} {l : Addr} (hl : LAt H l AllOk N) (hn : l ≠ pl) : HS N (upd H pa (.dK (kvA (fs ++ [(w, l)])))) pf pa pl hs (fs ++ [(w, l)]) us := by
  refine ⟨by rw [upd_ne h.ne]; exact h.f, upd_same, by rw [upd_ne (ne_of h.l h.a (by intro z; cases z))]; exact h.l, fun x hx => (h.ok x hx).tx (Tx.dK h.a), fun x hx => ?_, h.ne⟩
  rcases List.mem_append.mp hx with z | z
  · exact ⟨(h.fa x z).1.dK h.a, (h.fa x z).2⟩
  · rw [List.mem_singleton.mp z]
    exact ⟨hl.dK h.a, hn⟩
theorem HS.file (h : HS N H pf pa pl hs fs us) {w : List Nat} {v : V} (hv : FileOk N H v) : HS N (upd H pf (.dK (kvF (hs ++ [(w, v)])))) pf pa pl (hs ++ [(w, v)]) fs us := by
  refine ⟨upd_same, by rw [upd_ne h.ne.symm]; exact h.a, by rw [upd_ne (ne_of h.l h.f (by intro z; cases z))]; exact h.l, fun x hx => ?_, fun x hx => ⟨(h.fa x hx).1.dK h.f, (h.fa x hx).2⟩, h.ne⟩
  rcases List.mem_append.mp hx with z | z
  · exact (h.ok x z).tx (Tx.dK h.f)
  · rw [List.mem_singleton.mp z]
    exact hv.tx (Tx.dK h.f)
end
section
variable {K : PySem.W.Frag} {σ : L2.St} {H H' : Hp} {ta tb te tx tl t1 t2 t3 td ti tk : TE} {tr : TA} {t u : TT} {D : Ends} {tu tw tz : TS} {gs : TGs} {E : XK} {Q : VK} {R : PyData → Prop} {P P2 : V → Hp → Prop} {us : List (List Nat)}
theorem q_dputV {ca : Addr} {kvs : List (Key × V)} {k : Str} (ht : EvP te σ H P) (up : Ups P) (ha : ∀ H', Ex H H' → Ev ta σ H' (.ref ca)) (hk : ∀ H', Ev tk σ H' (.str k)) (hd : H ca = some (.dK kvs)) (hl : kvs.length < 100000) (c : ∀ y H1, Ex H H1 → P y H1 → tz D σ (upd H1 ca (.dK (putK kvs (Sum.inr k : Key) y)))) : tSeq (sDPut ta tk te) tz D σ H := ht H (Ex.refl H) _ fun y H1 e1 p => ha H1 e1 H1 (Ex.refl _) _ fun H2 e2 => hk H2 H2 (Ex.refl H2) _ fun H3 e3 => by
  have e13 := (e1.trans e2).trans e3
  exact ⟨ca, _, rfl, DPut.k (k := (Sum.inr k : Key)) (e13 _ _ hd) (sz_lt hl), c y H3 e13 (up _ _ _ (e2.trans e3) p)⟩
theorem s_dputV {ca : Addr} {kvs : List (Key × V)} {k : Str} (ht : EvP te σ H P) (up : Ups P) (ha : ∀ H', Ex H H' → Ev ta σ H' (.ref ca)) (hk : ∀ H', Ev tk σ H' (.str k)) (hd : H ca = some (.dK kvs)) (hl : kvs.length < 100000) (c : ∀ y H1, Ex H H1 → P y H1 → D.nx σ (upd H1 ca (.dK (putK kvs (Sum.inr k : Key) y)))) : sDPut ta tk te D σ H := q_dputV (tz := tNext) (D := D) ht up ha hk hd hl c
/-- found, faces, files, consts = {}, {}, [], 0 -/
theorem q_new4 {i j l m : Nat} {z : V} (k : ∀ p1 p2 p3 H1, H p1 = none → H p2 = none → H p3 = none → p1 ≠ p2 → Ex H H1 → H1 p1 = some (.dK []) → H1 p2 = some (.dK []) → H1 p3 = some (.lst []) → tz D ((((σ.set i (some (.ref p1))).set j (some (.ref p2))).set l (some (.ref p3))).set m (some z)) H1) :
    tSeq (tAsg (tTup (tCons tDNewK (tCons tDNewK (tCons (tLst tNil) (tCons (tC z) tNil))))) (gTup K 4 (gCons (gName i) (gCons (gName j) (gCons (gName l) (gCons (gName m) gNil)))))) tz D σ H := by
  intro p1 h1 p2 h2
  refine ⟨Nat.zero_le _, fun p3 h3 => ?_⟩
  refine ev_c _ (Ex.refl _) _ fun H1 e1 => ⟨by show 4 ≤ sizeLine; decide, fun c hc => ?_⟩
  have ea := Ex.new (o := HO.dK []) h1
  have eb := Ex.new (o := HO.dK []) h2
  have ec := Ex.new (o := HO.lst []) h3
  have ed := Ex.new (o := HO.tup [V.ref p1, .ref p2, .ref p3, z]) hc
  have e3 := (ec.trans e1).trans ed
  exact ⟨c, _, rfl, st_of upd_same, rfl, _, _, rfl, _, _, rfl, _, _, rfl, _, _, rfl, rfl, k p1 p2 p3 _ h1 (fresh_back ea h2) (fresh_back (ea.trans eb) h3) (ne_of_none upd_same h2) ((ea.trans eb).trans e3) ((eb.trans e3) _ _ upd_same) (e3 _ _ upd_same) ((e1.trans ed) _ _ upd_same)⟩
/-- [x for x in texts if ..], whatever the tests say -/
theorem c_lcFree {a : Addr} {us : List (List Nat)} {j : Nat} {vs : List Nat} {B : Bool → Prop} (h : Ev tl σ H (.ref a)) (hx : H a = some (tL us)) (hw : ∀ x, wipe ((wipe σ vs).set j (some x)) vs = wipe σ vs) (hj : ∀ x, ((wipe σ vs).set j (some x))[j]? = some (some x)) (hz : us.length ≤ 40000)
    (ht : ∀ x H1, Ex H H1 → EvTN t ((wipe σ vs).set j (some x)) H1 B) (q : ∀ p H2 zs, (∀ z ∈ zs, z ∈ us) → zs.length ≤ us.length → H p = none → Ex H H2 → H2 p = some (tL zs) → Q (.ref p) H2) : tLc (iList K tl) (gName j) t (tVar j) vs σ H Q := h H (Ex.refl H) _ fun H1 e1 => ⟨a, rfl, ⟨_, sq_of (e1 _ _ hx)⟩, fun Dl hD => by
  refine lc_it (walk_list (K := K) (a := a) (xs := us.map fun z => V.str (S z))) (fun i H' => ∃ zs : List (List Nat), Ex H1 H' ∧ H' Dl = some (tL zs) ∧ zs.length ≤ i ∧ ∀ z ∈ zs, z ∈ us) ⟨[], Ex.new hD, upd_same, Nat.le_refl _, fun _ h => by cases h⟩ (fun _ H' _ ⟨_, e2, _⟩ => sq_of (e2 _ _ (e1 _ _ hx))) ?_ ?_
  · rintro i x H2 H3 hi ⟨zs, e2, hDl, hzl, hall⟩ ⟨rfl, hxi⟩
    refine ⟨hw x, ?_⟩
    rw [List.length_map] at hi
    rw [List.getElem?_map] at hxi
    obtain ⟨y, hy, rfl⟩ := Option.map_eq_some_iff.mp hxi
    refine ht _ H3 (e1.trans e2) H3 (Ex.refl _) _ fun b H4 _ e4 => ?_
    cases b with
    | false =>
      rw [if_neg (by decide)]
      exact ⟨zs, e2.trans e4, e4 _ _ hDl, by omega, hall⟩
    | true =>
      rw [if_pos rfl]
      refine ev_var (hj _) H4 (Ex.refl _) _ fun H5 e5 => ⟨_, (e4.trans e5) _ _ hDl, sz_lt (by rw [List.length_map]; omega), zs ++ [y], Ex.mut (e2.trans (e4.trans e5)) hD, ?_, by rw [List.length_append, List.length_singleton]; omega, fun z hz => ?_⟩
      · rw [tL_snoc]
        exact upd_same
      · rcases List.mem_append.mp hz with h2 | h2
        · exact hall z h2
        · rw [List.mem_singleton.mp h2]
          exact List.mem_of_getElem? hy
  · rintro H2 ⟨zs, e2, hDl, hzl, hall⟩
    rw [List.length_map] at hzl
    exact q Dl H2 zs hall hzl (fresh_back e1 hD) (e1.trans e2) hDl⟩
/-- .. for i in range(n), names taken on the way -/
theorem c_lcParts {u d a : Addr} {ns : List Int} {uw : List (List Nat)} {j : Nat} {vs : List Nat} {M : Nat} (h : EvN tx σ H (fun v => ∃ z : Int, v = .int z ∧ 0 ≤ z ∧ z < (M : Int))) (hD : Dc K H d a ns) (hu : H u = some (tL uw)) (hM : M ≤ 10) (hul : uw.length + M ≤ 160) (hw : ∀ x, wipe ((wipe σ vs).set j (some x)) vs = wipe σ vs)
    (he : ∀ x H1 uw1, Dc K H1 d a ns → H1 u = some (tL uw1) → uw1.length < 165 → ∀ Qe : VK, (∀ v H2 dP w, ExB u H1 H2 → H2 u = some (tL (uw1 ++ [w])) → Td H2 v dP → PartK dP → Qe v H2) → te ((wipe σ vs).set j (some x)) H1 Qe)
    (q : ∀ l H2 xs ds uw2, H l = none → ExB u H H2 → Dc K H2 d a ns → H2 u = some (tL uw2) → uw2.length ≤ uw.length + ds.length → H2 l = some (.lst xs) → TdAll H2 xs ds → ds.length < M → (∀ p ∈ ds, PartK p) → Q (.ref l) H2) : tLc (iRng1 (tCons tx tNil)) (gName j) tYes te vs σ H Q := h H (Ex.refl H) _ fun v H1 hv e1 => by
  obtain ⟨z, rfl, z0, z1⟩ := hv
  obtain ⟨n, rfl⟩ : ∃ n : Nat, z = (n : Int) := ⟨z.toNat, by omega⟩
  refine ⟨(n : Int), rfl, by omega, by omega, fun Dl hDl => ?_⟩
  have hdu : d ≠ u := ne_of hD.o hu (by intro z; unfold DiceO at z; cases z)
  have hDu : Dl ≠ u := (ne_of_none (e1 _ _ hu) hDl).symm
  refine lc_range (lo := 0) (n := (n : Int).toNat) (fun i H2 => ∃ xs ds uw2, ExB u H1 H2 ∧ Dc K H2 d a ns ∧ H2 u = some (tL uw2) ∧ uw2.length = uw.length + i ∧ H2 Dl = some (.lst xs) ∧ TdAll H2 xs ds ∧ ds.length = i ∧ ∀ p ∈ ds, PartK p) ⟨[], [], uw, ExB.of (Ex.new hDl), (hD.ex e1).ex (Ex.new hDl), (Ex.new hDl) _ _ (e1 _ _ hu), rfl, upd_same, .nil, rfl, fun _ h => by cases h⟩ ?_ ?_
  · rintro i H2 hi ⟨xs, ds, uw2, x2, hD2, hu2, hul2, hDl2, hT2, hl2, hP⟩
    refine ⟨hw _, ?_⟩
    show te _ H2 _
    refine he _ H2 uw2 hD2 hu2 (by omega) _ fun y H3 dP w x3 hu3 hy hPk => ?_
    have hDl3 := x3 _ _ hDu hDl2
    have tx3 : Tx H2 H3 := fun x us hx => x3 x _ (ne_of hx hu2 (by intro z; cases z)) hx
    have txU : Tx H3 (upd H3 Dl (.lst (xs ++ [y]))) := Tx.lst hDl3
    have hxl := hT2.len
    refine ⟨xs, hDl3, sz_lt (by omega), xs ++ [y], ds ++ [dP], uw2 ++ [w], fun b o hb ho => ?_, ⟨?_, ?_⟩, ?_, by rw [List.length_append, List.length_singleton]; omega, upd_same, (TdAll.tx (tx3.trans txU) _ _ hT2).snoc (Td.tx txU _ _ hy), by rw [List.length_append, hl2, List.length_singleton], fun p hp => ?_⟩
    · rw [upd_ne (ne_of_none ho hDl)]
      exact x3 b o hb (x2 b o hb ho)
    · rw [upd_ne (ne_of (x3 _ _ hdu hD2.o) hDl3 (by intro z; unfold DiceO at z; cases z))]
      exact x3 _ _ hdu hD2.o
    · exact (hD2.s.fx fun b o u hb => x3 b _ (ne_of hb hu2 (by intro z; cases z)) hb).fx (Fx.mut hDl3 True.intro)
    · rw [upd_ne hDu.symm]
      exact hu3
    · rcases List.mem_append.mp hp with z | z
      · exact hP p z
      · rw [List.mem_singleton.mp z]
        exact hPk
  · rintro H2 ⟨xs, ds, uw2, x2, hD2, hu2, hul2, hDl2, hT2, hl2, hP⟩
    exact q Dl H2 xs ds uw2 (fresh_back e1 hDl) (fun b o hb ho => x2 b o hb (e1 b o ho)) hD2 hu2 (by omega) hDl2 hT2 (by omega) hP
theorem c_RL {L : List PyData → Prop} (h : EvRL te σ H L) (k : ∀ p H1 vs ds, L ds → H p = none → Ex H H1 → H1 p = some (.lst vs) → TdAll H1 vs ds → Q (.ref p) H1) : te σ H Q := h H (Ex.refl H) _ k
theorem c_cb1 {r : List V → Hp → VK → Prop} (h : te σ H fun v H1 => r [v] H1 Q) : tCB r (tCons te tNil) σ H Q := h
theorem t_tup {Q : VK} (h : tr σ H fun xs H1 => xs.length ≤ sizeLine ∧ ∀ p, H1 p = none → Q (.ref p) (upd H1 p (.tup xs))) : tTup tr σ H Q := h
theorem a_nil {Q : List V → Hp → Prop} (h : Q [] H) : tNil σ H Q := h
theorem ev_ixTb {v : V} {ds : List PyData} {j : Nat} {x : Bool} (ha : Ev ta σ H v) (hv : Td H v (.tuple ds)) (hb : Ev tb σ H (.int (j : Int))) (hj : ds[j]? = some (.bool x)) : Ev (tOp (rIxT K) ta tb) σ H (.bl x) := by
  obtain ⟨x, hT, h⟩ := ev_ixTd (K := K) ha hv hb hj
  cases hT
  exact h
theorem ups_R : Ups (fun x H' => ∃ d, R d ∧ Td H' x d) := fun v H H' e ⟨d, r, h⟩ => ⟨d, r, Td.tx (Tx.of e) _ _ h⟩
theorem q_forRNs {j N : Nat} (h : EvN te σ H (fun v => ∃ z : Int, v = .int z ∧ 1 ≤ z ∧ z ≤ (N : Int))) (hN : N ≤ 10000) (Pv : Nat → L2.St → Hp → Prop) (h0 : ∀ H1, Ex H H1 → Pv 0 σ H1)
    (hs : ∀ (i : Nat) σ' H', i < N → Pv i σ' H' → tu { D with nx := Pv (i + 1), ct := Pv (i + 1), bk := tz D } (σ'.set j (some (.int (i : Int)))) H') (hd : ∀ n σ' H', 1 ≤ n → n ≤ N → Pv n σ' H' → tz D σ' H') :
    tSeq (tFor (iRng1 (tCons te tNil)) (gName j) tu) tz D σ H := h H (Ex.refl H) _ fun v H1 hv e1 => by
  obtain ⟨z, rfl, z0, z1⟩ := hv
  obtain ⟨n, rfl⟩ : ∃ n : Nat, z = (n : Int) := ⟨z.toNat, by omega⟩
  refine ⟨(n : Int), rfl, by omega, by omega, for_range (D := { D with nx := tz D }) (lo := 0) (n := (n : Int).toNat) Pv (h0 H1 e1) (fun i σ' H' hi p => ?_) (fun σ' H' p => hd _ σ' H' (by omega) (by omega) p)⟩
  have e0 : (0 : Int) + (i : Int) = (i : Int) := Int.zero_add _
  show tu { D with nx := Pv (i + 1), ct := Pv (i + 1), bk := tz D } (σ'.set j (some (.int ((0 : Int) + (i : Int))))) H'
  rw [e0]
  exact hs i σ' H' (by omega) p
/-- a, b, c = [..], [], [] -/
theorem q_three {i j l : Nat} (h : ∀ Q1 : VK, (∀ p H1 zs, H p = none → Ex H H1 → H1 p = some (tL zs) → (∀ z ∈ zs, z ∈ us) → zs.length ≤ us.length → Q1 (.ref p) H1) → te σ H Q1) (k : ∀ p1 p2 p3 H1 zs, H p1 = none → H p2 = none → H p3 = none → p1 ≠ p2 → p1 ≠ p3 → p2 ≠ p3 → Ex H H1 → H1 p1 = some (tL zs) → (∀ z ∈ zs, z ∈ us) → zs.length ≤ us.length → H1 p2 = some (.lst []) → H1 p3 = some (.lst []) → tz D (((σ.set i (some (.ref p1))).set j (some (.ref p2))).set l (some (.ref p3))) H1) :
    tSeq (tAsg (tTup (tCons te (tCons (tLst tNil) (tCons (tLst tNil) tNil)))) (gTup K 3 (gCons (gName i) (gCons (gName j) (gCons (gName l) gNil))))) tz D σ H := by
  refine h _ fun p1 H1 zs h1 e1 hp1 hz hzl => ?_
  refine ⟨Nat.zero_le _, fun p2 h2 => ⟨Nat.zero_le _, fun p3 h3 => ⟨by show 3 ≤ sizeLine; decide, fun c hc => ?_⟩⟩⟩
  have eb := Ex.new (o := HO.lst []) h2
  have ec := Ex.new (o := HO.lst []) h3
  have ed := Ex.new (o := HO.tup [V.ref p1, .ref p2, .ref p3]) hc
  have e3 := (eb.trans ec).trans ed
  have h3b : H1 p3 = none := fresh_back eb h3
  exact ⟨c, _, rfl, st_of upd_same, rfl, _, _, rfl, _, _, rfl, _, _, rfl, rfl, k p1 p2 p3 _ zs h1 (fresh_back e1 h2) (fresh_back e1 h3b) (ne_of_none hp1 h2) (ne_of_none hp1 h3b) (ne_of_none upd_same h3) (e1.trans e3) (e3 _ _ hp1) hz hzl ((ec.trans ed) _ _ upd_same) (ed _ _ upd_same)⟩
end
end Wt

set_option Elab.async false
set_option linter.all false
set_option maxRecDepth 100000
set_option maxHeartbeats 4000000
namespace Wt
open PySem PySem.Spec PyProof.Rows L2 SX Evl
open C8 (Def Cal cal0 fnScope_by fnScope)
/-! _law_house. -/
section
variable {P : Program} {w : World} {K : PySem.W.Frag} {mg : Str → Option Value} {base : Heap}
abbrev s__law_house : Stmt := topS 22
theorem sc__law_house : FnScope ["_law_d", "_law_many", "_law_size", "_law_found", "_law_faces", "_law_files", "_law_consts", "_law_k", "_law_file", "_law_uses", "_law_used", "_law_plan", "_law_j", "_law_parts", "_law_word_here", "_law_kind", "_law_others", "_law_other", "_law_told", "_law_one", "_law_i"] ["_law_d", "_law_many", "_law_size"] (fnScope s__law_house) := fnScope_by (by decide +kernel)
theorem lit_kd4 : [V.str (Str.ofString "num"), V.str (Str.ofString "yes"), V.str (Str.ofString ""), V.str (Str.ofString "num")] = ([kNum, oYes, [], kNum] : List (List Nat)).map fun z => V.str (S z) := by decide +kernel
theorem ok_house (T : ModsL K mg) {k N : Nat} (hk : 2 ≤ k) (hN : N ≤ 4) (c__law_next : Cal P w K mg base 1 "_law_next" (spNext K) []) (c__law_pick : Cal P w K mg base 2 "_law_pick" (spPick K) []) (c__law_word : Cal P w K mg base 2 "_law_word" (spWordU K) []) (c__law_filled : Cal P w K mg base k "_law_filled" (spFilled K) [])
    {f : Addr} {fd : FuncData} (F : Def K mg "_law_house" s__law_house f fd) (b : Binds K fd ["_law_d", "_law_many", "_law_size"] []) : Cal P w K mg base (k + 1) "_law_house" (spHouse K N) [] := by
  refine cal0 F b .nil sc__law_house (fun vs H Q E h => ?_) (fun cdv A outer s H vs Q E hr h => ?_)
  · obtain ⟨_, _, _, _, _, rfl, _⟩ := h
    rfl
  · obtain ⟨d, a, ns, many, size, rfl, hm1, hm2, hs1, hs2, hD, q⟩ := h
    have m_range := T.m_range
    have m_tuple := T.m_tuple
    have m_int := T.m_int
    have hu := hu_of hr
    have hu64 := hr.units
    obtain ⟨lC, lK, lD, lG, l0⟩ := lits_t
    obtain ⟨_, zY, zN, _, _, _, _, _⟩ := lits_e
    refine ⟨_, (pss_cons (ps_asg (pe_tup (pa_cons pe_dnewK (pa_cons pe_dnewK (pa_cons (pe_lst pa_nil) (pa_cons pe_int pa_nil))))) (pg_tup rfl (pgs_cons (pg_name (i := 3) sc__law_house.nd rfl (.inl rfl)) (pgs_cons (pg_name (i := 4) sc__law_house.nd rfl (.inl rfl)) (pgs_cons (pg_name (i := 5) sc__law_house.nd rfl (.inl rfl)) (pgs_cons (pg_name (i := 6) sc__law_house.nd rfl (.inl rfl)) pgs_nil))))))
      (pss_cons (ps_for PassesOwn.never rfl (pi_range1 (by rfl) m_range (pa_cons (pe_op op_add pe_int (C8.pe_c c__law_next hr (by first | decide | exact Nat.le_refl _ | omega) (by rfl) (pa_cons (pv 0) (pa_cons (pv 1) pa_nil)))) pa_nil)) (pg_name (i := 7) sc__law_house.nd rfl (.inl rfl)) (pss_cons (ps_asg (pe_tup (pa_cons (pe_lc (own := [("_law_file", 8)]) (g := (gName 8)) rfl sc__law_house.nd (pi_list (pv 5)) (blkOk_by (N := ["_law_d", "_law_many", "_law_size", "_law_found", "_law_faces", "_law_files", "_law_consts", "_law_k", "_law_file", "_law_uses", "_law_used", "_law_plan", "_law_j", "_law_parts", "_law_word_here", "_law_kind", "_law_others", "_law_other", "_law_told", "_law_one", "_law_i"]) (sc := C8.fnScope s__law_house) (by decide +kernel)) (fun _ _ _ _ _ => pg_name (i := 8) sc__law_house.nd rfl (Or.inl rfl)) (fun _ _ _ _ _ => pts_one (pt_cmpR op_gt (C8.pe_c c__law_next hr (by first | decide | exact Nat.le_refl _ | omega) (by rfl) (pa_cons (pv 0) (pa_cons pe_int pa_nil))) pe_int (nomark _))) (fun _ _ _ _ _ => (pv 8))) (pa_cons (pe_lst pa_nil) (pa_cons (pe_lst pa_nil) pa_nil)))) (pg_tup rfl (pgs_cons (pg_name (i := 9) sc__law_house.nd rfl (.inl rfl)) (pgs_cons (pg_name (i := 10) sc__law_house.nd rfl (.inr rfl)) (pgs_cons (pg_name (i := 11) sc__law_house.nd rfl (.inl rfl)) pgs_nil)))))
      (pss_cons (ps_set (i := 8) sc__law_house.nd rfl (.inr rfl) (C8.pe_c c__law_word hr (by first | decide | exact Nat.le_refl _ | omega) (by rfl) (pa_cons (pv 0) (pa_cons (pv 5) pa_nil))))
      (pss_cons (ps_for PassesOwn.never rfl (pi_range1 (by rfl) m_range (pa_cons (pe_op op_add pe_int (C8.pe_c c__law_next hr (by first | decide | exact Nat.le_refl _ | omega) (by rfl) (pa_cons (pv 0) (pa_cons (pv 2) pa_nil)))) pa_nil)) (pg_name (i := 12) sc__law_house.nd rfl (.inl rfl)) (pss_cons (ps_set (i := 13) sc__law_house.nd rfl (.inl rfl) (pe_callTy call_tuple_of (by rfl) m_tuple Wt.bt_tuple (pa_cons (pe_lc (own := [("_law_i", 20)]) (g := (gName 20)) (tt := tYes) rfl sc__law_house.nd (pi_range1 (by rfl) m_range (pa_cons (C8.pe_c c__law_next hr (by first | decide | exact Nat.le_refl _ | omega) (by rfl) (pa_cons (pv 0) (pa_cons pe_int pa_nil))) pa_nil)) (blkOk_by (N := ["_law_d", "_law_many", "_law_size", "_law_found", "_law_faces", "_law_files", "_law_consts", "_law_k", "_law_file", "_law_uses", "_law_used", "_law_plan", "_law_j", "_law_parts", "_law_word_here", "_law_kind", "_law_others", "_law_other", "_law_told", "_law_one", "_law_i"]) (sc := C8.fnScope s__law_house) (by decide +kernel)) (fun _ _ _ _ _ => pg_name (i := 20) sc__law_house.nd rfl (Or.inl rfl)) (fun _ _ _ _ _ => pts_nil) (fun _ _ _ _ _ => (pe_tup (pa_cons pe_non (pa_cons (C8.pe_c c__law_word hr (by first | decide | exact Nat.le_refl _ | omega) (by rfl) (pa_cons (pv 0) (pa_cons (pv 10) pa_nil))) (pa_cons (C8.pe_c c__law_pick hr (by first | decide | exact Nat.le_refl _ | omega) (by rfl) (pa_cons (pv 0) (pa_cons (pe_lst (pa_cons pe_str (pa_cons pe_str pa_nil))) pa_nil))) pa_nil)))))) pa_nil)))
      (pss_cons (ps_par (i := 14) (j := 15) rfl sc__law_house.nd rfl rfl (by decide) (by rfl) (by rfl) (pa_cons (C8.pe_c c__law_pick hr (by first | decide | exact Nat.le_refl _ | omega) (by rfl) (pa_cons (pv 0) (pa_cons (pe_lst (pa_cons pe_str (pa_cons pe_str (pa_cons pe_str (pa_cons pe_str (pa_cons pe_str pa_nil)))))) pa_nil))) (pa_cons (C8.pe_c c__law_pick hr (by first | decide | exact Nat.le_refl _ | omega) (by rfl) (pa_cons (pv 0) (pa_cons (pe_lst (pa_cons pe_str (pa_cons pe_str (pa_cons pe_str (pa_cons pe_str pa_nil))))) pa_nil))) pa_nil)) (by rfl))
      (pss_cons (ps_set (i := 15) sc__law_house.nd rfl (.inl rfl) (pe_ifExp (PW.pt (pw_and (pt_cmpR op_ne (pv 14) pe_str (nomark _)) (pw_and1 (pt_cmpR op_eq (pv 15) pe_str (nomark _))))) pe_str (pv 15)))
      (pss_cons (ps_set (i := 14) sc__law_house.nd rfl (.inl rfl) (pe_ifExp (PW.pt (pw_and (pt_cmpR op_eq (pv 14) pe_str (nomark _)) (pw_and1 (pt_cmpR op_gt (pv 6) pe_int (nomark _))))) pe_str (pv 14)))
      (pss_cons (ps_set (i := 6) sc__law_house.nd rfl (.inl rfl) (pe_op op_add (pv 6) (pe_callTy call_int1 (by rfl) m_int Wt.bt_int (pa_cons (pe_cmpR op_eq (pv 14) pe_str (nomark _)) pa_nil))))
      (pss_one (ps_expr (pe_bm PySem.F.plainAttrs_list PySem.F.slot_list_append PySem.F.type_list_append mt_append (pv 11) (pa_cons (pe_tup (pa_cons (pv 14) (pa_cons pe_non (pa_cons (pe_cmpR op_gt (C8.pe_c c__law_next hr (by first | decide | exact Nat.le_refl _ | omega) (by rfl) (pa_cons (pv 0) (pa_cons pe_int pa_nil))) pe_int (nomark _)) (pa_cons (C8.pe_c c__law_word hr (by first | decide | exact Nat.le_refl _ | omega) (by rfl) (pa_cons (pv 0) (pa_cons (pv 10) pa_nil))) (pa_cons (pv 13) (pa_cons (pv 15) pa_nil))))))) pa_nil))))))))))
      (pss_cons (ps_set (i := 16) sc__law_house.nd rfl (.inl rfl) (pe_lst pa_nil))
      (pss_cons (ps_for PassesOwn.never rfl (pi_list (pv 9)) (pg_name (i := 17) sc__law_house.nd rfl (.inl rfl)) (pss_one (ps_set (i := 16) sc__law_house.nd rfl (.inl rfl) (pe_op op_cat (pv 16) (pe_dget hu (pv 4) (pv 17) (fun _ _ => rfl))))))
      (pss_cons (ps_dput hu (pv 4) (pv 8) (pe_lc (own := [("_law_one", 19)]) (g := (gName 19)) rfl sc__law_house.nd (pi_list (pv 11)) (blkOk_by (N := ["_law_d", "_law_many", "_law_size", "_law_found", "_law_faces", "_law_files", "_law_consts", "_law_k", "_law_file", "_law_uses", "_law_used", "_law_plan", "_law_j", "_law_parts", "_law_word_here", "_law_kind", "_law_others", "_law_other", "_law_told", "_law_one", "_law_i"]) (sc := C8.fnScope s__law_house) (by decide +kernel)) (fun _ _ _ _ _ => pg_name (i := 19) sc__law_house.nd rfl (Or.inl rfl)) (fun _ _ _ _ _ => pts_one (pt_val (pe_ix (show IxR _ (rIxT K) from ix_tup) (pv 19) pe_int (fun _ _ => rfl)))) (fun _ _ _ _ _ => (pe_op (show OpR _ (binaryOp .Add) (rCatA K) from op_catA) (pe_tup (pa_cons (pe_ix (show IxR _ (rIxT K) from ix_tup) (pv 19) pe_int (fun _ _ => rfl)) (pa_cons (pv 8) pa_nil))) (pe_slice (show SlR _ (rSlA K) from sl_tupA) (pv 19) (po_some pe_int) po_none)))) rfl)
      (pss_cons (ps_set (i := 18) sc__law_house.nd rfl (.inl rfl) (C8.pe_c c__law_filled hr (by first | decide | exact Nat.le_refl _ | omega) (by rfl) (pa_cons (pv 0) (pa_cons (pv 11) (pa_cons (pe_op op_cat (pv 16) (pe_lc (own := [("_law_one", 19)]) (g := (gName 19)) (tt := tYes) rfl sc__law_house.nd (pi_list (pv 11)) (blkOk_by (N := ["_law_d", "_law_many", "_law_size", "_law_found", "_law_faces", "_law_files", "_law_consts", "_law_k", "_law_file", "_law_uses", "_law_used", "_law_plan", "_law_j", "_law_parts", "_law_word_here", "_law_kind", "_law_others", "_law_other", "_law_told", "_law_one", "_law_i"]) (sc := C8.fnScope s__law_house) (by decide +kernel)) (fun _ _ _ _ _ => pg_name (i := 19) sc__law_house.nd rfl (Or.inl rfl)) (fun _ _ _ _ _ => pts_nil) (fun _ _ _ _ _ => (pe_op (show OpR _ (binaryOp .Add) (rCatA K) from op_catA) (pe_tup (pa_cons (pe_ix (show IxR _ (rIxT K) from ix_tup) (pv 19) pe_int (fun _ _ => rfl)) (pa_cons pe_str pa_nil))) (pe_slice (show SlR _ (rSlA K) from sl_tupA) (pv 19) (po_some pe_int) po_none))))) (pa_cons (pv 10) pa_nil))))))
      (pss_one (ps_dput hu (pv 3) (pv 8) (pe_tup (pa_cons (pe_callTy call_tuple_of (by rfl) m_tuple Wt.bt_tuple (pa_cons (pe_lc (own := [("_law_other", 17)]) (g := (gName 17)) (tt := tYes) rfl sc__law_house.nd (pi_list (pv 9)) (blkOk_by (N := ["_law_d", "_law_many", "_law_size", "_law_found", "_law_faces", "_law_files", "_law_consts", "_law_k", "_law_file", "_law_uses", "_law_used", "_law_plan", "_law_j", "_law_parts", "_law_word_here", "_law_kind", "_law_others", "_law_other", "_law_told", "_law_one", "_law_i"]) (sc := C8.fnScope s__law_house) (by decide +kernel)) (fun _ _ _ _ _ => pg_name (i := 17) sc__law_house.nd rfl (Or.inl rfl)) (fun _ _ _ _ _ => pts_nil) (fun _ _ _ _ _ => (pe_tup (pa_cons pe_non (pa_cons (pv 17) pa_nil))))) pa_nil)) (pa_cons (pv 18) pa_nil))) rfl))))))))))
      (pss_one (ps_ret (pv 3))))), ?_⟩
    refine q_new4 fun pf pa pl H1 hpf0 hpa0 hpl0 hfa e1 hpf hpa hpl => ?_
    dsimp only [L2.start, List.map, List.set, List.length, List.append, List.replicate]
    refine q_forRNs (N := 3) (en_opV (EvN.of ev_c) (fun _ _ => en_next (many := (many : Int)) (hD.ex e1) (ev_var rfl) (ev_var rfl) (by omega) (by omega)) ?_) (by decide) (fun i σ' H' => ∃ (hs : List (List Nat × V)) (fs : List (List Nat × Addr)) (cn : Int) (y7 y8 y9 y10 y11 y12 y13 y14 y15 y16 y17 y18 : Option V), σ' = [some (.ref d), some (.int (many : Int)), some (.int (size : Int)), some (.ref pf), some (.ref pa), some (.ref pl), some (.int cn), y7, y8, y9, y10, y11, y12, y13, y14, y15, y16, y17, y18, none, none] ∧ Ex H H' ∧ HS N H' pf pa pl hs fs (hs.map (·.1)) ∧ fs.map (·.1) = hs.map (·.1) ∧ (hs.map (·.1)).Nodup ∧ (∀ x ∈ hs, Good kName x.1) ∧ hs.length = i) (fun H2 e2 => ⟨[], [], 0, none, none, none, none, none, none, none, none, none, none, none, none, rfl, e1.trans e2, ⟨e2 _ _ hpf, e2 _ _ hpa, e2 _ _ hpl, fun _ z => (by cases z), fun _ z => (by cases z), hfa⟩, rfl, List.nodup_nil, fun _ z => (by cases z), rfl⟩) ?_ ?_
    · rintro x y rfl ⟨z, rfl, z0, z1⟩
      exact ⟨_, ⟨1 + z, rfl, by omega, by omega⟩, rv_I0⟩
    · rintro i σ' H2 hi ⟨hs, fs, cn, y7, y8, y9, y10, y11, y12, y13, y14, y15, y16, y17, y18, rfl, e2, hS, hfe, hnd, hgd, hlen⟩
      dsimp only [List.set]
      have hD2 := hD.ex e2
      have hul : (hs.map (·.1)).length = i := by rw [List.length_map, hlen]
      -- uses, used, plan
      refine q_three (us := hs.map (·.1)) (fun Q1 q1 => c_lcFree (B := fun _ => True) (ev_var rfl) hS.l (fun _ => rfl) (fun _ => rfl) (by omega) (fun x H3 e3 => etn_gt (en_next (many := 3) (hD2.ex e3) (ev_var rfl) ev_c) ev_c) fun p H3 zs h1 h2 h3 h4 h5 => q1 p H3 zs h3 h4 h5 h1 h2) fun lu0 lu lp H3 zs hlu00 hlu0 hlp0 n1 n2 n3 e3 hus hzs hzl hlu hlp => ?_
      dsimp only [List.set]
      have hS3 := hS.go e3
      have hD3 := hD2.ex e3
      -- a name for the file
      refine q_asgG (c_call ?_)
      refine (show EvA (tCons (tVar 0) (tCons (tVar 5) tNil)) _ H3 [.ref d, .ref pl] from ea_cons (ev_var rfl) (ea_cons (ev_var rfl) ea_nil)) H3 (Ex.refl H3) _ fun H4 e4 => ?_
      have hS4 := hS3.go e4
      refine ⟨d, a, pl, ns, _, rfl, hD3.ex e4, hS4.l, by omega, fun wf H5 gwf hwf x5 hD5 hpl5 => ?_⟩
      have hS5 := hS4.exB x5 hpl5
      have nplu : lu ≠ pl := (ne_of_none hS.l hlu0).symm
      have nplp : lp ≠ pl := (ne_of_none hS.l hlp0).symm
      have npl0 : lu0 ≠ pl := (ne_of_none hS.l hlu00).symm
      have hus5 : H5 lu0 = some (tL zs) := x5 _ _ npl0 (e4 _ _ hus)
      have hlu5 : H5 lu = some (tL []) := x5 _ _ nplu (e4 _ _ hlu)
      have hlp5 : H5 lp = some (.lst []) := x5 _ _ nplp (e4 _ _ hlp)
      have x25 : ExB pl H2 H5 := fun b o hb ho => x5 b o hb ((e3.trans e4) b o ho)
      show tSeq _ _ _ _ _
      dsimp only [List.set]
      -- the plan
      refine q_forRNs (N := size) (en_opV (EvN.of ev_c) (fun _ _ => en_next (many := (size : Int)) hD5 (ev_var rfl) (ev_var rfl) (by omega) (by omega)) ?_) (by omega) (fun j σ' H' => ∃ (uw : List (List Nat)) (pvs : List V) (pds : List PyData) (cn : Int) (y12 y13 y14 y15 : Option V), σ' = [some (.ref d), some (.int (many : Int)), some (.int (size : Int)), some (.ref pf), some (.ref pa), some (.ref pl), some (.int cn), some (.int (i : Int)), some (.str (S wf)), some (.ref lu0), some (.ref lu), some (.ref lp), y12, y13, y14, y15, y16, y17, y18, none, none] ∧ Ex2 lu lp H5 H' ∧ Dc K H' d a ns ∧ H' lu = some (tL uw) ∧ uw.length ≤ 4 * j ∧ H' lp = some (.lst pvs) ∧ TdAll H' pvs pds ∧ (∀ p ∈ pds, PlanOk p) ∧ pds.length = j) (fun H6 e6 => ⟨[], [], [], cn, y12, y13, y14, y15, rfl, Ex2.of e6, hD5.ex e6, e6 _ _ hlu5, Nat.le_refl _, e6 _ _ hlp5, .nil, fun _ z => (by cases z), rfl⟩) ?_ ?_
      · rintro x y rfl ⟨z, rfl, z0, z1⟩
        exact ⟨_, ⟨1 + z, rfl, by omega, by omega⟩, rv_I0⟩
      · rintro j σ' H6 hj ⟨uw, pvs, pds, cn, y12, y13, y14, y15, rfl, x6, hD6, hlu6, huwl, hlp6, hpT, hpOk, hpl6⟩
        dsimp only [List.set]
        have hpv := hpT.len
        -- parts
        refine q_asgG (c_cb1 (c_lcParts (M := 4) (u := lu) (en_next (many := 4) hD6 (ev_var rfl) ev_c) hD6 hlu6 (by decide) (by omega) (fun _ => rfl) (fun x H7 uw1 hD7 hlu7 hl7 Qe qe => ?_) fun l H7 xs ds uw2 hl0 x7 hD7 hlu7 huw2 hl7 hT7 hM hPk => ?_))
        · refine t_tup (a_cons (ev_c H7 (Ex.refl H7) _ fun H8 e8 => a_cons (c_call ?_)))
          refine (show EvA (tCons (tVar 0) (tCons (tVar 10) tNil)) _ H8 [.ref d, .ref lu] from ea_cons (ev_var rfl) (ea_cons (ev_var rfl) ea_nil)) H8 (Ex.refl H8) _ fun H9 e9 => ?_
          refine ⟨d, a, lu, ns, uw1, rfl, (hD7.ex e8).ex e9, (e8.trans e9) _ _ hlu7, hl7, fun wp H10 gwp _ x10 hD10 hlu10 => ?_⟩
          refine a_cons ((en_pickLs (Pt := (· = [kNum, oYes])) hD10 (ev_var rfl) (els_new (ts := [kNum, oYes]) (eat_lst2 (es_cl zN) (es_cl zY)) rfl) fun ts h => by rw [h]; exact ⟨by decide, by decide⟩) H10 (Ex.refl H10) _ fun v H11 hv e11 => ?_)
          obtain ⟨_, kp, rfl, hkp, rfl⟩ := hv
          simp only [List.mem_cons, List.not_mem_nil, or_false] at hkp
          refine a_nil ⟨by show 3 ≤ sizeLine; decide, fun p hp => ?_⟩
          have ep := Ex.new (o := HO.tup [V.non, .str (S wp), .str (S kp)]) hp
          refine qe _ _ (.tuple [.none, .str (S wp), .str (S kp)]) wp (fun b o hb ho => (e11.trans ep) b o (x10 b o hb ((e8.trans e9) b o ho))) ((e11.trans ep) _ _ hlu10) (.tup upd_same (.cons .non (.cons (.str _) (.cons (.str _) .nil)))) ⟨wp, kp, rfl, gwp, hkp⟩
        refine ⟨l, xs, rfl, .inl ⟨sq_of hl7, fun pt hpt => ?_⟩⟩
        have ept := Ex.new (o := HO.tup xs) hpt
        have hparts : Td (upd H7 pt (.tup xs)) (.ref pt) (.tuple ds) := .tup upd_same (TdAll.tx (Tx.of ept) _ _ hT7)
        have nlup : lp ≠ lu := n3.symm
        have x68 : ExB lu H6 (upd H7 pt (.tup xs)) := fun b o hb ho => ept b o (x7 b o hb ho)
        have hD8 := hD7.ex ept
        have hlu8 := ept _ _ hlu7
        have hlp8 : (upd H7 pt (.tup xs)) lp = some (.lst pvs) := x68 _ _ nlup hlp6
        have hpT8 := TdAll.tx (fun x us hx => x68 x _ (ne_of hx hlu6 (by intro z; cases z)) hx) _ _ hpT
        have x58 : Ex2 lu lp H5 (upd H7 pt (.tup xs)) := x6.trans (fun b o h1 h2 ho => x68 b o h1 ho)
        generalize upd H7 pt (.tup xs) = H8 at hparts x68 hD8 hlu8 hlp8 hpT8 x58
        show tSeq _ _ _ _ _
        dsimp only [List.set]
        -- word, kind
        refine qn_par2 (ean_cons (en_pickLs (Pt := (· = [oConst, oKeep, oDef, oDef, oDef])) hD8 (ev_var rfl) (els_new (ts := [oConst, oKeep, oDef, oDef, oDef]) (elt_lst (eat_cons (es_cl lC) (eat_cons (es_cl lK) (eat_cons (es_cl lD) (eat_cons (es_cl lD) (eat_cons (es_cl lD) eat_nil))))) (by show 5 ≤ 100000; decide)) rfl) fun ts h => by rw [h]; exact ⟨by decide, by decide⟩) (ean_cons (en_pickLs (Pt := (· = [kNum, oYes, [], kNum])) hD8 (ev_var rfl) (els_new (ts := [kNum, oYes, [], kNum]) (elt_lst (eat_cons (es_cl zN) (eat_cons (es_cl zY) (eat_cons (es_cl l0) (eat_cons (es_cl zN) eat_nil)))) (by show 4 ≤ 100000; decide)) rfl) fun ts h => by rw [h]; exact ⟨by decide, by decide⟩) ean_nil)) fun vs H9 hvs e9 => ?_
        obtain ⟨_, _, rfl, ⟨_, wd, rfl, hwd0, rfl⟩, _, _, rfl, ⟨_, kd, rfl, hkd0, rfl⟩, rfl⟩ := hvs
        have hwd : ToldWd wd := by
          simp only [List.mem_cons, List.not_mem_nil, or_false] at hwd0
          unfold ToldWd
          rcases hwd0 with h | h | h | h | h <;> simp [h]
        have hkd : Kd3 kd := by
          simp only [List.mem_cons, List.not_mem_nil, or_false] at hkd0
          unfold Kd3
          rcases hkd0 with h | h | h | h <;> simp [h]
        refine ⟨_, _, rfl, ?_⟩
        dsimp only [List.set]
        -- no kind of a def alone
        refine qn_asg (P := fun v => ∃ k2, v = .str (S k2) ∧ Kd3 k2 ∧ (wd ≠ oDef → Kd2 k2)) (en_if (et_and (et_test (ev_neS (ev_var rfl) (es_cl lD))) fun _ => et_test (ev_eqS (ev_var rfl) (es_cl l0))) (fun _ => (EvN.of (es_cl zN)).imp fun v h => ⟨kNum, h, .inr (.inl rfl), fun _ => .inl rfl⟩) (fun hz => (EvN.of (ev_var rfl)).imp fun v h => ⟨kd, h, hkd, fun hne => ?_⟩)) fun v H10 hv e10 => ?_
        · rcases hkd with z | z
          · subst z
            rw [decide_eq_false hne] at hz
            exact absurd hz (by decide)
          · exact z
        obtain ⟨k2, rfl, hk3, hk2⟩ := hv
        dsimp only [List.set]
        refine qn_asg (P := fun v => ∃ w2, v = .str (S w2) ∧ ToldWd w2 ∧ (w2 ≠ oDef → Kd2 k2)) (en_if (et_and (et_test (ev_eqS (ev_var rfl) (es_cl lC))) fun _ => et_test (ev_op (ev_var rfl) ev_c rv_I0)) (fun hz => (EvN.of (es_cl lK)).imp fun v h => ⟨oKeep, h, .inr (.inl rfl), fun _ => hk2 ?_⟩) (fun hz => (EvN.of (ev_var rfl)).imp fun v h => ⟨wd, h, hwd, hk2⟩)) fun v H11 hv e11 => ?_
        · rw [Bool.and_eq_true] at hz
          rw [of_decide_eq_true hz.1]
          decide
        obtain ⟨w2, rfl, hw2, hk22⟩ := hv
        dsimp only [List.set]
        refine q_asg (ev_op (ev_var rfl) (ev_int01 (ev_eqS (ev_var rfl) (es_cl lC))) rv_I0) fun H12 e12 => ?_
        dsimp only [List.set]
        have e812 := e9.trans (e10.trans (e11.trans e12))
        have hlp12 := e812 _ _ hlp8
        -- into the plan
        refine s_dropBM ?_
        refine (show Ev (tVar 11) _ H12 (.ref lp) from ev_var rfl) H12 (Ex.refl H12) _ fun H13 e13 => ⟨Or.inl ⟨rfl, pvs, sq_of (e13 _ _ hlp12)⟩, a_cons (t_tup (a_cons ?_))⟩
        refine ev_var rfl H13 (Ex.refl H13) _ fun H14 e14 => a_cons ?_
        refine ev_c H14 (Ex.refl H14) _ fun H15 e15 => a_cons ?_
        have e815 := e812.trans (e13.trans (e14.trans e15))
        refine (en_opV (P3 := fun v => ∃ o, v = .bl o) (en_next (many := 3) (hD8.ex e815) (ev_var rfl) ev_c) (fun _ _ => EvN.of ev_c) (by
          rintro x y ⟨z, rfl, _, _⟩ rfl
          exact ⟨_, ⟨_, rfl⟩, rv_I0⟩)) H15 (Ex.refl H15) _ fun v H16 hv e16 => ?_
        obtain ⟨out, rfl⟩ := hv
        refine a_cons (c_call ?_)
        have e816 := e815.trans e16
        refine (show EvA (tCons (tVar 0) (tCons (tVar 10) tNil)) _ H16 [.ref d, .ref lu] from ea_cons (ev_var rfl) (ea_cons (ev_var rfl) ea_nil)) H16 (Ex.refl H16) _ fun H17 e17 => ?_
        have e817 := e816.trans e17
        refine ⟨d, a, lu, ns, uw2, rfl, hD8.ex e817, e817 _ _ hlu8, by omega, fun wn H18 gwn _ x18 hD18 hlu18 => ?_⟩
        refine a_cons (ev_var rfl H18 (Ex.refl H18) _ fun H19 e19 => a_cons (ev_var rfl H19 (Ex.refl H19) _ fun H20 e20 => a_nil ⟨by show 6 ≤ sizeLine; decide, fun pe hpe => ?_⟩))
        have epe := Ex.new (o := HO.tup [V.str (S w2), .non, .bl out, .str (S wn), .ref pt, .str (S k2)]) hpe
        have e1821 := (e19.trans e20).trans epe
        have hrow : Td (upd H20 pe (.tup [V.str (S w2), .non, .bl out, .str (S wn), .ref pt, .str (S k2)])) (.ref pe) (.tuple [.str (S w2), .none, .bool out, .str (S wn), .tuple ds, .str (S k2)]) := .tup upd_same (.cons (.str _) (.cons .non (.cons (.bl _) (.cons (.str _) (.cons (Td.tx (fun x us hx => e1821 x _ (x18 x _ (ne_of (e817 _ _ hx) (e817 _ _ hlu8) (by intro z; cases z)) (e817 _ _ hx))) _ _ hparts) (.cons (.str _) .nil))))))
        generalize upd H20 pe (.tup [V.str (S w2), .non, .bl out, .str (S wn), .ref pt, .str (S k2)]) = H21 at e1821 hrow epe
        have x821 : ExB lu H8 H21 := fun b o hb ho => e1821 b o (x18 b o hb (e817 b o ho))
        have hlp21 := x821 _ _ nlup hlp8
        have tx821 : Tx H8 H21 := fun x us hx => x821 x _ (ne_of hx hlu8 (by intro z; cases z)) hx
        refine a_nil ⟨lp, pvs, .ref pe, rfl, rfl, hlp21, sz_lt (by omega), ?_⟩
        have txU : Tx H21 (upd H21 lp (.lst (pvs ++ [.ref pe]))) := Tx.lst hlp21
        refine ⟨uw2 ++ [wn], pvs ++ [.ref pe], pds ++ [_], _, _, _, _, _, rfl, ?_, ⟨?_, ?_⟩, ?_, ?_, upd_same, (TdAll.tx (tx821.trans txU) _ _ hpT8).snoc (Td.tx txU _ _ hrow), ?_, by rw [List.length_append, hpl6, List.length_singleton]⟩
        · intro b o h1 h2 ho
          rw [upd_ne h2]
          exact x821 b o h1 (x58 b o h1 h2 ho)
        · rw [upd_ne (ne_of (e1821 _ _ hD18.o) hlp21 (by intro z; unfold DiceO at z; cases z))]
          exact e1821 _ _ hD18.o
        · exact ((hD18.s).ex e1821).fx (Fx.mut hlp21 True.intro)
        · rw [upd_ne n3]
          exact e1821 _ _ hlu18
        · rw [List.length_append, List.length_singleton]
          omega
        · intro p hp
          rcases List.mem_append.mp hp with z | z
          · exact hpOk p z
          · rw [List.mem_singleton.mp z]
            exact ⟨w2, out, wn, ds, k2, rfl, hw2, gwn, by omega, hPk, hk3, hk22⟩
      · rintro j σ' H6 hj1 hj2 ⟨uw, pvs, pds, cn2, y12, y13, y14, y15, rfl, x6, hD6, hlu6, huwl, hlp6, hpT, hpOk, hpll⟩
        have x26 : ExB pl H2 H6 := fun b o hb ho => x6 b o (ne_of_none ho hlu0) (ne_of_none ho hlp0) (x25 b o hb ho)
        have hpl6 : H6 pl = some (tL (hs.map (·.1) ++ [wf])) := x6 _ _ nplu.symm nplp.symm hpl5
        have hS6 := hS.exB x26 hpl6
        have hus6 : H6 lu0 = some (tL zs) := x6 _ _ n1 n2 hus5
        have hfl : fs.length = i := by
          have := congrArg List.length hfe
          rw [List.length_map, List.length_map, hlen] at this
          exact this
        have hwfs : wf ∉ fs.map (·.1) := by rw [hfe]; exact hwf
        -- faces of used files
        refine q_asgDL (edl_lst ead_nil (Nat.zero_le _)) fun lo H7 vs0 hlo0 e7 hlo hT0 => ?_
        cases hT0
        dsimp only [List.set]
        refine q_forLn (ev_var rfl) (sq_of (e7 _ _ hus6)) (fun m σ' H' => ∃ (lo : Addr) (ovs : List V) (ods : List PyData) (y17 : Option V), σ' = [some (.ref d), some (.int (many : Int)), some (.int (size : Int)), some (.ref pf), some (.ref pa), some (.ref pl), some (.int cn2), some (.int (i : Int)), some (.str (S wf)), some (.ref lu0), some (.ref lu), some (.ref lp), y12, y13, y14, y15, some (.ref lo), y17, y18, none, none] ∧ Ex H6 H' ∧ H' lo = some (.lst ovs) ∧ TdAll H' ovs ods ∧ (∀ p ∈ ods, AllOk p) ∧ ods.length ≤ 4 * m) (fun H8 e8 => ⟨lo, [], [], y17, rfl, e7.trans e8, e8 _ _ hlo, .nil, fun _ z => (by cases z), Nat.le_refl _⟩) (fun m σ' H' _ ⟨_, _, _, _, _, e, _⟩ => sq_of (e _ _ hus6)) ?_ ?_
        · rintro m x σ' H8 hx ⟨lo, ovs, ods, y17, rfl, e8, hlo8, hoT, hoOk, hol⟩
          dsimp only [List.set]
          rw [List.getElem?_map] at hx
          obtain ⟨z, hz, rfl⟩ := Option.map_eq_some_iff.mp hx
          have hS8 := hS6.go e8
          obtain ⟨y, hy, hget⟩ := kvA_get (hs := fs) (w := z) (by rw [hfe]; exact hzs z (List.mem_of_getElem? hz))
          obtain ⟨⟨fvs, fds, f1, f2, f3, f4⟩, _⟩ := hS8.fa y hy
          have hmz : m < zs.length := (List.getElem?_eq_some_iff.mp hz).1
          refine s_asgDL (edl_catVV (ev_var rfl) hlo8 hoT (ev_dget (ev_var rfl) (ev_var rfl) hS8.a hget) f1 f2 (by omega)) fun l2 H9 vs9 hl20 e9 hl29 hT9 => ⟨l2, vs9, _, _, rfl, e8.trans e9, hl29, hT9, fun p hp => ?_, ?_⟩
          · rcases List.mem_append.mp hp with z2 | z2
            · exact hoOk p z2
            · exact f3 p z2
          · rw [List.length_append]
            omega
        · rintro σ' H8 ⟨lo, ovs, ods, y17, rfl, e8, hlo8, hoT, hoOk, hol⟩
          rw [List.length_map] at hol
          have hS8 := hS6.go e8
          have hlp8 := e8 _ _ hlp6
          have hpT8 := TdAll.tx (Tx.of e8) _ _ hpT
          have hpvl := hpT.len
          -- its own face
          refine q_dputV (ep_RL ((erl_lcF (R := AllOk) (ev_var rfl) hlp8 hpT8 (by omega) (fun _ => rfl) fun x dx H9 e9 hdx hTx => ?_).imp (L1 := AllP AllOk N) fun es h => ⟨h.2, by have := h.1; omega⟩)) nls_ups (fun H' e => ev_var rfl) (fun H' => ev_var rfl) hS8.a (by unfold kvA; rw [List.length_map]; omega) fun y H9 e9 hy => ?_
          · obtain ⟨w0, o0, n0, ps0, k0, rfl, hw0, gn0, hp3, hpk, hk3, hk2⟩ := hpOk dx hdx
            refine ⟨_, et_B (ev_ixTb (j := 2) (ev_var rfl) hTx ev_c rfl), fun _ => (er_catDR (ed_tup (ead_cons (ed_ixTd (j := 0) (ev_var rfl) hTx ev_c rfl) (ead_cons (ed_S (ev_var rfl)) ead_nil)) (by show 2 ≤ 100000; decide)) (by show 2 ≤ 1000; decide) (er_of (ed_slF (k := 3) (ev_var rfl) hTx (by show 3 ≤ 6; decide))) (fun d hd => ⟨_, hd, List.cons_ne_nil _ _, by show 3 ≤ 1000; decide⟩)).imp ?_⟩
            rintro _ ⟨es, hes, rfl⟩
            cases hes
            exact ⟨w0, wf, n0, ps0, k0, rfl, hw0, .inr gwf, gn0, hp3, hpk, hk3, hk2⟩
          obtain ⟨lf, rfl, hlf0, hlf⟩ := hy
          rw [kvA_put hwfs]
          have hS9 := hS8.go e9
          have hS10 := hS9.face (w := wf) (hlf.lat) (ne_of_none hS8.l hlf0).symm
          have keep : ∀ l xs, H8 l = some (.lst xs) → (upd H9 pa (.dK (kvA (fs ++ [(wf, lf)])))) l = some (.lst xs) := fun l xs h => by
            rw [upd_ne (ne_of h hS8.a (by intro z; cases z))]
            exact e9 _ _ h
          have tx10 : Tx H8 (upd H9 pa (.dK (kvA (fs ++ [(wf, lf)])))) := (Tx.of e9).trans (Tx.dK hS9.a)
          have hD10 : Dc K (upd H9 pa (.dK (kvA (fs ++ [(wf, lf)])))) d a ns := by
            have hD9 := hD6.ex (e8.trans e9)
            exact ⟨by rw [upd_ne (ne_of hD9.o hS9.a (by intro z; unfold DiceO at z; cases z))]; exact hD9.o, hD9.s.fx (Fx.mut hS9.a True.intro)⟩
          have e010 : Ex H (upd H9 pa (.dK (kvA (fs ++ [(wf, lf)])))) := fun b o ho => by
            rw [upd_ne (ne_of_none ho hpa0)]
            exact (e8.trans e9) b o (x26 b o (ne_of_none ho hpl0) (e2 b o ho))
          generalize upd H9 pa (.dK (kvA (fs ++ [(wf, lf)]))) = H10 at hS10 keep tx10 hD10 e010
          have hlp10 := keep _ _ hlp8
          have hpT10 := TdAll.tx tx10 _ _ hpT8
          -- all that is told
          refine q_asgG (c_call (a_cons (ev_var rfl H10 (Ex.refl _) _ fun H11 e11 => a_cons (ev_var rfl H11 (Ex.refl _) _ fun H12 e12 => a_cons ?_))))
          have e1012 := e11.trans e12
          have hoT12 := TdAll.tx (tx10.trans (Tx.of e1012)) _ _ hoT
          have hlp12 := e1012 _ _ hlp10
          have hpT12 := TdAll.tx (Tx.of e1012) _ _ hpT10
          refine c_RL (erl_cat (n := 4) (ev_var rfl) (e1012 _ _ (keep _ _ hlo8)) hoT12 ((erl_lcF (R := AllOk) (t := tYes) (ev_var rfl) hlp12 hpT12 (by omega) (fun _ => rfl) fun x dx H13 e13 hdx hTx => ?_).imp (L1 := AllP AllOk 4) fun es h => ⟨h.2, by have := h.1; omega⟩) (fun es h => h.2) (by omega)) fun la H13 avs ads hads hla0 e13 hla hadT => ?_
          · obtain ⟨w0, o0, n0, ps0, k0, rfl, hw0, gn0, hp3, hpk, hk3, hk2⟩ := hpOk dx hdx
            refine ⟨true, et_yes, fun _ => (er_catDR (ed_tup (ead_cons (ed_ixTd (j := 0) (ev_var rfl) hTx ev_c rfl) (ead_cons (ed_S (es_cl l0)) ead_nil)) (by show 2 ≤ 100000; decide)) (by show 2 ≤ 1000; decide) (er_of (ed_slF (k := 3) (ev_var rfl) hTx (by show 3 ≤ 6; decide))) (fun d hd => ⟨_, hd, List.cons_ne_nil _ _, by show 3 ≤ 1000; decide⟩)).imp ?_⟩
            rintro _ ⟨es, hes, rfl⟩
            cases hes
            exact ⟨w0, [], n0, ps0, k0, rfl, hw0, .inl rfl, gn0, hp3, hpk, hk3, hk2⟩
          obtain ⟨es, ⟨hesOk, hesl⟩, rfl⟩ := hads
          refine a_cons (ev_var rfl H13 (Ex.refl _) _ fun H14 e14 => a_nil ?_)
          have e1014 := e1012.trans (e13.trans e14)
          refine ⟨d, a, lp, la, lu, ns, pvs, avs, pds, ods ++ es, uw, rfl, hD10.ex e1014, e1014 _ _ hlp10, TdAll.tx (Tx.of e1014) _ _ hpT10, hpOk, by omega, e14 _ _ hla, TdAll.tx (Tx.of e14) _ _ hadT, fun p hp => ?_, by rw [List.length_append]; omega, e1014 _ _ (keep _ _ (e8 _ _ hlu6)), by omega, fun v H15 tds e15 hv hraw htl => ?_⟩
          · rcases List.mem_append.mp hp with z2 | z2
            · exact hoOk p z2
            · exact hesOk p z2
          show sDPut _ _ _ _ _ _
          dsimp only [List.set]
          have e1015 := e1014.trans e15
          have hS15 := hS10.go e1015
          have hus15 : H15 lu0 = some (tL zs) := e1015 _ _ (keep _ _ (e8 _ _ hus6))
          -- found
          refine s_dputV (ep_R (er_tup (ear_cons (er_tupleOf (erl_lcS (R := RawUse) (ev_var rfl) hus15 (by omega) (fun _ => rfl) fun z H16 e16 hz => ?_)) (ear_one (ed_of (ev_var rfl) hv) ear_nil)) ?_)) ups_R (fun H' e => ev_var rfl) (fun H' => ev_var rfl) hS15.f (by unfold kvF; rw [List.length_map]; omega) fun y H16 e16 hy => ?_
          · obtain ⟨x, hx, rfl⟩ := List.mem_map.mp (hzs z hz)
            exact (er_of (ed_tup (ead_cons (ed_non ev_c) (ead_cons (ed_S (ev_var rfl)) ead_nil)) (by show 2 ≤ 100000; decide))).imp fun _ h => h ▸ ⟨x.1, rfl, hgd x hx⟩
          · rintro _ ⟨_, _, rfl, _, _, rfl, rfl⟩
            show 2 ≤ 100000
            decide
          obtain ⟨_, ⟨_, ⟨_, _, rfl, ⟨uds, ⟨hul1, hul2⟩, rfl⟩, _, rfl, rfl⟩, rfl⟩, hyT⟩ := hy
          rw [kvF_put hwf]
          have hS16 := (hS15.go e16).file (w := wf) (v := y) ⟨uds, tds, hyT, hul2, by omega, rawTolds_up hraw (by omega), by omega, by omega⟩
          refine ⟨hs ++ [(wf, y)], fs ++ [(wf, lf)], _, _, _, _, _, _, _, _, _, _, _, _, _, rfl, fun b o ho => ?_, ?_, ?_, ?_, ?_, by rw [List.length_append, hlen, List.length_singleton]⟩
          · rw [upd_ne (ne_of_none ho hpf0)]
            exact (e1015.trans e16) b o (e010 b o ho)
          · rw [List.map_append]
            exact hS16
          · rw [List.map_append, List.map_append, hfe] <;> rfl
          · rw [List.map_append]
            exact List.nodup_append.mpr ⟨hnd, List.nodup_cons.mpr ⟨fun z => (by cases z), List.nodup_nil⟩, fun x hx y hy z => hwf (by
              have : y = wf := List.mem_singleton.mp hy
              rw [← this, ← z]
              exact hx)⟩
          · intro x hx
            rcases List.mem_append.mp hx with z2 | z2
            · exact hgd x z2
            · rw [List.mem_singleton.mp z2]
              exact gwf
    · rintro n σ' H2 hn1 hn2 ⟨hs, fs, cn, y7, y8, y9, y10, y11, y12, y13, y14, y15, y16, y17, y18, rfl, e2, hS, hfe, hnd, hgd, hlen⟩
      refine s_ret (ev_var rfl) fun H3 e3 => q pf H3 (e2.trans e3) hpf0 ⟨hs, (hS.go e3).f, hnd, fun z => by rw [z] at hlen; change 0 = n at hlen; omega, by omega, hgd, (hS.go e3).ok⟩
end
end Wt

set_option Elab.async false
set_option linter.all false
set_option maxRecDepth 100000
set_option maxHeartbeats 4000000
namespace Wt
open PySem PySem.Spec PyProof.Rows L2 SX Evl
/-! Laws that go over the files of a house. -/
section
variable {K : PySem.W.Frag} {σ : L2.St} {H H' : Hp} {ta tb te tx tl : TE} {tr : TA} {t u : TT} {D : Ends} {tu tw tz : TS} {g : TG} {E1 E2 : XK}
/-- for k in sorted(d) -/
theorem q_forSorted {a : Addr} {kvs : List (Key × V)} {ks : List Str} {j : Nat} (h : Ev tl σ H (.ref a)) (hd : H a = some (.dK kvs)) (hk : kvs.map (·.1) = ks.map Sum.inr) (h64 : ks.length < 64) (Pv : L2.St → Hp → Prop) (h0 : ∀ H1, Ex H H1 → Pv σ H1)
    (hs : ∀ (p : Addr) (ys : List Str) σ' H' (y : Str), y ∈ ks → H p = none → H' p = some (.lst (ys.map V.str)) → Pv σ' H' → tu { D with nx := fun σ2 H2 => Pv σ2 H2 ∧ H2 p = some (.lst (ys.map V.str)), ct := fun σ2 H2 => Pv σ2 H2 ∧ H2 p = some (.lst (ys.map V.str)), bk := tz D } (σ'.set j (some (.str y))) H') (hz : ∀ σ' H', Pv σ' H' → tz D σ' H') :
    tSeq (tFor (iList K (tCB (fun xs H Q => ∃ (a : Addr) (kvs : List (Key × V)) (ks : List Str), xs = [.ref a] ∧ L2.Rd H a (.dK kvs) ∧ kvs.map (·.1) = ks.map Sum.inr ∧ ks.length < 64 ∧ ∀ ys p, ys.Perm ks → sortedS ys = true → H p = none → Q (.ref p) (upd H p (.lst (ys.map V.str)))) (tCons tl tNil))) (gName j) tu) tz D σ H :=
  h H (Ex.refl H) _ fun H1 e1 => ⟨a, kvs, ks, rfl, .inl (e1 _ _ hd), hk, h64, fun ys p hp hs1 hpn => ⟨p, rfl, ⟨_, sq_of upd_same⟩, by
    refine for_list (D := { D with nx := tz D }) (xs := ys.map V.str) (fun i σ' H' => Pv σ' H' ∧ H' p = some (.lst (ys.map V.str))) ⟨h0 _ (e1.trans (Ex.new hpn)), upd_same⟩ (fun i σ' H' _ q => sq_of q.2) ?_ fun σ' H' q => hz σ' H' q.1
    rintro i x σ' H' hx ⟨hP, hl⟩
    rw [List.getElem?_map] at hx
    obtain ⟨y, hy, rfl⟩ := Option.map_eq_some_iff.mp hx
    exact hs p ys σ' H' y (hp.mem_iff.mp (List.mem_of_getElem? hy)) (fresh_back e1 hpn) hl hP⟩⟩
/-- if not like(a, b): .., both the same text -/
theorem s_likeS {n : Nat} {text : List Nat} (ha : EvS ta σ H text) (hb : EvS tb σ H text) (hn : 0 < n) (k : ∀ H', Ex H H' → D.nx σ H') : tIfS (tNot (tB (tCall (spLike K n) [] E1 (tCons ta (tCons tb tNil))))) tu tNext D σ H := by
  have : tCall (spLike K n) [] E1 (tCons ta (tCons tb tNil)) σ H (fun x H2 => ∃ c, x = .bl c ∧ (if (!c) = true then tu D σ H2 else tNext D σ H2)) := ha H (Ex.refl H) _ fun H1 e1 => hb H1 e1 _ fun H2 e2 => ⟨.str (S text), .str (S text), .str (S text), rfl, Td.dp _ _ (.str _), Td.dp _ _ (.str _), by unfold PyData.depth; exact hn, by unfold wideD; rfl, fun H4 e4 => ⟨true, rfl, k H4 ((e1.trans e2).trans e4)⟩⟩
  exact this
end
end Wt

set_option Elab.async false
set_option linter.all false
set_option maxRecDepth 100000
set_option maxHeartbeats 4000000
/-! Trees written one way: their texts. -/
namespace Wt
open PySem PySem.Spec PyProof.Rows L2 SX Evl
/-- a word's level -/
def lvl (w : List Nat) : Nat := if w = oOr then 0 else if w = oAnd then 1 else if w = oNot then 2 else if w ∈ sCmp then 3 else if w ∈ sSum then 4 else if w ∈ sProd then 5 else if w = oNeg then 6 else 7
/-- in brackets where it must be -/
def br (lv m : Nat) (t : List Nat) : List Nat := if lv ≤ m then t else [40] ++ t ++ [41]
def pathT (f n : List Nat) : List Nat := if f = [] then n else f ++ [46] ++ n
def boolT (b : Bool) : List Nat := if b = true then oYes else oNo
def sepT : List Nat := [44, 32]
mutual
/-- the text of an E: how deep, the least level, the E, the text -/
inductive TxE : Nat → Nat → PyData → List Nat → Prop
  | num {h lv n : Nat} (l : n < 1000000) : TxE (h + 1) lv (rNode kNum [.int (n : Int)]) (TL.numL n)
  | tru {h lv : Nat} {x : Bool} : TxE (h + 1) lv (rNode oTruth [.bool x]) (boolT x)
  | name {h lv : Nat} {f n : List Nat} (gf : f = [] ∨ Good kName f) (gn : Good kName n) : TxE (h + 1) lv (rNode kName [.str (S f), .str (S n)]) (pathT f n)
  | call {h lv : Nat} {f n : List Nat} {ds : List PyData} {ss : List (List Nat)} (gf : f = [] ∨ Good kName f) (gn : Good kName n) (a : TxAll h ds ss) : TxE (h + 1) lv (rNode oCall [.str (S f), .str (S n), .tuple ds]) (pathT f n ++ [40] ++ TL.joinL sepT ss ++ [41])
  | neg {h lv : Nat} {d : PyData} {s : List Nat} (r : TxE h 6 d s) : TxE (h + 1) lv (rNode oNeg [d]) (br lv 6 ([45] ++ s))
  | not {h lv : Nat} {d : PyData} {s : List Nat} (r : TxE h 2 d s) : TxE (h + 1) lv (rNode oNot [d]) (br lv 2 (oNot ++ [32] ++ s))
  | bin {h lv : Nat} {g : List Nat} {d e : PyData} {s t : List Nat} (hg : g ∈ binW) (r1 : TxE h (lvl g + (if lvl g = 3 then 1 else 0)) d s) (r2 : TxE h (lvl g + 1) e t) : TxE (h + 1) lv (rNode g [d, e]) (br lv (lvl g) (s ++ [32] ++ g ++ [32] ++ t))
inductive TxAll : Nat → List PyData → List (List Nat) → Prop
  | nil {h : Nat} : TxAll h [] []
  | cons {h : Nat} {d : PyData} {ds : List PyData} {s : List Nat} {ss : List (List Nat)} (r : TxE h 0 d s) (a : TxAll h ds ss) : TxAll h (d :: ds) (s :: ss)
end
theorem nm_len {w : List Nat} (g : Good kName w) : w.length ≤ 6 := by
  cases g with
  | name a n l o => exact l
theorem path_len {f n : List Nat} (gf : f = [] ∨ Good kName f) (gn : Good kName n) : (pathT f n).length ≤ 13 := by
  have h1 := nm_len gn
  unfold pathT
  split
  · omega
  · rcases gf with z | z
    · contradiction
    · have := nm_len z
      rw [List.length_append, List.length_append, List.length_singleton]
      omega
theorem br_len (lv m : Nat) (t : List Nat) : (br lv m t).length ≤ t.length + 2 := by
  unfold br
  split
  · omega
  · rw [List.length_append, List.length_append, List.length_singleton, List.length_singleton]
    omega
theorem bin_len : ∀ g ∈ binW, g.length ≤ 3 := by decide
theorem sepT_len {B : Nat} : ∀ ss : List (List Nat), (ss.map fun s => s.length + 2).sum ≤ B → (TL.joinL sepT ss).length ≤ B
  | [], _ => Nat.zero_le _
  | [r], h => by
    show r.length ≤ B
    rw [List.map_cons, List.sum_cons, List.map_nil, List.sum_nil] at h
    omega
  | r :: s :: rows, h => by
    rw [List.map_cons, List.sum_cons] at h
    have ih := sepT_len (B := B - (r.length + 2)) (s :: rows) (by omega)
    show (r ++ (sepT ++ TL.joinL sepT (s :: rows))).length ≤ _
    rw [List.length_append, List.length_append]
    show r.length + (2 + _) ≤ _
    omega
mutual
/-- there is a text of each E that is drawn -/
theorem tx_ex : ∀ {h c b : Nat} {d : PyData}, RawD h c b d → ∀ lv, ∃ s, TxE h lv d s ∧ s.length ≤ 9 * c
  | _, c, _, _, .num (n := n) l hc hb, lv => ⟨_, .num l, by
    have := TL.numL_len (n := n) (k := 6) (by decide) (by simpa using l)
    omega⟩
  | _, c, _, _, .tru (x := x) hc hb, lv => ⟨_, .tru, by
    have : (boolT x).length ≤ 3 := by cases x <;> decide
    omega⟩
  | _, c, _, _, .name gf gn hc hb, lv => ⟨_, .name gf gn, by
    have := path_len gf gn
    omega⟩
  | _, c, _, _, .call gf gn a hc hb, lv => by
    obtain ⟨ss, t, hl⟩ := tx_all a
    refine ⟨_, .call gf gn t, ?_⟩
    have h1 := path_len gf gn
    have h2 := sepT_len ss hl
    rw [List.length_append, List.length_append, List.length_append, List.length_singleton, List.length_singleton]
    omega
  | _, c, _, _, .neg r hc hb, lv => by
    obtain ⟨s, t, hl⟩ := tx_ex r 6
    refine ⟨_, .neg t, ?_⟩
    have := br_len lv 6 ([45] ++ s)
    rw [List.length_append, List.length_singleton] at this
    omega
  | _, c, _, _, .not r hc hb, lv => by
    obtain ⟨s, t, hl⟩ := tx_ex r 2
    refine ⟨_, .not t, ?_⟩
    have := br_len lv 2 (oNot ++ [32] ++ s)
    rw [List.length_append, List.length_append, List.length_singleton] at this
    have h3 : oNot.length = 3 := by decide
    omega
  | _, c, _, _, .bin (s := g) hs r1 r2 hc h1 h2, lv => by
    obtain ⟨s, t, hl⟩ := tx_ex r1 (lvl g + (if lvl g = 3 then 1 else 0))
    obtain ⟨s2, t2, hl2⟩ := tx_ex r2 (lvl g + 1)
    refine ⟨_, .bin hs t t2, ?_⟩
    have := br_len lv (lvl g) (s ++ [32] ++ g ++ [32] ++ s2)
    have hg := bin_len g hs
    rw [List.length_append, List.length_append, List.length_append, List.length_append, List.length_singleton] at this
    omega
theorem tx_all : ∀ {h c b : Nat} {ds : List PyData}, RawAll h c b ds → ∃ ss, TxAll h ds ss ∧ (ss.map fun s => s.length + 2).sum ≤ 9 * c
  | _, _, _, _, .nil => ⟨[], .nil, Nat.zero_le _⟩
  | _, c, _, _, .cons r a hc => by
    obtain ⟨s, t, hl⟩ := tx_ex r 0
    obtain ⟨ss, u, hl2⟩ := tx_all a
    refine ⟨s :: ss, .cons t u, ?_⟩
    rw [List.map_cons, List.sum_cons]
    omega
end
/-! ### rows -/
def indT (s : List Nat) : List Nat := [32, 32] ++ s
def elseT : PyData → List (List Nat) → List (List Nat)
  | .tuple [], _ => []
  | _, ls => oElse :: ls.map indT
mutual
/-- the rows of text of a row -/
inductive TxRow : Nat → PyData → List (List Nat) → Prop
  | let_ {h : Nat} {n s : List Nat} {e : PyData} (gn : Good kName n) (r : TxE 3 0 e s) (hl : s.length ≤ 477) : TxRow (h + 1) (.tuple [.str (S oLet), .none, .str (S n), e]) [oLet ++ [32] ++ n ++ [32, 61, 32] ++ s]
  | set_ {h : Nat} {n s : List Nat} {e : PyData} (gn : Good kName n) (r : TxE 3 0 e s) (hl : s.length ≤ 477) : TxRow (h + 1) (.tuple [.str (S oSet), .none, .str (S n), e]) [n ++ [32, 61, 32] ++ s]
  | worth {h : Nat} {w s : List Nat} {e : PyData} (hw : w = oGive ∨ w = oSay ∨ w = oDo) (r : TxE 3 0 e s) (hl : s.length ≤ 477) (hne : ∃ es, e = .tuple es) : TxRow (h + 1) (.tuple [.str (S w), .none, e]) [w ++ [32] ++ s]
  | give0 {h : Nat} : TxRow (h + 1) (.tuple [.str (S oGive), .none, .none]) [oGive]
  | while_ {h : Nat} {s : List Nat} {e : PyData} {ds : List PyData} {ls : List (List Nat)} (r : TxE 3 0 e s) (hl : s.length ≤ 477) (a : TxRows h ds ls) : TxRow (h + 1) (.tuple [.str (S oWhile), .none, e, .tuple ds]) ([oWhile ++ [32] ++ s] ++ ls.map indT ++ [oEnd])
  | if_ {h : Nat} {s : List Nat} {e : PyData} {ds es : List PyData} {ls ms : List (List Nat)} (r : TxE 3 0 e s) (hl : s.length ≤ 477) (a : TxRows h ds ls) (b : TxRows h es ms) (hsh : Shp 64 (.tuple es)) : TxRow (h + 1) (.tuple [.str (S oIf), .none, e, .tuple ds, .tuple es]) ([oIf ++ [32] ++ s] ++ ls.map indT ++ (if es = [] then [] else oElse :: ms.map indT) ++ [oEnd])
inductive TxRows : Nat → List PyData → List (List Nat) → Prop
  | nil {h : Nat} : TxRows h [] []
  | cons {h : Nat} {d : PyData} {ds : List PyData} {l ls : List (List Nat)} (r : TxRow h d l) (a : TxRows h ds ls) : TxRows h (d :: ds) (l ++ ls)
end
/-- all rows are so long at most -/
def ShortL (B : Nat) (ls : List (List Nat)) : Prop := ∀ l ∈ ls, l.length ≤ B
theorem ShortL.ind {B : Nat} {ls : List (List Nat)} (h : ShortL B ls) : ShortL (B + 2) (ls.map indT) := fun l hl => by
  obtain ⟨x, hx, rfl⟩ := List.mem_map.mp hl
  have := h x hx
  unfold indT
  rw [List.length_append]
  show 2 + _ ≤ _
  omega
theorem ShortL.app {B : Nat} {a b : List (List Nat)} (h : ShortL B a) (g : ShortL B b) : ShortL B (a ++ b) := fun l hl => by
  rcases List.mem_append.mp hl with z | z
  · exact h l z
  · exact g l z
theorem ShortL.one {B : Nat} {x : List Nat} (h : x.length ≤ B) : ShortL B [x] := fun l hl => by
  rw [List.mem_singleton.mp hl]
  exact h
theorem ShortL.up {B C : Nat} {a : List (List Nat)} (h : ShortL B a) (e : B ≤ C) : ShortL C a := fun l hl => Nat.le_trans (h l hl) e
theorem raw_tup {h c b : Nat} {d : PyData} (r : RawD h c b d) : ∃ es, d = .tuple es := by
  cases r <;> exact ⟨_, rfl⟩
mutual
theorem txr_ex : ∀ {h L : Nat} {d : PyData}, RawRow h L d → L ≤ 300 → h ≤ 10 → ∃ ls, TxRow h d ls ∧ ls.length ≤ L ∧ ShortL (493 + 2 * h) ls
  | _, L, _, .asg (n := n) hw gn r hL, _, _ => by
    obtain ⟨s, t, hl⟩ := tx_ex r 0
    have hn := nm_len gn
    rcases hw with rfl | rfl
    · refine ⟨_, .let_ gn t hl, hL, ShortL.one ?_⟩
      rw [List.length_append, List.length_append, List.length_append, List.length_append]
      show 3 + 1 + _ + 3 + _ ≤ _
      omega
    · refine ⟨_, .set_ gn t hl, hL, ShortL.one ?_⟩
      rw [List.length_append, List.length_append]
      show _ + 3 + _ ≤ _
      omega
  | _, L, _, .worth hw r hL, _, _ => by
    obtain ⟨s, t, hl⟩ := tx_ex r 0
    refine ⟨_, .worth (by rcases hw with z | z <;> simp [z]) t hl (raw_tup r), hL, ShortL.one ?_⟩
    rw [List.length_append, List.length_append]
    rcases hw with rfl | rfl
    · show 4 + 1 + _ ≤ _
      omega
    · show 3 + 1 + _ ≤ _
      omega
  | _, L, _, .give0 hL, _, _ => ⟨_, .give0, hL, ShortL.one (by show 4 ≤ _; omega)⟩
  | _, L, _, .do_ r hL, _, _ => by
    obtain ⟨s, t, hl⟩ := tx_ex r 0
    refine ⟨_, .worth (.inr (.inr rfl)) t hl (raw_tup r), hL, ShortL.one ?_⟩
    rw [List.length_append, List.length_append]
    show 2 + 1 + _ ≤ _
    omega
  | _, L, _, .while_ r a hL, hL3, hh => by
    obtain ⟨s, t, hl⟩ := tx_ex r 0
    obtain ⟨ls, u, hl2, hs⟩ := txrs_ex a (by omega) (by omega)
    refine ⟨_, .while_ t hl u, ?_, (ShortL.app (ShortL.one ?_) (hs.ind.up (by omega))).app (ShortL.one ?_)⟩
    · rw [List.length_append, List.length_append, List.length_map]
      show 1 + _ + 1 ≤ _
      omega
    · rw [List.length_append, List.length_append]
      show 5 + 1 + _ ≤ _
      omega
    · show 3 ≤ _
      omega
  | _, L, _, .if_ (h := h) (L2 := L2) (es := es) r a b hL, hL3, hh => by
    obtain ⟨s, t, hl⟩ := tx_ex r 0
    obtain ⟨ls, u, hl2, hs⟩ := txrs_ex a (by omega) (by omega)
    obtain ⟨ms, u2, hl3, hs2⟩ := txrs_ex b (by omega) (by omega)
    refine ⟨_, .if_ t hl u u2 ((shp_tup ((rawRow_shp h).2 es L2 (by omega) b) (by have := rawRows_len b; omega)).up (by omega)), ?_, ((ShortL.app (ShortL.one ?_) (hs.ind.up (by omega))).app ?_).app (ShortL.one ?_)⟩
    · rw [List.length_append, List.length_append, List.length_append, List.length_map]
      split
      · show 1 + _ + 0 + 1 ≤ _
        omega
      · rw [List.length_cons (a := oElse), List.length_map]
        show 1 + _ + (_ + 1) + 1 ≤ _
        omega
    · rw [List.length_append, List.length_append]
      show 2 + 1 + _ ≤ _
      omega
    · split
      · exact fun l hl => by cases hl
      · exact ShortL.app (a := [oElse]) (ShortL.one (by show 4 ≤ _; omega)) (hs2.ind.up (by omega))
    · show 3 ≤ _
      omega
theorem txrs_ex : ∀ {h L : Nat} {ds : List PyData}, RawRows h L ds → L ≤ 300 → h ≤ 10 → ∃ ls, TxRows h ds ls ∧ ls.length ≤ L ∧ ShortL (493 + 2 * h) ls
  | _, _, _, .nil, _, _ => ⟨[], .nil, Nat.zero_le _, fun l hl => by cases hl⟩
  | _, L, _, .cons r a hL, hL3, hh => by
    obtain ⟨l, t, h1, h2⟩ := txr_ex r (by omega) hh
    obtain ⟨ls, u, h3, h4⟩ := txrs_ex a (by omega) hh
    exact ⟨l ++ ls, .cons t u, by rw [List.length_append]; omega, h2.app h4⟩
end
end Wt

set_option Elab.async false
set_option linter.all false
set_option maxRecDepth 100000
set_option maxHeartbeats 4000000
/-! Files written one way: their texts. -/
namespace Wt
open PySem PySem.Spec PyProof.Rows L2 SX Evl
def outT (o : Bool) (t : List Nat) : List Nat := if o = true then oOut ++ [32] ++ t else t
def partT (n k : List Nat) : List Nat := n ++ [32] ++ k
def kindT (k : List Nat) : List Nat := if k = [] then [] else [32] ++ k
inductive TxParts : List PyData → List (List Nat) → Prop
  | nil : TxParts [] []
  | cons {n k : List Nat} {ps : List PyData} {ss : List (List Nat)} (gn : Good kName n) (hk : k ∈ kinds) (a : TxParts ps ss) : TxParts (.tuple [.none, .str (S n), .str (S k)] :: ps) (partT n k :: ss)
inductive TxUses : List PyData → List (List Nat) → Prop
  | nil : TxUses [] []
  | cons {f : List Nat} {us : List PyData} {fs : List (List Nat)} (gf : Good kName f) (a : TxUses us fs) : TxUses (.tuple [.none, .str (S f)] :: us) (f :: fs)
/-- the first row of a def, without out -/
def defT (n : List Nat) (ss : List (List Nat)) (k : List Nat) : List Nat := oDef ++ [32] ++ n ++ [40] ++ TL.joinL sepT ss ++ [41] ++ kindT k
inductive TxTold : PyData → List (List Nat) → Prop
  | worth {w n s : List Nat} {o : Bool} {e : PyData} (hw : w = oConst ∨ w = oKeep) (gn : Good kName n) (r : TxE 3 0 e s) (hl : s.length ≤ 477) : TxTold (.tuple [.str (S w), .none, .bool o, .str (S n), e]) [outT o (w ++ [32] ++ n ++ [32, 61, 32] ++ s)]
  | def_ {n k : List Nat} {o : Bool} {ps ds : List PyData} {ss ls : List (List Nat)} (gn : Good kName n) (hp : TxParts ps ss) (h6 : ps.length ≤ 6) (hk : k = [] ∨ k ∈ kinds) (a : TxRows 4 ds ls) (hl : ls.length ≤ 300) (hs : ShortL 600 ls) :
      TxTold (.tuple [.str (S oDef), .none, .bool o, .str (S n), .tuple ps, .str (S k), .tuple ds, .none]) ([outT o (defT n ss k)] ++ ls.map indT ++ [oEnd])
inductive TxTolds : List PyData → List (List Nat) → Prop
  | nil : TxTolds [] []
  | cons {d : PyData} {ds : List PyData} {l ls : List (List Nat)} (r : TxTold d l) (a : TxTolds ds ls) : TxTolds (d :: ds) (l ++ ls)
def useT (fs : List (List Nat)) : List (List Nat) := if fs = [] then [] else [oUse ++ [32] ++ TL.joinL sepT fs]
theorem txParts_len : ∀ {ps : List PyData} {ss : List (List Nat)}, TxParts ps ss → ps.length = ss.length ∧ ∀ s ∈ ss, s.length ≤ 10
  | _, _, .nil => ⟨rfl, fun _ h => by cases h⟩
  | _, _, .cons (n := n) (k := k) gn hk a => by
    obtain ⟨h1, h2⟩ := txParts_len a
    refine ⟨congrArg (· + 1) h1, fun s hs => ?_⟩
    rcases List.mem_cons.mp hs with rfl | hs
    · have := nm_len gn
      have hk3 : k.length ≤ 3 := by
        have all : ∀ x ∈ kinds, x.length ≤ 3 := by decide
        exact all k hk
      unfold partT
      rw [List.length_append, List.length_append]
      show _ + 1 + _ ≤ _
      omega
    · exact h2 s hs
theorem txUses_len : ∀ {us : List PyData} {fs : List (List Nat)}, TxUses us fs → us.length = fs.length ∧ ∀ s ∈ fs, s.length ≤ 10
  | _, _, .nil => ⟨rfl, fun _ h => by cases h⟩
  | _, _, .cons gn a => by
    obtain ⟨h1, h2⟩ := txUses_len a
    refine ⟨congrArg (· + 1) h1, fun s hs => ?_⟩
    rcases List.mem_cons.mp hs with rfl | hs
    · have := nm_len gn
      omega
    · exact h2 s hs
theorem sep_short {B : Nat} : ∀ {ss : List (List Nat)}, (∀ s ∈ ss, s.length ≤ B) → (TL.joinL sepT ss).length ≤ (B + 2) * ss.length
  | [], _ => Nat.zero_le _
  | [r], h => by
    have := h r (List.mem_cons_self ..)
    show r.length ≤ (B + 2) * 1
    omega
  | r :: s :: rows, h => by
    have ih := sep_short (ss := s :: rows) fun q hq => h q (List.mem_cons_of_mem _ hq)
    have h1 := h r (List.mem_cons_self ..)
    show (r ++ (sepT ++ TL.joinL sepT (s :: rows))).length ≤ _
    rw [List.length_append, List.length_append, List.length_cons (a := r), Nat.mul_succ]
    show r.length + (2 + _) ≤ _
    omega
theorem kind_len {k : List Nat} (h : k = [] ∨ k ∈ kinds) : (kindT k).length ≤ 4 ∧ k.length ≤ 3 := by
  rcases h with rfl | h
  · decide
  · have all : ∀ x ∈ kinds, (kindT x).length ≤ 4 ∧ x.length ≤ 3 := by decide
    exact all k h
theorem defT_len {n k : List Nat} {ps : List PyData} {ss : List (List Nat)} (gn : Good kName n) (hp : TxParts ps ss) (h6 : ps.length ≤ 6) (hk : k = [] ∨ k ∈ kinds) : (defT n ss k).length ≤ 100 := by
  obtain ⟨h1, h2⟩ := txParts_len hp
  have h3 := sep_short h2
  have h4 : 12 * ss.length ≤ 12 * 6 := Nat.mul_le_mul_left _ (by omega)
  have h5 := (kind_len hk).1
  have h7 := nm_len gn
  unfold defT
  simp only [List.length_append, List.length_cons, List.length_nil]
  have : oDef.length = 3 := by decide
  omega
theorem outT_len (o : Bool) (t : List Nat) : (outT o t).length ≤ t.length + 4 := by
  unfold outT
  split
  · rw [List.length_append]
    show 4 + _ ≤ _
    omega
  · omega
theorem txParts_ex : ∀ {ps : List PyData}, (∀ p ∈ ps, RawPart p) → ∃ ss, TxParts ps ss
  | [], _ => ⟨[], .nil⟩
  | p :: ps, h => by
    obtain ⟨ss, t⟩ := txParts_ex fun q hq => h q (List.mem_cons_of_mem _ hq)
    obtain ⟨n, k, rfl, gn, hk⟩ := h p (List.mem_cons_self ..)
    exact ⟨_, .cons gn hk t⟩
theorem txUses_ex : ∀ {us : List PyData}, (∀ u ∈ us, RawUse u) → ∃ fs, TxUses us fs
  | [], _ => ⟨[], .nil⟩
  | p :: ps, h => by
    obtain ⟨ss, t⟩ := txUses_ex fun q hq => h q (List.mem_cons_of_mem _ hq)
    obtain ⟨f, rfl, gf⟩ := h p (List.mem_cons_self ..)
    exact ⟨_, .cons gf t⟩
/-- there is a text of what is told -/
theorem txt_ex {L : Nat} {d : PyData} (r : RawTold 4 L d) (hL : L ≤ 200) : ∃ ls, TxTold d ls ∧ ls.length ≤ L ∧ ShortL 520 ls := by
  cases r with
  | @worth w n o e hw gn r hL2 =>
    obtain ⟨s, t, hl⟩ := tx_ex r 0
    refine ⟨_, .worth hw gn t hl, hL2, ShortL.one ?_⟩
    have h1 := outT_len o (w ++ [32] ++ n ++ [32, 61, 32] ++ s)
    have h2 := nm_len gn
    simp only [List.length_append, List.length_cons, List.length_nil] at h1
    have h3 : w.length ≤ 5 := by rcases hw with rfl | rfl <;> decide
    omega
  | @def_ L1 n k o ps ds gn hp h6 hk a hL2 =>
    obtain ⟨ss, tp⟩ := txParts_ex hp
    obtain ⟨ls, t, h1, h2⟩ := txrs_ex a (by omega) (by decide)
    refine ⟨_, .def_ gn tp h6 hk t (by omega) (h2.up (by decide)), ?_, (ShortL.app (ShortL.one ?_) ((h2.ind).up (by decide))).app (ShortL.one (by decide))⟩
    · rw [List.length_append, List.length_append, List.length_map]
      show 1 + _ + 1 ≤ _
      omega
    · have := outT_len o (defT n ss k)
      have := defT_len gn tp h6 hk
      omega
theorem txts_ex : ∀ {ds : List PyData} {L : Nat}, RawTolds 4 L ds → L ≤ 200 → ∃ ls, TxTolds ds ls ∧ ls.length ≤ L ∧ ShortL 520 ls
  | [], _, _, _ => ⟨[], .nil, Nat.zero_le _, fun l hl => by cases hl⟩
  | d :: ds, L, a, hL => by
    cases a with
    | cons r a h =>
      obtain ⟨l, t, h1, h2⟩ := txt_ex r (by omega)
      obtain ⟨ls, u, h3, h4⟩ := txts_ex a (by omega)
      exact ⟨l ++ ls, .cons t u, by rw [List.length_append]; omega, h2.app h4⟩
theorem useT_short {us : List PyData} {fs : List (List Nat)} (h : TxUses us fs) (h2 : us.length ≤ 2) : (useT fs).length ≤ 1 ∧ ShortL 520 (useT fs) := by
  obtain ⟨e, hl⟩ := txUses_len h
  have h3 := sep_short hl
  have h4 : 12 * fs.length ≤ 12 * 2 := Nat.mul_le_mul_left _ (by omega)
  unfold useT
  split
  · exact ⟨Nat.zero_le _, fun l hl => by cases hl⟩
  · refine ⟨Nat.le_refl _, ShortL.one ?_⟩
    simp only [List.length_append, List.length_cons, List.length_nil]
    have : oUse.length = 3 := by decide
    omega
/-- the rows of a file -/
inductive TxFile : PyData → List (List Nat) → Prop
  | mk {us ds : List PyData} {fs ls : List (List Nat)} (hu : TxUses us fs) (h2 : us.length ≤ 2) (ht : TxTolds ds ls) (hl : ls.length ≤ 150) (hs : ShortL 520 ls) : TxFile (.tuple [.tuple us, .tuple ds]) (useT fs ++ ls)
theorem sum_short {B : Nat} : ∀ {rows : List (List Nat)}, ShortL B rows → (rows.map (fun x => x.length)).sum ≤ B * rows.length
  | [], _ => Nat.zero_le _
  | r :: rows, h => by
    have ih := sum_short (rows := rows) fun q hq => h q (List.mem_cons_of_mem _ hq)
    have h1 := h r (List.mem_cons_self ..)
    rw [List.map_cons, List.sum_cons, List.length_cons, Nat.mul_succ]
    omega
theorem TxFile.fits {D : PyData} {rows : List (List Nat)} (t : TxFile D rows) : fitsJ [10] rows := by
  cases t with
  | @mk us ds fs ls hu h2 ht hl hs =>
    obtain ⟨h3, h4⟩ := useT_short hu h2
    have h5 := sum_short (h4.app hs)
    rw [List.length_append] at h5
    have h6 : 520 * ((useT fs).length + ls.length) ≤ 520 * 151 := Nat.mul_le_mul_left _ (by omega)
    unfold fitsJ
    rw [List.length_append]
    show _ + (_ + _) * 1 ≤ _
    omega
theorem txf_ex {us ds : List PyData} {L : Nat} (hu : ∀ u ∈ us, RawUse u) (h2 : us.length ≤ 2) (r : RawTolds 4 L ds) (hL : L ≤ 150) : ∃ rows, TxFile (.tuple [.tuple us, .tuple ds]) rows := by
  obtain ⟨fs, t⟩ := txUses_ex hu
  obtain ⟨ls, u, h3, h4⟩ := txts_ex r (by omega)
  exact ⟨_, .mk t h2 u (by omega) h4⟩
end Wt

set_option Elab.async false
set_option linter.all false
set_option maxRecDepth 100000
set_option maxHeartbeats 4000000
namespace Wt
open PySem PySem.Spec PyProof.Rows L2 SX Evl
open C8 (Def Cal cal0 fnScope_by fnScope)
def lvT : List (List (List Nat)) := [[oOr], [oAnd], [oNot], sCmp, sSum, sProd, [oNeg]]
def lvOf (w : List Nat) : Nat := if w = oOr then 0 else if w = oAnd then 1 else if w = oNot then 2 else if w ∈ sCmp then 3 else if w ∈ sSum then 4 else if w ∈ sProd then 5 else if w = oNeg then 6 else 7
def headW : List (List Nat) := binW ++ [oNot, oNeg, kNum, oTruth, kName, oCall]
def spLevel : Sp := fun vs H Q _ => ∃ w : List Nat, vs = [.str (S w)] ∧ w ∈ headW ∧ RetV (.int (lvOf w : Nat)) H Q
theorem lv_first : ∀ w ∈ headW, ((List.range 8).filter fun k => decide (k = 7) || decide (w ∈ lvT.getD k [])).head? = some (lvOf w) := by decide +kernel
section
variable {P : Program} {w : World} {K : PySem.W.Frag} {mg : Str → Option Value} {base : Heap}
abbrev s__law_level : Stmt := topS 23
theorem sc__law_level : FnScope ["_law_sign", "_law_signs", "_law_k"] ["_law_sign"] (fnScope s__law_level) := fnScope_by (by decide +kernel)
theorem lv_lits : [V.str (Str.ofString "or")] = [oOr].map (fun z => V.str (S z)) ∧ [V.str (Str.ofString "and")] = [oAnd].map (fun z => V.str (S z)) ∧ [V.str (Str.ofString "not")] = [oNot].map (fun z => V.str (S z)) ∧ [V.str (Str.ofString "="), V.str (Str.ofString "<>"), V.str (Str.ofString "<"), V.str (Str.ofString "<=")] = sCmp.map (fun z => V.str (S z)) ∧
    [V.str (Str.ofString "+"), V.str (Str.ofString "-")] = sSum.map (fun z => V.str (S z)) ∧ [V.str (Str.ofString "*"), V.str (Str.ofString "/"), V.str (Str.ofString "mod")] = sProd.map (fun z => V.str (S z)) ∧ [V.str (Str.ofString "neg")] = [oNeg].map (fun z => V.str (S z)) := by
  refine ⟨?_, ?_, ?_, ?_, ?_, ?_, ?_⟩ <;> decide +kernel
/-- a list of lists of texts, all new -/
inductive LLs (H : Hp) : List V → List (List (List Nat)) → Prop
  | nil : LLs H [] []
  | cons {p : Addr} {vs : List V} {l : List (List Nat)} {ls : List (List (List Nat))} (h : H p = some (.lst (l.map fun z => V.str (S z)))) (r : LLs H vs ls) : LLs H (.ref p :: vs) (l :: ls)
theorem LLs.ex {H H' : Hp} (e : Ex H H') : ∀ {vs ls}, LLs H vs ls → LLs H' vs ls
  | _, _, .nil => .nil
  | _, _, .cons h r => .cons (e _ _ h) (r.ex e)
theorem LLs.at {H : Hp} : ∀ {vs : List V} {ls : List (List (List Nat))} {i : Nat}, LLs H vs ls → i < ls.length → ∃ p, vs[i]? = some (.ref p) ∧ H p = some (.lst ((ls.getD i []).map fun z => V.str (S z)))
  | _, _, 0, .cons h r, _ => ⟨_, rfl, h⟩
  | _, _, i + 1, .cons h r, hi => LLs.at (i := i) r (Nat.lt_of_succ_lt_succ hi)
theorem LLs.len {H : Hp} : ∀ {vs ls}, LLs H vs ls → vs.length = ls.length
  | _, _, .nil => rfl
  | _, _, .cons _ r => congrArg (· + 1) r.len
def EALL (ta : TA) (σ : L2.St) (H : Hp) (ls : List (List (List Nat))) : Prop := ∀ H1, Ex H H1 → ∀ Q : List V → Hp → Prop, (∀ vs H2, Ex H1 H2 → LLs H2 vs ls → Q vs H2) → ta σ H1 Q
theorem eall_nil {σ : L2.St} {H : Hp} : EALL tNil σ H [] := fun H1 _ Q q => q [] H1 (Ex.refl _) .nil
theorem eall_cons {σ : L2.St} {H : Hp} {te : TE} {tr : TA} {l : List (List Nat)} {ls : List (List (List Nat))} (h : EvL te σ H (l.map fun z => V.str (S z))) (r : EALL tr σ H ls) : EALL (tCons te tr) σ H (l :: ls) := fun H1 e Q q =>
  h H1 e _ fun p H2 hp e2 h2 => r H2 (e.trans e2) _ fun vs H3 e3 h3 => q _ H3 (e2.trans e3) (.cons (e3 _ _ h2) h3)
theorem q_asgLL {σ : L2.St} {H : Hp} {tr : TA} {D : Ends} {tz : TS} {i : Nat} {ls : List (List (List Nat))} (h : EALL tr σ H ls) (hl : ls.length ≤ 100000) (k : ∀ p H1 vs, H p = none → Ex H H1 → H1 p = some (.lst vs) → LLs H1 vs ls → tz D (σ.set i (some (.ref p))) H1) : tSeq (tAsg (tLst tr) (gName i)) tz D σ H :=
  h H (Ex.refl H) _ fun vs H1 e1 hvs => ⟨sz_of (by rw [hvs.len]; exact hl), fun p hp => k p _ vs (fresh_back e1 hp) (e1.trans (Ex.new hp)) upd_same (hvs.ex (Ex.new hp))⟩
theorem ok_level (T : ModsL K mg) {f : Addr} {fd : FuncData} (F : Def K mg "_law_level" s__law_level f fd) (b : Binds K fd ["_law_sign"] []) : Cal P w K mg base 1 "_law_level" spLevel [] := by
  refine cal0 F b .nil sc__law_level (fun vs H Q E h => ?_) (fun cdv A outer s H vs Q E hr h => ?_)
  · obtain ⟨_, rfl, _⟩ := h
    rfl
  · obtain ⟨wd, rfl, hwd, q⟩ := h
    have m_range := T.m_range
    refine ⟨_, (pss_cons (ps_set (i := 1) sc__law_level.nd rfl (.inr rfl) (pe_lst (pa_cons (pe_lst (pa_cons pe_str pa_nil)) (pa_cons (pe_lst (pa_cons pe_str pa_nil)) (pa_cons (pe_lst (pa_cons pe_str pa_nil)) (pa_cons (pe_lst (pa_cons pe_str (pa_cons pe_str (pa_cons pe_str (pa_cons pe_str pa_nil))))) (pa_cons (pe_lst (pa_cons pe_str (pa_cons pe_str pa_nil))) (pa_cons (pe_lst (pa_cons pe_str (pa_cons pe_str (pa_cons pe_str pa_nil)))) (pa_cons (pe_lst (pa_cons pe_str pa_nil)) pa_nil)))))))))
      (pss_one (ps_ret (pe_ix ix_list (pe_lc (own := [("_law_k", 2)]) (g := (gName 2)) rfl sc__law_level.nd (pi_range1 (by rfl) m_range (pa_cons pe_int pa_nil)) (blkOk_by (N := ["_law_sign", "_law_signs", "_law_k"]) (sc := C8.fnScope s__law_level) (by decide +kernel)) (fun _ _ _ _ _ => pg_name (i := 2) sc__law_level.nd rfl (Or.inl rfl)) (fun _ _ _ _ _ => pts_one (PW.pt (pw_or (pt_cmpR op_eq (pv 2) pe_int (nomark _)) (pw_or1 (pt_cmpR (show OpR _ _ (rIn K false) from op_in_seq) (pv 0) (pe_ix (show IxR _ (rIxL K) from ix_list) (pv 1) (pv 2) (fun _ _ => rfl)) (by with_unfolding_all rfl)))))) (fun _ _ _ _ _ => (pv 2))) pe_int (fun _ _ => rfl))))), ?_⟩
    obtain ⟨l1, l2, l3, l4, l5, l6, l7⟩ := lv_lits
    refine q_asgLL (ls := lvT) (eall_cons (el_any (el_lst (ea_cons ev_c ea_nil) (by show 1 ≤ 100000; decide)) l1) (eall_cons (el_any (el_lst (ea_cons ev_c ea_nil) (by show 1 ≤ 100000; decide)) l2) (eall_cons (el_any (el_lst (ea_cons ev_c ea_nil) (by show 1 ≤ 100000; decide)) l3) (eall_cons (el_any (el_lst (ea_cons ev_c (ea_cons ev_c (ea_cons ev_c (ea_cons ev_c ea_nil)))) (by show 4 ≤ 100000; decide)) l4)
      (eall_cons (el_any (el_lst (ea_cons ev_c (ea_cons ev_c ea_nil)) (by show 2 ≤ 100000; decide)) l5) (eall_cons (el_any (el_lst (ea_cons ev_c (ea_cons ev_c (ea_cons ev_c ea_nil))) (by show 3 ≤ 100000; decide)) l6) (eall_cons (el_any (el_lst (ea_cons ev_c ea_nil) (by show 1 ≤ 100000; decide)) l7) eall_nil))))))) (by show 7 ≤ 100000; decide) fun p H2 vs hp e2 hp2 hvs2 => ?_
    refine s_ret (v := .int (lvOf wd : Nat)) ?_ fun H3 e3 => q H3 (e2.trans e3)
    have hf := lv_first wd hwd
    generalize hg : (List.range 8).filter (fun k => decide (k = 7) || decide (wd ∈ lvT.getD k [])) = g at hf
    refine ev_opL1 (xs := given 8 (fun k => decide (k = 7) || decide (wd ∈ lvT.getD k [])) (fun k => .int (k : Int))) (el_lcR1 (n := 8) _ _ (ea_cons ev_c ea_nil) ⟨by decide, by decide⟩ (fun _ => rfl) (fun i H4 e4 hi => ?_) (fun i H4 e4 hi _ => ev_var rfl)) (fun H4 e4 => ev_c) (fun r H4 h4 e4 => rv_ixL (i := 0) (sq_of h4) ?_)
    · refine et_or (et_is (et_test (ev_op (ev_var rfl) ev_c (rv_eq rfl))) ?_) fun h7 => ?_
      · refine decide_eq_decide.mpr ⟨fun z => ?_, fun z => by rw [z] <;> rfl⟩
        have := V.int.inj z
        omega
      · have h7 : i ≠ 7 := of_decide_eq_false h7
        have hi7 : i < lvT.length := by
          show i < 7
          omega
        obtain ⟨p2, hp3, hp4⟩ := (hvs2.ex e4).at hi7
        refine et_test (ev_is (ev_op (ev_var rfl) (ev_op (ev_var rfl) (ev_var rfl) (rv_ixL (sq_of (e4 _ _ hp2)) (atI_nat hp3))) (rv_isL (sq_of hp4) rfl (flat_S _))) (congrArg V.bl (inV_S _ _)))
    · unfold given
      rw [hg]
      cases g with
      | nil => cases hf
      | cons x r =>
        cases hf
        exact atI_nat (j := 0) rfl
end
end Wt

set_option Elab.async false
set_option linter.all false
set_option maxRecDepth 100000
set_option maxHeartbeats 4000000
namespace Wt
open PySem PySem.Spec PyProof.Rows L2 SX Evl
open C8 (Def Cal cal0 fnScope_by fnScope)
/-! writing.py: the texts of E. -/
def sngW : List (List Nat) := [kNum, oTruth, kName, oCall]
def opsW : List (List Nat) := binW ++ [oNot, oNeg]
/-- the dict LOOSE, the number LOOSEST -/
structure LooseM (K : PySem.W.Frag) (w : World) (mg : Str → Option Value) (aL : Addr) (es : Array DictEntry) (n : Nat) : Prop where
  g_LOOSE : ∃ u, mg "LOOSE" = some u ∧ RelV (.ref aL) u
  g_LOOSEST : ∃ u, mg "LOOSEST" = some u ∧ RelV (.int 1) u
  DL : KDict K w aL es n
  ops : ∀ k ∈ opsW, KDct K w aL (S k) (.int ((lvl k : Nat) + 1 : Int))
  no : ∀ k ∈ sngW, PySem.W.nsIn K aL (S k) = some none
theorem LooseM.yes {K : PySem.W.Frag} {w : World} {mg : Str → Option Value} {aL : Addr} {es : Array DictEntry} {n : Nat} (L : LooseM K w mg aL es n) : ∀ k ∈ opsW, ∃ u, PySem.W.nsIn K aL (S k) = some (some u) := fun k hk => by
  obtain ⟨_, _, u, _, _, h, _⟩ := L.ops k hk
  exact ⟨u, h⟩
/-- what is put together of a word and the rest -/
theorem rnode_inj {k l : List Nat} {xs ys : List PyData} (h : rNode k xs = rNode l ys) : k = l ∧ xs = ys := by
  unfold rNode at h
  injection h with h
  injection h with h1 h2
  injection h1 with h1
  injection h2 with _ h2
  exact ⟨S_inj h1, h2⟩
theorem tx_head {h lv : Nat} {d : PyData} {s : List Nat} (t : TxE h lv d s) : ∃ k xs, d = rNode k xs ∧ (k ∈ sngW ∨ k ∈ opsW) ∧ 1 ≤ h := by
  have o1 : kNum ∈ sngW ∧ oTruth ∈ sngW ∧ kName ∈ sngW ∧ oCall ∈ sngW ∧ oNeg ∈ opsW ∧ oNot ∈ opsW := by decide
  have o2 : ∀ g ∈ binW, g ∈ opsW := by decide
  cases t with
  | num l => exact ⟨_, _, rfl, .inl o1.1, Nat.succ_le_succ (Nat.zero_le _)⟩
  | tru => exact ⟨_, _, rfl, .inl o1.2.1, Nat.succ_le_succ (Nat.zero_le _)⟩
  | name gf gn => exact ⟨_, _, rfl, .inl o1.2.2.1, Nat.succ_le_succ (Nat.zero_le _)⟩
  | call gf gn a => exact ⟨_, _, rfl, .inl o1.2.2.2.1, Nat.succ_le_succ (Nat.zero_le _)⟩
  | neg r => exact ⟨_, _, rfl, .inr o1.2.2.2.2.1, Nat.succ_le_succ (Nat.zero_le _)⟩
  | not r => exact ⟨_, _, rfl, .inr o1.2.2.2.2.2, Nat.succ_le_succ (Nat.zero_le _)⟩
  | bin hg r1 r2 => exact ⟨_, _, rfl, .inr (o2 _ hg), Nat.succ_le_succ (Nat.zero_le _)⟩
theorem sng_ops : ∀ k ∈ sngW, k ∉ opsW := by decide
theorem ops_bin : ∀ k ∈ opsW, k ≠ oNeg → k ≠ oNot → k ∈ binW := by decide
theorem bin_not : ∀ k ∈ binW, k ≠ oNeg ∧ k ≠ oNot := by decide
theorem sng_bin : ∀ k ∈ sngW, k ∉ binW := by decide
/-- without its brackets -/
theorem tx_open {h lv : Nat} {k : List Nat} {xs : List PyData} {s : List Nat} (t : TxE h lv (rNode k xs) s) (hk : k ∈ opsW) (hl : lvl k < lv) : ∃ s0, s = [40] ++ s0 ++ [41] ∧ TxE h 0 (rNode k xs) s0 := by
  have key : ∀ d, TxE h lv d s → d = rNode k xs → ∃ s0, s = [40] ++ s0 ++ [41] ∧ TxE h 0 d s0 := fun d t e => by
    have hb : ∀ m t, m < lv → br lv m t = [40] ++ t ++ [41] := fun m t hm => by
      unfold br
      rw [if_neg (by omega)]
    have l6 : lvl oNeg = 6 := by decide
    have l2 : lvl oNot = 2 := by decide
    cases t with
    | num l =>
      obtain ⟨rfl, _⟩ := rnode_inj e
      exact absurd hk (by decide)
    | tru =>
      obtain ⟨rfl, _⟩ := rnode_inj e
      exact absurd hk (by decide)
    | name gf gn =>
      obtain ⟨rfl, _⟩ := rnode_inj e
      exact absurd hk (by decide)
    | call gf gn a =>
      obtain ⟨rfl, _⟩ := rnode_inj e
      exact absurd hk (by decide)
    | neg r =>
      obtain ⟨rfl, _⟩ := rnode_inj e
      exact ⟨_, hb 6 _ (by omega), .neg r⟩
    | not r =>
      obtain ⟨rfl, _⟩ := rnode_inj e
      exact ⟨_, hb 2 _ (by omega), .not r⟩
    | bin hg r1 r2 =>
      obtain ⟨rfl, _⟩ := rnode_inj e
      exact ⟨_, hb _ _ hl, .bin hg r1 r2⟩
  exact key _ t rfl
/-- .. what stands in it -/
theorem tx_in {h lv : Nat} {k : List Nat} {xs : List PyData} {s : List Nat} (t : TxE h lv (rNode k xs) s) (hk : k ∈ opsW) (hl : lv ≤ lvl k) : ∃ h', h = h' + 1 ∧
    ((k = oNeg ∧ ∃ d s1, xs = [d] ∧ s = [45] ++ s1 ∧ TxE h' 6 d s1) ∨ (k = oNot ∧ ∃ d s1, xs = [d] ∧ s = oNot ++ [32] ++ s1 ∧ TxE h' 2 d s1) ∨
      (k ∈ binW ∧ ∃ d e s1 s2, xs = [d, e] ∧ s = s1 ++ [32] ++ k ++ [32] ++ s2 ∧ TxE h' (lvl k + (if lvl k = 3 then 1 else 0)) d s1 ∧ TxE h' (lvl k + 1) e s2)) := by
  have key : ∀ d0, TxE h lv d0 s → d0 = rNode k xs → ∃ h', h = h' + 1 ∧
    ((k = oNeg ∧ ∃ d s1, xs = [d] ∧ s = [45] ++ s1 ∧ TxE h' 6 d s1) ∨ (k = oNot ∧ ∃ d s1, xs = [d] ∧ s = oNot ++ [32] ++ s1 ∧ TxE h' 2 d s1) ∨
      (k ∈ binW ∧ ∃ d e s1 s2, xs = [d, e] ∧ s = s1 ++ [32] ++ k ++ [32] ++ s2 ∧ TxE h' (lvl k + (if lvl k = 3 then 1 else 0)) d s1 ∧ TxE h' (lvl k + 1) e s2)) := fun d t e => by
    have hb : ∀ m t, lv ≤ m → br lv m t = t := fun m t hm => by
      unfold br
      rw [if_pos hm]
    have l6 : lvl oNeg = 6 := by decide
    have l2 : lvl oNot = 2 := by decide
    cases t with
    | num l =>
      obtain ⟨rfl, _⟩ := rnode_inj e
      exact absurd hk (by decide)
    | tru =>
      obtain ⟨rfl, _⟩ := rnode_inj e
      exact absurd hk (by decide)
    | name gf gn =>
      obtain ⟨rfl, _⟩ := rnode_inj e
      exact absurd hk (by decide)
    | call gf gn a =>
      obtain ⟨rfl, _⟩ := rnode_inj e
      exact absurd hk (by decide)
    | neg r =>
      obtain ⟨rfl, rfl⟩ := rnode_inj e
      exact ⟨_, rfl, .inl ⟨rfl, _, _, rfl, hb 6 _ (by omega), r⟩⟩
    | not r =>
      obtain ⟨rfl, rfl⟩ := rnode_inj e
      exact ⟨_, rfl, .inr (.inl ⟨rfl, _, _, rfl, hb 2 _ (by omega), r⟩)⟩
    | bin hg r1 r2 =>
      obtain ⟨rfl, rfl⟩ := rnode_inj e
      exact ⟨_, rfl, .inr (.inr ⟨hg, _, _, _, _, rfl, hb _ _ hl, r1, r2⟩)⟩
  exact key _ t rfl
def spWT (K : PySem.W.Frag) (N : Nat) : Sp := fun vs H Q _ => ∃ (dv : V) (k : List Nat) (xs : List PyData) (h lv : Nat) (s : List Nat), vs = [dv, .int ((lv : Nat) + 1 : Int)] ∧ TxE h lv (rNode k xs) s ∧ Td H dv (rNode k xs) ∧ 2 * h + (if lv ≤ lvl k then 0 else 1) < N ∧ s.length ≤ 3000 ∧ ∀ H2, Ex H H2 → Q (.str (S s)) H2
def spWhole (K : PySem.W.Frag) (N : Nat) : Sp := fun vs H Q _ => ∃ (dv : V) (d : PyData) (h : Nat) (s : List Nat), vs = [dv] ∧ TxE h 0 d s ∧ Td H dv d ∧ 2 * h < N ∧ s.length ≤ 3000 ∧ ∀ H2, Ex H H2 → Q (.str (S s)) H2
def spSng (K : PySem.W.Frag) (N : Nat) : Sp := fun vs H Q _ => ∃ (dv : V) (k : List Nat) (xs : List PyData) (h lv : Nat) (s : List Nat), vs = [dv] ∧ k ∈ sngW ∧ TxE h lv (rNode k xs) s ∧ Td H dv (rNode k xs) ∧ 2 * h < N ∧ s.length ≤ 3000 ∧ ∀ H2, Ex H H2 → Q (.str (S s)) H2
def spTwo (K : PySem.W.Frag) (N : Nat) : Sp := fun vs H Q _ => ∃ (dv : V) (g : List Nat) (d e : PyData) (h : Nat) (s1 s2 : List Nat), vs = [dv, .int ((lvl g : Nat) + 1 : Int)] ∧ g ∈ binW ∧ Td H dv (rNode g [d, e]) ∧ TxE h (lvl g + (if lvl g = 3 then 1 else 0)) d s1 ∧ TxE h (lvl g + 1) e s2 ∧ 2 * h + 1 < N ∧ s1.length + s2.length ≤ 2998 ∧ ∀ H2, Ex H H2 → Q (.str (S (s1 ++ [32] ++ g ++ [32] ++ s2))) H2
section
variable {K : PySem.W.Frag} {w : World} {mg : Str → Option Value} {σ : L2.St} {H H' : Hp} {ta tb te : TE} {tr : TA} {aL : Addr} {es : Array DictEntry} {n : Nat} {E : XK}
theorem ev_loose (L : LooseM K w mg aL es n) {k : List Nat} (hk : k ∈ opsW) (hb : EvS tb σ H k) : Ev (tOp (rIxD K w) (tC (.ref aL)) tb) σ H (.int ((lvl k : Nat) + 1 : Int)) := fun H1 e Q q => ev_c H1 (Ex.refl _) _ fun H2 e2 => hb H2 (e.trans e2) _ fun H3 e3 => ⟨aL, S k, _, rfl, rfl, L.ops k hk, q H3 (e2.trans e3)⟩
theorem et_notLoose (L : LooseM K w mg aL es n) {k : List Nat} (hk : k ∈ sngW ∨ k ∈ opsW) (ha : EvS ta σ H k) : EvT (tTest (tOp (fun x y H Q => ∃ (z : Str) (r : Option Value), x = .str z ∧ y = .ref aL ∧ PySem.W.nsIn K aL z = some r ∧ Q (.bl (!r.isSome)) H) ta (tC (.ref aL)))) σ H (decide (k ∈ sngW)) := et_test fun H1 e Q q => ha H1 e _ fun H2 e2 => ev_c H2 (Ex.refl _) _ fun H3 e3 => by
  rcases hk with z | z
  · refine ⟨S k, none, rfl, rfl, L.no k z, ?_⟩
    rw [decide_eq_true z] at q
    exact q H3 (e2.trans e3)
  · obtain ⟨u, hu⟩ := L.yes k z
    refine ⟨S k, some u, rfl, rfl, hu, ?_⟩
    rw [decide_eq_false fun q => sng_ops k q z] at q
    exact q H3 (e2.trans e3)
theorem es_wt {N h lv : Nat} {dv : V} {d : PyData} {s : List Nat} {i : Int} (h1 : EvA tr σ H [dv, .int i]) (hi : i = (lv : Nat) + 1) (t : TxE h lv d s) (hT : Td H dv d) (hN : 2 * h + 1 < N) (hl : s.length ≤ 3000) : EvS (tCall (spWT K N) [] E tr) σ H s := fun H1 e Q q => h1 H1 e _ fun H2 e2 => by
  obtain ⟨k, xs, rfl, _, _⟩ := tx_head t
  subst hi
  exact ⟨dv, k, xs, h, lv, s, rfl, t, Td.tx (Tx.of (e.trans e2)) _ _ hT, by split <;> omega, hl, fun H3 e3 => q H3 (e2.trans e3)⟩
theorem es_whole {N h : Nat} {dv : V} {d : PyData} {s : List Nat} (h1 : EvA tr σ H [dv]) (t : TxE h 0 d s) (hT : Td H dv d) (hN : 2 * h < N) (hl : s.length ≤ 3000) : EvS (tCall (spWhole K N) [] E tr) σ H s := fun H1 e Q q => h1 H1 e _ fun H2 e2 => ⟨dv, d, h, s, rfl, t, Td.tx (Tx.of (e.trans e2)) _ _ hT, hN, hl, fun H3 e3 => q H3 (e2.trans e3)⟩
end
theorem lits_w : Str.ofString "(" = S [40] ∧ Str.ofString ")" = S [41] ∧ Str.ofString "neg" = S oNeg ∧ Str.ofString "not" = S oNot ∧ Str.ofString "-" = S [45] ∧ Str.ofString "not " = S (oNot ++ [32]) ∧ Str.ofString " " = S [32] ∧ Str.ofString "=" = S [61] := by
  refine ⟨?_, ?_, ?_, ?_, ?_, ?_, ?_, ?_⟩ <;> decide +kernel
theorem lits_x : Str.ofString "num" = S kNum ∧ Str.ofString "truth" = S oTruth ∧ Str.ofString "name" = S kName ∧ Str.ofString "yes" = S oYes ∧ Str.ofString "no" = S oNo ∧ Str.ofString "" = S [] ∧ Str.ofString "." = S [46] ∧ Str.ofString ", " = S sepT := by
  refine ⟨?_, ?_, ?_, ?_, ?_, ?_, ?_, ?_⟩ <;> decide +kernel
section
variable {P : Program} {w : World} {K : PySem.W.Frag} {mg : Str → Option Value} {base : Heap} {aL : Addr} {es : Array DictEntry} {n0 : Nat}
abbrev s_whole_text : Stmt := topS 9
theorem sc_whole_text : FnScope ["worth"] ["worth"] (fnScope s_whole_text) := fnScope_by (by decide +kernel)
theorem ok_whole (T : LooseM K w mg aL es n0) {k N : Nat} (c_worth_text : Cal P w K mg base k "worth_text" (spWT K N) []) {f : Addr} {fd : FuncData} (F : Def K mg "whole_text" s_whole_text f fd) (b : Binds K fd ["worth"] []) : Cal P w K mg base (k + 1) "whole_text" (spWhole K N) [] := by
  refine cal0 F b .nil sc_whole_text (fun vs H Q E h => ?_) (fun cdv A outer s H vs Q E hr h => ?_)
  · obtain ⟨_, _, _, _, rfl, _⟩ := h
    rfl
  · obtain ⟨dv, d, h0, t0, rfl, t, hT, hN, hl, q⟩ := h
    have g_LOOSEST := T.g_LOOSEST
    refine ⟨_, (pss_one (ps_ret (C8.pe_c c_worth_text hr (by first | decide | exact Nat.le_refl _ | omega) (by rfl) (pa_cons (pv 0) (pa_cons (C8.pe_gc (by rfl) g_LOOSEST) pa_nil))))), ?_⟩
    obtain ⟨k2, xs, rfl, hk, h1⟩ := tx_head t
    refine s_retC ?_
    refine (show EvA (tCons (tVar 0) (tCons (tC (.int 1)) tNil)) _ H [dv, .int 1] from ea_cons (ev_var rfl) (ea_cons ev_c ea_nil)) H (Ex.refl _) _ fun H1 e1 => ?_
    exact ⟨dv, k2, xs, h0, 0, t0, rfl, t, Td.tx (Tx.of e1) _ _ hT, by rw [if_pos (Nat.zero_le _)]; omega, hl, fun H2 e2 => q H2 (e1.trans e2)⟩
abbrev s_two_text : Stmt := topS 11
theorem sc_two_text : FnScope ["worth", "loose", "sign", "_", "first", "second", "least"] ["worth", "loose"] (fnScope s_two_text) := fnScope_by (by decide +kernel)
theorem ok_two (T : LooseM K w mg aL es n0) {k N : Nat} (c_worth_text : Cal P w K mg base k "worth_text" (spWT K N) []) {f : Addr} {fd : FuncData} (F : Def K mg "two_text" s_two_text f fd) (b : Binds K fd ["worth", "loose"] []) : Cal P w K mg base (k + 1) "two_text" (spTwo K N) [] := by
  refine cal0 F b .nil sc_two_text (fun vs H Q E h => ?_) (fun cdv A outer s H vs Q E hr h => ?_)
  · obtain ⟨_, _, _, _, _, _, _, rfl, _⟩ := h
    rfl
  · obtain ⟨dv, g, d, e, h0, s1, s2, rfl, hg, hT, t1, t2, hN, hl, q⟩ := h
    have g_LOOSE := T.g_LOOSE
    obtain ⟨z1, z2, z3, z4, z5, z6, z7, z8⟩ := lits_w
    refine ⟨_, (pss_cons (ps_asg (pv 0) (pg_tup rfl (pgs_cons (pg_name (i := 2) sc_two_text.nd rfl (.inl rfl)) (pgs_cons (pg_name (i := 3) sc_two_text.nd rfl (.inl rfl)) (pgs_cons (pg_name (i := 4) sc_two_text.nd rfl (.inl rfl)) (pgs_cons (pg_name (i := 5) sc_two_text.nd rfl (.inl rfl)) pgs_nil))))))
      (pss_cons (ps_set (i := 6) sc_two_text.nd rfl (.inl rfl) (pv 1))
      (pss_cons (ps_if (pt_cmpR op_eq (pv 1) (pe_ix ix_kdict (C8.pe_gc (by rfl) g_LOOSE) pe_str (fun _ _ => rfl)) (nomark _)) (pss_one (ps_set (i := 6) sc_two_text.nd rfl (.inl rfl) (pe_op op_add (pv 1) pe_int))) pss_nil)
      (pss_one (ps_ret (pe_op op_add_str (pe_op op_add_str (pe_op op_add_str (pe_op op_add_str (C8.pe_c c_worth_text hr (by first | decide | exact Nat.le_refl _ | omega) (by rfl) (pa_cons (pv 4) (pa_cons (pv 6) pa_nil))) pe_str) (pv 2)) pe_str) (C8.pe_c c_worth_text hr (by first | decide | exact Nat.le_refl _ | omega) (by rfl) (pa_cons (pv 5) (pa_cons (pe_op op_add (pv 1) pe_int) pa_nil))))))))), ?_⟩
    have hg3 := bin_len g hg
    have l3 : lvl [61] = 3 := by decide
    cases hT with
    | @tup ap xs _ g1 g2 =>
    cases g2 with
    | @cons v1 _ _ _ a1 g2 =>
    cases g2 with
    | @cons v2 _ _ _ a2 g2 =>
    cases g2 with
    | @cons v3 _ _ _ a3 g2 =>
    cases g2 with
    | @cons v4 _ _ _ a4 g2 =>
    cases g2
    obtain rfl := td_S a1
    refine q_asgG (ev_var rfl H (Ex.refl _) _ fun H1 e1 => ⟨ap, _, rfl, st_of (e1 _ _ g1), rfl, _, _, rfl, _, _, rfl, _, _, rfl, _, _, rfl, rfl, ?_⟩)
    show tSeq _ _ _ _ _
    dsimp only [L2.start, List.map, List.set, List.length, List.append, List.replicate]
    refine q_asg (ev_var rfl) fun H2 e2 => ?_
    try dsimp only [List.set]
    have a33 := Td.tx (Tx.of (e1.trans e2)) _ _ a3
    have a44 := Td.tx (Tx.of (e1.trans e2)) _ _ a4
    refine q_whenK2 (b := decide (lvl g = 3)) (fun σ' H' => σ' = [some (.ref ap), some (.int ((lvl g : Nat) + 1 : Int)), some (.str (S g)), some v2, some v3, some v4, some (.int (((lvl g + (if lvl g = 3 then 1 else 0) : Nat) : Int) + 1))] ∧ Ex H2 H') (et_is (et_test (ev_eqI (ev_var rfl) (ev_loose T (k := [61]) (by decide) (es_cl z8)))) (by
      rw [l3]
      by_cases hz : lvl g = 3
      · rw [hz]; rfl
      · rw [decide_eq_false hz]
        exact decide_eq_false (by omega))) (fun σ' H' ⟨hσ, eH⟩ => ?_) (fun kk hb H3 e3 => ?_) (fun hb H3 e3 => ⟨?_, e3⟩)
    · subst hσ
      have a3H := Td.tx (Tx.of eH) _ _ a33
      have a4H := Td.tx (Tx.of eH) _ _ a44
      refine s_retS (es_add (es_add (es_add (es_add (es_wt (ea_cons (ev_var rfl) (ea_cons (ev_var rfl) ea_nil)) rfl t1 a3H (by omega) (by omega)) (es_cl z7) ?_) (ev_var rfl) ?_) (es_cl z7) ?_) (es_wt (lv := lvl g + 1) (ea_cons (ev_var rfl) (ea_cons (ev_op (ev_var rfl) ev_c rv_I0) ea_nil)) (by omega) t2 a4H (by omega) (by omega)) ?_) fun H4 e4 => q H4 ((e1.trans e2).trans (eH.trans e4))
      all_goals simp only [List.length_append, List.length_cons, List.length_nil]
      all_goals omega
    · refine s_asg (ev_op (ev_var rfl) ev_c rv_I0) fun H4 e4 => kk _ H4 ⟨?_, e3.trans e4⟩
      have hz := of_decide_eq_true hb
      rw [if_pos hz]
      rfl
    · have hz := of_decide_eq_false hb
      rw [if_neg hz]
      rfl
end
end Wt

set_option Elab.async false
set_option linter.all false
set_option maxRecDepth 100000
set_option maxHeartbeats 4000000
namespace Wt
open PySem PySem.Spec PyProof.Rows L2 SX Evl
open C8 (Def Cal cal0 fnScope_by fnScope)
/-! worth_text, single_text. -/
theorem tx_sng {h lv : Nat} {k : List Nat} {xs : List PyData} {s : List Nat} (t : TxE h lv (rNode k xs) s) (hk : k ∈ sngW) : ∃ h', h = h' + 1 ∧
    ((k = kNum ∧ ∃ n : Nat, n < 1000000 ∧ xs = [.int (n : Int)] ∧ s = TL.numL n) ∨ (k = oTruth ∧ ∃ b, xs = [.bool b] ∧ s = boolT b) ∨
      (k = kName ∧ ∃ f n, xs = [.str (S f), .str (S n)] ∧ (f = [] ∨ Good kName f) ∧ Good kName n ∧ s = pathT f n) ∨
      (k = oCall ∧ ∃ f n ds ss, xs = [.str (S f), .str (S n), .tuple ds] ∧ (f = [] ∨ Good kName f) ∧ Good kName n ∧ TxAll h' ds ss ∧ s = pathT f n ++ [40] ++ TL.joinL sepT ss ++ [41])) := by
  have key : ∀ d, TxE h lv d s → d = rNode k xs → ∃ h', h = h' + 1 ∧
    ((k = kNum ∧ ∃ n : Nat, n < 1000000 ∧ xs = [.int (n : Int)] ∧ s = TL.numL n) ∨ (k = oTruth ∧ ∃ b, xs = [.bool b] ∧ s = boolT b) ∨
      (k = kName ∧ ∃ f n, xs = [.str (S f), .str (S n)] ∧ (f = [] ∨ Good kName f) ∧ Good kName n ∧ s = pathT f n) ∨
      (k = oCall ∧ ∃ f n ds ss, xs = [.str (S f), .str (S n), .tuple ds] ∧ (f = [] ∨ Good kName f) ∧ Good kName n ∧ TxAll h' ds ss ∧ s = pathT f n ++ [40] ++ TL.joinL sepT ss ++ [41])) := fun d t e => by
    cases t with
    | num l =>
      obtain ⟨rfl, rfl⟩ := rnode_inj e
      exact ⟨_, rfl, .inl ⟨rfl, _, l, rfl, rfl⟩⟩
    | tru =>
      obtain ⟨rfl, rfl⟩ := rnode_inj e
      exact ⟨_, rfl, .inr (.inl ⟨rfl, _, rfl, rfl⟩)⟩
    | name gf gn =>
      obtain ⟨rfl, rfl⟩ := rnode_inj e
      exact ⟨_, rfl, .inr (.inr (.inl ⟨rfl, _, _, rfl, gf, gn, rfl⟩))⟩
    | call gf gn a =>
      obtain ⟨rfl, rfl⟩ := rnode_inj e
      exact ⟨_, rfl, .inr (.inr (.inr ⟨rfl, _, _, _, _, rfl, gf, gn, a, rfl⟩))⟩
    | neg r =>
      obtain ⟨rfl, _⟩ := rnode_inj e
      exact absurd hk (by decide)
    | not r =>
      obtain ⟨rfl, _⟩ := rnode_inj e
      exact absurd hk (by decide)
    | bin hg r1 r2 =>
      obtain ⟨rfl, _⟩ := rnode_inj e
      exact absurd hg (sng_bin _ hk)
  exact key _ t rfl
theorem txAll_len {h : Nat} : ∀ {ds : List PyData} {ss : List (List Nat)}, TxAll h ds ss → ds.length = ss.length
  | _, _, .nil => rfl
  | _, _, .cons _ a => congrArg (· + 1) (txAll_len a)
theorem txAll_at {h : Nat} : ∀ {ds : List PyData} {ss : List (List Nat)} {i : Nat} {d : PyData} {s : List Nat}, TxAll h ds ss → ds[i]? = some d → ss[i]? = some s → TxE h 0 d s
  | _, _, i, _, _, .nil, h1, _ => by simp at h1
  | _, _, 0, _, _, .cons r a, h1, h2 => by
    cases Option.some.inj h1
    cases Option.some.inj h2
    exact r
  | _, _, i + 1, _, _, .cons r a, h1, h2 => txAll_at a (i := i) h1 h2
theorem sepT_sum : ∀ ss : List (List Nat), (ss.map fun x => x.length).sum + ss.length * 2 ≤ (TL.joinL sepT ss).length + 2
  | [] => by show 0 + 0 * 2 ≤ 0 + 2; omega
  | [r] => by
    rw [List.map_cons, List.sum_cons, List.map_nil, List.sum_nil]
    show r.length + 0 + 1 * 2 ≤ r.length + 2
    omega
  | r :: s :: rows => by
    have ih := sepT_sum (s :: rows)
    rw [List.map_cons, List.sum_cons, List.length_cons (a := r)]
    show _ ≤ (r ++ (sepT ++ TL.joinL sepT (s :: rows))).length + 2
    rw [List.length_append, List.length_append]
    show r.length + _ + _ ≤ r.length + (2 + _) + 2
    omega
theorem mem_sum : ∀ {ss : List (List Nat)} {s : List Nat}, s ∈ ss → s.length ≤ (ss.map fun x => x.length).sum
  | x :: ss, s, h => by
    rw [List.map_cons, List.sum_cons]
    rcases List.mem_cons.mp h with rfl | h
    · omega
    · have := mem_sum h
      omega
section
variable {K : PySem.W.Frag} {σ : L2.St} {H H' : Hp} {ta tb te tl : TE} {tr : TA} {E : XK}
/-- [e for x in t]: texts, item by item -/
theorem elt_lcAll {a : Addr} {xs : List V} {ds : List PyData} {ss : List (List Nat)} {j : Nat} {vs : List Nat} (h : Ev tl σ H (.ref a)) (hx : H a = some (.tup xs)) (hT : TdAll H xs ds) (hl : ds.length = ss.length) (hz : ss.length ≤ 40000) (hw : ∀ x, wipe ((wipe σ vs).set j (some x)) vs = wipe σ vs)
    (he : ∀ (i : Nat) (x : V) (d : PyData) (s : List Nat) H1, Ex H H1 → ds[i]? = some d → ss[i]? = some s → Td H1 x d → EvS te ((wipe σ vs).set j (some x)) H1 s) : EvLT (tLc (iTup K tl) (gName j) tYes te vs) σ H ss := fun H0 e Q q => h H0 e _ fun H1 e1 => ⟨a, rfl, ⟨xs, st_of ((e.trans e1) _ _ hx)⟩, fun Dl hD => by
  have hx1 := (e.trans e1) _ _ hx
  have hT1 := TdAll.tx (Tx.of (e.trans e1)) _ _ hT
  refine lc_it (walk_tup (K := K) (a := a) (xs := xs)) (fun i H' => Ex H1 H' ∧ H' Dl = some (tL (ss.take i))) ⟨Ex.new hD, upd_same⟩ (fun _ H' _ ⟨e2, _⟩ => st_of (e2 _ _ hx1)) ?_ ?_
  · rintro i x H2 H3 hi ⟨e2, hDl⟩ ⟨rfl, hxi⟩
    refine ⟨hw x, tYes_go ?_⟩
    have hlen := hT1.len
    have hi2 : i < ds.length := by omega
    have hi3 : i < ss.length := by omega
    obtain ⟨v, hv, hTv⟩ := td_get hT1 (List.getElem?_eq_getElem hi2)
    rw [hxi] at hv
    cases hv
    refine he i x ds[i] ss[i] H3 ((e.trans e1).trans e2) (List.getElem?_eq_getElem hi2) (List.getElem?_eq_getElem hi3) (Td.tx (Tx.of e2) _ _ hTv) H3 (Ex.refl _) _ fun H4 e4 => ⟨_, e4 _ _ hDl, sz_lt (by rw [List.length_map, List.length_take]; omega), Ex.mut (e2.trans e4) hD, ?_⟩
    rw [show ss.take (i + 1) = ss.take i ++ [ss[i]] by rw [List.take_succ, List.getElem?_eq_getElem hi3] <;> rfl, tL_snoc]
    exact upd_same
  · rintro H2 ⟨e2, hDl⟩
    rw [hT1.len, hl, List.take_length] at hDl
    exact q Dl H2 (fresh_back e1 hD) (e1.trans e2) hDl⟩
/-- [e for x in l], l new: texts out of texts -/
theorem elt_mapL {ts : List (List Nat)} {f : List Nat → List Nat} {j : Nat} {vs : List Nat} (h : EvLT tl σ H ts) (hz : ts.length ≤ 40000) (hw : ∀ x, wipe ((wipe σ vs).set j (some x)) vs = wipe σ vs)
    (he : ∀ z H1, z ∈ ts → Ex H H1 → EvS te ((wipe σ vs).set j (some (.str (S z)))) H1 (f z)) : EvLT (tLc (iList K tl) (gName j) tYes te vs) σ H (ts.map f) := fun H0 e Q q => h H0 e _ fun a H1 ha0 e1 hx1 => ⟨a, rfl, ⟨_, sq_of hx1⟩, fun Dl hD => by
  refine lc_it (walk_list (K := K) (a := a) (xs := ts.map fun z => V.str (S z))) (fun i H' => Ex H1 H' ∧ H' Dl = some (tL ((ts.take i).map f))) ⟨Ex.new hD, upd_same⟩ (fun _ H' _ ⟨e2, _⟩ => sq_of (e2 _ _ hx1)) ?_ ?_
  · rintro i x H2 H3 hi ⟨e2, hDl⟩ ⟨rfl, hxi⟩
    refine ⟨hw x, tYes_go ?_⟩
    rw [List.length_map] at hi
    rw [List.getElem?_map, List.getElem?_eq_getElem hi] at hxi
    cases hxi
    refine he ts[i] H3 (List.getElem_mem hi) ((e.trans e1).trans e2) H3 (Ex.refl _) _ fun H4 e4 => ⟨_, e4 _ _ hDl, sz_lt (by rw [List.length_map, List.length_map, List.length_take]; omega), Ex.mut (e2.trans e4) hD, ?_⟩
    rw [show (ts.take (i + 1)).map f = (ts.take i).map f ++ [f ts[i]] by rw [List.take_succ, List.getElem?_eq_getElem hi, List.map_append] <;> rfl, tL_snoc]
    exact upd_same
  · rintro H2 ⟨e2, hDl⟩
    rw [List.length_map, List.take_length] at hDl
    exact q Dl H2 (fresh_back e1 hD) (e1.trans e2) hDl⟩
theorem ev_strN {n : Nat} (hn : n < 1000000) (h : Ev te σ H (.int (n : Int))) : EvS (tCB (fun xs H Q => ∃ i, xs = [.int i] ∧ i.natAbs.log2 < 1920 ∧ Q (.str (toString i)) H) (tCons te tNil)) σ H (TL.numL n) := ev_cb (ea_cons h ea_nil) fun H1 _ Q q => ⟨(n : Int), rfl, by
  rw [show ((n : Int)).natAbs = n from Int.natAbs_natCast n]
  by_cases h0 : n = 0
  · subst h0
    decide
  · exact Nat.lt_trans ((Nat.log2_lt h0).mpr (show n < 2 ^ 20 by omega)) (by decide), by
  rw [num_S]
  exact q H1 (Ex.refl H1)⟩
end
section
variable {P : Program} {w : World} {K : PySem.W.Frag} {mg : Str → Option Value} {base : Heap} {aL : Addr} {es : Array DictEntry} {n0 : Nat}
abbrev s_worth_text : Stmt := topS 10
theorem sc_worth_text : FnScope ["worth", "least", "what"] ["worth", "least"] (fnScope s_worth_text) := fnScope_by (by decide +kernel)
theorem ok_worthT (T : LooseM K w mg aL es n0) {k N : Nat} (c_single_text : Cal P w K mg base k "single_text" (spSng K (N + 1)) []) (c_whole_text : Cal P w K mg base k "whole_text" (spWhole K N) []) (c_worth_text : Cal P w K mg base k "worth_text" (spWT K N) []) (c_two_text : Cal P w K mg base k "two_text" (spTwo K N) [])
    {f : Addr} {fd : FuncData} (F : Def K mg "worth_text" s_worth_text f fd) (b : Binds K fd ["worth", "least"] []) : Cal P w K mg base (k + 1) "worth_text" (spWT K (N + 1)) [] := by
  refine cal0 F b .nil sc_worth_text (fun vs H Q E h => ?_) (fun cdv A outer s H vs Q E hr h => ?_)
  · obtain ⟨_, _, _, _, _, _, rfl, _⟩ := h
    rfl
  · obtain ⟨dv, kw, xs, h0, lv, t0, rfl, t, hT, hN, hl, q⟩ := h
    have g_LOOSE := T.g_LOOSE
    have DL := T.DL
    obtain ⟨z1, z2, z3, z4, z5, z6, z7, z8⟩ := lits_w
    obtain ⟨k2, xs2, e2, hk, h1⟩ := tx_head t
    obtain ⟨rfl, rfl⟩ := rnode_inj e2
    refine ⟨_, (pss_cons (ps_set (i := 2) sc_worth_text.nd rfl (.inl rfl) (pe_ix ix_tup (pv 0) pe_int (fun _ _ => rfl)))
      (pss_cons (ps_if (pt_cmpR (op_notIn_kd DL) (pv 2) (C8.pe_gc (by rfl) g_LOOSE) (by with_unfolding_all rfl)) (pss_one (ps_ret (C8.pe_c c_single_text hr (by first | decide | exact Nat.le_refl _ | omega) (by rfl) (pa_cons (pv 0) pa_nil)))) pss_nil)
      (pss_cons (ps_if (pt_cmpR op_lt (pe_ix ix_kdict (C8.pe_gc (by rfl) g_LOOSE) (pv 2) (fun _ _ => rfl)) (pv 1) (nomark _)) (pss_one (ps_ret (pe_op op_add_str (pe_op op_add_str pe_str (C8.pe_c c_whole_text hr (by first | decide | exact Nat.le_refl _ | omega) (by rfl) (pa_cons (pv 0) pa_nil))) pe_str))) pss_nil)
      (pss_cons (ps_if (pt_cmpR op_eq (pv 2) pe_str (nomark _)) (pss_one (ps_ret (pe_op op_add_str pe_str (C8.pe_c c_worth_text hr (by first | decide | exact Nat.le_refl _ | omega) (by rfl) (pa_cons (pe_ix ix_tup (pv 0) pe_int (fun _ _ => rfl)) (pa_cons (pe_ix ix_kdict (C8.pe_gc (by rfl) g_LOOSE) (pv 2) (fun _ _ => rfl)) pa_nil)))))) pss_nil)
      (pss_cons (ps_if (pt_cmpR op_eq (pv 2) pe_str (nomark _)) (pss_one (ps_ret (pe_op op_add_str pe_str (C8.pe_c c_worth_text hr (by first | decide | exact Nat.le_refl _ | omega) (by rfl) (pa_cons (pe_ix ix_tup (pv 0) pe_int (fun _ _ => rfl)) (pa_cons (pe_ix ix_kdict (C8.pe_gc (by rfl) g_LOOSE) (pv 2) (fun _ _ => rfl)) pa_nil)))))) pss_nil)
      (pss_one (ps_ret (C8.pe_c c_two_text hr (by first | decide | exact Nat.le_refl _ | omega) (by rfl) (pa_cons (pv 0) (pa_cons (pe_ix ix_kdict (C8.pe_gc (by rfl) g_LOOSE) (pv 2) (fun _ _ => rfl)) pa_nil)))))))))), ?_⟩
    refine q_asg (v := .str (S kw)) (ev_ixTs (j := 0) (ev_var rfl) hT ev_c rfl) fun H1 e1 => ?_
    try dsimp only [L2.start, List.map, List.set, List.length, List.append, List.replicate]
    have hT1 := Td.tx (Tx.of e1) _ _ hT
    have hN2 : 2 * h0 < N + 1 := by
      split at hN <;> omega
    refine q_when (et_notLoose T hk (ev_var rfl)) (fun hb H2 e2 => ?_) (fun hb H2 e2 => ?_)
    · refine s_retC ?_
      refine (show EvA (tCons (tVar 0) tNil) _ H2 [dv] from ea_cons (ev_var rfl) ea_nil) H2 (Ex.refl _) _ fun H3 e3 => ?_
      exact ⟨dv, kw, xs, h0, lv, t0, rfl, of_decide_eq_true hb, t, Td.tx (Tx.of (e2.trans e3)) _ _ hT1, hN2, hl, fun H4 e4 => q H4 ((e1.trans e2).trans (e3.trans e4))⟩
    have hko : kw ∈ opsW := by
      rcases hk with z | z
      · exact absurd z (of_decide_eq_false hb)
      · exact z
    have hT2 := Td.tx (Tx.of e2) _ _ hT1
    refine q_when (et_test (ev_op (ev_loose T hko (ev_var rfl)) (ev_var rfl) rv_I0)) (fun hb2 H3 e3 => ?_) (fun hb2 H3 e3 => ?_)
    · have hlt := of_decide_eq_true hb2
      obtain ⟨s0, rfl, tt⟩ := tx_open t hko (by omega)
      have hlen : s0.length ≤ 3000 := by
        rw [List.length_append, List.length_append] at hl
        omega
      rw [if_neg (by omega)] at hN
      refine s_retS (es_add (es_add (es_cl z1) (es_whole (ea_cons (ev_var rfl) ea_nil) tt (Td.tx (Tx.of e3) _ _ hT2) (by omega) hlen) ?_) (es_cl z2) ?_) fun H4 e4 => q H4 ((e1.trans e2).trans (e3.trans e4))
      all_goals simp only [List.length_append, List.length_cons, List.length_nil]
      all_goals omega
    have hle : lv ≤ lvl kw := by
      have := of_decide_eq_false hb2
      omega
    obtain ⟨h', rfl, hcase⟩ := tx_in t hko hle
    have hT3 := Td.tx (Tx.of e3) _ _ hT2
    have e03 := (e1.trans e2).trans e3
    -- a sign ahead
    have one : ∀ {σ : L2.St} {H4 : Hp} {d : PyData} {s1 : List Nat} {l : Nat}, Ex H3 H4 → σ[0]? = some (some dv) → σ[2]? = some (some (.str (S kw))) → xs = [d] → TxE h' l d s1 → l = lvl kw → s1.length ≤ 3000 → EvS (tCall (spWT K N) [] C8.E0 (tCons (tOp (rIxT K) (tVar 0) (tC (.int 2))) (tCons (tOp (rIxD K w) (tC (.ref aL)) (tVar 2)) tNil))) σ H4 s1 := fun {σ H4 d s1 l} e4 s0 s2 hx td hlv hl1 => by
      subst hx hlv
      obtain ⟨x, hxT, hxE⟩ := ev_ixTd (K := K) (j := 2) (ev_var s0) (Td.tx (Tx.of e4) _ _ hT3) ev_c (show [PyData.str (S kw), .none, d][2]? = some d from rfl)
      exact es_wt (ea_cons hxE (ea_cons (ev_loose T hko (ev_var s2)) ea_nil)) rfl td hxT (by omega) hl1
    refine q_when (et_test (ev_eqS (ev_var rfl) (es_cl z3))) (fun hb3 H4 e4 => ?_) (fun hb3 H4 e4 => ?_)
    · have hkn := of_decide_eq_true hb3
      rcases hcase with ⟨_, d, s1, hx, rfl, td⟩ | ⟨z, _⟩ | ⟨z, _⟩
      · have hlen : s1.length ≤ 3000 := by
          rw [List.length_append] at hl
          omega
        refine s_retS (es_add (es_cl z5) (one e4 rfl rfl hx td (by rw [hkn]; decide) hlen) ?_) fun H5 e5 => q H5 (e03.trans (e4.trans e5))
        simp only [List.length_append, List.length_cons, List.length_nil]
        omega
      · rw [hkn] at z
        exact absurd z (by decide)
      · exact absurd hkn (bin_not kw z).1
    refine q_when (et_test (ev_eqS (ev_var rfl) (es_cl z4))) (fun hb4 H5 e5 => ?_) (fun hb4 H5 e5 => ?_)
    · have hkn := of_decide_eq_true hb4
      rcases hcase with ⟨z, _⟩ | ⟨_, d, s1, hx, rfl, td⟩ | ⟨z, _⟩
      · exact absurd z (of_decide_eq_false hb3)
      · have hlen : s1.length ≤ 3000 := by
          rw [List.length_append] at hl
          omega
        refine s_retS (es_add (es_cl z6) (one (e4.trans e5) rfl rfl hx td (by rw [hkn]; decide) hlen) ?_) fun H6 e6 => q H6 (e03.trans (e4.trans (e5.trans e6)))
        have h3 : (oNot ++ [32]).length = 4 := by decide
        omega
      · exact absurd hkn (bin_not kw z).2
    rcases hcase with ⟨z, _⟩ | ⟨z, _⟩ | ⟨hbin, d, e, s1, s2, rfl, rfl, t1, t2⟩
    · exact absurd z (of_decide_eq_false hb3)
    · exact absurd z (of_decide_eq_false hb4)
    · refine s_retC ?_
      refine (show EvA (tCons (tVar 0) (tCons (tOp (rIxD K w) (tC (.ref aL)) (tVar 2)) tNil)) _ H5 [dv, .int ((lvl kw : Nat) + 1 : Int)] from ea_cons (ev_var rfl) (ea_cons (ev_loose T hko (ev_var rfl)) ea_nil)) H5 (Ex.refl _) _ fun H6 e6 => ?_
      refine ⟨dv, kw, d, e, h', s1, s2, rfl, hbin, Td.tx (Tx.of (e4.trans (e5.trans e6))) _ _ hT3, t1, t2, by omega, ?_, fun H7 e7 => q H7 (e03.trans ((e4.trans e5).trans (e6.trans e7)))⟩
      simp only [List.length_append, List.length_cons, List.length_nil] at hl
      omega
abbrev s_single_text : Stmt := topS 12
theorem sc_single_text : FnScope ["worth", "what", "path", "given"] ["worth"] (fnScope s_single_text) := fnScope_by (by decide +kernel)
theorem ok_single (T : ModsL K mg) {k N : Nat} (c_whole_text : Cal P w K mg base k "whole_text" (spWhole K N) []) {f : Addr} {fd : FuncData} (F : Def K mg "single_text" s_single_text f fd) (b : Binds K fd ["worth"] []) : Cal P w K mg base (k + 1) "single_text" (spSng K (N + 1)) [] := by
  refine cal0 F b .nil sc_single_text (fun vs H Q E h => ?_) (fun cdv A outer s H vs Q E hr h => ?_)
  · obtain ⟨_, _, _, _, _, _, rfl, _⟩ := h
    rfl
  · obtain ⟨dv, kw, xs, h0, lv, t0, rfl, hks, t, hT, hN, hl, q⟩ := h
    have m_str := T.m_str
    obtain ⟨z1, z2, z3, z4, z5, z6, z7, z8⟩ := lits_x
    obtain ⟨w1, w2, _, _, _, _, _, _⟩ := lits_w
    refine ⟨_, (pss_cons (ps_set (i := 1) sc_single_text.nd rfl (.inl rfl) (pe_ix ix_tup (pv 0) pe_int (fun _ _ => rfl)))
      (pss_cons (ps_if (pt_cmpR op_eq (pv 1) pe_str (nomark _)) (pss_one (ps_ret (pe_callTy call_str_int (by rfl) m_str Wt.bt_str (pa_cons (pe_ix ix_tup (pv 0) pe_int (fun _ _ => rfl)) pa_nil)))) pss_nil)
      (pss_cons (ps_if (pt_cmpR op_eq (pv 1) pe_str (nomark _)) (pss_one (ps_ret (pe_ifExp (pt_val (pe_ix ix_tup (pv 0) pe_int (fun _ _ => rfl))) pe_str pe_str))) pss_nil)
      (pss_cons (ps_set (i := 2) sc_single_text.nd rfl (.inl rfl) (pe_ix ix_tup (pv 0) pe_int (fun _ _ => rfl)))
      (pss_cons (ps_if (pt_cmpR op_ne (pe_ix ix_tup (pv 0) pe_int (fun _ _ => rfl)) pe_str (nomark _)) (pss_one (ps_set (i := 2) sc_single_text.nd rfl (.inl rfl) (pe_op op_add_str (pe_op op_add_str (pe_ix ix_tup (pv 0) pe_int (fun _ _ => rfl)) pe_str) (pe_ix ix_tup (pv 0) pe_int (fun _ _ => rfl))))) pss_nil)
      (pss_cons (ps_if (pt_cmpR op_eq (pv 1) pe_str (nomark _)) (pss_one (ps_ret (pv 2))) pss_nil)
      (pss_one (ps_ret (pe_op op_add_str (pe_op op_add_str (pe_op op_add_str (pv 2) pe_str) (pe_join pe_str (pe_lc (own := [("given", 3)]) (g := (gName 3)) (tt := tYes) rfl sc_single_text.nd (pi_tup (pe_ix ix_tup (pv 0) pe_int (fun _ _ => rfl))) (blkOk_by (N := ["worth", "what", "path", "given"]) (sc := C8.fnScope s_single_text) (by decide +kernel)) (fun _ _ _ _ _ => pg_name (i := 3) sc_single_text.nd rfl (Or.inl rfl)) (fun _ _ _ _ _ => pts_nil) (fun _ _ _ _ _ => (C8.pe_c c_whole_text hr (by first | decide | exact Nat.le_refl _ | omega) (by rfl) (pa_cons (pv 3) pa_nil)))))) pe_str))))))))), ?_⟩
    refine q_asg (v := .str (S kw)) (ev_ixTs (j := 0) (ev_var rfl) hT ev_c rfl) fun H1 e1 => ?_
    try dsimp only [L2.start, List.map, List.set, List.length, List.append, List.replicate]
    have hT1 := Td.tx (Tx.of e1) _ _ hT
    obtain ⟨h', rfl, hcase⟩ := tx_sng t hks
    refine q_when (et_test (ev_eqS (ev_var rfl) (es_cl z1))) (fun hb2 H2 e2 => ?_) (fun hb2 H2 e2 => ?_)
    · have hkn := of_decide_eq_true hb2
      rcases hcase with ⟨_, n, hn, rfl, rfl⟩ | ⟨z, _⟩ | ⟨z, _⟩ | ⟨z, _⟩
      · exact s_retS (ev_strN hn (ev_ixTi (j := 2) (ev_var rfl) (Td.tx (Tx.of e2) _ _ hT1) ev_c rfl)) fun H3 e3 => q H3 (e1.trans (e2.trans e3))
      · rw [hkn] at z
        exact absurd z (by decide)
      · rw [hkn] at z
        exact absurd z (by decide)
      · rw [hkn] at z
        exact absurd z (by decide)
    refine q_when (et_test (ev_eqS (ev_var rfl) (es_cl z2))) (fun hb3 H3 e3 => ?_) (fun hb3 H3 e3 => ?_)
    · have hkn := of_decide_eq_true hb3
      rcases hcase with ⟨z, _⟩ | ⟨_, x, rfl, rfl⟩ | ⟨z, _⟩ | ⟨z, _⟩
      · exact absurd z (of_decide_eq_false hb2)
      · refine s_retS (ev_if (et_B (ev_ixTb (j := 2) (ev_var rfl) (Td.tx (Tx.of (e2.trans e3)) _ _ hT1) ev_c rfl)) (fun hx => ?_) (fun hx => ?_)) fun H4 e4 => q H4 (e1.trans (e2.trans (e3.trans e4)))
        · subst hx
          exact es_cl z4
        · subst hx
          exact es_cl z5
      · rw [hkn] at z
        exact absurd z (by decide)
      · rw [hkn] at z
        exact absurd z (by decide)
    have e03 := e1.trans (e2.trans e3)
    have hT3 := Td.tx (Tx.of (e2.trans e3)) _ _ hT1
    -- the path
    obtain ⟨pf, pn, more, hxs, gf, gn⟩ : ∃ pf pn more, xs = .str (S pf) :: .str (S pn) :: more ∧ (pf = [] ∨ Good kName pf) ∧ Good kName pn := by
      rcases hcase with ⟨z, _⟩ | ⟨z, _⟩ | ⟨_, f, n, rfl, gf, gn, _⟩ | ⟨_, f, n, ds, ss, rfl, gf, gn, _⟩
      · exact absurd z (of_decide_eq_false hb2)
      · exact absurd z (of_decide_eq_false hb3)
      · exact ⟨f, n, _, rfl, gf, gn⟩
      · exact ⟨f, n, _, rfl, gf, gn⟩
    have hp13 := path_len gf gn
    have hpf6 : pf.length ≤ 6 := by
      rcases gf with z | z
      · rw [z]; exact Nat.zero_le _
      · exact nm_len z
    have hpn6 := nm_len gn
    have hT3' : Td H3 dv (.tuple (.str (S kw) :: .none :: .str (S pf) :: .str (S pn) :: more)) := by
      rw [hxs] at hT3
      exact hT3
    refine q_asg (v := .str (S pn)) (ev_ixTs (j := 3) (ev_var rfl) hT3' ev_c rfl) fun H4 e4 => ?_
    try dsimp only [List.set]
    have hT4 := Td.tx (Tx.of e4) _ _ hT3'
    refine q_whenK2 (b := !decide (pf = [])) (fun σ' H' => σ' = [some dv, some (.str (S kw)), some (.str (S (pathT pf pn))), none] ∧ Ex H4 H') (et_test (ev_neS (ev_ixTs (j := 2) (ev_var rfl) hT4 ev_c rfl) (es_cl z6))) (fun σ' H' ⟨hσ, eH⟩ => ?_) (fun kk hb H5 e5 => ?_) (fun hb H5 e5 => ⟨?_, e5⟩)
    · subst hσ
      have hTH := Td.tx (Tx.of eH) _ _ hT4
      refine q_when (et_test (ev_eqS (ev_var rfl) (es_cl z3))) (fun hb6 H6 e6 => ?_) (fun hb6 H6 e6 => ?_)
      · have hkn := of_decide_eq_true hb6
        rcases hcase with ⟨z, _⟩ | ⟨z, _⟩ | ⟨_, f, n, hx, _, _, rfl⟩ | ⟨z, _⟩
        · exact absurd z (of_decide_eq_false hb2)
        · exact absurd z (of_decide_eq_false hb3)
        · rw [hxs] at hx
          injection hx with h1 h2
          injection h2 with h2 _
          injection h1 with h1
          injection h2 with h2
          obtain rfl := S_inj h1
          obtain rfl := S_inj h2
          exact s_retS (ev_var rfl) fun H7 e7 => q H7 ((e03.trans e4).trans (eH.trans (e6.trans e7)))
        · rw [hkn] at z
          exact absurd z (by decide)
      · rcases hcase with ⟨z, _⟩ | ⟨z, _⟩ | ⟨z, _⟩ | ⟨_, f, n, ds, ss, hx, _, _, ta, rfl⟩
        · exact absurd z (of_decide_eq_false hb2)
        · exact absurd z (of_decide_eq_false hb3)
        · exact absurd z (of_decide_eq_false hb6)
        · rw [hxs] at hx
          injection hx with h1 h2
          injection h2 with h2 h3
          injection h1 with h1
          injection h2 with h2
          obtain rfl := S_inj h1
          obtain rfl := S_inj h2
          subst h3
          obtain ⟨x, hxT, hxE⟩ := ev_ixTd (K := K) (σ := [some dv, some (.str (S kw)), some (.str (S (pathT pf pn))), none]) (ta := tVar 0) (tb := tC (.int 4)) (j := 4) (ev_var rfl) (Td.tx (Tx.of e6) _ _ hTH) ev_c (show [PyData.str (S kw), .none, .str (S pf), .str (S pn), .tuple ds][4]? = some (.tuple ds) from rfl)
          simp only [List.length_append, List.length_cons, List.length_nil] at hl
          have hsum := sepT_sum ss
          have hss : ss.length ≤ 40000 := by omega
          cases hxT with
          | @tup a us _ ha hu =>
          refine s_retS (es_add (es_add (es_add (ev_var rfl) (es_cl w1) ?_) (es_join (es_cl z8) (elt_lcAll hxE ha hu (txAll_len ta) hss (fun _ => rfl) fun i x d s H7 e7 h1 h2 hTx => es_whole (ea_cons (ev_var rfl) ea_nil) (txAll_at ta h1 h2) hTx (by omega) ?_) ?_) ?_) (es_cl w2) ?_) fun H7 e7 => q H7 ((e03.trans e4).trans (eH.trans (e6.trans e7)))
          · simp only [List.length_cons, List.length_nil]
            omega
          · have := mem_sum (List.mem_of_getElem? h2)
            omega
          · unfold fitsJ
            show _ + ss.length * 2 ≤ _
            omega
          · simp only [List.length_append, List.length_cons, List.length_nil]
            omega
          · simp only [List.length_append, List.length_cons, List.length_nil]
            omega
    · refine s_asg (v := .str (S (pf ++ [46] ++ pn))) (es_add (es_add (ev_ixTs (j := 2) (ev_var rfl) (Td.tx (Tx.of e5) _ _ hT4) ev_c rfl) (es_cl z7) ?_) (ev_ixTs (j := 3) (ev_var rfl) (Td.tx (Tx.of e5) _ _ hT4) ev_c rfl) ?_) fun H6 e6 => kk _ H6 ⟨?_, e5.trans e6⟩
      · simp only [List.length_cons, List.length_nil]
        omega
      · simp only [List.length_append, List.length_cons, List.length_nil]
        omega
      · have hne : ¬ pf = [] := by
          intro z
          rw [z] at hb
          exact absurd hb (by decide)
        unfold pathT
        rw [if_neg hne] <;> rfl
    · have hne : pf = [] := by
        by_cases z : pf = []
        · exact z
        · rw [decide_eq_false z] at hb
          exact absurd hb (by decide)
      unfold pathT
      rw [if_pos hne] <;> rfl
end
end Wt

set_option Elab.async false
set_option linter.all false
set_option maxRecDepth 100000
set_option maxHeartbeats 4000000
namespace Wt
open PySem PySem.Spec PyProof.Rows L2 SX Evl
open C8 (Def Cal cal0 fnScope_by fnScope)
/-! writing.py: the texts of rows. -/
/-- a new list of texts -/
def RetT (ts : List (List Nat)) (H : Hp) (Q : VK) : Prop := ∀ p H2, H p = none → Ex H H2 → H2 p = some (tL ts) → Q (.ref p) H2
def spRowT (K : PySem.W.Frag) (N : Nat) : Sp := fun vs H Q _ => ∃ (rv : V) (d : PyData) (h : Nat) (ls : List (List Nat)), vs = [rv] ∧ TxRow h d ls ∧ Td H rv d ∧ h < N ∧ ls.length ≤ 300 ∧ ShortL 600 ls ∧ RetT ls H Q
def spDeep (K : PySem.W.Frag) (N : Nat) : Sp := fun vs H Q _ => ∃ (rv : V) (ds : List PyData) (h : Nat) (ls : List (List Nat)), vs = [rv] ∧ TxRows h ds ls ∧ Td H rv (.tuple ds) ∧ h < N ∧ ls.length ≤ 300 ∧ ShortL 600 ls ∧ RetT (ls.map indT) H Q
def spElse (K : PySem.W.Frag) (N : Nat) : Sp := fun vs H Q _ => ∃ (rv : V) (ds : List PyData) (h : Nat) (ls : List (List Nat)), vs = [rv] ∧ TxRows h ds ls ∧ Shp 64 (.tuple ds) ∧ Td H rv (.tuple ds) ∧ h < N ∧ ls.length ≤ 300 ∧ ShortL 600 ls ∧ RetT (if ds = [] then [] else oElse :: ls.map indT) H Q
theorem txRows_pos {h : Nat} : ∀ {ds : List PyData} {ls : List (List Nat)}, TxRows h ds ls → ds.length ≤ ls.length
  | _, _, .nil => Nat.le_refl _
  | _, _, .cons (l := l) r a => by
    have h1 := txRows_pos a
    have h2 : 1 ≤ l.length := by
      cases r with
      | let_ => exact Nat.le_refl _
      | set_ => exact Nat.le_refl _
      | worth => exact Nat.le_refl _
      | give0 => exact Nat.le_refl _
      | while_ => rw [List.length_append, List.length_append]; show 1 ≤ 1 + _ + 1; omega
      | if_ => rw [List.length_append, List.length_append, List.length_append]; show 1 ≤ 1 + _ + _ + 1; omega
    rw [List.length_cons, List.length_append]
    omega
theorem ShortL.l {B : Nat} {a b : List (List Nat)} (h : ShortL B (a ++ b)) : ShortL B a := fun l hl => h l (List.mem_append.mpr (.inl hl))
theorem ShortL.r {B : Nat} {a b : List (List Nat)} (h : ShortL B (a ++ b)) : ShortL B b := fun l hl => h l (List.mem_append.mpr (.inr hl))
/-- rows of a row whose rows within are told: they are short too -/
theorem ShortL.un {B : Nat} {ls : List (List Nat)} (h : ShortL B (ls.map indT)) : ShortL B ls := fun l hl => by
  have := h (indT l) (List.mem_map.mpr ⟨l, hl, rfl⟩)
  unfold indT at this
  rw [List.length_append] at this
  omega
section
variable {K : PySem.W.Frag} {σ : L2.St} {H H' : Hp} {ta tb te tl : TE} {tr : TA} {E : XK} {D : Ends} {tz : TS}
theorem elt_call {sp : Sp} {vs : List V} {ts : List (List Nat)} (h : EvA tr σ H vs) (hs : ∀ H1, Ex H H1 → ∀ Q : VK, RetT ts H1 Q → sp (vs ++ []) H1 Q E) : EvLT (tCall sp [] E tr) σ H ts := fun H1 e Q q => h H1 e _ fun H2 e2 => hs H2 (e.trans e2) Q fun p H3 hp e3 h3 => q p H3 (fresh_back e2 hp) (e2.trans e3) h3
theorem s_retLT {ts : List (List Nat)} {Q : VK} (h : EvLT te σ H ts) (hq : D.rt = Q) (q : RetT ts H Q) : tRet te D σ H := h H (Ex.refl H) _ fun p H1 hp e h1 => by
  rw [hq]
  exact q p H1 hp e h1
theorem RetT.go {ts : List (List Nat)} {Q : VK} (k : RetT ts H Q) (e : Ex H H') : RetT ts H' Q := fun p H2 hp e2 h => k p H2 (fresh_back e hp) (e.trans e2) h
theorem s_extLT {l : Addr} {ts us : List (List Nat)} (hl : H l = some (tL ts)) (ha : Ev ta σ H (.ref l)) (h : EvLT te σ H us) (hz : ts.length + us.length ≤ 100000) (k : ∀ H1, Ex H H1 → D.nx σ (upd H1 l (tL (ts ++ us)))) : tDrop (tBM K "list" rExtend ta (tCons te tNil)) D σ H := ha H (Ex.refl H) _ fun H1 e1 =>
  ⟨Or.inl ⟨rfl, _, sq_of (e1 l _ hl)⟩, h H1 e1 _ fun p H2 hp e2 hpl => ⟨l, p, _, _, rfl, rfl, e2 l _ (e1 l _ hl), hpl, sz_of (by rw [List.length_map, List.length_map]; exact hz), by
    have := k H2 (e1.trans e2)
    rw [← List.map_append]
    exact this⟩⟩
theorem q_extLT {l : Addr} {ts us : List (List Nat)} (hl : H l = some (tL ts)) (ha : Ev ta σ H (.ref l)) (h : EvLT te σ H us) (hz : ts.length + us.length ≤ 100000) (k : ∀ H1, Ex H H1 → tz D σ (upd H1 l (tL (ts ++ us)))) : tSeq (tDrop (tBM K "list" rExtend ta (tCons te tNil))) tz D σ H := s_extLT (D := { D with nx := tz D }) hl ha h hz k
end
theorem lits_r : Str.ofString "let" = S oLet ∧ Str.ofString "let " = S (oLet ++ [32]) ∧ Str.ofString " = " = S [32, 61, 32] ∧ Str.ofString "set" = S oSet ∧ Str.ofString "give" = S oGive ∧ Str.ofString "while" = S oWhile ∧ Str.ofString "end" = S oEnd ∧ Str.ofString "if" = S oIf ∧ Str.ofString "else" = S oElse ∧ Str.ofString "  " = S [32, 32] := by
  refine ⟨?_, ?_, ?_, ?_, ?_, ?_, ?_, ?_, ?_, ?_⟩ <;> decide +kernel
section
variable {P : Program} {w : World} {K : PySem.W.Frag} {mg : Str → Option Value} {base : Heap}
abbrev s_deeper_rows : Stmt := topS 6
theorem sc_deeper_rows : FnScope ["rows", "written", "row", "text"] ["rows"] (fnScope s_deeper_rows) := fnScope_by (by decide +kernel)
theorem ok_deeper {k N : Nat} (c_row_texts : Cal P w K mg base k "row_texts" (spRowT K N) []) {f : Addr} {fd : FuncData} (F : Def K mg "deeper_rows" s_deeper_rows f fd) (b : Binds K fd ["rows"] []) : Cal P w K mg base (k + 1) "deeper_rows" (spDeep K N) [] := by
  refine cal0 F b .nil sc_deeper_rows (fun vs H Q E h => ?_) (fun cdv A outer s H vs Q E hr h => ?_)
  · obtain ⟨_, _, _, _, rfl, _⟩ := h
    rfl
  · obtain ⟨rv, ds, h0, ls, rfl, t, hT, hN, hl, hs, q⟩ := h

    obtain ⟨_, _, _, _, _, _, _, _, _, z10⟩ := lits_r
    refine ⟨_, (pss_cons (ps_set (i := 1) sc_deeper_rows.nd rfl (.inl rfl) (pe_lst pa_nil))
      (pss_cons (ps_for PassesOwn.never rfl (pi_tup (pv 0)) (pg_name (i := 2) sc_deeper_rows.nd rfl (.inl rfl)) (pss_one (ps_expr (pe_bm PySem.F.plainAttrs_list PySem.F.slot_list_extend PySem.F.type_list_extend mt_extend (pv 1) (pa_cons (pe_lc (own := [("text", 3)]) (g := (gName 3)) (tt := tYes) rfl sc_deeper_rows.nd (pi_list (C8.pe_c c_row_texts hr (by first | decide | exact Nat.le_refl _ | omega) (by rfl) (pa_cons (pv 2) pa_nil))) (blkOk_by (N := ["rows", "written", "row", "text"]) (sc := C8.fnScope s_deeper_rows) (by decide +kernel)) (fun _ _ _ _ _ => pg_name (i := 3) sc_deeper_rows.nd rfl (Or.inl rfl)) (fun _ _ _ _ _ => pts_nil) (fun _ _ _ _ _ => (pe_op op_add_str pe_str (pv 3)))) pa_nil)))))
      (pss_one (ps_ret (pv 1))))), ?_⟩
    cases hT with
    | @tup a xs _ ha hx =>
    refine q_asgL (xs := []) (el_lst ea_nil (Nat.zero_le _)) fun l H1 hl0 e1 hl1 => ?_
    try dsimp only [L2.start, List.map, List.set, List.length, List.append, List.replicate]
    have hd0 := txRows_pos t
    refine q_forT (ev_var rfl) (st_of (e1 _ _ ha)) (fun i σ' H' => ∃ (y2 : Option V) (dn rs : List (List Nat)), σ' = [some (.ref a), some (.ref l), y2, none] ∧ Ex H H' ∧ ls = dn ++ rs ∧ TxRows h0 (ds.drop i) rs ∧ H' l = some (tL (dn.map indT))) (fun H2 e2 => ⟨none, [], ls, rfl, e1.trans e2, rfl, t, e2 _ _ hl1⟩) (fun i σ' H' _ ⟨_, _, _, _, e, _⟩ => st_of (e _ _ ha)) ?_ ?_
    · rintro i x σ' H2 hxi ⟨y2, dn, rs, rfl, e2, hdr, tr, hl2⟩
      obtain ⟨d, hd, hTx⟩ := (TdAll.tx (Tx.of e2) _ _ hx).at hxi
      have hdd : ds.drop i = d :: ds.drop (i + 1) := by
        have hlt := (List.getElem?_eq_some_iff.mp hd).1
        rw [List.drop_eq_getElem_cons hlt, (List.getElem?_eq_some_iff.mp hd).2]
      rw [hdd] at tr
      cases tr with
      | @cons _ _ _ l1 ls1 r1 a1 =>
      have hlen : dn.length + (l1.length + ls1.length) ≤ 300 := by
        rw [hdr, List.length_append, List.length_append] at hl
        exact hl
      have hs1 : ShortL 600 l1 := by
        rw [hdr] at hs
        exact hs.r.l
      show tDrop _ _ _ _
      try dsimp only [List.set]
      refine s_extLT hl2 (ev_var rfl) (elt_mapL (f := indT) (elt_call (ea_cons (ev_var rfl) ea_nil) fun H3 e3 Q2 q2 => ⟨x, d, h0, l1, rfl, r1, Td.tx (Tx.of e3) _ _ hTx, hN, by omega, hs1, q2⟩) (by omega) (fun _ => rfl) fun z H3 hz e3 => es_add (es_cl z10) (ev_var rfl) ?_) ?_ fun H3 e3 => ?_
      · have := hs1 z hz
        show 2 + _ ≤ _
        omega
      · rw [List.length_map, List.length_map]
        omega
      · refine ⟨_, dn ++ l1, ls1, rfl, Ex.mut (e2.trans e3) hl0, by rw [hdr, List.append_assoc], a1, ?_⟩
        rw [List.map_append]
        exact upd_same
    · rintro σ' H2 ⟨y2, dn, rs, rfl, e2, hdr, tr, hl2⟩
      rw [hx.len, List.drop_length] at tr
      cases tr
      rw [List.append_nil] at hdr
      subst hdr
      exact s_ret (ev_var rfl) fun H3 e3 => q l H3 hl0 (e2.trans e3) (e3 _ _ hl2)
abbrev s_else_rows : Stmt := topS 8
theorem sc_else_rows : FnScope ["rows"] ["rows"] (fnScope s_else_rows) := fnScope_by (by decide +kernel)
theorem ok_else {k N : Nat} (c_deeper_rows : Cal P w K mg base k "deeper_rows" (spDeep K N) []) {f : Addr} {fd : FuncData} (F : Def K mg "else_rows" s_else_rows f fd) (b : Binds K fd ["rows"] []) : Cal P w K mg base (k + 1) "else_rows" (spElse K N) [] := by
  refine cal0 F b .nil sc_else_rows (fun vs H Q E h => ?_) (fun cdv A outer s H vs Q E hr h => ?_)
  · obtain ⟨_, _, _, _, rfl, _⟩ := h
    rfl
  · obtain ⟨rv, ds, h0, ls, rfl, t, hsh, hT, hN, hl, hs, q⟩ := h

    have hu64 := hr.units
    obtain ⟨_, _, _, _, _, _, _, _, z9, _⟩ := lits_r
    refine ⟨_, (pss_cons (ps_if (pt_cmpR (op_eqD hu64) (pv 0) (pe_tup pa_nil) (nomark _)) (pss_one (ps_ret (pe_lst pa_nil))) pss_nil)
      (pss_one (ps_ret (pe_op op_cat (pe_lst (pa_cons pe_str pa_nil)) (C8.pe_c c_deeper_rows hr (by first | decide | exact Nat.le_refl _ | omega) (by rfl) (pa_cons (pv 0) pa_nil)))))), ?_⟩
    refine q_when (et_eqNilT (ev_var rfl) hT hsh) (fun hb H1 e1 => ?_) (fun hb H1 e1 => ?_)
    · have hz := of_decide_eq_true hb
      rw [if_pos hz] at q
      exact s_retLT (elt_lst eat_nil (Nat.zero_le _)) rfl (q.go e1)
    · have hz := of_decide_eq_false hb
      rw [if_neg hz] at q
      refine s_retLT (elt_cat (elt_lst (eat_cons (es_cl z9) eat_nil) (by show 1 ≤ 100000; decide)) (elt_call (ea_cons (ev_var rfl) ea_nil) fun H2 e2 Q2 q2 => ⟨rv, ds, h0, ls, rfl, t, Td.tx (Tx.of (e1.trans e2)) _ _ hT, hN, hl, hs, q2⟩) ?_) rfl (q.go e1)
      rw [List.length_map]
      show 1 + _ ≤ _
      omega
abbrev s_row_texts : Stmt := topS 7
theorem sc_row_texts : FnScope ["row", "what", "first"] ["row"] (fnScope s_row_texts) := fnScope_by (by decide +kernel)
theorem ok_rowT {k N : Nat} (c_whole_text : Cal P w K mg base k "whole_text" (spWhole K 7) []) (c_deeper_rows : Cal P w K mg base k "deeper_rows" (spDeep K N) []) (c_else_rows : Cal P w K mg base k "else_rows" (spElse K N) []) {f : Addr} {fd : FuncData} (F : Def K mg "row_texts" s_row_texts f fd) (b : Binds K fd ["row"] []) : Cal P w K mg base (k + 1) "row_texts" (spRowT K (N + 1)) [] := by
  refine cal0 F b .nil sc_row_texts (fun vs H Q E h => ?_) (fun cdv A outer s H vs Q E hr h => ?_)
  · obtain ⟨_, _, _, _, rfl, _⟩ := h
    rfl
  · obtain ⟨rv, d, h0, ls, rfl, t, hT, hN, hl, hs, q⟩ := h

    have hu64 := hr.units
    obtain ⟨z1, z2, z3, z4, z5, z6, z7, z8, z9, z10⟩ := lits_r
    obtain ⟨_, _, _, _, _, _, x7, _⟩ := lits_w
    refine ⟨_, (pss_cons (ps_set (i := 1) sc_row_texts.nd rfl (.inl rfl) (pe_ix ix_tup (pv 0) pe_int (fun _ _ => rfl)))
      (pss_cons (ps_if (pt_cmpR op_eq (pv 1) pe_str (nomark _)) (pss_one (ps_ret (pe_lst (pa_cons (pe_op op_add_str (pe_op op_add_str (pe_op op_add_str pe_str (pe_ix ix_tup (pv 0) pe_int (fun _ _ => rfl))) pe_str) (C8.pe_c c_whole_text hr (by first | decide | exact Nat.le_refl _ | omega) (by rfl) (pa_cons (pe_ix ix_tup (pv 0) pe_int (fun _ _ => rfl)) pa_nil))) pa_nil)))) pss_nil)
      (pss_cons (ps_if (pt_cmpR op_eq (pv 1) pe_str (nomark _)) (pss_one (ps_ret (pe_lst (pa_cons (pe_op op_add_str (pe_op op_add_str (pe_ix ix_tup (pv 0) pe_int (fun _ _ => rfl)) pe_str) (C8.pe_c c_whole_text hr (by first | decide | exact Nat.le_refl _ | omega) (by rfl) (pa_cons (pe_ix ix_tup (pv 0) pe_int (fun _ _ => rfl)) pa_nil))) pa_nil)))) pss_nil)
      (pss_cons (ps_if (PW.pt (pw_and (pt_cmpR op_eq (pv 1) pe_str (nomark _)) (pw_and1 (pt_cmpR op_isN (pe_ix ix_tup (pv 0) pe_int (fun _ _ => rfl)) pe_non (nomark _))))) (pss_one (ps_ret (pe_lst (pa_cons pe_str pa_nil)))) pss_nil)
      (pss_cons (ps_set (i := 2) sc_row_texts.nd rfl (.inl rfl) (pe_op op_add_str (pe_op op_add_str (pv 1) pe_str) (C8.pe_c c_whole_text hr (by first | decide | exact Nat.le_refl _ | omega) (by rfl) (pa_cons (pe_ix ix_tup (pv 0) pe_int (fun _ _ => rfl)) pa_nil))))
      (pss_cons (ps_if (pt_cmpR op_eq (pv 1) pe_str (nomark _)) (pss_one (ps_ret (pe_op op_cat (pe_op op_cat (pe_lst (pa_cons (pv 2) pa_nil)) (C8.pe_c c_deeper_rows hr (by first | decide | exact Nat.le_refl _ | omega) (by rfl) (pa_cons (pe_ix ix_tup (pv 0) pe_int (fun _ _ => rfl)) pa_nil))) (pe_lst (pa_cons pe_str pa_nil))))) pss_nil)
      (pss_cons (ps_if (pt_cmpR op_eq (pv 1) pe_str (nomark _)) (pss_one (ps_ret (pe_op op_cat (pe_op op_cat (pe_op op_cat (pe_lst (pa_cons (pv 2) pa_nil)) (C8.pe_c c_deeper_rows hr (by first | decide | exact Nat.le_refl _ | omega) (by rfl) (pa_cons (pe_ix ix_tup (pv 0) pe_int (fun _ _ => rfl)) pa_nil))) (C8.pe_c c_else_rows hr (by first | decide | exact Nat.le_refl _ | omega) (by rfl) (pa_cons (pe_ix ix_tup (pv 0) pe_int (fun _ _ => rfl)) pa_nil))) (pe_lst (pa_cons pe_str pa_nil))))) pss_nil)
      (pss_one (ps_ret (pe_lst (pa_cons (pv 2) pa_nil))))))))))), ?_⟩
    obtain ⟨kd, more, rfl, hkd⟩ : ∃ kd more, d = .tuple (.str (S kd) :: .none :: more) ∧ kd ∈ [oLet, oSet, oGive, oSay, oDo, oWhile, oIf] := by
      cases t with
      | let_ => exact ⟨_, _, rfl, by decide⟩
      | set_ => exact ⟨_, _, rfl, by decide⟩
      | worth hw => exact ⟨_, _, rfl, by rcases hw with rfl | rfl | rfl <;> decide⟩
      | give0 => exact ⟨_, _, rfl, by decide⟩
      | while_ => exact ⟨_, _, rfl, by decide⟩
      | if_ => exact ⟨_, _, rfl, by decide⟩
    have hkl : kd.length ≤ 5 := by
      revert hkd
      have : ∀ x ∈ [oLet, oSet, oGive, oSay, oDo, oWhile, oIf], x.length ≤ 5 := by decide
      exact this kd
    refine q_asg (v := .str (S kd)) (ev_ixTs (j := 0) (ev_var rfl) hT ev_c rfl) fun H1 e1 => ?_
    try dsimp only [L2.start, List.map, List.set, List.length, List.append, List.replicate]
    have hT1 := Td.tx (Tx.of e1) _ _ hT
    have q1 := q.go e1
    generalize hd0 : PyData.tuple (.str (S kd) :: .none :: more) = d0 at t hT1
    -- the text of an E that stands in the row
    have wh : ∀ {σ : L2.St} {H2 : Hp} {i : Nat} {e : PyData} {s1 : List Nat}, Ex H1 H2 → σ[0]? = some (some rv) → (PyData.str (S kd) :: .none :: more)[i]? = some e → TxE 3 0 e s1 → s1.length ≤ 477 → EvS (tCall (spWhole K 7) [] C8.E0 (tCons (tOp (rIxT K) (tVar 0) (tC (.int (i : Int)))) tNil)) σ H2 s1 := fun {σ H2 i e s1} e2 s0 hi te hl1 => by
      obtain ⟨x, hxT, hxE⟩ := ev_ixTd (K := K) (j := i) (ev_var s0) (Td.tx (Tx.of e2) _ _ (hd0 ▸ hT1)) ev_c hi
      exact es_whole (ea_cons hxE ea_nil) te hxT (by decide) (by omega)
    cases t with
    | @let_ h2 n s1 e gn te hl1 =>
      injection hd0 with hd0
      injection hd0 with a1 hd0
      injection hd0 with _ hm
      injection a1 with a1
      obtain rfl := S_inj a1
      subst hm
      have hn6 := nm_len gn
      refine q_when (b := true) (et_is (et_test (ev_eqS (ev_var rfl) (es_cl z1))) (decide_eq_true rfl)) (fun _ H2 e2 => ?_) (fun z => by cases z)
      refine s_retLT (elt_lst (eat_cons (es_add (es_add (es_add (es_cl z2) (ev_ixTs (j := 2) (ev_var rfl) (Td.tx (Tx.of e2) _ _ hT1) ev_c rfl) ?_) (es_cl z3) ?_) (wh (i := 3) e2 rfl rfl te hl1) ?_) eat_nil) (by show 1 ≤ 100000; decide)) rfl (q1.go e2)
      all_goals simp only [List.length_append, List.length_cons, List.length_nil]
      all_goals have h4 : oLet.length = 3 := by decide
      all_goals omega
    | @set_ h2 n s1 e gn te hl1 =>
      injection hd0 with hd0
      injection hd0 with a1 hd0
      injection hd0 with _ hm
      injection a1 with a1
      obtain rfl := S_inj a1
      subst hm
      have hn6 := nm_len gn
      refine q_when (b := false) (et_is (et_test (ev_eqS (ev_var rfl) (es_cl z1))) (decide_eq_false (by decide))) (fun z => by cases z) fun _ H2 e2 => ?_
      refine q_when (b := true) (et_is (et_test (ev_eqS (ev_var rfl) (es_cl z4))) (decide_eq_true rfl)) (fun _ H3 e3 => ?_) (fun z => by cases z)
      have e13 := e2.trans e3
      refine s_retLT (elt_lst (eat_cons (es_add (es_add (ev_ixTs (j := 2) (ev_var rfl) (Td.tx (Tx.of e13) _ _ hT1) ev_c rfl) (es_cl z3) ?_) (wh (i := 3) e13 rfl rfl te hl1) ?_) eat_nil) (by show 1 ≤ 100000; decide)) rfl (q1.go e13)
      all_goals simp only [List.length_append, List.length_cons, List.length_nil]
      all_goals omega
    | @give0 h2 =>
      injection hd0 with hd0
      injection hd0 with a1 hd0
      injection hd0 with _ hm
      injection a1 with a1
      obtain rfl := S_inj a1
      subst hm
      refine q_when (b := false) (et_is (et_test (ev_eqS (ev_var rfl) (es_cl z1))) (decide_eq_false (by decide))) (fun z => by cases z) fun _ H2 e2 => ?_
      refine q_when (b := false) (et_is (et_test (ev_eqS (ev_var rfl) (es_cl z4))) (decide_eq_false (by decide))) (fun z => by cases z) fun _ H3 e3 => ?_
      have e13 := e2.trans e3
      obtain ⟨x, hxT, hxE⟩ := ev_ixTd (K := K) (σ := [some rv, some (.str (S oGive)), none]) (ta := tVar 0) (tb := tC (.int 2)) (j := 2) (ev_var rfl) (Td.tx (Tx.of e13) _ _ hT1) ev_c (show [PyData.str (S oGive), .none, .none][2]? = some .none from rfl)
      cases hxT
      refine q_when (b := true) (et_is (et_and (et_test (ev_eqS (ev_var rfl) (es_cl z5))) fun _ => et_isNone hxE (decide_eq_true rfl)) (by rw [decide_eq_true rfl] <;> rfl)) (fun _ H4 e4 => ?_) (fun z => by cases z)
      exact s_retLT (elt_lst (eat_cons (es_cl z5) eat_nil) (by show 1 ≤ 100000; decide)) rfl (q1.go (e13.trans e4))
    | @worth h2 wd s1 e hw te hl1 hne =>
      injection hd0 with hd0
      injection hd0 with a1 hd0
      injection hd0 with _ hm
      injection a1 with a1
      obtain rfl := S_inj a1
      subst hm
      have nw : kd ≠ oLet ∧ kd ≠ oSet ∧ kd ≠ oWhile ∧ kd ≠ oIf := by rcases hw with rfl | rfl | rfl <;> decide
      refine q_when (b := false) (et_is (et_test (ev_eqS (ev_var rfl) (es_cl z1))) (decide_eq_false nw.1)) (fun z => by cases z) fun _ H2 e2 => ?_
      refine q_when (b := false) (et_is (et_test (ev_eqS (ev_var rfl) (es_cl z4))) (decide_eq_false nw.2.1)) (fun z => by cases z) fun _ H3 e3 => ?_
      have e13 := e2.trans e3
      obtain ⟨es0, rfl⟩ := hne
      obtain ⟨x, hxT, hxE⟩ := ev_ixTd (K := K) (σ := [some rv, some (.str (S kd)), none]) (ta := tVar 0) (tb := tC (.int 2)) (j := 2) (ev_var rfl) (Td.tx (Tx.of e13) _ _ hT1) ev_c (show [PyData.str (S kd), .none, .tuple es0][2]? = some (.tuple es0) from rfl)
      have hxn : x ≠ .non := by
        cases hxT
        intro z
        cases z
      refine q_when (b := false) (et_is (et_and (et_test (ev_eqS (ev_var rfl) (es_cl z5))) fun _ => et_isNone hxE (decide_eq_false hxn)) (by rw [Bool.and_false])) (fun z => by cases z) fun _ H4 e4 => ?_
      have e14 := e13.trans e4
      refine q_asg (v := .str (S (kd ++ [32] ++ s1))) (es_add (es_add (ev_var rfl) (es_cl x7) ?_) (wh (i := 2) e14 rfl rfl te hl1) ?_) fun H5 e5 => ?_
      · show _ + 1 ≤ _
        omega
      · rw [List.length_append]
        show _ + 1 + _ ≤ _
        omega
      try dsimp only [List.set]
      refine q_when (b := false) (et_is (et_test (ev_eqS (ev_var rfl) (es_cl z6))) (decide_eq_false nw.2.2.1)) (fun z => by cases z) fun _ H6 e6 => ?_
      refine q_when (b := false) (et_is (et_test (ev_eqS (ev_var rfl) (es_cl z8))) (decide_eq_false nw.2.2.2)) (fun z => by cases z) fun _ H7 e7 => ?_
      exact s_retLT (elt_lst (eat_cons (ev_var rfl) eat_nil) (by show 1 ≤ 100000; decide)) rfl (q1.go (e14.trans (e5.trans (e6.trans e7))))
    | @while_ h2 s1 e ds ls1 te hl1 ta =>
      injection hd0 with hd0
      injection hd0 with a1 hd0
      injection hd0 with _ hm
      injection a1 with a1
      obtain rfl := S_inj a1
      subst hm
      refine q_when (b := false) (et_is (et_test (ev_eqS (ev_var rfl) (es_cl z1))) (decide_eq_false (by decide))) (fun z => by cases z) fun _ H2 e2 => ?_
      refine q_when (b := false) (et_is (et_test (ev_eqS (ev_var rfl) (es_cl z4))) (decide_eq_false (by decide))) (fun z => by cases z) fun _ H3 e3 => ?_
      refine q_when (b := false) (et_is (et_and (b := false) (et_test (ev_eqS (ev_var rfl) (es_cl z5))) fun z => absurd (of_decide_eq_true z) (by decide)) (by rw [Bool.and_false])) (fun z => by cases z) fun _ H4 e4 => ?_
      have e14 := (e2.trans e3).trans e4
      refine q_asg (v := .str (S (oWhile ++ [32] ++ s1))) (es_add (es_add (ev_var rfl) (es_cl x7) ?_) (wh (i := 2) e14 rfl rfl te hl1) ?_) fun H5 e5 => ?_
      · show 5 + 1 ≤ 100000
        decide
      · rw [List.length_append]
        show 5 + 1 + _ ≤ _
        omega
      try dsimp only [List.set]
      refine q_when (b := true) (et_is (et_test (ev_eqS (ev_var rfl) (es_cl z6))) (decide_eq_true rfl)) (fun _ H6 e6 => ?_) (fun z => by cases z)
      have e16 := e14.trans (e5.trans e6)
      simp only [List.length_append, List.length_map, List.length_cons, List.length_nil] at hl
      have hs1 : ShortL 600 ls1 := hs.l.r.un
      obtain ⟨x, hxT, hxE⟩ := ev_ixTd (K := K) (σ := [some rv, some (.str (S oWhile)), some (.str (S (oWhile ++ [32] ++ s1)))]) (ta := tVar 0) (tb := tC (.int 3)) (j := 3) (ev_var rfl) (Td.tx (Tx.of e16) _ _ hT1) ev_c (show [PyData.str (S oWhile), .none, e, .tuple ds][3]? = some (.tuple ds) from rfl)
      refine s_retLT (elt_cat (elt_cat (elt_lst (eat_cons (ev_var rfl) eat_nil) (by show 1 ≤ 100000; decide)) (elt_call (ea_cons hxE ea_nil) fun H7 e7 Q2 q2 => ⟨x, ds, h2, ls1, rfl, ta, Td.tx (Tx.of e7) _ _ hxT, by omega, by omega, hs1, q2⟩) ?_) (elt_lst (eat_cons (es_cl z7) eat_nil) (by show 1 ≤ 100000; decide)) ?_) rfl (q1.go e16)
      all_goals simp only [List.length_append, List.length_map, List.length_cons, List.length_nil]
      all_goals omega
    | @if_ h2 s1 e ds es ls1 ms te hl1 ta tb hsh =>
      injection hd0 with hd0
      injection hd0 with a1 hd0
      injection hd0 with _ hm
      injection a1 with a1
      obtain rfl := S_inj a1
      subst hm
      refine q_when (b := false) (et_is (et_test (ev_eqS (ev_var rfl) (es_cl z1))) (decide_eq_false (by decide))) (fun z => by cases z) fun _ H2 e2 => ?_
      refine q_when (b := false) (et_is (et_test (ev_eqS (ev_var rfl) (es_cl z4))) (decide_eq_false (by decide))) (fun z => by cases z) fun _ H3 e3 => ?_
      refine q_when (b := false) (et_is (et_and (b := false) (et_test (ev_eqS (ev_var rfl) (es_cl z5))) fun z => absurd (of_decide_eq_true z) (by decide)) (by rw [Bool.and_false])) (fun z => by cases z) fun _ H4 e4 => ?_
      have e14 := (e2.trans e3).trans e4
      refine q_asg (v := .str (S (oIf ++ [32] ++ s1))) (es_add (es_add (ev_var rfl) (es_cl x7) ?_) (wh (i := 2) e14 rfl rfl te hl1) ?_) fun H5 e5 => ?_
      · show 2 + 1 ≤ 100000
        decide
      · rw [List.length_append]
        show 2 + 1 + _ ≤ _
        omega
      try dsimp only [List.set]
      refine q_when (b := false) (et_is (et_test (ev_eqS (ev_var rfl) (es_cl z6))) (decide_eq_false (by decide))) (fun z => by cases z) fun _ H6 e6 => ?_
      refine q_when (b := true) (et_is (et_test (ev_eqS (ev_var rfl) (es_cl z8))) (decide_eq_true rfl)) (fun _ H7 e7 => ?_) (fun z => by cases z)
      have e17 := e14.trans (e5.trans (e6.trans e7))
      have hm2 : (if es = [] then [] else oElse :: ms.map indT).length ≤ 298 ∧ ls1.length ≤ 298 := by
        rw [List.length_append, List.length_append, List.length_append, List.length_map] at hl
        simp only [List.length_cons, List.length_nil] at hl
        omega
      have hs1 : ShortL 600 ls1 := hs.l.l.r.un
      have hs2 : ms.length ≤ 300 ∧ ShortL 600 ms := by
        by_cases hz : es = []
        · subst hz
          cases tb
          exact ⟨Nat.zero_le _, fun l hl => by cases hl⟩
        · have h3 := hs.l.r
          have h4 := hm2.1
          rw [if_neg hz] at h3 h4
          rw [List.length_cons, List.length_map] at h4
          exact ⟨by omega, (ShortL.r (a := [oElse]) h3).un⟩
      obtain ⟨x, hxT, hxE⟩ := ev_ixTd (K := K) (σ := [some rv, some (.str (S oIf)), some (.str (S (oIf ++ [32] ++ s1)))]) (ta := tVar 0) (tb := tC (.int 3)) (j := 3) (ev_var rfl) (Td.tx (Tx.of e17) _ _ hT1) ev_c (show [PyData.str (S oIf), .none, e, .tuple ds, .tuple es][3]? = some (.tuple ds) from rfl)
      obtain ⟨y, hyT, hyE⟩ := ev_ixTd (K := K) (σ := [some rv, some (.str (S oIf)), some (.str (S (oIf ++ [32] ++ s1)))]) (ta := tVar 0) (tb := tC (.int 4)) (j := 4) (ev_var rfl) (Td.tx (Tx.of e17) _ _ hT1) ev_c (show [PyData.str (S oIf), .none, e, .tuple ds, .tuple es][4]? = some (.tuple es) from rfl)
      refine s_retLT (elt_cat (elt_cat (elt_cat (elt_lst (eat_cons (ev_var rfl) eat_nil) (by show 1 ≤ 100000; decide)) (elt_call (ea_cons hxE ea_nil) fun H8 e8 Q2 q2 => ⟨x, ds, h2, ls1, rfl, ta, Td.tx (Tx.of e8) _ _ hxT, by omega, by omega, hs1, q2⟩) ?_) (elt_call (ea_cons hyE ea_nil) fun H8 e8 Q2 q2 => ⟨y, es, h2, ms, rfl, tb, hsh, Td.tx (Tx.of e8) _ _ hyT, by omega, hs2.1, hs2.2, q2⟩) ?_) (elt_lst (eat_cons (es_cl z7) eat_nil) (by show 1 ≤ 100000; decide)) ?_) rfl (q1.go e17)
      · rw [List.length_map]
        show 1 + _ ≤ _
        omega
      · rw [List.length_append, List.length_map]
        show 1 + _ + _ ≤ _
        omega
      · rw [List.length_append, List.length_append, List.length_map]
        show 1 + _ + _ + 1 ≤ _
        omega
end
end Wt

set_option Elab.async false
set_option linter.all false
set_option maxRecDepth 100000
set_option maxHeartbeats 4000000
namespace Wt
open PySem PySem.Spec PyProof.Rows L2 SX Evl
open C8 (Def Cal cal0 fnScope_by fnScope)
/-! writing.py: the texts of files. -/
def spDefT (K : PySem.W.Frag) : Sp := fun vs H Q _ => ∃ (ov : V) (n k : List Nat) (o : Bool) (ps ds : List PyData) (ss ls : List (List Nat)), vs = [ov] ∧ Good kName n ∧ TxParts ps ss ∧ ps.length ≤ 6 ∧ (k = [] ∨ k ∈ kinds) ∧ TxRows 4 ds ls ∧ ls.length ≤ 300 ∧ ShortL 600 ls ∧
  Td H ov (.tuple [.str (S oDef), .none, .bool o, .str (S n), .tuple ps, .str (S k), .tuple ds, .none]) ∧ RetT ([defT n ss k] ++ ls.map indT ++ [oEnd]) H Q
def spToldT (K : PySem.W.Frag) : Sp := fun vs H Q _ => ∃ (ov : V) (d : PyData) (ls : List (List Nat)), vs = [ov] ∧ TxTold d ls ∧ Td H ov d ∧ RetT ls H Q
def spTextOf (K : PySem.W.Frag) : Sp := fun vs H Q _ => ∃ (tv : V) (D : PyData) (rows : List (List Nat)), vs = [tv] ∧ TxFile D rows ∧ Td H tv D ∧ ∀ H2, Ex H H2 → Q (.str (S (TL.joinL [10] rows))) H2
section
variable {K : PySem.W.Frag} {σ : L2.St} {H H' : Hp} {ta tb te tl : TE} {tr : TA} {E : XK} {D : Ends} {tz : TS}
/-- for _, n, k in parts: each is a part -/
theorem g_tri {i j l : Nat} {x : V} {d1 d2 d3 : PyData} {Q : L2.St → Hp → Prop} (h : Td H x (.tuple [d1, d2, d3])) (k : ∀ v w y, Td H v d1 → Td H w d2 → Td H y d3 → Q (((σ.set i (some v)).set j (some w)).set l (some y)) H) : gTup K 3 (gCons (gName i) (gCons (gName j) (gCons (gName l) gNil))) x σ H Q := by
  cases h with
  | @tup a xs _ h1 h2 =>
    cases h2 with
    | cons a1 b1 =>
      cases b1 with
      | cons a2 b2 =>
        cases b2 with
        | cons a3 b3 =>
          cases b3
          exact ⟨a, _, rfl, st_of h1, rfl, _, _, rfl, _, _, rfl, _, _, rfl, rfl, k _ _ _ a1 a2 a3⟩
theorem g_four {i1 i2 i3 i4 : Nat} {x : V} {d1 d2 d3 d4 : PyData} {Q : L2.St → Hp → Prop} (h : Td H x (.tuple [d1, d2, d3, d4])) (k : ∀ v1 v2 v3 v4, Td H v1 d1 → Td H v2 d2 → Td H v3 d3 → Td H v4 d4 → Q ((((σ.set i1 (some v1)).set i2 (some v2)).set i3 (some v3)).set i4 (some v4)) H) : gTup K 4 (gCons (gName i1) (gCons (gName i2) (gCons (gName i3) (gCons (gName i4) gNil)))) x σ H Q := by
  cases h with
  | @tup a xs _ h1 h2 =>
    cases h2 with
    | cons a1 h2 =>
      cases h2 with
      | cons a2 h2 =>
        cases h2 with
        | cons a3 h2 =>
          cases h2 with
          | cons a4 h2 =>
            cases h2
            exact ⟨a, _, rfl, st_of h1, rfl, _, _, rfl, _, _, rfl, _, _, rfl, _, _, rfl, rfl, k _ _ _ _ a1 a2 a3 a4⟩
theorem g_eight {i1 i2 i3 i4 i5 i6 i7 i8 : Nat} {x : V} {d1 d2 d3 d4 d5 d6 d7 d8 : PyData} {Q : L2.St → Hp → Prop} (h : Td H x (.tuple [d1, d2, d3, d4, d5, d6, d7, d8])) (k : ∀ v1 v2 v3 v4 v5 v6 v7 v8, Td H v1 d1 → Td H v2 d2 → Td H v3 d3 → Td H v4 d4 → Td H v5 d5 → Td H v6 d6 → Td H v7 d7 → Td H v8 d8 → Q ((((((((σ.set i1 (some v1)).set i2 (some v2)).set i3 (some v3)).set i4 (some v4)).set i5 (some v5)).set i6 (some v6)).set i7 (some v7)).set i8 (some v8)) H) :
    gTup K 8 (gCons (gName i1) (gCons (gName i2) (gCons (gName i3) (gCons (gName i4) (gCons (gName i5) (gCons (gName i6) (gCons (gName i7) (gCons (gName i8) gNil)))))))) x σ H Q := by
  cases h with
  | @tup a xs _ h1 h2 =>
    cases h2 with
    | cons a1 h2 =>
      cases h2 with
      | cons a2 h2 =>
        cases h2 with
        | cons a3 h2 =>
          cases h2 with
          | cons a4 h2 =>
            cases h2 with
            | cons a5 h2 =>
              cases h2 with
              | cons a6 h2 =>
                cases h2 with
                | cons a7 h2 =>
                  cases h2 with
                  | cons a8 h2 =>
                    cases h2
                    exact ⟨a, _, rfl, st_of h1, rfl, _, _, rfl, _, _, rfl, _, _, rfl, _, _, rfl, _, _, rfl, _, _, rfl, _, _, rfl, _, _, rfl, rfl, k _ _ _ _ _ _ _ _ a1 a2 a3 a4 a5 a6 a7 a8⟩
/-- [e for a, b, c in t]: texts, item by item -/
theorem elt_lcG {a : Addr} {xs : List V} {ds : List PyData} {ss : List (List Nat)} {g : TG} {vs : List Nat} (h : Ev tl σ H (.ref a)) (hx : H a = some (.tup xs)) (hT : TdAll H xs ds) (hl : ds.length = ss.length) (hz : ss.length ≤ 40000)
    (he : ∀ (i : Nat) (x : V) (d : PyData) (s : List Nat) H1, Ex H H1 → ds[i]? = some d → ss[i]? = some s → Td H1 x d → ∀ Q2 : L2.St → Hp → Prop, (∀ σ2, wipe σ2 vs = wipe σ vs → EvS te σ2 H1 s → Q2 σ2 H1) → g x (wipe σ vs) H1 Q2) : EvLT (tLc (iTup K tl) g tYes te vs) σ H ss := fun H0 e Q q => h H0 e _ fun H1 e1 => ⟨a, rfl, ⟨xs, st_of ((e.trans e1) _ _ hx)⟩, fun Dl hD => by
  have hx1 := (e.trans e1) _ _ hx
  have hT1 := TdAll.tx (Tx.of (e.trans e1)) _ _ hT
  refine lc_it (walk_tup (K := K) (a := a) (xs := xs)) (fun i H' => Ex H1 H' ∧ H' Dl = some (tL (ss.take i))) ⟨Ex.new hD, upd_same⟩ (fun _ H' _ ⟨e2, _⟩ => st_of (e2 _ _ hx1)) ?_ ?_
  · rintro i x H2 H3 hi ⟨e2, hDl⟩ ⟨rfl, hxi⟩
    have hlen := hT1.len
    have hi2 : i < ds.length := by omega
    have hi3 : i < ss.length := by omega
    obtain ⟨v, hv, hTv⟩ := td_get hT1 (List.getElem?_eq_getElem hi2)
    rw [hxi] at hv
    cases hv
    refine he i x ds[i] ss[i] H3 ((e.trans e1).trans e2) (List.getElem?_eq_getElem hi2) (List.getElem?_eq_getElem hi3) (Td.tx (Tx.of e2) _ _ hTv) _ fun σ2 hσ hE => ⟨hσ, tYes_go ?_⟩
    refine hE H3 (Ex.refl _) _ fun H4 e4 => ⟨_, e4 _ _ hDl, sz_lt (by rw [List.length_map, List.length_take]; omega), Ex.mut (e2.trans e4) hD, ?_⟩
    rw [show ss.take (i + 1) = ss.take i ++ [ss[i]] by rw [List.take_succ, List.getElem?_eq_getElem hi3] <;> rfl, tL_snoc]
    exact upd_same
  · rintro H2 ⟨e2, hDl⟩
    rw [hT1.len, hl, List.take_length] at hDl
    exact q Dl H2 (fresh_back e1 hD) (e1.trans e2) hDl⟩
end
theorem txParts_at : ∀ {ps : List PyData} {ss : List (List Nat)} {i : Nat} {d : PyData} {s : List Nat}, TxParts ps ss → ps[i]? = some d → ss[i]? = some s → ∃ n k, d = .tuple [.none, .str (S n), .str (S k)] ∧ s = partT n k ∧ Good kName n ∧ k ∈ kinds
  | _, _, i, _, _, .nil, h1, _ => by simp at h1
  | _, _, 0, _, _, .cons gn hk a, h1, h2 => by
    cases Option.some.inj h1
    cases Option.some.inj h2
    exact ⟨_, _, rfl, rfl, gn, hk⟩
  | _, _, i + 1, _, _, .cons gn hk a, h1, h2 => txParts_at a (i := i) h1 h2
theorem txUses_at : ∀ {ps : List PyData} {ss : List (List Nat)} {i : Nat} {d : PyData} {s : List Nat}, TxUses ps ss → ps[i]? = some d → ss[i]? = some s → d = .tuple [.none, .str (S s)] ∧ Good kName s
  | _, _, i, _, _, .nil, h1, _ => by simp at h1
  | _, _, 0, _, _, .cons gn a, h1, h2 => by
    cases Option.some.inj h1
    cases Option.some.inj h2
    exact ⟨rfl, gn⟩
  | _, _, i + 1, _, _, .cons gn a, h1, h2 => txUses_at a (i := i) h1 h2
theorem lits_u : Str.ofString "def" = S oDef ∧ Str.ofString "def " = S (oDef ++ [32]) ∧ Str.ofString "out " = S (oOut ++ [32]) ∧ Str.ofString "use " = S (oUse ++ [32]) ∧ Str.ofString "\n" = S [10] := by
  refine ⟨?_, ?_, ?_, ?_, ?_⟩ <;> decide +kernel
theorem fits_sep {B : Nat} {ss : List (List Nat)} (h : ∀ s ∈ ss, s.length ≤ B) (hz : (B + 2) * ss.length ≤ 100000) : fitsJ sepT ss := by
  have h1 := sum_short (rows := ss) h
  unfold fitsJ
  show _ + ss.length * 2 ≤ _
  have : (B + 2) * ss.length = B * ss.length + ss.length * 2 := by rw [Nat.add_mul, Nat.mul_comm 2]
  omega
section
variable {P : Program} {w : World} {K : PySem.W.Frag} {mg : Str → Option Value} {base : Heap}
abbrev s_def_rows : Stmt := topS 5
theorem sc_def_rows : FnScope ["one", "_", "name", "parts", "kind", "rows", "first", "part", "of"] ["one"] (fnScope s_def_rows) := fnScope_by (by decide +kernel)
theorem ok_defT {k : Nat} (c_deeper_rows : Cal P w K mg base k "deeper_rows" (spDeep K 5) []) {f : Addr} {fd : FuncData} (F : Def K mg "def_rows" s_def_rows f fd) (b : Binds K fd ["one"] []) : Cal P w K mg base (k + 1) "def_rows" (spDefT K) [] := by
  refine cal0 F b .nil sc_def_rows (fun vs H Q E h => ?_) (fun cdv A outer s H vs Q E hr h => ?_)
  · obtain ⟨_, _, _, _, _, _, _, _, rfl, _⟩ := h
    rfl
  · obtain ⟨ov, n, kd, o, ps, ds, ss, ls, rfl, gn, hp, h6, hk, ht, hl, hs, hT, q⟩ := h

    obtain ⟨y1, y2, y3, y4, y5⟩ := lits_u
    obtain ⟨_, _, _, _, _, _, z7, _, _, _⟩ := lits_r
    obtain ⟨w1, w2, _, _, _, _, x7, _⟩ := lits_w
    obtain ⟨_, _, _, _, _, _, _, x8⟩ := lits_x
    refine ⟨_, (pss_cons (ps_asg (pv 0) (pg_tup rfl (pgs_cons (pg_name (i := 1) sc_def_rows.nd rfl (.inl rfl)) (pgs_cons (pg_name (i := 1) sc_def_rows.nd rfl (.inl rfl)) (pgs_cons (pg_name (i := 1) sc_def_rows.nd rfl (.inl rfl)) (pgs_cons (pg_name (i := 2) sc_def_rows.nd rfl (.inl rfl)) (pgs_cons (pg_name (i := 3) sc_def_rows.nd rfl (.inl rfl)) (pgs_cons (pg_name (i := 4) sc_def_rows.nd rfl (.inl rfl)) (pgs_cons (pg_name (i := 5) sc_def_rows.nd rfl (.inl rfl)) (pgs_cons (pg_name (i := 1) sc_def_rows.nd rfl (.inl rfl)) pgs_nil))))))))))
      (pss_cons (ps_set (i := 6) sc_def_rows.nd rfl (.inl rfl) (pe_op op_add_str (pe_op op_add_str (pe_op op_add_str (pe_op op_add_str pe_str (pv 2)) pe_str) (pe_join pe_str (pe_lc (own := [("_", 1), ("part", 7), ("of", 8)]) (g := (gTup K 3 (gCons (gName 1) (gCons (gName 7) (gCons (gName 8) gNil))))) (tt := tYes) rfl sc_def_rows.nd (pi_tup (pv 3)) (blkOk_by (N := ["one", "_", "name", "parts", "kind", "rows", "first", "part", "of"]) (sc := C8.fnScope s_def_rows) (by decide +kernel)) (fun _ _ _ _ _ => pg_tup rfl (pgs_cons (pg_name (i := 1) sc_def_rows.nd rfl (Or.inl rfl)) (pgs_cons (pg_name (i := 7) sc_def_rows.nd rfl (Or.inl rfl)) (pgs_cons (pg_name (i := 8) sc_def_rows.nd rfl (Or.inl rfl)) pgs_nil)))) (fun _ _ _ _ _ => pts_nil) (fun _ _ _ _ _ => (pe_op op_add_str (pe_op op_add_str (pv 7) pe_str) (pv 8)))))) pe_str))
      (pss_cons (ps_if (pt_cmpR op_ne (pv 4) pe_str (nomark _)) (pss_one (ps_set (i := 6) sc_def_rows.nd rfl (.inl rfl) (pe_op op_add_str (pe_op op_add_str (pv 6) pe_str) (pv 4)))) pss_nil)
      (pss_one (ps_ret (pe_op op_cat (pe_op op_cat (pe_lst (pa_cons (pv 6) pa_nil)) (C8.pe_c c_deeper_rows hr (by first | decide | exact Nat.le_refl _ | omega) (by rfl) (pa_cons (pv 5) pa_nil))) (pe_lst (pa_cons pe_str pa_nil)))))))), ?_⟩
    refine q_asgG (ev_var rfl H (Ex.refl _) _ fun H1 e1 => g_eight (Td.tx (Tx.of e1) _ _ hT) fun v1 v2 v3 v4 v5 v6 v7 v8 h1 h2 h3 h4 h5 h6' h7 h8 => ?_)
    try dsimp only [L2.start, List.map, List.set, List.length, List.append, List.replicate]
    obtain rfl := td_S h4
    obtain rfl := td_S h6'
    have q1 := q.go e1
    have hn6 := nm_len gn
    obtain ⟨hpl, hps⟩ := txParts_len hp
    have hsep := sep_short hps
    have h72 : 12 * ss.length ≤ 12 * 6 := Nat.mul_le_mul_left _ (by omega)
    obtain ⟨hk4, hk3⟩ := kind_len hk
    cases h5 with
    | @tup pa pxs _ hpa hpx =>
    refine q_asg (v := .str (S (oDef ++ [32] ++ n ++ [40] ++ TL.joinL sepT ss ++ [41]))) (es_add (es_add (es_add (es_add (es_cl y2) (ev_var rfl) ?_) (es_cl w1) ?_) (es_join (es_cl x8) (elt_lcG (ev_var rfl) hpa hpx hpl (by omega) fun i x d s H2 e2 h1 h2 hTx Q2 q2 => ?_) (fits_sep hps (by omega))) ?_) (es_cl w2) ?_) fun H2 e2 => ?_
    · show 4 + _ ≤ _
      omega
    · rw [List.length_append]
      show 4 + _ + 1 ≤ _
      omega
    · obtain ⟨pn, pk, rfl, rfl, gpn, hpk⟩ := txParts_at hp h1 h2
      refine g_tri hTx fun u1 u2 u3 t1 t2 t3 => q2 _ rfl ?_
      obtain rfl := td_S t2
      obtain rfl := td_S t3
      have := nm_len gpn
      have hpk3 : pk.length ≤ 3 := by
        have all : ∀ x ∈ kinds, x.length ≤ 3 := by decide
        exact all pk hpk
      refine es_add (es_add (ev_var rfl) (es_cl x7) ?_) (ev_var rfl) ?_
      · show _ + 1 ≤ _
        omega
      · rw [List.length_append]
        show _ + 1 + _ ≤ _
        omega
    · simp only [List.length_append, List.length_cons, List.length_nil]
      have : oDef.length = 3 := by decide
      omega
    · simp only [List.length_append, List.length_cons, List.length_nil]
      have : oDef.length = 3 := by decide
      omega
    try dsimp only [List.set]
    have q2 := q1.go e2
    refine q_whenK2 (b := !decide (kd = [])) (fun σ' H' => σ' = [some ov, some v8, some (.str (S n)), some (.ref pa), some (.str (S kd)), some v7, some (.str (S (defT n ss kd))), none, none] ∧ Ex H2 H') (et_test (ev_neS (ev_var rfl) (es_cl lit0))) (fun σ' H' ⟨hσ, eH⟩ => ?_) (fun kk hb H3 e3 => ?_) (fun hb H3 e3 => ⟨?_, e3⟩)
    · subst hσ
      refine s_retLT (elt_cat (elt_cat (elt_lst (eat_cons (ev_var rfl) eat_nil) (by show 1 ≤ 100000; decide)) (elt_call (ea_cons (ev_var rfl) ea_nil) fun H4 e4 Q2 q2 => ⟨v7, ds, 4, ls, rfl, ht, Td.tx (Tx.of (e2.trans (eH.trans e4))) _ _ h7, by decide, hl, hs, q2⟩) ?_) (elt_lst (eat_cons (es_cl z7) eat_nil) (by show 1 ≤ 100000; decide)) ?_) rfl (q2.go eH)
      · rw [List.length_map]
        show 1 + _ ≤ _
        omega
      · rw [List.length_append, List.length_map]
        show 1 + _ + 1 ≤ _
        omega
    · refine s_asg (v := .str (S (oDef ++ [32] ++ n ++ [40] ++ TL.joinL sepT ss ++ [41] ++ [32] ++ kd))) (es_add (es_add (ev_var rfl) (es_cl x7) ?_) (ev_var rfl) ?_) fun H4 e4 => kk _ H4 ⟨?_, e3.trans e4⟩
      · simp only [List.length_append, List.length_cons, List.length_nil]
        have : oDef.length = 3 := by decide
        omega
      · simp only [List.length_append, List.length_cons, List.length_nil]
        have : oDef.length = 3 := by decide
        omega
      · have hne : ¬ kd = [] := by
          intro z
          rw [z] at hb
          exact absurd hb (by decide)
        have : defT n ss kd = oDef ++ [32] ++ n ++ [40] ++ TL.joinL sepT ss ++ [41] ++ [32] ++ kd := by
          unfold defT kindT
          rw [if_neg hne]
          simp only [List.append_assoc]
        rw [this] <;> rfl
    · have hne : kd = [] := by
        by_cases z : kd = []
        · exact z
        · rw [decide_eq_false z] at hb
          exact absurd hb (by decide)
      have : defT n ss kd = oDef ++ [32] ++ n ++ [40] ++ TL.joinL sepT ss ++ [41] := by
        unfold defT kindT
        rw [if_pos hne, List.append_nil]
      rw [this] <;> rfl
end
end Wt

set_option Elab.async false
set_option linter.all false
set_option maxRecDepth 100000
set_option maxHeartbeats 4000000
namespace Wt
open PySem PySem.Spec PyProof.Rows L2 SX Evl
open C8 (Def Cal cal0 fnScope_by fnScope)
/-! writing.py: the texts of what is told, of a file. -/
section
variable {K : PySem.W.Frag} {σ : L2.St} {H H' : Hp} {ta tb te tl : TE} {t : TT} {tr : TA} {E : XK} {D : Ends} {tu tw tz : TS}
theorem q_ifM {b : Bool} (M : List (Option V) → Hp → Prop) (h : EvT t σ H b) (k : ∀ σ' H', M σ' H' → tz D σ' H') (h1 : (∀ σ' H', M σ' H' → tz D σ' H') → b = true → ∀ H1, Ex H H1 → tu { D with nx := tz D } σ H1) (h2 : (∀ σ' H', M σ' H' → tz D σ' H') → b = false → ∀ H1, Ex H H1 → tw { D with nx := tz D } σ H1) : tSeq (tIfS t tu tw) tz D σ H := q_if h (h1 k) (h2 k)
theorem s_asgLT {i : Nat} {ts : List (List Nat)} (h : EvLT te σ H ts) (k : ∀ l H1, H l = none → Ex H H1 → H1 l = some (tL ts) → D.nx (σ.set i (some (.ref l))) H1) : tAsg te (gName i) D σ H := h H (Ex.refl H) _ fun p H1 hp e h1 => k p H1 hp e h1
theorem q_asgLT {i : Nat} {ts : List (List Nat)} (h : EvLT te σ H ts) (k : ∀ l H1, H l = none → Ex H H1 → H1 l = some (tL ts) → tz D (σ.set i (some (.ref l))) H1) : tSeq (tAsg te (gName i)) tz D σ H := s_asgLT (D := { D with nx := tz D }) h k
theorem es_ixL {l : Addr} {ts : List (List Nat)} {j : Nat} {a : List Nat} (hl : H l = some (tL ts)) (ha : Ev ta σ H (.ref l)) (hb : Ev tb σ H (.int (j : Int))) (hj : ts[j]? = some a) : EvS (tOp (rIxL K) ta tb) σ H a :=
  ev_op ha hb (rv_ixL (sq_of hl) (atI_nat (by rw [List.getElem?_map, hj] <;> rfl)))
theorem q_retKn {l : Addr} {ts : List (List Nat)} {Q : VK} {H0 : Hp} (ha : Ev te σ H (.ref l)) (h0 : H0 l = none) (e : Ex H0 H) (hl : H l = some (tL ts)) (hq : D.rt = Q) (q : RetT ts H0 Q) : tRet te D σ H := s_ret ha fun H1 e1 => by
  rw [hq]
  exact q l H1 h0 (e.trans e1) (e1 _ _ hl)
end
section
variable {P : Program} {w : World} {K : PySem.W.Frag} {mg : Str → Option Value} {base : Heap}
abbrev s_told_rows : Stmt := topS 4
theorem sc_told_rows : FnScope ["one", "what", "_", "out", "name", "rows"] ["one"] (fnScope s_told_rows) := fnScope_by (by decide +kernel)
theorem ok_toldT {k : Nat} (c_def_rows : Cal P w K mg base k "def_rows" (spDefT K) []) (c_whole_text : Cal P w K mg base k "whole_text" (spWhole K 7) []) {f : Addr} {fd : FuncData} (F : Def K mg "told_rows" s_told_rows f fd) (b : Binds K fd ["one"] []) : Cal P w K mg base (k + 1) "told_rows" (spToldT K) [] := by
  refine cal0 F b .nil sc_told_rows (fun vs H Q E h => ?_) (fun cdv A outer s H vs Q E hr h => ?_)
  · obtain ⟨_, _, _, rfl, _⟩ := h
    rfl
  · obtain ⟨ov, d, rows, rfl, t, hT, q⟩ := h

    obtain ⟨y1, y2, y3, y4, y5⟩ := lits_u
    obtain ⟨_, _, z3, _, _, _, _, _, _, _⟩ := lits_r
    obtain ⟨_, _, _, _, _, _, x7, _⟩ := lits_w
    refine ⟨_, (pss_cons (ps_asg (pe_slice sl_tupA (pv 0) po_none (po_some pe_int)) (pg_tup rfl (pgs_cons (pg_name (i := 1) sc_told_rows.nd rfl (.inl rfl)) (pgs_cons (pg_name (i := 2) sc_told_rows.nd rfl (.inl rfl)) (pgs_cons (pg_name (i := 3) sc_told_rows.nd rfl (.inl rfl)) (pgs_cons (pg_name (i := 4) sc_told_rows.nd rfl (.inl rfl)) pgs_nil))))))
      (pss_cons (ps_if (pt_cmpR op_eq (pv 1) pe_str (nomark _)) (pss_one (ps_set (i := 5) sc_told_rows.nd rfl (.inl rfl) (C8.pe_c c_def_rows hr (by first | decide | exact Nat.le_refl _ | omega) (by rfl) (pa_cons (pv 0) pa_nil)))) (pss_one (ps_set (i := 5) sc_told_rows.nd rfl (.inl rfl) (pe_lst (pa_cons (pe_op op_add_str (pe_op op_add_str (pe_op op_add_str (pe_op op_add_str (pv 1) pe_str) (pv 4)) pe_str) (C8.pe_c c_whole_text hr (by first | decide | exact Nat.le_refl _ | omega) (by rfl) (pa_cons (pe_ix ix_tup (pv 0) pe_int (fun _ _ => rfl)) pa_nil))) pa_nil)))))
      (pss_cons (ps_if (pt_val (pv 3)) (pss_one (ps_asg (pe_op op_add_str pe_str (pe_ix ix_list (pv 5) pe_int (fun _ _ => rfl))) (pg_sub (pv 5) pe_int set_list))) pss_nil)
      (pss_one (ps_ret (pv 5)))))), ?_⟩
    obtain ⟨kw, o, n, more, rfl⟩ : ∃ (kw : List Nat) (o : Bool) (n : List Nat) (more : List PyData), d = .tuple (.str (S kw) :: .none :: .bool o :: .str (S n) :: more) := by
      cases t <;> exact ⟨_, _, _, _, rfl⟩
    refine q_asgG (ed_slTo (k := 4) (ev_var rfl) hT (by show 4 ≤ _ + 4; omega) H (Ex.refl _) _ fun v H1 e1 hv => ?_)
    refine g_four (d1 := .str (S kw)) (d2 := .none) (d3 := .bool o) (d4 := .str (S n)) hv fun v1 v2 v3 v4 h1 h2 h3 h4 => ?_
    try dsimp only [L2.start, List.map, List.set, List.length, List.append, List.replicate]
    obtain rfl := td_S h1
    obtain rfl := td_S h4
    obtain rfl : v3 = .bl o := by cases h3; rfl
    have hT1 := Td.tx (Tx.of e1) _ _ hT
    have q1 := q.go e1
    obtain ⟨t0, rest, hr0, h500⟩ : ∃ (t0 : List Nat) (rest : List (List Nat)), rows = outT o t0 :: rest ∧ t0.length ≤ 600 := by
      cases t with
      | @worth _ _ s _ _ hw gn r hl =>
        have hn := nm_len gn
        refine ⟨_, [], rfl, ?_⟩
        simp only [List.length_append, List.length_cons, List.length_nil]
        have h3 : kw.length ≤ 5 := by rcases hw with rfl | rfl <;> decide
        omega
      | @def_ _ _ _ _ _ ss ls gn hp h6 hk a hl hs =>
        exact ⟨_, _, rfl, Nat.le_trans (defT_len gn hp h6 hk) (by decide)⟩
    refine q_ifM (b := decide (kw = oDef)) (fun σ' H' => ∃ l, σ' = [some ov, some (.str (S kw)), some v2, some (.bl o), some (.str (S n)), some (.ref l)] ∧ H1 l = none ∧ Ex H1 H' ∧ H' l = some (tL (t0 :: rest))) (et_test (ev_eqS (ev_var rfl) (es_cl y1))) (fun σ' H' hM => ?_) (fun kk hb H2 e2 => ?_) (fun kk hb H2 e2 => ?_)
    · obtain ⟨l, rfl, hl0, eH, hl⟩ := hM
      refine q_whenK2 (b := o) (fun σ' H' => ∃ l, σ' = [some ov, some (.str (S kw)), some v2, some (.bl o), some (.str (S n)), some (.ref l)] ∧ H1 l = none ∧ Ex H1 H' ∧ H' l = some (tL (outT o t0 :: rest))) (et_test (ev_var rfl)) (fun σ' H' hM => ?_) (fun kk hb H3 e3 => ?_) (fun hb H3 e3 => ?_)
      · obtain ⟨l, rfl, hl0, eH, hl⟩ := hM
        rw [hr0] at q1
        exact q_retKn (ev_var rfl) hl0 eH hl rfl q1
      · subst hb
        refine s_setL (v := .str (S (outT true t0))) (j := 0) (e3 _ _ hl) (es_add (es_cl y3) (es_ixL (j := 0) (e3 _ _ hl) (ev_var rfl) ev_c rfl) ?_) (ev_var rfl) ev_c (by show 0 < _ + 1; omega) fun H4 e4 => kk _ _ ⟨l, rfl, hl0, Ex.mut ((eH.trans e3).trans e4) hl0, upd_same⟩
        show 4 + _ ≤ _
        omega
      · subst hb
        exact ⟨l, rfl, hl0, eH.trans e3, e3 _ _ hl⟩
    · have hkw := of_decide_eq_true hb
      cases t with
      | worth hw =>
        rcases hw with rfl | rfl <;> exact absurd hkw (by decide)
      | @def_ _ kd _ ps ds ss ls gn hp h6 hk a hl hs =>
        have hrr : defT n ss kd = t0 ∧ ls.map indT ++ [oEnd] = rest := by
          injection hr0 with a b
          refine ⟨?_, b⟩
          cases o
          · exact a
          · exact List.append_cancel_left a
        refine s_asgLT (ts := t0 :: rest) ?_ fun l H3 hl0 e3 h3 => kk _ _ ⟨l, rfl, fresh_back e2 hl0, e2.trans e3, h3⟩
        refine elt_call (ea_cons (ev_var rfl) ea_nil) fun H3 e3 Q2 q2 => ⟨ov, n, kd, o, ps, ds, ss, ls, rfl, gn, hp, h6, hk, a, hl, hs, Td.tx (Tx.of (e2.trans e3)) _ _ hT1, ?_⟩
        rw [← hrr.1, ← hrr.2] at q2
        exact q2
    · have hkw := of_decide_eq_false hb
      cases t with
      | def_ => exact absurd rfl hkw
      | @worth _ _ s _ e hw gn r hl =>
        have hn := nm_len gn
        have h3 : kw.length ≤ 5 := by rcases hw with rfl | rfl <;> decide
        have hrr : kw ++ [32] ++ n ++ [32, 61, 32] ++ s = t0 ∧ [] = rest := by
          injection hr0 with a b
          refine ⟨?_, b⟩
          cases o
          · exact a
          · exact List.append_cancel_left a
        obtain ⟨rfl, rfl⟩ := hrr
        obtain ⟨x, hxT, hxE⟩ := ev_ixTd (K := K) (σ := [some ov, some (.str (S kw)), some v2, some (.bl o), some (.str (S n)), none]) (ta := tVar 0) (tb := tC (.int 4)) (j := 4) (ev_var rfl) (Td.tx (Tx.of e2) _ _ hT1) ev_c (show [PyData.str (S kw), .none, .bool o, .str (S n), e][4]? = some e from rfl)
        refine s_asgLT (elt_lst (eat_cons (es_add (es_add (es_add (es_add (ev_var rfl) (es_cl x7) ?_) (ev_var rfl) ?_) (es_cl z3) ?_) (es_whole (ea_cons hxE ea_nil) r hxT (by decide) (by omega)) ?_) eat_nil) (by show 1 ≤ 100000; decide)) fun l H3 hl0 e3 h3 => kk _ _ ⟨l, rfl, fresh_back e2 hl0, e2.trans e3, h3⟩
        all_goals simp only [List.length_append, List.length_cons, List.length_nil]
        all_goals omega
end
end Wt

set_option Elab.async false
set_option linter.all false
set_option maxRecDepth 100000
set_option maxHeartbeats 4000000
namespace Wt
open PySem PySem.Spec PyProof.Rows L2 SX Evl
open C8 (Def Cal cal0 fnScope_by fnScope)
/-! writing.py: the text of a file. -/
theorem txUses_shp : ∀ {us : List PyData} {fs : List (List Nat)}, TxUses us fs → ShpA 2 us
  | _, _, .nil => shpA_nil
  | _, _, .cons (f := f) gf a => shpA_cons (shp_tup (k := 1) (shpA_cons shp_none (shpA_cons ((shp_str (good_low gf)).up (Nat.zero_le _)) shpA_nil)) (by show 2 ≤ 40000; decide)) (txUses_shp a)
theorem txTold_pos {d : PyData} {l : List (List Nat)} (t : TxTold d l) : 1 ≤ l.length := by
  cases t with
  | worth => exact Nat.le_refl _
  | def_ => rw [List.length_append, List.length_append]; show 1 ≤ 1 + _ + 1; omega
theorem useT_len (fs : List (List Nat)) : (useT fs).length ≤ 1 := by
  unfold useT
  split
  · exact Nat.zero_le _
  · exact Nat.le_refl _
section
variable {P : Program} {w : World} {K : PySem.W.Frag} {mg : Str → Option Value} {base : Heap}
abbrev s_text_of : Stmt := topS 3
theorem sc_text_of : FnScope ["tree", "uses", "told", "rows", "one", "_", "file"] ["tree"] (fnScope s_text_of) := fnScope_by (by decide +kernel)
theorem ok_textOf {k : Nat} (c_told_rows : Cal P w K mg base k "told_rows" (spToldT K) []) {f : Addr} {fd : FuncData} (F : Def K mg "text_of" s_text_of f fd) (b : Binds K fd ["tree"] []) : Cal P w K mg base (k + 1) "text_of" (spTextOf K) [] := by
  refine cal0 F b .nil sc_text_of (fun vs H Q E h => ?_) (fun cdv A outer s H vs Q E hr h => ?_)
  · obtain ⟨_, _, _, rfl, _⟩ := h
    rfl
  · obtain ⟨tv, D, rows, rfl, t, hT, q⟩ := h

    have hu64 := hr.units
    obtain ⟨y1, y2, y3, y4, y5⟩ := lits_u
    obtain ⟨_, _, _, _, _, _, _, x8⟩ := lits_x
    refine ⟨_, (pss_cons (ps_asg (pv 0) (pg_tup rfl (pgs_cons (pg_name (i := 1) sc_text_of.nd rfl (.inl rfl)) (pgs_cons (pg_name (i := 2) sc_text_of.nd rfl (.inl rfl)) pgs_nil))))
      (pss_cons (ps_set (i := 3) sc_text_of.nd rfl (.inl rfl) (pe_lst pa_nil))
      (pss_cons (ps_if (pt_cmpR (op_neD hu64) (pv 1) (pe_tup pa_nil) (nomark _)) (pss_one (ps_expr (pe_bm PySem.F.plainAttrs_list PySem.F.slot_list_append PySem.F.type_list_append mt_append (pv 3) (pa_cons (pe_op op_add_str pe_str (pe_join pe_str (pe_lc (own := [("_", 5), ("file", 6)]) (g := (gTup K 2 (gCons (gName 5) (gCons (gName 6) gNil)))) (tt := tYes) rfl sc_text_of.nd (pi_tup (pv 1)) (blkOk_by (N := ["tree", "uses", "told", "rows", "one", "_", "file"]) (sc := C8.fnScope s_text_of) (by decide +kernel)) (fun _ _ _ _ _ => pg_tup rfl (pgs_cons (pg_name (i := 5) sc_text_of.nd rfl (Or.inl rfl)) (pgs_cons (pg_name (i := 6) sc_text_of.nd rfl (Or.inl rfl)) pgs_nil))) (fun _ _ _ _ _ => pts_nil) (fun _ _ _ _ _ => (pv 6))))) pa_nil)))) pss_nil)
      (pss_cons (ps_for PassesOwn.never rfl (pi_tup (pv 2)) (pg_name (i := 4) sc_text_of.nd rfl (.inl rfl)) (pss_one (ps_expr (pe_bm PySem.F.plainAttrs_list PySem.F.slot_list_extend PySem.F.type_list_extend mt_extend (pv 3) (pa_cons (C8.pe_c c_told_rows hr (by first | decide | exact Nat.le_refl _ | omega) (by rfl) (pa_cons (pv 4) pa_nil)) pa_nil)))))
      (pss_one (ps_ret (pe_join pe_str (pv 3)))))))), ?_⟩
    have hfit := t.fits
    cases t with
    | @mk us ds fs ls hu h2 ht hl hs =>
    have hul := txUses_len hu
    refine q_asgG (ev_var rfl H (Ex.refl _) _ fun H1 e1 => g_pair (Td.tx (Tx.of e1) _ _ hT) fun uv dv hU hD => ?_)
    try dsimp only [L2.start, List.map, List.set, List.length, List.append, List.replicate]
    refine q_asgLT (elt_lst eat_nil (Nat.zero_le _)) fun l H2 hl0 e2 hl2 => ?_
    try dsimp only [List.set]
    have hU2 := Td.tx (Tx.of e2) _ _ hU
    have hD2 := Td.tx (Tx.of e2) _ _ hD
    have hf24 : 12 * fs.length ≤ 12 * 2 := Nat.mul_le_mul_left _ (by omega)
    have hsep := sep_short hul.2
    refine q_whenK2 (b := !decide (us = [])) (fun σ' H' => σ' = [some tv, some uv, some dv, some (.ref l), none, none, none] ∧ Ex H1 H' ∧ Td H' dv (.tuple ds) ∧ H' l = some (tL (useT fs))) (et_neNilT (ev_var rfl) hU2 ((shp_tup (txUses_shp hu) (by omega)).up (by decide))) (fun σ' H' hM => ?_) (fun kk hb H3 e3 => ?_) (fun hb H3 e3 => ?_)
    · obtain ⟨rfl, eH, hDH, hlH⟩ := hM
      cases hDH with
      | @tup a xs _ ha hx =>
      have hul1 := useT_len fs
      refine q_forT (ev_var rfl) (st_of ha) (fun i σ' H'' => ∃ (y2 : Option V) (dn rs : List (List Nat)), σ' = [some tv, some uv, some (.ref a), some (.ref l), y2, none, none] ∧ Ex H1 H'' ∧ Tx H' H'' ∧ ls = dn ++ rs ∧ TxTolds (ds.drop i) rs ∧ H'' a = some (.tup xs) ∧ H'' l = some (tL (useT fs ++ dn))) (fun H4 e4 => ⟨none, [], ls, rfl, eH.trans e4, Tx.of e4, rfl, ht, e4 _ _ ha, by rw [List.append_nil]; exact e4 _ _ hlH⟩) (fun i σ' H'' _ ⟨_, _, _, _, _, _, _, _, h, _⟩ => st_of h) ?_ ?_
      · rintro i x σ' H4 hxi ⟨y2, dn, rs, rfl, e4, x4, hdr, tr, ha4, hl4⟩
        obtain ⟨d, hd, hTx⟩ := (TdAll.tx x4 _ _ hx).at hxi
        have hdd : ds.drop i = d :: ds.drop (i + 1) := by
          have hlt := (List.getElem?_eq_some_iff.mp hd).1
          rw [List.drop_eq_getElem_cons hlt, (List.getElem?_eq_some_iff.mp hd).2]
        rw [hdd] at tr
        cases tr with
        | @cons _ _ l1 ls1 r1 a1 =>
        have hlen : dn.length + (l1.length + ls1.length) ≤ 150 := by
          rw [hdr, List.length_append, List.length_append] at hl
          exact hl
        show tDrop _ _ _ _
        try dsimp only [List.set]
        refine s_extLT hl4 (ev_var rfl) (elt_call (ea_cons (ev_var rfl) ea_nil) fun H5 e5 Q2 q2 => ⟨x, d, l1, rfl, r1, Td.tx (Tx.of e5) _ _ hTx, q2⟩) (by rw [List.length_append]; omega) fun H5 e5 => ?_
        have hla : l ≠ a := by
          intro z
          subst z
          rw [ha4] at hl4
          cases hl4
        refine ⟨_, dn ++ l1, ls1, rfl, Ex.mut (e4.trans e5) (fresh_back (Ex.refl _) hl0), (x4.trans (Tx.of e5)).trans (Tx.lst (e5 _ _ hl4)), by rw [hdr, List.append_assoc], a1, (upd_ne (Ne.symm hla)).trans (e5 _ _ ha4), ?_⟩
        rw [← List.append_assoc]
        exact upd_same
      · rintro σ' H4 ⟨y2, dn, rs, rfl, e4, x4, hdr, tr, ha4, hl4⟩
        rw [hx.len, List.drop_length] at tr
        cases tr
        rw [List.append_nil] at hdr
        subst hdr
        exact s_retS (es_joinV (es_cl y5) (ev_var rfl) hl4 hfit) fun H5 e5 => q H5 ((e1.trans e4).trans e5)
    · have hne : ¬ fs = [] := by
        intro z
        rw [z] at hul
        have := List.eq_nil_of_length_eq_zero hul.1
        rw [this] at hb
        exact absurd hb (by decide)
      have hU3 := Td.tx (Tx.of e3) _ _ hU2
      cases hU3 with
      | @tup ua uxs _ hua hux =>
      refine s_app (e3 _ _ hl2) (ev_var rfl) (es_add (es_cl y4) (es_join (es_cl x8) (elt_lcG (ev_var rfl) hua hux hul.1 (by omega) fun i x d s H4 e4 g1 g2 hTx Q2 q2 => ?_) (fits_sep hul.2 (by omega))) ?_) (by show 0 < 100000; decide) fun H4 e4 => kk _ _ ⟨rfl, Ex.mut ((e2.trans e3).trans e4) hl0, Td.tx ((Tx.of (e3.trans e4)).trans (Tx.lst ((e3.trans e4) _ _ hl2))) _ _ hD2, ?_⟩
      · obtain ⟨rfl, gs⟩ := txUses_at hu g1 g2
        refine g_pair hTx fun u1 u2 t1 t2 => ?_
        obtain rfl := td_S t2
        exact q2 _ rfl (ev_var rfl)
      · have : oUse.length = 3 := by decide
        simp only [List.length_append, List.length_cons, List.length_nil]
        omega
      · rw [upd_same]
        unfold useT
        rw [if_neg hne]
        rfl
    · have hnil : us = [] := by
        by_cases z : us = []
        · exact z
        · rw [decide_eq_false z] at hb
          exact absurd hb (by decide)
      subst hnil
      cases hu
      exact ⟨rfl, e2.trans e3, Td.tx (Tx.of e3) _ _ hD2, e3 _ _ hl2⟩
end
end Wt

set_option Elab.async false
set_option linter.all false
set_option maxRecDepth 100000
set_option maxHeartbeats 4000000
namespace Wt
open PySem PySem.Spec PyProof.Rows L2 SX Evl
open C8 (Def Cal cal0 fnScope_by fnScope)
/-! The law's own text of an E. -/
def spFlat (K : PySem.W.Frag) (N : Nat) : Sp := fun vs H Q _ => ∃ (dv : V) (d : PyData) (h lv : Nat) (s : List Nat), vs = [dv, .int (lv : Int)] ∧ TxE h lv d s ∧ Td H dv d ∧ h < N ∧ s.length ≤ 3000 ∧ ∀ H2, Ex H H2 → Q (.str (S s)) H2
section
variable {K : PySem.W.Frag} {σ : L2.St} {H H' : Hp} {ta tb te tl : TE} {t : TT} {tr : TA} {E : XK} {D : Ends} {tu tw tz : TS}
theorem ev_lev {kw : List Nat} (h : EvA tr σ H [.str (S kw)]) (hk : kw ∈ headW) : Ev (tCall spLevel [] E tr) σ H (.int (lvl kw : Nat)) := fun H1 e Q q => h H1 e _ fun H2 e2 => ⟨kw, rfl, hk, fun H3 e3 => q H3 (e2.trans e3)⟩
theorem es_flat {N h lv : Nat} {dv : V} {d : PyData} {s : List Nat} {i : Int} (h1 : EvA tr σ H [dv, .int i]) (hi : i = (lv : Nat)) (t : TxE h lv d s) (hT : Td H dv d) (hN : h < N) (hl : s.length ≤ 3000) : EvS (tCall (spFlat K N) [] E tr) σ H s := fun H1 e Q q => h1 H1 e _ fun H2 e2 => by
  subst hi
  exact ⟨dv, d, h, lv, s, rfl, t, Td.tx (Tx.of (e.trans e2)) _ _ hT, hN, hl, fun H3 e3 => q H3 (e2.trans e3)⟩
theorem et_in2 {a b c : List Nat} {x y : Str} (ha : EvS ta σ H c) (hx : x = S a) (hy : y = S b) : EvT (tTest (tOp (rIn K false) ta (tTup (tCons (tC (.str x)) (tCons (tC (.str y)) tNil))))) σ H (decide (c ∈ [a, b])) := by
  subst hx hy
  exact inWU (xs := [a, b].map fun z => V.str (S z)) ha (eu_tup (ea_cons ev_c (ea_cons ev_c ea_nil)) (by show 2 ≤ 100000; decide)) (flat_S _) rfl (inV_S _ _)
theorem es_br {lv m : Nat} {s : List Nat} (hm : Ev ta σ H (.int (m : Nat))) (hlv : Ev tb σ H (.int (lv : Nat))) (h : EvS te σ H s) (hl : s.length ≤ 3000) : EvS (tIf (tTest (tOp (rI0 fun i j => .bl (decide (j ≤ i))) ta tb)) te (tOp (fun x y H Q => ∃ i j, x = .str i ∧ y = .str j ∧ i.length + j.length ≤ sizeLine ∧ Q (.str (i ++ j)) H) (tOp (fun x y H Q => ∃ i j, x = .str i ∧ y = .str j ∧ i.length + j.length ≤ sizeLine ∧ Q (.str (i ++ j)) H) (tC (.str (Str.ofString "("))) te) (tC (.str (Str.ofString ")"))))) σ H (br lv m s) := by
  obtain ⟨w1, w2, _⟩ := lits_w
  refine ev_if (b := decide ((lv : Int) ≤ (m : Int))) (et_test (ev_op hm hlv rv_I0)) (fun hx => ?_) fun hx => ?_
  · unfold br
    rw [if_pos (by have := of_decide_eq_true hx; omega)]
    exact h
  · unfold br
    rw [if_neg (by have := of_decide_eq_false hx; omega)]
    refine es_add (es_add (es_cl w1) h ?_) (es_cl w2) ?_
    · show 1 + _ ≤ _
      omega
    · rw [List.length_append]
      show 1 + _ + 1 ≤ _
      omega
end
theorem bin_no : ∀ g ∈ binW, g ≠ kNum ∧ g ≠ oTruth ∧ g ∉ [kName, oCall] ∧ g ∉ [oNot, oNeg] ∧ g ∈ headW := by decide
section
variable {P : Program} {w : World} {K : PySem.W.Frag} {mg : Str → Option Value} {base : Heap}
abbrev s__law_flat : Stmt := topS 25
theorem sc__law_flat : FnScope ["_law_e_here", "_law_level_here", "_law_mine", "_law_found", "_law_one"] ["_law_e_here", "_law_level_here"] (fnScope s__law_flat) := fnScope_by (by decide +kernel)
theorem lits_f : Str.ofString "call" = S oCall ∧ Str.ofString "not" = S oNot ∧ Str.ofString "neg" = S oNeg ∧ Str.ofString "-" = S [45] ∧ Str.ofString "not " = S (oNot ++ [32]) := by
  refine ⟨?_, ?_, ?_, ?_, ?_⟩ <;> decide +kernel
theorem ok_flat (T : ModsL K mg) {k N : Nat} (hk1 : 1 ≤ k) (c__law_level : Cal P w K mg base 1 "_law_level" spLevel []) (c__law_flat : Cal P w K mg base k "_law_flat" (spFlat K N) []) {f : Addr} {fd : FuncData} (F : Def K mg "_law_flat" s__law_flat f fd) (b : Binds K fd ["_law_e_here", "_law_level_here"] []) : Cal P w K mg base (k + 1) "_law_flat" (spFlat K (N + 1)) [] := by
  refine cal0 F b .nil sc__law_flat (fun vs H Q E h => ?_) (fun cdv A outer s H vs Q E hr h => ?_)
  · obtain ⟨_, _, _, _, _, rfl, _⟩ := h
    rfl
  · obtain ⟨dv, d, h0, lv, s0, rfl, t, hT, hN, hl, q⟩ := h
    have m_str := T.m_str
    have m_int := T.m_int
    obtain ⟨z1, z2, z3, z4, z5, z6, z7, z8⟩ := lits_x
    obtain ⟨w1, w2, w3, w4, w5, w6, w7, w8⟩ := lits_w
    obtain ⟨f1, f2, f3, f4, f5⟩ := lits_f
    have hu := hu_of hr
    refine ⟨_, (pss_cons (ps_set (i := 2) sc__law_flat.nd rfl (.inl rfl) (C8.pe_c c__law_level hr (by first | decide | exact Nat.le_refl _ | omega) (by rfl) (pa_cons (pe_ix ix_tup (pv 0) pe_int (fun _ _ => rfl)) pa_nil)))
      (pss_cons (ps_if (pt_cmpR op_eq (pe_ix ix_tup (pv 0) pe_int (fun _ _ => rfl)) pe_str (nomark _)) (pss_one (ps_ret (pe_callTy call_str_int (by rfl) m_str Wt.bt_str (pa_cons (pe_ix ix_tup (pv 0) pe_int (fun _ _ => rfl)) pa_nil)))) pss_nil)
      (pss_cons (ps_if (pt_cmpR op_eq (pe_ix ix_tup (pv 0) pe_int (fun _ _ => rfl)) pe_str (nomark _)) (pss_one (ps_ret (pe_ix ix_list (pe_lst (pa_cons pe_str (pa_cons pe_str pa_nil))) (pe_callTy call_int1 (by rfl) m_int Wt.bt_int (pa_cons (pe_ix ix_tup (pv 0) pe_int (fun _ _ => rfl)) pa_nil)) (fun _ _ => rfl)))) pss_nil)
      (pss_cons (ps_if (pt_cmpR op_in_seq (pe_ix ix_tup (pv 0) pe_int (fun _ _ => rfl)) (pe_tup (pa_cons pe_str (pa_cons pe_str pa_nil))) (by with_unfolding_all rfl)) (pss_cons (ps_set (i := 3) sc__law_flat.nd rfl (.inl rfl) (pe_ifExp (pt_cmpR op_eq (pe_ix ix_tup (pv 0) pe_int (fun _ _ => rfl)) pe_str (nomark _)) (pe_ix ix_tup (pv 0) pe_int (fun _ _ => rfl)) (pe_op op_add_str (pe_op op_add_str (pe_ix ix_tup (pv 0) pe_int (fun _ _ => rfl)) pe_str) (pe_ix ix_tup (pv 0) pe_int (fun _ _ => rfl)))))
      (pss_cons (ps_if (pt_cmpR op_eq (pe_ix ix_tup (pv 0) pe_int (fun _ _ => rfl)) pe_str (nomark _)) (pss_one (ps_ret (pv 3))) pss_nil)
      (pss_one (ps_ret (pe_op op_add_str (pe_op op_add_str (pe_op op_add_str (pv 3) pe_str) (pe_join pe_str (pe_lc (own := [("_law_one", 4)]) (g := (gName 4)) (tt := tYes) rfl sc__law_flat.nd (pi_tup (pe_ix ix_tup (pv 0) pe_int (fun _ _ => rfl))) (blkOk_by (N := ["_law_e_here", "_law_level_here", "_law_mine", "_law_found", "_law_one"]) (sc := C8.fnScope s__law_flat) (by decide +kernel)) (fun _ _ _ _ _ => pg_name (i := 4) sc__law_flat.nd rfl (Or.inl rfl)) (fun _ _ _ _ _ => pts_nil) (fun _ _ _ _ _ => (C8.pe_c c__law_flat hr (by first | decide | exact Nat.le_refl _ | omega) (by rfl) (pa_cons (pv 4) (pa_cons pe_int pa_nil))))))) pe_str))))) pss_nil)
      (pss_cons (ps_if (pt_cmpR op_in_seq (pe_ix ix_tup (pv 0) pe_int (fun _ _ => rfl)) (pe_tup (pa_cons pe_str (pa_cons pe_str pa_nil))) (by with_unfolding_all rfl)) (pss_one (ps_set (i := 3) sc__law_flat.nd rfl (.inl rfl) (pe_op op_add_str (pe_dget hu (pe_disp (pps_cons pe_str pe_str (pps_cons pe_str pe_str pps_nil)) (by rfl) (by rfl) (by simp) (by decide)) (pe_ix ix_tup (pv 0) pe_int (fun _ _ => rfl)) (fun _ _ => rfl)) (C8.pe_c c__law_flat hr (by first | decide | exact Nat.le_refl _ | omega) (by rfl) (pa_cons (pe_ix ix_tup (pv 0) pe_int (fun _ _ => rfl)) (pa_cons (pv 2) pa_nil)))))) (pss_one (ps_set (i := 3) sc__law_flat.nd rfl (.inl rfl) (pe_op op_add_str (pe_op op_add_str (pe_op op_add_str (pe_op op_add_str (C8.pe_c c__law_flat hr (by first | decide | exact Nat.le_refl _ | omega) (by rfl) (pa_cons (pe_ix ix_tup (pv 0) pe_int (fun _ _ => rfl)) (pa_cons (pe_op op_add (pv 2) (pe_callTy call_int1 (by rfl) m_int Wt.bt_int (pa_cons (pe_cmpR op_eq (pv 2) pe_int (nomark _)) pa_nil))) pa_nil))) pe_str) (pe_ix ix_tup (pv 0) pe_int (fun _ _ => rfl))) pe_str) (C8.pe_c c__law_flat hr (by first | decide | exact Nat.le_refl _ | omega) (by rfl) (pa_cons (pe_ix ix_tup (pv 0) pe_int (fun _ _ => rfl)) (pa_cons (pe_op op_add (pv 2) pe_int) pa_nil)))))))
      (pss_one (ps_ret (pe_ifExp (pt_cmpR op_ge (pv 2) (pv 1) (nomark _)) (pv 3) (pe_op op_add_str (pe_op op_add_str pe_str (pv 3)) pe_str))))))))), ?_⟩
    obtain ⟨kw, xs, rfl, hkw, h1⟩ := tx_head t
    have hkh : kw ∈ headW := by
      have g1 : ∀ x ∈ sngW, x ∈ headW := by decide
      have g2 : ∀ x ∈ opsW, x ∈ headW := by decide
      rcases hkw with z | z
      · exact g1 _ z
      · exact g2 _ z
    refine q_asg (ev_lev (ea_cons (ev_ixTs (j := 0) (ev_var rfl) hT ev_c rfl) ea_nil) hkh) fun H1 e1 => ?_
    try dsimp only [L2.start, List.map, List.set, List.length, List.append, List.replicate]
    have hT1 := Td.tx (Tx.of e1) _ _ hT
    have q1 : ∀ H2, Ex H1 H2 → Q (.str (S s0)) H2 := fun H2 e2 => q H2 (e1.trans e2)
    have e0 : ∀ {σ : L2.St} {H2 : Hp}, Ex H1 H2 → σ[0]? = some (some dv) → EvS (tOp (rIxT K) (tVar 0) (tC (.int 0))) σ H2 kw := fun {σ H2} e s0 => ev_ixTs (j := 0) (ev_var s0) (Td.tx (Tx.of e) _ _ hT1) ev_c rfl
    refine q_when (et_test (ev_eqS (e0 (Ex.refl _) rfl) (es_cl z1))) (fun hb2 H2 e2 => ?_) (fun hb2 H2 e2 => ?_)
    · have hkn := of_decide_eq_true hb2
      obtain ⟨h', rfl, ⟨_, n, hn, rfl, rfl⟩ | ⟨z, _⟩ | ⟨z, _⟩ | ⟨z, _⟩⟩ := tx_sng t (by rw [hkn]; decide)
      · exact s_retS (ev_strN hn (ev_ixTi (j := 2) (ev_var rfl) (Td.tx (Tx.of e2) _ _ hT1) ev_c rfl)) fun H3 e3 => q1 H3 (e2.trans e3)
      all_goals
        rw [hkn] at z
        exact absurd z (by decide)
    refine q_when (et_test (ev_eqS (e0 e2 rfl) (es_cl z2))) (fun hb3 H3 e3 => ?_) (fun hb3 H3 e3 => ?_)
    · have hkn := of_decide_eq_true hb3
      obtain ⟨h', rfl, ⟨z, _⟩ | ⟨_, x, rfl, rfl⟩ | ⟨z, _⟩ | ⟨z, _⟩⟩ := tx_sng t (by rw [hkn]; decide)
      · rw [hkn] at z
        exact absurd z (by decide)
      · refine s_retS (ev_opL1 (xs := [V.str (Str.ofString "no"), V.str (Str.ofString "yes")]) (el_lst (ea_cons ev_c (ea_cons ev_c ea_nil)) (by show 2 ≤ 100000; decide)) (fun H4 e4 => ev_int01 (ev_ixTb (j := 2) (ev_var rfl) (Td.tx (Tx.of ((e2.trans e3).trans e4)) _ _ hT1) ev_c rfl)) (fun r H4 h4 e4 => ?_)) fun H4 e4 => q1 H4 ((e2.trans e3).trans e4)
        cases x
        · exact rv_ixL (i := 0) (sq_of h4) (atI_nat (j := 0) (by rw [z5]; rfl))
        · exact rv_ixL (i := 1) (sq_of h4) (atI_nat (j := 1) (by rw [z4]; rfl))
      all_goals
        rw [hkn] at z
        exact absurd z (by decide)
    have e13 := e2.trans e3
    refine q_when (et_in2 (e0 e13 rfl) z3 f1) (fun hb4 H4 e4 => ?_) (fun hb4 H4 e4 => ?_)
    · have hkn := of_decide_eq_true hb4
      have e14 := e13.trans e4
      have hT4 := Td.tx (Tx.of e14) _ _ hT1
      obtain ⟨h', rfl, hcase⟩ := tx_sng t (by
        have : ∀ x ∈ [kName, oCall], x ∈ sngW := by decide
        exact this _ hkn)
      obtain ⟨pf, pn, more, hxs, gf, gn⟩ : ∃ pf pn more, xs = .str (S pf) :: .str (S pn) :: more ∧ (pf = [] ∨ Good kName pf) ∧ Good kName pn := by
        rcases hcase with ⟨z, _⟩ | ⟨z, _⟩ | ⟨_, f, n, rfl, gf, gn, _⟩ | ⟨_, f, n, ds, ss, rfl, gf, gn, _⟩
        · rw [z] at hkn
          exact absurd hkn (by decide)
        · rw [z] at hkn
          exact absurd hkn (by decide)
        · exact ⟨f, n, _, rfl, gf, gn⟩
        · exact ⟨f, n, _, rfl, gf, gn⟩
      have hp13 := path_len gf gn
      have hpf6 : pf.length ≤ 6 := by
        rcases gf with z | z
        · rw [z]; exact Nat.zero_le _
        · exact nm_len z
      have hpn6 := nm_len gn
      have hT4' : Td H4 dv (.tuple (.str (S kw) :: .none :: .str (S pf) :: .str (S pn) :: more)) := by
        rw [hxs] at hT4
        exact hT4
      refine q_asg (v := .str (S (pathT pf pn))) (ev_if (et_test (ev_eqS (ev_ixTs (j := 2) (ev_var rfl) hT4' ev_c rfl) (es_cl z6))) (fun hx => ?_) (fun hx => ?_)) fun H5 e5 => ?_
      · unfold pathT
        rw [if_pos (of_decide_eq_true hx)]
        exact ev_ixTs (j := 3) (ev_var rfl) hT4' ev_c rfl
      · unfold pathT
        rw [if_neg (of_decide_eq_false hx)]
        refine es_add (es_add (ev_ixTs (j := 2) (ev_var rfl) hT4' ev_c rfl) (es_cl z7) ?_) (ev_ixTs (j := 3) (ev_var rfl) hT4' ev_c rfl) ?_
        · simp only [List.length_cons, List.length_nil]
          omega
        · simp only [List.length_append, List.length_cons, List.length_nil]
          omega
      try dsimp only [List.set]
      have e15 := e14.trans e5
      have hT5 := Td.tx (Tx.of e5) _ _ hT4
      refine q_when (et_test (ev_eqS (e0 e15 rfl) (es_cl z3))) (fun hb6 H6 e6 => ?_) (fun hb6 H6 e6 => ?_)
      · have hk3 := of_decide_eq_true hb6
        rcases hcase with ⟨z, _⟩ | ⟨z, _⟩ | ⟨_, f, n, hx, _, _, rfl⟩ | ⟨z, _⟩
        · exact absurd z (of_decide_eq_false hb2)
        · exact absurd z (of_decide_eq_false hb3)
        · rw [hxs] at hx
          injection hx with h1 h2
          injection h2 with h2 _
          injection h1 with h1
          injection h2 with h2
          obtain rfl := S_inj h1
          obtain rfl := S_inj h2
          exact s_retS (ev_var rfl) fun H7 e7 => q1 H7 (e15.trans (e6.trans e7))
        · rw [hk3] at z
          exact absurd z (by decide)
      · rcases hcase with ⟨z, _⟩ | ⟨z, _⟩ | ⟨z, _⟩ | ⟨_, f, n, ds, ss, hx, _, _, ta, rfl⟩
        · exact absurd z (of_decide_eq_false hb2)
        · exact absurd z (of_decide_eq_false hb3)
        · exact absurd z (of_decide_eq_false hb6)
        · rw [hxs] at hx
          injection hx with h1 h2
          injection h2 with h2 h3
          injection h1 with h1
          injection h2 with h2
          obtain rfl := S_inj h1
          obtain rfl := S_inj h2
          subst h3
          subst hxs
          obtain ⟨x, hxT, hxE⟩ := ev_ixTd (K := K) (σ := [some dv, some (.int (lv : Int)), some (.int (lvl kw : Nat)), some (.str (S (pathT pf pn))), none]) (ta := tVar 0) (tb := tC (.int 4)) (j := 4) (ev_var rfl) (Td.tx (Tx.of e6) _ _ hT5) ev_c (show [PyData.str (S kw), .none, .str (S pf), .str (S pn), .tuple ds][4]? = some (.tuple ds) from rfl)
          simp only [List.length_append, List.length_cons, List.length_nil] at hl
          have hsum := sepT_sum ss
          have hss : ss.length ≤ 40000 := by omega
          cases hxT with
          | @tup a us _ ha hu =>
          refine s_retS (es_add (es_add (es_add (ev_var rfl) (es_cl w1) ?_) (es_join (es_cl z8) (elt_lcAll hxE ha hu (txAll_len ta) hss (fun _ => rfl) fun i x d s H7 e7 h1 h2 hTx => es_flat (ea_cons (ev_var rfl) (ea_cons ev_c ea_nil)) rfl (txAll_at ta h1 h2) hTx (by omega) ?_) ?_) ?_) (es_cl w2) ?_) fun H7 e7 => q1 H7 (e15.trans (e6.trans e7))
          · simp only [List.length_cons, List.length_nil]
            omega
          · have := mem_sum (List.mem_of_getElem? h2)
            omega
          · unfold fitsJ
            show _ + ss.length * 2 ≤ _
            omega
          · simp only [List.length_append, List.length_cons, List.length_nil]
            omega
          · simp only [List.length_append, List.length_cons, List.length_nil]
            omega
    have e14 := e13.trans e4
    have hT4 := Td.tx (Tx.of e14) _ _ hT1
    -- a sign: what is found, without its brackets
    obtain ⟨t1, hbr, ht1, hcase⟩ : ∃ t1, s0 = br lv (lvl kw) t1 ∧ t1.length ≤ 3000 ∧ ∃ h', h0 = h' + 1 ∧ ((kw = oNeg ∧ ∃ d s1, xs = [d] ∧ t1 = [45] ++ s1 ∧ TxE h' 6 d s1) ∨ (kw = oNot ∧ ∃ d s1, xs = [d] ∧ t1 = oNot ++ [32] ++ s1 ∧ TxE h' 2 d s1) ∨
        (kw ∈ binW ∧ ∃ d e s1 s2, xs = [d, e] ∧ t1 = s1 ++ [32] ++ kw ++ [32] ++ s2 ∧ TxE h' (lvl kw + (if lvl kw = 3 then 1 else 0)) d s1 ∧ TxE h' (lvl kw + 1) e s2)) := by
      have brl : ∀ {m : Nat} {x : List Nat}, (br lv m x).length ≤ 3000 → x.length ≤ 3000 := fun {m x} hx => by
        unfold br at hx
        split at hx
        · exact hx
        · rw [List.length_append, List.length_append] at hx
          omega
      generalize hd0 : rNode kw xs = d0 at t
      cases t with
      | num =>
        obtain ⟨z, _⟩ := rnode_inj hd0
        exact absurd z (of_decide_eq_false hb2)
      | tru =>
        obtain ⟨z, _⟩ := rnode_inj hd0
        exact absurd z (of_decide_eq_false hb3)
      | name =>
        obtain ⟨rfl, _⟩ := rnode_inj hd0
        exact absurd (show kName ∈ [kName, oCall] by decide) (of_decide_eq_false hb4)
      | call =>
        obtain ⟨rfl, _⟩ := rnode_inj hd0
        exact absurd (show oCall ∈ [kName, oCall] by decide) (of_decide_eq_false hb4)
      | neg r =>
        obtain ⟨rfl, rfl⟩ := rnode_inj hd0
        exact ⟨_, rfl, brl hl, _, rfl, .inl ⟨rfl, _, _, rfl, rfl, r⟩⟩
      | not r =>
        obtain ⟨rfl, rfl⟩ := rnode_inj hd0
        exact ⟨_, rfl, brl hl, _, rfl, .inr (.inl ⟨rfl, _, _, rfl, rfl, r⟩)⟩
      | bin hg r1 r2 =>
        obtain ⟨rfl, rfl⟩ := rnode_inj hd0
        exact ⟨_, rfl, brl hl, _, rfl, .inr (.inr ⟨hg, _, _, _, _, rfl, rfl, r1, r2⟩)⟩
    subst hbr
    obtain ⟨h', rfl, hcase⟩ := hcase
    refine q_ifM (b := decide (kw ∈ [oNot, oNeg])) (fun σ' H' => σ' = [some dv, some (.int (lv : Int)), some (.int (lvl kw : Nat)), some (.str (S t1)), none] ∧ Ex H4 H') (et_in2 (e0 e14 rfl) f2 f3) (fun σ' H' ⟨hσ, eH⟩ => ?_) (fun kk hb5 H5 e5 => ?_) (fun kk hb5 H5 e5 => ?_)
    · subst hσ
      exact s_retS (es_br (ev_var rfl) (ev_var rfl) (ev_var rfl) ht1) fun H6 e6 => q1 H6 (e14.trans (eH.trans e6))
    · have hk5 := of_decide_eq_true hb5
      have hT5 := Td.tx (Tx.of e5) _ _ hT4
      rcases hcase with ⟨hkn, d1, s1, rfl, rfl, r⟩ | ⟨hkn, d1, s1, rfl, rfl, r⟩ | ⟨hkn, _⟩
      · obtain ⟨x, hxT, hxE⟩ := ev_ixTd (K := K) (σ := [some dv, some (.int (lv : Int)), some (.int (lvl kw : Nat)), none, none]) (ta := tVar 0) (tb := tC (.int 2)) (j := 2) (ev_var rfl) hT5 ev_c (show [PyData.str (S kw), .none, d1][2]? = some d1 from rfl)
        refine s_asg (v := .str (S ([45] ++ s1))) (es_add (ev_disp2 (by decide) (e0 (e14.trans e5) rfl) (.inr ⟨by rw [hkn, f3], by rw [f4]⟩)) (es_flat (ea_cons hxE (ea_cons (ev_var rfl) ea_nil)) (by rw [hkn] <;> rfl) r hxT (by omega) ?_) ?_) fun H6 e6 => kk _ H6 ⟨rfl, e5.trans e6⟩
        all_goals simp only [List.length_append, List.length_cons, List.length_nil] at ht1 ⊢
        all_goals omega
      · obtain ⟨x, hxT, hxE⟩ := ev_ixTd (K := K) (σ := [some dv, some (.int (lv : Int)), some (.int (lvl kw : Nat)), none, none]) (ta := tVar 0) (tb := tC (.int 2)) (j := 2) (ev_var rfl) hT5 ev_c (show [PyData.str (S kw), .none, d1][2]? = some d1 from rfl)
        refine s_asg (v := .str (S (oNot ++ [32] ++ s1))) (es_add (ev_disp2 (by decide) (e0 (e14.trans e5) rfl) (.inl ⟨by rw [hkn, f2], by rw [f5]⟩)) (es_flat (ea_cons hxE (ea_cons (ev_var rfl) ea_nil)) (by rw [hkn] <;> rfl) r hxT (by omega) ?_) ?_) fun H6 e6 => kk _ H6 ⟨rfl, e5.trans e6⟩
        all_goals simp only [List.length_append, List.length_cons, List.length_nil] at ht1 ⊢
        all_goals omega
      · exact absurd hk5 (bin_no kw hkn).2.2.2.1
    · have hk5 := of_decide_eq_false hb5
      have hT5 := Td.tx (Tx.of e5) _ _ hT4
      rcases hcase with ⟨rfl, _⟩ | ⟨rfl, _⟩ | ⟨hbin, d1, d2, s1, s2, rfl, rfl, r1, r2⟩
      · exact absurd (by decide) hk5
      · exact absurd (by decide) hk5
      · obtain ⟨x, hxT, hxE⟩ := ev_ixTd (K := K) (σ := [some dv, some (.int (lv : Int)), some (.int (lvl kw : Nat)), none, none]) (ta := tVar 0) (tb := tC (.int 2)) (j := 2) (ev_var rfl) hT5 ev_c (show [PyData.str (S kw), .none, d1, d2][2]? = some d1 from rfl)
        obtain ⟨y, hyT, hyE⟩ := ev_ixTd (K := K) (σ := [some dv, some (.int (lv : Int)), some (.int (lvl kw : Nat)), none, none]) (ta := tVar 0) (tb := tC (.int 3)) (j := 3) (ev_var rfl) hT5 ev_c (show [PyData.str (S kw), .none, d1, d2][3]? = some d2 from rfl)
        refine s_asg (v := .str (S (s1 ++ [32] ++ kw ++ [32] ++ s2))) (es_add (es_add (es_add (es_add (es_flat (ea_cons hxE (ea_cons (ev_op (ev_var rfl) (ev_int01 (ev_op (ev_var rfl) ev_c (rv_eq rfl))) rv_I0) ea_nil)) ?_ r1 hxT (by omega) ?_) (es_cl w7) ?_) (e0 (e14.trans e5) rfl) ?_) (es_cl w7) ?_) (es_flat (ea_cons hyE (ea_cons (ev_op (ev_var rfl) ev_c rv_I0) ea_nil)) (by omega) r2 hyT (by omega) ?_) ?_) fun H6 e6 => kk _ H6 ⟨rfl, e5.trans e6⟩
        · by_cases z : lvl kw = 3
          · rw [z]
            rfl
          · rw [if_neg z, if_neg (by
              intro y
              have y := of_decide_eq_true y
              injection y with y
              exact z (by omega))]
            omega
        all_goals simp only [List.length_append, List.length_cons, List.length_nil] at ht1 ⊢
        all_goals omega
end
end Wt

set_option Elab.async false
set_option linter.all false
set_option maxRecDepth 100000
set_option maxHeartbeats 4000000
namespace Wt
open PySem PySem.Spec PyProof.Rows L2 SX Evl
open C8 (Def Cal cal0 fnScope_by fnScope)
/-! The law's own rows of text. -/
def spLines (K : PySem.W.Frag) (N : Nat) : Sp := fun vs H Q _ => ∃ (rv : V) (ds : List PyData) (h : Nat) (ls : List (List Nat)) (ah : List Nat), vs = [rv, .str (S ah)] ∧ TxRows h ds ls ∧ Td H rv (.tuple ds) ∧ h < N ∧ ls.length ≤ 300 ∧ ShortL 600 ls ∧ ah.length + 2 * h ≤ 100 ∧ RetT (ls.map fun x => ah ++ x) H Q
def leadT (w : List Nat) : List Nat := if w = oLet then oLet ++ [32] else []
theorem tx_tup {h lv : Nat} {d : PyData} {s : List Nat} (t : TxE h lv d s) : ∃ es, d = .tuple es := by
  obtain ⟨k, xs, rfl, _⟩ := tx_head t
  exact ⟨_, rfl⟩
/-- what a row is, in parts -/
theorem txRow_view {h : Nat} {d : PyData} {l : List (List Nat)} (t : TxRow h d l) : ∃ (kw : List Nat) (more : List PyData) (t0 : List Nat) (rest : List (List Nat)), d = .tuple (.str (S kw) :: .none :: more) ∧ l = t0 :: rest ∧
    ((kw ∈ [oLet, oSet] ∧ ∃ n e s, more = [.str (S n), e] ∧ Good kName n ∧ TxE 3 0 e s ∧ s.length ≤ 477 ∧ t0 = leadT kw ++ (n ++ [32, 61]) ++ ([32] ++ s)) ∨
      (kw ∉ [oLet, oSet] ∧ kw.length ≤ 5 ∧ ∃ e more2, more = e :: more2 ∧ ((e = .none ∧ t0 = kw) ∨ ∃ s, TxE 3 0 e s ∧ s.length ≤ 477 ∧ t0 = kw ++ ([32] ++ s)))) ∧
    ((kw ∉ [oIf, oWhile] ∧ rest = []) ∨ ∃ h' e ds ls more3, h = h' + 1 ∧ more = e :: .tuple ds :: more3 ∧ TxRows h' ds ls ∧ ((kw = oWhile ∧ rest = ls.map indT ++ [oEnd]) ∨ (kw = oIf ∧ ∃ es ms, more3 = [.tuple es] ∧ Shp 64 (.tuple es) ∧ TxRows h' es ms ∧ rest = ls.map indT ++ (if es = [] then [] else oElse :: ms.map indT) ++ [oEnd]))) := by
  cases t with
  | let_ gn r hl => exact ⟨_, _, _, _, rfl, rfl, .inl ⟨by decide, _, _, _, rfl, gn, r, hl, by
      unfold leadT
      rw [if_pos rfl]
      simp only [List.append_assoc, List.cons_append, List.nil_append]⟩, .inl ⟨by decide, rfl⟩⟩
  | set_ gn r hl => exact ⟨_, _, _, _, rfl, rfl, .inl ⟨by decide, _, _, _, rfl, gn, r, hl, by
      unfold leadT
      rw [if_neg (by decide)]
      simp only [List.append_assoc, List.cons_append, List.nil_append]⟩, .inl ⟨by decide, rfl⟩⟩
  | @worth _ wd _ _ hw r hl hne =>
    have nw : wd ∉ [oLet, oSet] ∧ wd.length ≤ 5 ∧ wd ∉ [oIf, oWhile] := by rcases hw with rfl | rfl | rfl <;> decide
    exact ⟨_, _, _, _, rfl, rfl, .inr ⟨nw.1, nw.2.1, _, _, rfl, .inr ⟨_, r, hl, List.append_assoc ..⟩⟩, .inl ⟨nw.2.2, rfl⟩⟩
  | give0 => exact ⟨_, _, _, _, rfl, rfl, .inr ⟨by decide, by decide, _, _, rfl, .inl ⟨rfl, rfl⟩⟩, .inl ⟨by decide, rfl⟩⟩
  | while_ r hl a => exact ⟨_, _, _, _, rfl, rfl, .inr ⟨by decide, by decide, _, _, rfl, .inr ⟨_, r, hl, List.append_assoc ..⟩⟩, .inr ⟨_, _, _, _, _, rfl, rfl, a, .inl ⟨rfl, rfl⟩⟩⟩
  | if_ r hl a b hsh => exact ⟨_, _, _, _, rfl, rfl, .inr ⟨by decide, by decide, _, _, rfl, .inr ⟨_, r, hl, List.append_assoc ..⟩⟩, .inr ⟨_, _, _, _, _, rfl, rfl, a, .inr ⟨rfl, _, _, rfl, hsh, b, rfl⟩⟩⟩
section
variable {K : PySem.W.Frag} {σ : L2.St} {H H' : Hp} {ta tb te tl : TE} {t : TT} {tr : TA} {E : XK} {D : Ends} {tu tw tz : TS}
theorem q_seq4 {a b c d z : TS} (M : List (Option V) → Hp → Prop) (k : ∀ σ' H', M σ' H' → z D σ' H') (h : (∀ σ' H', M σ' H' → z D σ' H') → tSeq a (tSeq b (tSeq c (tSeq d z))) D σ H) : tSeq a (tSeq b (tSeq c (tSeq d z))) D σ H := h k
/-- {k1: v1, k2: v2}.get(x, z) -/
theorem ev_get2 {k1 k2 k : Str} {v1 v2 z r : V} (hne : k1 ≠ k2) (hb : ∀ H', Ex H H' → Ev tb σ H' (.str k)) (hz : ∀ H', Ex H H' → Ev te σ H' z) (hv : (k = k1 ∧ r = v1) ∨ (k = k2 ∧ r = v2) ∨ (k ≠ k1 ∧ k ≠ k2 ∧ r = z)) : Ev (tDGet2 (tDisp [(tC (.str k1), tC v1), (tC (.str k2), tC v2)]) tb te) σ H r := fun H1 e Q q => fun p hp => by
  refine ⟨upd_same, [((Sum.inr k1 : Key), v1), (Sum.inr k2, v2)], rfl, by show 2 ≤ 15; decide, ?_⟩
  have hne2 : ¬ (Sum.inr k1 : Key) = Sum.inr k2 := fun z => hne (Sum.inr.inj z)
  have hm : mergeK [] [((Sum.inr k1 : Key), v1), (Sum.inr k2, v2)] = [(Sum.inr k1, v1), (Sum.inr k2, v2)] := by
    unfold mergeK
    simp only [List.foldl_cons, List.foldl_nil, putK, List.any_nil, List.any_cons, Bool.or_false, Bool.false_eq_true, if_false, List.nil_append, decide_eq_true_eq, hne2, List.cons_append, Bool.or_self, decide_false]
  rw [hm]
  have e1 : Ex H1 (upd (upd H1 p (.dK [])) p (.dK [((Sum.inr k1 : Key), v1), (Sum.inr k2, v2)])) := Ex.mut (Ex.new hp) hp
  have hp2 : (upd (upd H1 p (.dK [])) p (.dK [((Sum.inr k1 : Key), v1), (Sum.inr k2, v2)])) p = some (.dK [((Sum.inr k1 : Key), v1), (Sum.inr k2, v2)]) := upd_same
  generalize upd (upd H1 p (.dK [])) p (.dK [((Sum.inr k1 : Key), v1), (Sum.inr k2, v2)]) = H2 at e1 hp2 ⊢
  refine ⟨p, rfl, .inl ⟨_, .inl hp2⟩, hb H2 (e.trans e1) H2 (Ex.refl _) _ fun H3 e3 => hz H3 ((e.trans e1).trans e3) H3 (Ex.refl _) _ fun H4 e4 => ?_⟩
  refine ⟨_, DGet.k (k := (Sum.inr k : Key)) ((e3.trans e4) _ _ hp2), ?_⟩
  rcases hv with ⟨rfl, rfl⟩ | ⟨rfl, rfl⟩ | ⟨n1, n2, rfl⟩
  · rw [valV_pos (p := ((Sum.inr k : Key), r)) rfl]
    exact q H4 (e1.trans (e3.trans e4))
  · rw [valV_neg (p := ((Sum.inr k1 : Key), v1)) hne2, valV_pos (p := ((Sum.inr k : Key), r)) rfl]
    exact q H4 (e1.trans (e3.trans e4))
  · rw [valV_neg (p := ((Sum.inr k1 : Key), v1)) (fun y => n1 (Sum.inr.inj y).symm), valV_neg (p := ((Sum.inr k2 : Key), v2)) (fun y => n2 (Sum.inr.inj y).symm)]
    exact q H4 (e1.trans (e3.trans e4))
end
theorem S_ne {a b : List Nat} (h : a ≠ b) : S a ≠ S b := fun z => h (S_inj z)
theorem lits_l : Str.ofString " =" = S [32, 61] ∧ Str.ofString "let " = S (oLet ++ [32]) ∧ Str.ofString "" = S [] := by
  refine ⟨?_, ?_, ?_⟩ <;> decide +kernel
section
variable {P : Program} {w : World} {K : PySem.W.Frag} {mg : Str → Option Value} {base : Heap}
abbrev s__law_lines : Stmt := topS 26
theorem sc__law_lines : FnScope ["_law_rows_here", "_law_ahead", "_law_found", "_law_row", "_law_e_here", "_law_head"] ["_law_rows_here", "_law_ahead"] (fnScope s__law_lines) := fnScope_by (by decide +kernel)
theorem ok_lines {k N : Nat} (c__law_flat : Cal P w K mg base k "_law_flat" (spFlat K 4) []) (c__law_lines : Cal P w K mg base k "_law_lines" (spLines K N) []) {f : Addr} {fd : FuncData} (F : Def K mg "_law_lines" s__law_lines f fd) (b : Binds K fd ["_law_rows_here", "_law_ahead"] []) : Cal P w K mg base (k + 1) "_law_lines" (spLines K (N + 1)) [] := by
  refine cal0 F b .nil sc__law_lines (fun vs H Q E h => ?_) (fun cdv A outer s H vs Q E hr h => ?_)
  · obtain ⟨_, _, _, _, _, rfl, _⟩ := h
    rfl
  · obtain ⟨rv, ds, h0, ls, ah, rfl, t, hT, hN, hl, hs, hah, q⟩ := h

    have hu := hu_of hr
    have hu64 := hr.units
    obtain ⟨z1, z2, z3, z4, z5, z6, z7, z8, z9, z10⟩ := lits_r
    obtain ⟨_, _, _, _, _, _, x7, _⟩ := lits_w
    obtain ⟨l1, l2, l3⟩ := lits_l
    refine ⟨_, (pss_cons (ps_set (i := 2) sc__law_lines.nd rfl (.inl rfl) (pe_lst pa_nil))
      (pss_cons (ps_for PassesOwn.never rfl (pi_tup (pv 0)) (pg_name (i := 3) sc__law_lines.nd rfl (.inl rfl)) (pss_cons (ps_set (i := 4) sc__law_lines.nd rfl (.inl rfl) (pe_ifExp (pt_cmpR op_in_seq (pe_ix ix_tup (pv 3) pe_int (fun _ _ => rfl)) (pe_tup (pa_cons pe_str (pa_cons pe_str pa_nil))) (by with_unfolding_all rfl)) (pe_ix ix_tup (pv 3) pe_int (fun _ _ => rfl)) (pe_ix ix_tup (pv 3) pe_int (fun _ _ => rfl))))
      (pss_cons (ps_set (i := 5) sc__law_lines.nd rfl (.inl rfl) (pe_dget2 hu (pe_disp (pps_cons pe_str pe_str (pps_cons pe_str pe_str pps_nil)) (by rfl) (by rfl) (by simp) (by decide)) (pe_ix ix_tup (pv 3) pe_int (fun _ _ => rfl)) (pe_ix ix_tup (pv 3) pe_int (fun _ _ => rfl)) ⟨rfl, by rfl, by rfl, rfl⟩))
      (pss_cons (ps_set (i := 5) sc__law_lines.nd rfl (.inl rfl) (pe_op op_add_str (pv 5) (pe_ifExp (pt_cmpR op_in_seq (pe_ix ix_tup (pv 3) pe_int (fun _ _ => rfl)) (pe_tup (pa_cons pe_str (pa_cons pe_str pa_nil))) (by with_unfolding_all rfl)) (pe_op op_add_str (pe_ix ix_tup (pv 3) pe_int (fun _ _ => rfl)) pe_str) pe_str)))
      (pss_cons (ps_expr (pe_bm PySem.F.plainAttrs_list PySem.F.slot_list_append PySem.F.type_list_append mt_append (pv 2) (pa_cons (pe_op op_add_str (pe_op op_add_str (pv 1) (pv 5)) (pe_ifExp (pt_cmpR op_isN (pv 4) pe_non (nomark _)) pe_str (pe_op op_add_str pe_str (C8.pe_c c__law_flat hr (by first | decide | exact Nat.le_refl _ | omega) (by rfl) (pa_cons (pv 4) (pa_cons pe_int pa_nil)))))) pa_nil)))
      (pss_one (ps_if (pt_cmpR op_in_seq (pe_ix ix_tup (pv 3) pe_int (fun _ _ => rfl)) (pe_tup (pa_cons pe_str (pa_cons pe_str pa_nil))) (by with_unfolding_all rfl)) (pss_cons (ps_set (i := 2) sc__law_lines.nd rfl (.inl rfl) (pe_op op_cat (pv 2) (C8.pe_c c__law_lines hr (by first | decide | exact Nat.le_refl _ | omega) (by rfl) (pa_cons (pe_ix ix_tup (pv 3) pe_int (fun _ _ => rfl)) (pa_cons (pe_op op_add_str (pv 1) pe_str) pa_nil)))))
      (pss_cons (ps_if (PW.pt (pw_and (pt_cmpR op_eq (pe_ix ix_tup (pv 3) pe_int (fun _ _ => rfl)) pe_str (nomark _)) (pw_and1 (pt_cmpR (op_neD hu64) (pe_ix ix_tup (pv 3) pe_int (fun _ _ => rfl)) (pe_tup pa_nil) (nomark _))))) (pss_one (ps_set (i := 2) sc__law_lines.nd rfl (.inl rfl) (pe_op op_cat (pe_op op_cat (pv 2) (pe_lst (pa_cons (pe_op op_add_str (pv 1) pe_str) pa_nil))) (C8.pe_c c__law_lines hr (by first | decide | exact Nat.le_refl _ | omega) (by rfl) (pa_cons (pe_ix ix_tup (pv 3) pe_int (fun _ _ => rfl)) (pa_cons (pe_op op_add_str (pv 1) pe_str) pa_nil)))))) pss_nil)
      (pss_one (ps_expr (pe_bm PySem.F.plainAttrs_list PySem.F.slot_list_append PySem.F.type_list_append mt_append (pv 2) (pa_cons (pe_op op_add_str (pv 1) pe_str) pa_nil)))))) pss_nil)))))))
      (pss_one (ps_ret (pv 2))))), ?_⟩
    cases hT with
    | @tup a xs _ ha hx =>
    refine q_asgLT (elt_lst eat_nil (Nat.zero_le _)) fun l H1 hl0 e1 hl1 => ?_
    try dsimp only [L2.start, List.map, List.set, List.length, List.append, List.replicate]
    have hd0 := txRows_pos t
    refine q_forT (ev_var rfl) (st_of (e1 _ _ ha)) (fun i σ' H' => ∃ (l : Addr) (y3 y4 y5 : Option V) (dn rs : List (List Nat)), σ' = [some (.ref a), some (.str (S ah)), some (.ref l), y3, y4, y5] ∧ H l = none ∧ Ex H H' ∧ ls = dn ++ rs ∧ TxRows h0 (ds.drop i) rs ∧ H' l = some (tL (dn.map fun x => ah ++ x))) (fun H2 e2 => ⟨l, none, none, none, [], ls, rfl, hl0, e1.trans e2, rfl, t, e2 _ _ hl1⟩) (fun i σ' H' _ ⟨_, _, _, _, _, _, _, _, e, _⟩ => st_of (e _ _ ha)) ?_ ?_
    · rintro i x σ' H2 hxi ⟨l, y3, y4, y5, dn, rs, rfl, hl0, e2, hdr, tr, hl2⟩
      obtain ⟨d, hd, hTx⟩ := (TdAll.tx (Tx.of e2) _ _ hx).at hxi
      have hdd : ds.drop i = d :: ds.drop (i + 1) := by
        have hlt := (List.getElem?_eq_some_iff.mp hd).1
        rw [List.drop_eq_getElem_cons hlt, (List.getElem?_eq_some_iff.mp hd).2]
      rw [hdd] at tr
      cases tr with
      | @cons _ _ _ ln ls1 r1 a1 =>
      obtain ⟨kw, more, t0, rest, rfl, rfl, hlead, hdeep⟩ := txRow_view r1
      have hlen : dn.length + (rest.length + 1 + ls1.length) ≤ 300 := by
        rw [hdr, List.length_append, List.length_append, List.length_cons] at hl
        exact hl
      have hs1 : ShortL 600 (t0 :: rest) := by
        rw [hdr] at hs
        exact hs.r.l
      try dsimp only [List.set]
      -- the word of the row
      have e0 : ∀ {σ : L2.St} {H3 : Hp}, Ex H2 H3 → σ[3]? = some (some x) → EvS (tOp (rIxT K) (tVar 3) (tC (.int 0))) σ H3 kw := fun {σ H3} e s3 => ev_ixTs (j := 0) (ev_var s3) (Td.tx (Tx.of e) _ _ hTx) ev_c rfl
      refine q_seq4 (M := fun σ' H' => ∃ (y4 y5 : Option V), σ' = [some (.ref a), some (.str (S ah)), some (.ref l), some x, y4, y5] ∧ Ex H H' ∧ Tx H2 H' ∧ H' l = some (tL ((dn.map fun x => ah ++ x) ++ [ah ++ t0]))) (fun σ' H' hM => ?_) (fun kk => ?_)
      · obtain ⟨y4, y5, rfl, eH, xH, hlH⟩ := hM
        have e0' : ∀ {σ : L2.St} {H3 : Hp}, Ex H' H3 → σ[3]? = some (some x) → EvS (tOp (rIxT K) (tVar 3) (tC (.int 0))) σ H3 kw := fun {σ H3} e s3 => ev_ixTs (j := 0) (ev_var s3) (Td.tx (xH.trans (Tx.of e)) _ _ hTx) ev_c rfl
        refine s_when (et_in2 (e0' (Ex.refl _) rfl) z8 z6) (fun hb H3 e3 => ?_) (fun hb H3 e3 => ?_)
        · rcases hdeep with ⟨hno, _⟩ | ⟨h', e, dss, lss, more3, rfl, rfl, ta, hcase⟩
          · exact absurd (of_decide_eq_true hb) hno
          obtain ⟨px, hpxT, hpxE⟩ := ev_ixTd (K := K) (σ := [some (.ref a), some (.str (S ah)), some (.ref l), some x, y4, y5]) (ta := tVar 3) (tb := tC (.int 3)) (j := 3) (ev_var rfl) (Td.tx (xH.trans (Tx.of e3)) _ _ hTx) ev_c (show (PyData.str (S kw) :: .none :: e :: .tuple dss :: more3)[3]? = some (.tuple dss) from rfl)
          have hsub : lss.length ≤ 300 ∧ lss.length ≤ rest.length ∧ ShortL 600 lss := by
            have hle : lss.length ≤ rest.length := by
              rcases hcase with ⟨_, rfl⟩ | ⟨_, _, _, _, _, _, rfl⟩
              · rw [List.length_append, List.length_map]; omega
              · rw [List.length_append, List.length_append, List.length_map]; omega
            refine ⟨by omega, hle, ?_⟩
            rcases hcase with ⟨_, rfl⟩ | ⟨_, _, _, _, _, _, rfl⟩
            · exact ((ShortL.r (a := [t0]) hs1).l).un
            · exact (((ShortL.r (a := [t0]) hs1).l).l).un
          refine q_asgLT (elt_catV (ev_var rfl) (e3 _ _ hlH) (elt_call (ea_cons hpxE (ea_cons (es_add (ev_var rfl) (es_cl z10) ?_) ea_nil)) fun H4 e4 Q2 q2 => ⟨px, dss, h', lss, ah ++ [32, 32], rfl, ta, Td.tx (Tx.of e4) _ _ hpxT, by omega, hsub.1, hsub.2.2, ?_, q2⟩) ?_) fun m H4 hm0 e4 hm => ?_
          · show _ + 2 ≤ _
            omega
          · rw [List.length_append]
            show _ + 2 + _ ≤ _
            omega
          · rw [List.length_append, List.length_map, List.length_map]
            show _ + 1 + _ ≤ _
            omega
          try dsimp only [List.set]
          have hm0' : H m = none := fresh_back (eH.trans e3) hm0
          have e04 := (eH.trans e3).trans e4
          have x24 : Tx H2 H4 := xH.trans (Tx.of (e3.trans e4))
          -- an else
          generalize hEL : (if kw = oIf then (match more3 with | [.tuple es] => decide (es ≠ []) | _ => false) else false) = bE
          have hv : ∃ (el : List (List Nat)) (bE : Bool), rest = lss.map indT ++ el ++ [oEnd] ∧ (bE = false → el = []) ∧ (bE = true → kw = oIf ∧ ∃ es ms, more3 = [.tuple es] ∧ TxRows h' es ms ∧ el = oElse :: ms.map indT) ∧
              EvT (tAnd (tTest (tOp rEq (tOp (rIxT K) (tVar 3) (tC (.int 0))) (tC (.str (Str.ofString "if"))))) (tTest (tOp (rNeD K) (tOp (rIxT K) (tVar 3) (tC (.int 4))) (tTup tNil)))) [some (.ref a), some (.str (S ah)), some (.ref m), some x, y4, y5] H4 bE := by
            rcases hcase with ⟨rfl, rfl⟩ | ⟨rfl, es, ms, rfl, hsh, tb, rfl⟩
            · exact ⟨[], false, by rw [List.append_nil], fun _ => rfl, fun z => (by cases z), et_is (et_and (b := false) (et_test (ev_eqS (ev_ixTs (j := 0) (ev_var rfl) (Td.tx x24 _ _ hTx) ev_c rfl) (es_cl z8))) fun z => absurd (of_decide_eq_true z) (by decide)) (by rw [Bool.and_false])⟩
            · obtain ⟨py, hpyT, hpyE⟩ := ev_ixTd (K := K) (σ := [some (.ref a), some (.str (S ah)), some (.ref m), some x, y4, y5]) (ta := tVar 3) (tb := tC (.int 4)) (j := 4) (ev_var rfl) (Td.tx x24 _ _ hTx) ev_c (show [PyData.str (S oIf), .none, e, .tuple dss, .tuple es][4]? = some (.tuple es) from rfl)
              refine ⟨_, !decide (es = []), rfl, fun z => ?_, fun z => ?_, et_is (et_and (b := !decide (es = [])) (et_test (ev_eqS (ev_ixTs (j := 0) (ev_var rfl) (Td.tx x24 _ _ hTx) ev_c rfl) (es_cl z8))) fun _ => et_neNilT hpyE hpyT hsh) (by rw [decide_eq_true rfl, Bool.true_and])⟩
              · have : es = [] := by
                  by_cases y : es = []
                  · exact y
                  · rw [decide_eq_false y] at z
                    exact absurd z (by decide)
                rw [if_pos this]
              · have : ¬ es = [] := by
                  intro y
                  rw [y] at z
                  exact absurd z (by decide)
                exact ⟨rfl, es, ms, rfl, tb, by rw [if_neg this]⟩
          clear hEL bE
          obtain ⟨el, bE, hrest, hel0, hel1, hEv⟩ := hv
          have hrl : lss.length + el.length + 1 = rest.length := by
            rw [hrest, List.length_append, List.length_append, List.length_map] <;> rfl
          refine q_whenK2 (b := bE) (fun σ' H' => ∃ m, σ' = [some (.ref a), some (.str (S ah)), some (.ref m), some x, y4, y5] ∧ H m = none ∧ Ex H H' ∧ H' m = some (tL ((dn.map fun x => ah ++ x) ++ [ah ++ t0] ++ ((lss.map indT).map fun x => ah ++ x) ++ (el.map fun x => ah ++ x)))) hEv (fun σ' H' hM => ?_) (fun kk hb4 H5 e5 => ?_) (fun hb4 H5 e5 => ?_)
          · obtain ⟨m, rfl, hm0, eH', hm⟩ := hM
            refine s_app hm (ev_var rfl) (es_add (ev_var rfl) (es_cl z7) ?_) ?_ fun H5 e5 => ?_
            · show _ + 3 ≤ _
              omega
            · simp only [List.length_map, List.length_append, List.length_cons, List.length_nil]
              omega
            · refine ⟨m, _, _, _, dn ++ (t0 :: rest), ls1, rfl, hm0, Ex.mut (eH'.trans e5) hm0, by rw [hdr, List.append_assoc], a1, ?_⟩
              rw [upd_same, hrest]
              simp only [tL, List.map_append, List.map_cons, List.map_nil, List.append_assoc, List.cons_append, List.nil_append]
          · obtain ⟨rfl, es, ms, rfl, tb, rfl⟩ := hel1 hb4
            obtain ⟨py, hpyT, hpyE⟩ := ev_ixTd (K := K) (σ := [some (.ref a), some (.str (S ah)), some (.ref m), some x, y4, y5]) (ta := tVar 3) (tb := tC (.int 4)) (j := 4) (ev_var rfl) (Td.tx (x24.trans (Tx.of e5)) _ _ hTx) ev_c (show [PyData.str (S oIf), .none, e, .tuple dss, .tuple es][4]? = some (.tuple es) from rfl)
            rw [List.length_cons, List.length_map] at hrl
            have hms : ShortL 600 ms := by
              rw [hrest] at hs1
              exact (ShortL.r (a := [oElse]) ((ShortL.r (a := [t0]) hs1).l.r)).un
            refine s_asgLT (elt_cat (elt_catV (ev_var rfl) (e5 _ _ hm) (elt_lst (eat_cons (es_add (ev_var rfl) (es_cl z9) ?_) eat_nil) (by show 1 ≤ 100000; decide)) ?_) (elt_call (ea_cons hpyE (ea_cons (es_add (ev_var rfl) (es_cl z10) ?_) ea_nil)) fun H6 e6 Q2 q2 => ⟨py, es, h', ms, ah ++ [32, 32], rfl, tb, Td.tx (Tx.of e6) _ _ hpyT, by omega, by omega, hms, ?_, q2⟩) ?_) fun m2 H6 hm20 e6 hm2 => kk _ _ ⟨m2, rfl, fresh_back (e04.trans e5) hm20, (e04.trans e5).trans e6, ?_⟩
            · show _ + 4 ≤ _
              omega
            · simp only [List.length_map, List.length_append, List.length_cons, List.length_nil]
              omega
            · show _ + 2 ≤ _
              omega
            · rw [List.length_append]
              show _ + 2 + _ ≤ _
              omega
            · simp only [List.length_map, List.length_append, List.length_cons, List.length_nil]
              omega
            · rw [hm2]
              simp only [List.map_map, List.map_cons, List.append_assoc, List.cons_append, List.nil_append, Function.comp_def, indT]
          · have := hel0 hb4
            subst this
            refine ⟨m, rfl, hm0', e04.trans e5, ?_⟩
            rw [e5 _ _ hm]
            simp only [List.map_map, List.map_nil, List.append_nil, List.append_assoc, List.cons_append, List.nil_append, Function.comp_def, indT]
        · rcases hdeep with ⟨hno, rfl⟩ | ⟨h', e, dss, lss, more3, rfl, rfl, ta, hcase⟩
          · refine ⟨l, _, _, _, dn ++ [t0], ls1, rfl, hl0, eH.trans e3, by rw [hdr, List.append_assoc], a1, ?_⟩
            rw [e3 _ _ hlH, List.map_append] <;> rfl
          · have hb' := of_decide_eq_false hb
            rcases hcase with ⟨rfl, _⟩ | ⟨rfl, _⟩
            · exact absurd (by decide) hb'
            · exact absurd (by decide) hb'
      · rcases hlead with ⟨hk, n, e, s, rfl, gn, te, hl4, rfl⟩ | ⟨hk, hk5, e, more2, rfl, hcase⟩
        · have hn := nm_len gn
          have hlt : (leadT kw).length ≤ 4 := by
            unfold leadT
            split <;> decide
          obtain ⟨ex, hexT, hexE⟩ := ev_ixTd (K := K) (σ := [some (.ref a), some (.str (S ah)), some (.ref l), some x, y4, y5]) (ta := tVar 3) (tb := tC (.int 3)) (j := 3) (ev_var rfl) hTx ev_c (show [PyData.str (S kw), .none, .str (S n), e][3]? = some e from rfl)
          refine q_asg (v := ex) (ev_if (et_in2 (e0 (Ex.refl _) rfl) z1 z4) (fun _ => hexE) fun hb => absurd hk (of_decide_eq_false hb)) fun H3 e3 => ?_
          try dsimp only [List.set]
          refine q_asg (v := .str (S (leadT kw))) (ev_get2 (by decide) (fun H' e' => e0 (e3.trans e') rfl) (fun H' e' => e0 (e3.trans e') rfl) ?_) fun H4 e4 => ?_
          · rcases List.mem_cons.mp hk with rfl | hk
            · exact .inl ⟨z1.symm, by rw [l2] <;> rfl⟩
            · rw [List.mem_singleton.mp hk]
              exact .inr (.inl ⟨z4.symm, by rw [l3] <;> rfl⟩)
          try dsimp only [List.set]
          have e34 := e3.trans e4
          refine q_asg (v := .str (S (leadT kw ++ (n ++ [32, 61])))) (es_add (ev_var rfl) (ev_if (et_in2 (e0 e34 rfl) z1 z4) (fun _ => es_add (ev_ixTs (j := 2) (ev_var rfl) (Td.tx (Tx.of e34) _ _ hTx) ev_c rfl) (es_cl l1) ?_) fun hb => absurd hk (of_decide_eq_false hb)) ?_) fun H5 e5 => ?_
          · show _ + 2 ≤ _
            omega
          · rw [List.length_append]
            show _ + (_ + 2) ≤ _
            omega
          try dsimp only [List.set]
          have e35 := e34.trans e5
          obtain ⟨es, rfl⟩ := tx_tup te
          have hexn : ex ≠ .non := by
            cases hexT
            intro z
            cases z
          refine q_app (e35 _ _ hl2) (ev_var rfl) (es_add (es_add (ev_var rfl) (ev_var rfl) ?_) (ev_if (b := false) (et_isNone (ev_var rfl) (decide_eq_false hexn)) (fun z => by cases z) fun _ => es_add (es_cl x7) (es_flat (ea_cons (ev_var rfl) (ea_cons ev_c ea_nil)) rfl te (Td.tx (Tx.of e35) _ _ hexT) (by decide) (by omega)) ?_) ?_) ?_ fun H6 e6 => kk _ _ ⟨_, _, rfl, Ex.mut ((e2.trans e35).trans e6) hl0, (Tx.of (e35.trans e6)).trans (Tx.lst ((e35.trans e6) _ _ hl2)), ?_⟩
          · simp only [List.length_append, List.length_cons, List.length_nil]
            omega
          · show 1 + _ ≤ _
            omega
          · simp only [List.length_append, List.length_cons, List.length_nil]
            omega
          · rw [List.length_map, List.length_map]
            omega
          · rw [upd_same, tL_snoc]
            simp only [List.append_assoc]
        · obtain ⟨ex, hexT, hexE⟩ := ev_ixTd (K := K) (σ := [some (.ref a), some (.str (S ah)), some (.ref l), some x, y4, y5]) (ta := tVar 3) (tb := tC (.int 2)) (j := 2) (ev_var rfl) hTx ev_c (show (PyData.str (S kw) :: .none :: e :: more2)[2]? = some e from rfl)
          refine q_asg (v := ex) (ev_if (et_in2 (e0 (Ex.refl _) rfl) z1 z4) (fun hb => absurd (of_decide_eq_true hb) hk) fun _ => hexE) fun H3 e3 => ?_
          try dsimp only [List.set]
          refine q_asg (v := .str (S kw)) (ev_get2 (by decide) (fun H' e' => e0 (e3.trans e') rfl) (fun H' e' => e0 (e3.trans e') rfl) (.inr (.inr ⟨?_, ?_, rfl⟩))) fun H4 e4 => ?_
          · rw [z1]
            exact S_ne fun z => hk (by rw [z]; decide)
          · rw [z4]
            exact S_ne fun z => hk (by rw [z]; decide)
          try dsimp only [List.set]
          have e34 := e3.trans e4
          refine q_asg (v := .str (S (kw ++ []))) (es_add (ev_var rfl) (ev_if (et_in2 (e0 e34 rfl) z1 z4) (fun hb => absurd (of_decide_eq_true hb) hk) fun _ => es_cl l3) ?_) fun H5 e5 => ?_
          · show _ + 0 ≤ _
            omega
          rw [List.append_nil]
          try dsimp only [List.set]
          have e35 := e34.trans e5
          obtain ⟨u, hu1, hu2, hu3⟩ : ∃ u, t0 = kw ++ u ∧ u.length ≤ 500 ∧ EvS (tIf (tTest (tOp (fun x y H Q => y = .non ∧ Q (.bl (decide (x = .non))) H) (tVar 4) (tC .non))) (tC (.str (Str.ofString ""))) (tOp (fun x y H Q => ∃ i j, x = .str i ∧ y = .str j ∧ i.length + j.length ≤ sizeLine ∧ Q (.str (i ++ j)) H) (tC (.str (Str.ofString " "))) (tCall (spFlat K 4) [] C8.E0 (tCons (tVar 4) (tCons (tC (.int 0)) tNil))))) [some (.ref a), some (.str (S ah)), some (.ref l), some x, some ex, some (.str (S kw))] H5 u := by
            rcases hcase with ⟨rfl, rfl⟩ | ⟨s, te, hl4, rfl⟩
            · refine ⟨[], (List.append_nil _).symm, by decide, ?_⟩
              cases hexT
              exact ev_if (b := true) (et_isNone (ev_var rfl) (decide_eq_true rfl)) (fun _ => es_cl l3) fun z => by cases z
            · refine ⟨[32] ++ s, rfl, by rw [List.length_append]; show 1 + _ ≤ _; omega, ?_⟩
              obtain ⟨es, rfl⟩ := tx_tup te
              have hexn : ex ≠ .non := by
                cases hexT
                intro z
                cases z
              refine ev_if (b := false) (et_isNone (ev_var rfl) (decide_eq_false hexn)) (fun z => by cases z) fun _ => es_add (es_cl x7) (es_flat (ea_cons (ev_var rfl) (ea_cons ev_c ea_nil)) rfl te (Td.tx (Tx.of e35) _ _ hexT) (by decide) (by omega)) ?_
              show 1 + _ ≤ _
              omega
          refine q_app (e35 _ _ hl2) (ev_var rfl) (es_add (es_add (ev_var rfl) (ev_var rfl) ?_) hu3 ?_) ?_ fun H6 e6 => kk _ _ ⟨_, _, rfl, Ex.mut ((e2.trans e35).trans e6) hl0, (Tx.of (e35.trans e6)).trans (Tx.lst ((e35.trans e6) _ _ hl2)), ?_⟩
          · omega
          · rw [List.length_append]
            omega
          · rw [List.length_map, List.length_map]
            omega
          · rw [upd_same, tL_snoc, hu1]
            simp only [List.append_assoc]
    · rintro σ' H2 ⟨l, y3, y4, y5, dn, rs, rfl, hl0, e2, hdr, tr, hl2⟩
      rw [hx.len, List.drop_length] at tr
      cases tr
      rw [List.append_nil] at hdr
      subst hdr
      exact s_ret (ev_var rfl) fun H3 e3 => q l H3 hl0 (e2.trans e3) (e3 _ _ hl2)
end
end Wt

set_option Elab.async false
set_option linter.all false
set_option maxRecDepth 100000
set_option maxHeartbeats 4000000
namespace Wt
open PySem PySem.Spec PyProof.Rows L2 SX Evl
open C8 (Def Cal cal0 fnScope_by fnScope)
/-! k06: the law. -/
section
variable {K : PySem.W.Frag} {σ : L2.St} {H H' : Hp} {ta tb te tl : TE} {t : TT} {tr : TA} {E : XK} {D : Ends} {tu tw tz : TS}
theorem elt_is {ts us : List (List Nat)} (h : EvLT te σ H ts) (e : ts = us) : EvLT te σ H us := by
  subst e
  exact h
theorem es_textOf {d : PyData} {rows : List (List Nat)} (h : EvD te σ H d) (t : TxFile d rows) : EvS (tCall (spTextOf K) [] E (tCons te tNil)) σ H (TL.joinL [10] rows) := fun H1 e Q q =>
  h H1 e _ fun v H2 e2 hv => ⟨v, d, rows, rfl, t, hv, fun H3 e3 => q H3 (e2.trans e3)⟩
end
/-- what stands ahead in a row of what is told -/
def headL (o : Bool) (w n : List Nat) : List Nat := outT o (w ++ [32] ++ n)
theorem out_app (o : Bool) (t u : List Nat) : outT o t ++ u = outT o (t ++ u) := by
  cases o
  · rfl
  · exact List.append_assoc ..
theorem out_rep (o : Bool) (t : List Nat) : (List.replicate (if o = true then 1 else 0) (oOut ++ [32])).flatten ++ t = outT o t := by
  cases o <;> rfl
section
variable {P : Program} {w : World} {K : PySem.W.Frag} {mg : Str → Option Value} {base : Heap}
abbrev s_law : Stmt := topS 27
theorem sc_law : FnScope ["_law_script", "_law_d", "_law_house_here", "_law_file", "_law_uses", "_law_told", "_law_one", "_law_due", "_law_head", "_law_parts", "_law_part"] ["_law_script"] (fnScope s_law) := fnScope_by (by decide +kernel)
def spLaw (K : PySem.W.Frag) : Sp := fun vs H Q _ => ∃ (a : Addr) (ns : List Int), vs = [.ref a] ∧ Scr K H a ns ∧ ∀ H', Q (.bl true) H'
theorem ok_law (T : ModsL K mg) (m_sorted : mg "sorted" = none) {k : Nat} (hk : 1 ≤ k) (c__law_dice : Cal P w K mg base 1 "_law_dice" (spDice K) []) (c__law_house : Cal P w K mg base k "_law_house" (spHouse K 4) []) (c_text_of : Cal P w K mg base k "text_of" (spTextOf K) []) (c__law_like : Cal P w K mg base 1 "_law_like" (spLike K 1) []) (c__law_flat : Cal P w K mg base k "_law_flat" (spFlat K 4) []) (c__law_lines : Cal P w K mg base k "_law_lines" (spLines K 5) [])
    {f : Addr} {fd : FuncData} (F : C8.Fun K "law" "law" s_law f fd) : FnOk P w K mg base C8.CX0 (k + 1) f fd ["_law_script"] (spLaw K) := by
  refine C8.fn0 F sc_law (fun vs H Q E h => ?_) (fun cdv A outer s H vs Q E hr h => ?_)
  · obtain ⟨_, _, rfl, _⟩ := h
    rfl
  · obtain ⟨a, ns, rfl, hS, q⟩ := h
    have m_int := T.m_int
    have hu := hu_of hr
    have hu64 := hr.units
    obtain ⟨y1, y2, y3, y4, y5⟩ := lits_u
    obtain ⟨_, _, z3, _, _, _, z7, _, _, z10⟩ := lits_r
    obtain ⟨_, _, _, _, _, x6, _, x8⟩ := lits_x
    obtain ⟨w1, w2, _, _, _, _, x7, _⟩ := lits_w
    refine ⟨_, (pss_cons (ps_set (i := 1) sc_law.nd rfl (.inl rfl) (C8.pe_c c__law_dice hr (by first | decide | exact Nat.le_refl _ | omega) (by rfl) (pa_cons (pv 0) pa_nil)))
      (pss_cons (ps_set (i := 2) sc_law.nd rfl (.inl rfl) (C8.pe_c c__law_house hr (by first | decide | exact Nat.le_refl _ | omega) (by rfl) (pa_cons (pv 1) (pa_cons pe_int (pa_cons pe_int pa_nil)))))
      (pss_cons (ps_for PassesOwn.never rfl (pi_list (pe_callB (call_sortedD rfl) (by rfl) m_sorted PyProof.Rows.boot_sorted (pa_cons (pv 2) pa_nil))) (pg_name (i := 3) sc_law.nd rfl (.inl rfl)) (pss_cons (ps_asg (pe_dget hu (pv 2) (pv 3) (fun _ _ => rfl)) (pg_tup rfl (pgs_cons (pg_name (i := 4) sc_law.nd rfl (.inl rfl)) (pgs_cons (pg_name (i := 5) sc_law.nd rfl (.inl rfl)) pgs_nil))))
      (pss_cons (ps_set (i := 7) sc_law.nd rfl (.inl rfl) (pe_op op_rep (pe_lst (pa_cons (pe_op op_add_str pe_str (pe_join pe_str (pe_lc (own := [("_law_one", 6)]) (g := (gName 6)) (tt := tYes) rfl sc_law.nd (pi_tup (pv 4)) (blkOk_by (N := ["_law_script", "_law_d", "_law_house_here", "_law_file", "_law_uses", "_law_told", "_law_one", "_law_due", "_law_head", "_law_parts", "_law_part"]) (sc := C8.fnScope s_law) (by decide +kernel)) (fun _ _ _ _ _ => pg_name (i := 6) sc_law.nd rfl (Or.inl rfl)) (fun _ _ _ _ _ => pts_nil) (fun _ _ _ _ _ => (pe_ix (show IxR _ (rIxT K) from ix_tup) (pv 6) pe_int (fun _ _ => rfl)))))) pa_nil)) (pe_callTy call_int1 (by rfl) m_int Wt.bt_int (pa_cons (pe_cmpR (op_neD hu64) (pv 4) (pe_tup pa_nil) (nomark _)) pa_nil))))
      (pss_cons (ps_for PassesOwn.never rfl (pi_tup (pv 5)) (pg_name (i := 6) sc_law.nd rfl (.inl rfl)) (pss_cons (ps_set (i := 8) sc_law.nd rfl (.inl rfl) (pe_op op_add_str (pe_op op_add_str (pe_op op_add_str (pe_op Wt.op_rep_str pe_str (pe_callTy call_int1 (by rfl) m_int Wt.bt_int (pa_cons (pe_ix ix_tup (pv 6) pe_int (fun _ _ => rfl)) pa_nil))) (pe_ix ix_tup (pv 6) pe_int (fun _ _ => rfl))) pe_str) (pe_ix ix_tup (pv 6) pe_int (fun _ _ => rfl))))
      (pss_one (ps_if (pt_cmpR op_eq (pe_ix ix_tup (pv 6) pe_int (fun _ _ => rfl)) pe_str (nomark _)) (pss_cons (ps_set (i := 9) sc_law.nd rfl (.inl rfl) (pe_join pe_str (pe_lc (own := [("_law_part", 10)]) (g := (gName 10)) (tt := tYes) rfl sc_law.nd (pi_tup (pe_ix ix_tup (pv 6) pe_int (fun _ _ => rfl))) (blkOk_by (N := ["_law_script", "_law_d", "_law_house_here", "_law_file", "_law_uses", "_law_told", "_law_one", "_law_due", "_law_head", "_law_parts", "_law_part"]) (sc := C8.fnScope s_law) (by decide +kernel)) (fun _ _ _ _ _ => pg_name (i := 10) sc_law.nd rfl (Or.inl rfl)) (fun _ _ _ _ _ => pts_nil) (fun _ _ _ _ _ => (pe_op op_add_str (pe_op op_add_str (pe_ix (show IxR _ (rIxT K) from ix_tup) (pv 10) pe_int (fun _ _ => rfl)) pe_str) (pe_ix (show IxR _ (rIxT K) from ix_tup) (pv 10) pe_int (fun _ _ => rfl)))))))
      (pss_cons (ps_expr (pe_bm PySem.F.plainAttrs_list PySem.F.slot_list_append PySem.F.type_list_append mt_append (pv 7) (pa_cons (pe_op op_add_str (pe_op op_add_str (pe_op op_add_str (pe_op op_add_str (pv 8) pe_str) (pv 9)) pe_str) (pe_ifExp (pt_cmpR op_ne (pe_ix ix_tup (pv 6) pe_int (fun _ _ => rfl)) pe_str (nomark _)) (pe_op op_add_str pe_str (pe_ix ix_tup (pv 6) pe_int (fun _ _ => rfl))) pe_str)) pa_nil)))
      (pss_one (ps_set (i := 7) sc_law.nd rfl (.inl rfl) (pe_op op_cat (pe_op op_cat (pv 7) (C8.pe_c c__law_lines hr (by first | decide | exact Nat.le_refl _ | omega) (by rfl) (pa_cons (pe_ix ix_tup (pv 6) pe_int (fun _ _ => rfl)) (pa_cons pe_str pa_nil)))) (pe_lst (pa_cons pe_str pa_nil))))))) (pss_one (ps_expr (pe_bm PySem.F.plainAttrs_list PySem.F.slot_list_append PySem.F.type_list_append mt_append (pv 7) (pa_cons (pe_op op_add_str (pe_op op_add_str (pv 8) pe_str) (C8.pe_c c__law_flat hr (by first | decide | exact Nat.le_refl _ | omega) (by rfl) (pa_cons (pe_ix ix_tup (pv 6) pe_int (fun _ _ => rfl)) (pa_cons pe_int pa_nil)))) pa_nil))))))))
      (pss_one (ps_if (pt_not (pt_val (C8.pe_c c__law_like hr (by first | decide | exact Nat.le_refl _ | omega) (by rfl) (pa_cons (C8.pe_c c_text_of hr (by first | decide | exact Nat.le_refl _ | omega) (by rfl) (pa_cons (pe_dget hu (pv 2) (pv 3) (fun _ _ => rfl)) pa_nil)) (pa_cons (pe_join pe_str (pv 7)) pa_nil))))) (pss_one (ps_ret pe_bl)) pss_nil))))))
      (pss_one (ps_ret (pe_cmpR op_eq (C8.pe_c c_text_of hr (by first | decide | exact Nat.le_refl _ | omega) (by rfl) (pa_cons (pe_tup (pa_cons (pe_tup pa_nil) (pa_cons (pe_tup pa_nil) pa_nil))) pa_nil)) pe_str (nomark _))))))), ?_⟩
    refine q_asgG (c_call ?_)
    refine (show EvA (tCons (tVar 0) tNil) _ H [.ref a] from ea_cons (ev_var rfl) ea_nil) H (Ex.refl _) _ fun H0 e0 => ?_
    refine ⟨a, ns, rfl, hS.ex e0, fun d H1 hd0 e1 hd1 => ?_⟩
    have hD1 : Dc K H1 d a ns := ⟨hd1, (hS.ex e0).ex e1⟩
    show tSeq _ _ _ _ _
    dsimp only [L2.start, List.map, List.set, List.length, List.append, List.replicate]
    refine q_asgG (c_call ?_)
    refine (show EvA (tCons (tVar 1) (tCons (tC (.int 3)) (tCons (tC (.int 4)) tNil))) _ H1 [.ref d, .int 3, .int 4] from ea_cons (ev_var rfl) (ea_cons ev_c (ea_cons ev_c ea_nil))) H1 (Ex.refl _) _ fun H2 e2 => ?_
    refine ⟨d, a, ns, 3, 4, rfl, by decide, by decide, by decide, by decide, hD1.ex e2, fun p H3 e3 hp hA => ?_⟩
    show tSeq _ _ _ _ _
    try dsimp only [List.set]
    obtain ⟨hs, hsd, hnd, hne, hfew, hgood, hfile⟩ := hA
    refine q_forSorted (ks := hs.map fun e => S e.1) (ev_var rfl) hsd (by unfold kvF; rw [List.map_map, List.map_map] <;> rfl) (by rw [List.length_map]; omega) (fun σ' H' => ∃ u3 u4 u5 u6 u7 u8 u9 u10 : Option V, σ' = [some (.ref a), some (.ref d), some (.ref p), u3, u4, u5, u6, u7, u8, u9, u10] ∧ Ex H3 H') (fun H4 e4 => ⟨_, _, _, _, _, _, _, _, rfl, e4⟩) ?_ ?_
    · rintro l ys σ' H4 y hy hl0 hl ⟨u3, u4, u5, u6, u7, u8, u9, u10, rfl, x4⟩
      dsimp only [List.set]
      obtain ⟨e, he, rfl⟩ := List.mem_map.mp hy
      obtain ⟨e', he', hew, hval⟩ := kvF_get (hs := hs) (w := e.1) (List.mem_map.mpr ⟨e, he, rfl⟩)
      obtain ⟨us, ds, hT, hru, hu2, hrt, _, _⟩ := (hfile e' he').tx (Tx.of x4)
      obtain ⟨rows, htx⟩ := txf_ex hru hu2 hrt (by decide)
      have htx0 := htx
      cases htx with
      | @mk _ _ fs ls hus h2 htt hll hsl =>
      have hul := txUses_len hus
      refine q_asgG (ev_dget (ev_var rfl) (ev_var rfl) (x4 _ _ hsd) hval H4 (Ex.refl _) _ fun H5 e5 => g_pair (Td.tx (Tx.of e5) _ _ hT) fun uv tv hU hD => ?_)
      try dsimp only [List.set]
      have hf24 : 12 * fs.length ≤ 12 * 2 := Nat.mul_le_mul_left _ (by omega)
      have hsep := sep_short hul.2
      have hUs : Shp 64 (.tuple us) := (shp_tup (txUses_shp hus) (by omega)).up (by decide)
      cases hU with
      | @tup ua uxs _ hua hux =>
      refine q_asgLT (ts := useT fs) (elt_is (elt_rep (k := if us = [] then 0 else 1) (elt_lst (eat_cons (es_add (es_cl y4) (es_join (es_cl x8) (elt_lcAll (ev_var rfl) hua hux hul.1 (by omega) (fun _ => rfl) fun i x d s H6 e6 g1 g2 hTx => ?_) (fits_sep hul.2 (by omega))) ?_) eat_nil) (by show 1 ≤ 100000; decide)) (ev_int01 (ev_neNilT (ev_var rfl) (.tup hua hux) hUs)) ?_ ?_ ?_) ?_) fun m H6 hm0 e6 hm6 => ?_
      · obtain ⟨rfl, gs⟩ := txUses_at hus g1 g2
        exact ev_ixTs (j := 1) (ev_var rfl) hTx ev_c rfl
      · have : oUse.length = 3 := by decide
        simp only [List.length_append, List.length_cons, List.length_nil]
        omega
      · by_cases z : us = []
        · rw [decide_eq_true z, if_pos z] <;> rfl
        · rw [decide_eq_false z, if_neg z] <;> rfl
      · show 1 * _ ≤ _
        split <;> decide
      · split <;> decide
      · unfold useT
        by_cases z : us = []
        · have : fs = [] := List.eq_nil_of_length_eq_zero (by rw [← hul.1, z]; rfl)
          rw [if_pos z, if_pos this] <;> rfl
        · have : ¬ fs = [] := by
            intro y
            rw [y] at hul
            exact z (List.eq_nil_of_length_eq_zero hul.1)
          rw [if_neg z, if_neg this] <;> rfl
      try dsimp only [List.set]
      have hul1 := useT_len fs
      have hD6 := Td.tx (Tx.of e6) _ _ hD
      have hm4 : H4 m = none := fresh_back e5 hm0
      have e46 := e5.trans e6
      cases hD6 with
      | @tup ta txs _ hta htx =>
      refine q_forT (ev_var rfl) (st_of hta) (fun i σ' H' => ∃ (m : Addr) (u6 u8 u9 u10 : Option V) (dn rs : List (List Nat)), σ' = [some (.ref a), some (.ref d), some (.ref p), some (.str (S e.1)), some (.ref ua), some (.ref ta), u6, some (.ref m), u8, u9, u10] ∧ H4 m = none ∧ Ex H4 H' ∧ Tx H6 H' ∧ ls = dn ++ rs ∧ TxTolds (ds.drop i) rs ∧ H' m = some (tL (useT fs ++ dn))) (fun H7 e7 => ⟨m, _, _, _, _, [], ls, rfl, hm4, e46.trans e7, Tx.of e7, rfl, htt, by rw [List.append_nil]; exact e7 _ _ hm6⟩) (fun i σ' H' _ ⟨_, _, _, _, _, _, _, _, _, _, h, _⟩ => st_of (h _ _ hta)) ?_ ?_
      · rintro i x σ' H7 hxi ⟨m, u6, u8, u9, u10, dn, rs, rfl, hm0, e7, x7', hdr, tr, hm⟩
        obtain ⟨dd, hd, hTx⟩ := (TdAll.tx x7' _ _ htx).at hxi
        have hdd : ds.drop i = dd :: ds.drop (i + 1) := by
          have hlt := (List.getElem?_eq_some_iff.mp hd).1
          rw [List.drop_eq_getElem_cons hlt, (List.getElem?_eq_some_iff.mp hd).2]
        rw [hdd] at tr
        cases tr with
        | @cons _ _ l1 ls1 r1 a1 =>
        have hlen : dn.length + (l1.length + ls1.length) ≤ 150 := by
          rw [hdr, List.length_append, List.length_append] at hll
          exact hll
        try dsimp only [List.set]
        obtain ⟨kw, o, n, more, rfl, hkl, hn⟩ : ∃ (kw : List Nat) (o : Bool) (n : List Nat) (more : List PyData), dd = .tuple (.str (S kw) :: .none :: .bool o :: .str (S n) :: more) ∧ kw.length ≤ 5 ∧ n.length ≤ 6 := by
          cases r1 with
          | worth hw gn => exact ⟨_, _, _, _, rfl, by rcases hw with rfl | rfl <;> decide, nm_len gn⟩
          | def_ gn => exact ⟨_, _, _, _, rfl, by decide, nm_len gn⟩
        have hoo := outT_len o (kw ++ [32] ++ n)
        have hho : (headL o kw n).length ≤ 20 := by
          unfold headL
          simp only [List.length_append, List.length_cons, List.length_nil] at hoo
          omega
        refine q_asg (v := .str (S (headL o kw n))) (ev_is (es_add (es_add (es_add (es_rep (k := if o = true then 1 else 0) (es_cl y3) (ev_is (ev_int01 (ev_ixTb (j := 2) (ev_var rfl) hTx ev_c rfl)) ?_) (by decide) (by split <;> decide)) (ev_ixTs (j := 0) (ev_var rfl) hTx ev_c rfl) ?_) (es_cl x7) ?_) (ev_ixTs (j := 3) (ev_var rfl) hTx ev_c rfl) ?_) ?_) fun H8 e8 => ?_
        · cases o <;> rfl
        · have : (List.replicate (if o = true then 1 else 0) (oOut ++ [32])).flatten.length ≤ 4 := by cases o <;> decide
          omega
        · have : (List.replicate (if o = true then 1 else 0) (oOut ++ [32])).flatten.length ≤ 4 := by cases o <;> decide
          simp only [List.length_append, List.length_cons, List.length_nil]
          omega
        · have : (List.replicate (if o = true then 1 else 0) (oOut ++ [32])).flatten.length ≤ 4 := by cases o <;> decide
          simp only [List.length_append, List.length_cons, List.length_nil]
          omega
        · unfold headL
          rw [← out_rep, List.append_assoc, List.append_assoc, List.append_assoc]
        try dsimp only [List.set]
        have hT8 := Td.tx (Tx.of e8) _ _ hTx
        have e48 := e7.trans e8
        have x68 : Tx H6 H8 := x7'.trans (Tx.of e8)
        refine s_if (et_test (ev_eqS (ev_ixTs (j := 0) (ev_var rfl) hT8 ev_c rfl) (es_cl y1))) (fun hb H9 e9 => ?_) (fun hb H9 e9 => ?_)
        · have hkw := of_decide_eq_true hb
          generalize hd0 : PyData.tuple (.str (S kw) :: .none :: .bool o :: .str (S n) :: more) = d0 at r1
          cases r1 with
          | @worth w1 _ _ _ _ hw =>
            injection hd0 with hd0
            injection hd0 with a1 _
            injection a1 with a1
            have := S_inj a1
            rw [hkw] at this
            rcases hw with rfl | rfl <;> exact absurd this (by decide)
          | @def_ n2 kd o2 ps dss ss lss gn hps h6 hkd ta2 hl3 hs6 =>
            injection hd0 with hd0
            injection hd0 with b1 hd0
            injection hd0 with _ hd0
            injection hd0 with b2 hd0
            injection hd0 with b3 hd0
            injection b2 with b2
            injection b3 with b3
            have b3 := S_inj b3
            subst b2 b3 hd0
            have hT9 := Td.tx (Tx.of e9) _ _ hT8
            obtain ⟨hpl, hps2⟩ := txParts_len hps
            have hpsep := sep_short hps2
            have h72 : 12 * ss.length ≤ 12 * 6 := Nat.mul_le_mul_left _ (by omega)
            obtain ⟨hk4, hk3⟩ := kind_len hkd
            obtain ⟨px, hpxT, hpxE⟩ := ev_ixTd (K := K) (σ := [some (.ref a), some (.ref d), some (.ref p), some (.str (S e.1)), some (.ref ua), some (.ref ta), some x, some (.ref m), some (.str (S (headL o kw n))), u9, u10]) (ta := tVar 6) (tb := tC (.int 4)) (j := 4) (ev_var rfl) hT9 ev_c (show [PyData.str (S kw), .none, .bool o, .str (S n), .tuple ps, .str (S kd), .tuple dss, .none][4]? = some (.tuple ps) from rfl)
            cases hpxT with
            | @tup pa pxs _ hpa hpx =>
            refine q_asg (v := .str (S (TL.joinL sepT ss))) (es_join (es_cl x8) (elt_lcAll hpxE hpa hpx hpl (by omega) (fun _ => rfl) fun i x d s H10 e10 g1 g2 hTx => ?_) (fits_sep hps2 (by omega))) fun H10 e10 => ?_
            · obtain ⟨pn, pk, rfl, rfl, gpn, hpk⟩ := txParts_at hps g1 g2
              have := nm_len gpn
              have hpk3 : pk.length ≤ 3 := by
                have all : ∀ x ∈ kinds, x.length ≤ 3 := by decide
                exact all pk hpk
              refine es_add (es_add (ev_ixTs (j := 1) (ev_var rfl) hTx ev_c rfl) (es_cl x7) ?_) (ev_ixTs (j := 2) (ev_var rfl) hTx ev_c rfl) ?_
              · show _ + 1 ≤ _
                omega
              · rw [List.length_append]
                show _ + 1 + _ ≤ _
                omega
            try dsimp only [List.set]
            have e810 := e9.trans e10
            have hT10 := Td.tx (Tx.of e810) _ _ hT8
            refine q_app ((e8.trans e810) _ _ hm) (ev_var rfl) (es_add (b := kindT kd) (es_add (es_add (es_add (ev_var rfl) (es_cl w1) ?_) (ev_var rfl) ?_) (es_cl w2) ?_) (ev_if (et_test (ev_neS (ev_ixTs (j := 5) (ev_var rfl) hT10 ev_c rfl) (es_cl x6))) (fun hx => ?_) (fun hx => ?_)) ?_) ?_ fun H11 e11 => ?_
            · show _ + 1 ≤ _
              omega
            · simp only [List.length_append, List.length_cons, List.length_nil]
              omega
            · simp only [List.length_append, List.length_cons, List.length_nil]
              omega
            · have : ¬ kd = [] := by
                intro z
                rw [z] at hx
                exact absurd hx (by decide)
              unfold kindT
              rw [if_neg this]
              refine es_add (es_cl x7) (ev_ixTs (j := 5) (ev_var rfl) hT10 ev_c rfl) ?_
              show 1 + _ ≤ _
              omega
            · have : kd = [] := by
                by_cases z : kd = []
                · exact z
                · rw [decide_eq_false z] at hx
                  exact absurd hx (by decide)
              unfold kindT
              rw [if_pos this]
              exact es_cl x6
            · simp only [List.length_append, List.length_cons, List.length_nil]
              omega
            · simp only [List.length_map, List.length_append, List.length_cons, List.length_nil] at hlen ⊢
              omega
            have e411 := Ex.mut (((e48.trans e810).trans e11)) hm0 (o := .lst (((useT fs ++ dn).map fun z => V.str (S z)) ++ [.str (S (headL o kw n ++ [40] ++ TL.joinL sepT ss ++ [41] ++ kindT kd))]))
            have x811 : Tx H8 (upd H11 m (.lst (((useT fs ++ dn).map fun z => V.str (S z)) ++ [.str (S (headL o kw n ++ [40] ++ TL.joinL sepT ss ++ [41] ++ kindT kd))]))) := (Tx.of (e810.trans e11)).trans (Tx.lst ((((e8.trans e810).trans e11)) _ _ hm))
            have hm11 : (upd H11 m (.lst (((useT fs ++ dn).map fun z => V.str (S z)) ++ [.str (S (headL o kw n ++ [40] ++ TL.joinL sepT ss ++ [41] ++ kindT kd))]))) m = some (tL (useT fs ++ dn ++ [headL o kw n ++ [40] ++ TL.joinL sepT ss ++ [41] ++ kindT kd])) := by
              rw [upd_same]
              simp only [tL, List.map_append, List.map_cons, List.map_nil]
            generalize (upd H11 m (.lst (((useT fs ++ dn).map fun z => V.str (S z)) ++ [.str (S (headL o kw n ++ [40] ++ TL.joinL sepT ss ++ [41] ++ kindT kd))]))) = H12 at e411 x811 hm11 ⊢
            obtain ⟨py, hpyT, hpyE⟩ := ev_ixTd (K := K) (σ := [some (.ref a), some (.ref d), some (.ref p), some (.str (S e.1)), some (.ref ua), some (.ref ta), some x, some (.ref m), some (.str (S (headL o kw n))), some (.str (S (TL.joinL sepT ss))), u10]) (ta := tVar 6) (tb := tC (.int 6)) (j := 6) (ev_var rfl) (Td.tx x811 _ _ hT8) ev_c (show [PyData.str (S kw), .none, .bool o, .str (S n), .tuple ps, .str (S kd), .tuple dss, .none][6]? = some (.tuple dss) from rfl)
            have hll1 : lss.length + 2 ≤ 150 := by
              simp only [List.length_append, List.length_map, List.length_cons, List.length_nil] at hlen
              omega
            refine s_asgLT (elt_cat (elt_catV (ev_var rfl) hm11 (elt_call (ts := lss.map indT) (ea_cons hpyE (ea_cons (ev_is ev_c (congrArg V.str z10)) ea_nil)) fun H13 e13 Q2 q2 => ⟨py, dss, 4, lss, [32, 32], rfl, ta2, Td.tx (Tx.of e13) _ _ hpyT, by decide, hl3, hs6, by decide, q2⟩) ?_) (elt_lst (eat_cons (es_cl z7) eat_nil) (by show 1 ≤ 100000; decide)) ?_) fun m2 H13 hm20 e13 hm2 => ⟨m2, _, _, _, _, dn ++ ([outT o (defT n ss kd)] ++ lss.map indT ++ [oEnd]), ls1, rfl, fresh_back e411 hm20, e411.trans e13, (x68.trans x811).trans (Tx.of e13), hdr.trans (List.append_assoc ..).symm, a1, ?_⟩
            · simp only [List.length_append, List.length_map, List.length_cons, List.length_nil] at hlen ⊢
              omega
            · simp only [List.length_append, List.length_map, List.length_cons, List.length_nil] at hlen ⊢
              omega
            · rw [hm2]
              have : headL o kw n ++ [40] ++ TL.joinL sepT ss ++ [41] ++ kindT kd = outT o (defT n ss kd) := by
                unfold headL defT
                rw [hkw]
                simp only [out_app, List.append_assoc]
              rw [this]
              simp only [List.append_assoc]
        · have hkw := of_decide_eq_false hb
          generalize hd0 : PyData.tuple (.str (S kw) :: .none :: .bool o :: .str (S n) :: more) = d0 at r1
          cases r1 with
          | def_ =>
            injection hd0 with hd0
            injection hd0 with a1 _
            injection a1 with a1
            exact absurd (S_inj a1) hkw
          | @worth w1 _ s _ ee hw gn r hl4 =>
            injection hd0 with hd0
            injection hd0 with b1 hd0
            injection hd0 with _ hd0
            injection hd0 with b2 hd0
            injection hd0 with b3 hd0
            injection b1 with b1
            injection b2 with b2
            injection b3 with b3
            have b3 := S_inj b3
            have b1 := S_inj b1
            subst b1 b2 b3 hd0
            have hT9 := Td.tx (Tx.of e9) _ _ hT8
            obtain ⟨px, hpxT, hpxE⟩ := ev_ixTd (K := K) (σ := [some (.ref a), some (.ref d), some (.ref p), some (.str (S e.1)), some (.ref ua), some (.ref ta), some x, some (.ref m), some (.str (S (headL o kw n))), u9, u10]) (ta := tVar 6) (tb := tC (.int 4)) (j := 4) (ev_var rfl) hT9 ev_c (show [PyData.str (S kw), .none, .bool o, .str (S n), ee][4]? = some ee from rfl)
            refine s_app ((e8.trans e9) _ _ hm) (ev_var rfl) (es_add (es_add (ev_var rfl) (es_cl z3) ?_) (es_flat (ea_cons hpxE (ea_cons ev_c ea_nil)) rfl r hpxT (by decide) (by omega)) ?_) ?_ fun H10 e10 => ⟨m, _, _, _, _, dn ++ [outT o (kw ++ [32] ++ n ++ [32, 61, 32] ++ s)], ls1, rfl, hm0, Ex.mut (e48.trans (e9.trans e10)) hm0, (x68.trans (Tx.of (e9.trans e10))).trans (Tx.lst ((e8.trans (e9.trans e10)) _ _ hm)), hdr.trans (List.append_assoc ..).symm, a1, ?_⟩
            · show _ + 3 ≤ _
              omega
            · simp only [List.length_append, List.length_cons, List.length_nil]
              omega
            · simp only [List.length_map, List.length_append, List.length_cons, List.length_nil] at hlen ⊢
              omega
            · rw [upd_same]
              have : headL o kw n ++ [32, 61, 32] ++ s = outT o (kw ++ [32] ++ n ++ [32, 61, 32] ++ s) := by
                unfold headL
                simp only [out_app, List.append_assoc]
              rw [this]
              simp only [tL, List.map_append, List.map_cons, List.map_nil, List.append_assoc]
      · rintro σ' H7 ⟨m, u6, u8, u9, u10, dn, rs, rfl, hm0, e7, x7', hdr, tr, hm⟩
        rw [htx.len, List.drop_length] at tr
        cases tr
        rw [List.append_nil] at hdr
        subst hdr
        have hT7 := Td.tx (Tx.of e7) _ _ hT
        refine s_likeS (es_textOf (ed_of (ev_dget (ev_var rfl) (ev_var rfl) ((x4.trans e7) _ _ hsd) hval) hT7) htx0) (es_joinV (es_cl y5) (ev_var rfl) hm htx0.fits) (by decide) fun H8 e8 => ⟨⟨_, _, _, _, _, _, _, _, rfl, (x4.trans e7).trans e8⟩, (e7.trans e8) _ _ hl⟩
    · rintro σ' H4 ⟨u3, u4, u5, u6, u7, u8, u9, u10, rfl, x4⟩
      have hE : TxFile (.tuple [.tuple [], .tuple []]) (useT [] ++ []) := .mk .nil (by decide) .nil (by decide) (fun l hl => by cases hl)
      exact s_ret (ev_is (ev_eqS (es_textOf (ed_tup (ead_cons (ed_tup ead_nil (Nat.zero_le _)) (ead_cons (ed_tup ead_nil (Nat.zero_le _)) ead_nil)) (by show 2 ≤ 100000; decide)) hE) (es_cl x6)) rfl) fun H5 _ => q H5
end
end Wt

set_option Elab.async false
set_option linter.all false
set_option maxRecDepth 100000
set_option maxHeartbeats 4000000
namespace Wt
open PySem PySem.Spec PyProof.Rows L2 SX Evl
open C8 (Def Cal cal0 fnScope_by fnScope)
/-! The end. -/
theorem scr_of {K : PySem.W.Frag} {H : Hp} {a : Addr} {ns : List Int} (hl : ns.length ≤ 63) (o : Only H) (h : SqL K H a (ns.map V.int)) : Scr K H a ns := by
  refine ⟨hl, fun H' f => ?_⟩
  rcases h with (h | ⟨ob, h⟩) | h
  · rcases o a with z | ⟨ob, xs, z⟩
    · rw [z] at h
      cases h
    · rw [z] at h
      cases h
  · exact .inl (.inr ⟨ob, f a ob _ h⟩)
  · exact .inr h
theorem cal_up {P : Program} {w : World} {K : PySem.W.Frag} {mg : Str → Option Value} {base : Heap} {j k : Nat} {x : Str} {sp : Sp} {dvs : List V} (c : Cal P w K mg base j x sp dvs) (h : j ≤ k) : Cal P w K mg base k x sp dvs := by
  obtain ⟨f, fd, ps, ds, F, h1, h2, h3, h4⟩ := c.ex
  exact ⟨f, fd, ps, ds, F.mono h, h1, h2, h3, h4⟩
theorem cal_no {P : Program} {w : World} {K : PySem.W.Frag} {mg : Str → Option Value} {base : Heap} {k : Nat} {x : Str} {st : Stmt} {f : Addr} {fd : FuncData} {ps : List Str} {sp : Sp} (F : Def K mg x st f fd) (b : Binds K fd ps []) (h : ∀ vs H Q E, ¬ sp vs H Q E) : Cal P w K mg base k x sp [] :=
  ⟨f, fd, ps, [], ⟨fun vs H Q E q => absurd q (h vs H Q E), fun A outer s H args us vs Q E _ _ _ _ q => absurd q (h vs H Q E)⟩, F.mgf, F.kp, b, .nil⟩
theorem one_no {K : PySem.W.Frag} (vs : List V) (H : Hp) (Q : VK) (E : XK) : ¬ spOne K 0 vs H Q E := by
  rintro ⟨_, _, _, _, _, _, _, _, _, _, _, _, _, _, h, _⟩
  exact absurd h (Nat.not_lt_zero _)
theorem wt_no {K : PySem.W.Frag} (vs : List V) (H : Hp) (Q : VK) (E : XK) : ¬ spWT K 0 vs H Q E := by
  rintro ⟨_, _, _, _, _, _, _, _, _, h, _⟩
  exact absurd h (Nat.not_lt_zero _)
theorem rowT_no {K : PySem.W.Frag} (vs : List V) (H : Hp) (Q : VK) (E : XK) : ¬ spRowT K 0 vs H Q E := by
  rintro ⟨_, _, _, _, _, _, _, h, _⟩
  exact absurd h (Nat.not_lt_zero _)
theorem flat_no {K : PySem.W.Frag} (vs : List V) (H : Hp) (Q : VK) (E : XK) : ¬ spFlat K 0 vs H Q E := by
  rintro ⟨_, _, _, _, _, _, _, _, h, _⟩
  exact absurd h (Nat.not_lt_zero _)
theorem lines_no {K : PySem.W.Frag} (vs : List V) (H : Hp) (Q : VK) (E : XK) : ¬ spLines K 0 vs H Q E := by
  rintro ⟨_, _, _, _, _, _, _, _, h, _⟩
  exact absurd h (Nat.not_lt_zero _)
/-- what the dict LOOSE holds -/
def looseB (K : PySem.W.Frag) (a : Addr) : Bool :=
  (opsW.all fun k => match PySem.W.nsIn K a (S k) with
    | some (some (.int i _)) => decide (i = (lvl k : Nat) + 1)
    | _ => false) &&
  sngW.all fun k => match PySem.W.nsIn K a (S k) with
    | some none => true
    | _ => false
def looseKeys : List Str := ["or", "and", "not", "=", "<>", "<", "<=", "+", "-", "*", "/", "mod", "neg"]
theorem loose_mk {K : PySem.W.Frag} {w : World} {mg : Str → Option Value} {aL : Addr} {t : Tok} (h1 : mg "LOOSE" = some (.ref aL)) (h2 : mg "LOOSEST" = some (.int 1 t)) (hd : He.dicW K aL = some (He.keysIn w.params looseKeys)) (hv : looseB K aL = true) : ∃ es n, LooseM K w mg aL es n := by
  obtain ⟨es, n, D⟩ := He.dicW_ok hd
  unfold looseB at hv
  rw [Bool.and_eq_true] at hv
  refine ⟨es, n, ⟨_, h1, rfl⟩, ⟨_, h2, ⟨_, rfl⟩⟩, D, fun k hk => ?_, fun k hk => ?_⟩
  · have h := List.all_eq_true.mp hv.1 k hk
    cases e : PySem.W.nsIn K aL (S k) with
    | none =>
      rw [e] at h
      cases h
    | some r =>
      rw [e] at h
      cases r with
      | none => cases h
      | some u =>
        cases u with
        | int i t =>
          have hi := of_decide_eq_true h
          subst hi
          exact ⟨es, n, _, D.at_, D.lit, e, ⟨_, rfl⟩⟩
        | _ => cases h
  · have h := List.all_eq_true.mp hv.2 k hk
    cases e : PySem.W.nsIn K aL (S k) with
    | none =>
      rw [e] at h
      cases h
    | some r =>
      rw [e] at h
      cases r with
      | none => rfl
      | some u => cases h
theorem all_mk {l : PySem.W.OpenLaw} {w : World} {K : PySem.W.Frag} {h : Heap} {mg : Str → Option Value} {fa : Addr} (X : K.In h) (G : h.Ns mainGlobals mg) (hfa : mg "law" = some (.ref fa))
    {aL : Addr} {tL0 : Tok} (g_L : PySem.W.nsIn K mainGlobals "LOOSE" = some (some (.ref aL))) (g_LT : PySem.W.nsIn K mainGlobals "LOOSEST" = some (some (.int 1 tL0))) (d_L : He.dicW K aL = some (He.keysIn w.params looseKeys)) (v_L : looseB K aL = true)
    (z_min : PySem.W.nsIn K mainGlobals "min" = some none) (z_sorted : PySem.W.nsIn K mainGlobals "sorted" = some none)
    {od__law_dice an__law_dice : Option Addr} {sl__law_dice : Array (Option Value)} {oc__law_dice kV__law_dice dc__law_dice pm__law_dice cd__law_dice ct__law_dice : Value} {f__law_dice : Addr}
    (a__law_dice : PySem.W.nsIn K mainGlobals "_law_dice" = some (some (.ref f__law_dice))) (l__law_dice : K.lookup f__law_dice = some ⟨oc__law_dice, od__law_dice, .func (PySem.W.fnOf "_law_dice" "_law_dice" (C8.fnArgs s__law_dice) (C8.fnBody s__law_dice) (C8.fnScope s__law_dice) .none kV__law_dice dc__law_dice pm__law_dice an__law_dice cd__law_dice ct__law_dice), sl__law_dice⟩)
    (c__law_dice : PySem.W.codeIn K cd__law_dice "_law_dice" = true) (k__law_dice : PySem.W.keepIn K (.ref f__law_dice) = true)
    {od__law_next an__law_next : Option Addr} {sl__law_next : Array (Option Value)} {oc__law_next kV__law_next dc__law_next pm__law_next cd__law_next ct__law_next : Value} {f__law_next : Addr}
    (a__law_next : PySem.W.nsIn K mainGlobals "_law_next" = some (some (.ref f__law_next))) (l__law_next : K.lookup f__law_next = some ⟨oc__law_next, od__law_next, .func (PySem.W.fnOf "_law_next" "_law_next" (C8.fnArgs s__law_next) (C8.fnBody s__law_next) (C8.fnScope s__law_next) .none kV__law_next dc__law_next pm__law_next an__law_next cd__law_next ct__law_next), sl__law_next⟩)
    (c__law_next : PySem.W.codeIn K cd__law_next "_law_next" = true) (k__law_next : PySem.W.keepIn K (.ref f__law_next) = true)
    {od__law_like an__law_like : Option Addr} {sl__law_like : Array (Option Value)} {oc__law_like kV__law_like dc__law_like pm__law_like cd__law_like ct__law_like : Value} {f__law_like : Addr}
    (a__law_like : PySem.W.nsIn K mainGlobals "_law_like" = some (some (.ref f__law_like))) (l__law_like : K.lookup f__law_like = some ⟨oc__law_like, od__law_like, .func (PySem.W.fnOf "_law_like" "_law_like" (C8.fnArgs s__law_like) (C8.fnBody s__law_like) (C8.fnScope s__law_like) .none kV__law_like dc__law_like pm__law_like an__law_like cd__law_like ct__law_like), sl__law_like⟩)
    (c__law_like : PySem.W.codeIn K cd__law_like "_law_like" = true) (k__law_like : PySem.W.keepIn K (.ref f__law_like) = true)
    {od__law_pick an__law_pick : Option Addr} {sl__law_pick : Array (Option Value)} {oc__law_pick kV__law_pick dc__law_pick pm__law_pick cd__law_pick ct__law_pick : Value} {f__law_pick : Addr}
    (a__law_pick : PySem.W.nsIn K mainGlobals "_law_pick" = some (some (.ref f__law_pick))) (l__law_pick : K.lookup f__law_pick = some ⟨oc__law_pick, od__law_pick, .func (PySem.W.fnOf "_law_pick" "_law_pick" (C8.fnArgs s__law_pick) (C8.fnBody s__law_pick) (C8.fnScope s__law_pick) .none kV__law_pick dc__law_pick pm__law_pick an__law_pick cd__law_pick ct__law_pick), sl__law_pick⟩)
    (c__law_pick : PySem.W.codeIn K cd__law_pick "_law_pick" = true) (k__law_pick : PySem.W.keepIn K (.ref f__law_pick) = true)
    {od__law_word an__law_word : Option Addr} {sl__law_word : Array (Option Value)} {oc__law_word kV__law_word dc__law_word pm__law_word cd__law_word ct__law_word : Value} {f__law_word : Addr}
    (a__law_word : PySem.W.nsIn K mainGlobals "_law_word" = some (some (.ref f__law_word))) (l__law_word : K.lookup f__law_word = some ⟨oc__law_word, od__law_word, .func (PySem.W.fnOf "_law_word" "_law_word" (C8.fnArgs s__law_word) (C8.fnBody s__law_word) (C8.fnScope s__law_word) .none kV__law_word dc__law_word pm__law_word an__law_word cd__law_word ct__law_word), sl__law_word⟩)
    (c__law_word : PySem.W.codeIn K cd__law_word "_law_word" = true) (k__law_word : PySem.W.keepIn K (.ref f__law_word) = true)
    {od__law_e an__law_e : Option Addr} {sl__law_e : Array (Option Value)} {oc__law_e kV__law_e dc__law_e pm__law_e cd__law_e ct__law_e : Value} {f__law_e : Addr}
    (a__law_e : PySem.W.nsIn K mainGlobals "_law_e" = some (some (.ref f__law_e))) (l__law_e : K.lookup f__law_e = some ⟨oc__law_e, od__law_e, .func (PySem.W.fnOf "_law_e" "_law_e" (C8.fnArgs s__law_e) (C8.fnBody s__law_e) (C8.fnScope s__law_e) .none kV__law_e dc__law_e pm__law_e an__law_e cd__law_e ct__law_e), sl__law_e⟩)
    (c__law_e : PySem.W.codeIn K cd__law_e "_law_e" = true) (k__law_e : PySem.W.keepIn K (.ref f__law_e) = true)
    {od__law_rows an__law_rows : Option Addr} {sl__law_rows : Array (Option Value)} {oc__law_rows kV__law_rows dc__law_rows pm__law_rows cd__law_rows ct__law_rows : Value} {f__law_rows : Addr}
    (a__law_rows : PySem.W.nsIn K mainGlobals "_law_rows" = some (some (.ref f__law_rows))) (l__law_rows : K.lookup f__law_rows = some ⟨oc__law_rows, od__law_rows, .func (PySem.W.fnOf "_law_rows" "_law_rows" (C8.fnArgs s__law_rows) (C8.fnBody s__law_rows) (C8.fnScope s__law_rows) .none kV__law_rows dc__law_rows pm__law_rows an__law_rows cd__law_rows ct__law_rows), sl__law_rows⟩)
    (c__law_rows : PySem.W.codeIn K cd__law_rows "_law_rows" = true) (k__law_rows : PySem.W.keepIn K (.ref f__law_rows) = true)
    {od__law_one_row an__law_one_row : Option Addr} {sl__law_one_row : Array (Option Value)} {oc__law_one_row kV__law_one_row dc__law_one_row pm__law_one_row cd__law_one_row ct__law_one_row : Value} {f__law_one_row : Addr}
    (a__law_one_row : PySem.W.nsIn K mainGlobals "_law_one_row" = some (some (.ref f__law_one_row))) (l__law_one_row : K.lookup f__law_one_row = some ⟨oc__law_one_row, od__law_one_row, .func (PySem.W.fnOf "_law_one_row" "_law_one_row" (C8.fnArgs s__law_one_row) (C8.fnBody s__law_one_row) (C8.fnScope s__law_one_row) .none kV__law_one_row dc__law_one_row pm__law_one_row an__law_one_row cd__law_one_row ct__law_one_row), sl__law_one_row⟩)
    (c__law_one_row : PySem.W.codeIn K cd__law_one_row "_law_one_row" = true) (k__law_one_row : PySem.W.keepIn K (.ref f__law_one_row) = true)
    {od__law_filled an__law_filled : Option Addr} {sl__law_filled : Array (Option Value)} {oc__law_filled kV__law_filled dc__law_filled pm__law_filled cd__law_filled ct__law_filled : Value} {f__law_filled : Addr}
    (a__law_filled : PySem.W.nsIn K mainGlobals "_law_filled" = some (some (.ref f__law_filled))) (l__law_filled : K.lookup f__law_filled = some ⟨oc__law_filled, od__law_filled, .func (PySem.W.fnOf "_law_filled" "_law_filled" (C8.fnArgs s__law_filled) (C8.fnBody s__law_filled) (C8.fnScope s__law_filled) .none kV__law_filled dc__law_filled pm__law_filled an__law_filled cd__law_filled ct__law_filled), sl__law_filled⟩)
    (c__law_filled : PySem.W.codeIn K cd__law_filled "_law_filled" = true) (k__law_filled : PySem.W.keepIn K (.ref f__law_filled) = true)
    {od__law_house an__law_house : Option Addr} {sl__law_house : Array (Option Value)} {oc__law_house kV__law_house dc__law_house pm__law_house cd__law_house ct__law_house : Value} {f__law_house : Addr}
    (a__law_house : PySem.W.nsIn K mainGlobals "_law_house" = some (some (.ref f__law_house))) (l__law_house : K.lookup f__law_house = some ⟨oc__law_house, od__law_house, .func (PySem.W.fnOf "_law_house" "_law_house" (C8.fnArgs s__law_house) (C8.fnBody s__law_house) (C8.fnScope s__law_house) .none kV__law_house dc__law_house pm__law_house an__law_house cd__law_house ct__law_house), sl__law_house⟩)
    (c__law_house : PySem.W.codeIn K cd__law_house "_law_house" = true) (k__law_house : PySem.W.keepIn K (.ref f__law_house) = true)
    {od__law_level an__law_level : Option Addr} {sl__law_level : Array (Option Value)} {oc__law_level kV__law_level dc__law_level pm__law_level cd__law_level ct__law_level : Value} {f__law_level : Addr}
    (a__law_level : PySem.W.nsIn K mainGlobals "_law_level" = some (some (.ref f__law_level))) (l__law_level : K.lookup f__law_level = some ⟨oc__law_level, od__law_level, .func (PySem.W.fnOf "_law_level" "_law_level" (C8.fnArgs s__law_level) (C8.fnBody s__law_level) (C8.fnScope s__law_level) .none kV__law_level dc__law_level pm__law_level an__law_level cd__law_level ct__law_level), sl__law_level⟩)
    (c__law_level : PySem.W.codeIn K cd__law_level "_law_level" = true) (k__law_level : PySem.W.keepIn K (.ref f__law_level) = true)
    {od__law_flat an__law_flat : Option Addr} {sl__law_flat : Array (Option Value)} {oc__law_flat kV__law_flat dc__law_flat pm__law_flat cd__law_flat ct__law_flat : Value} {f__law_flat : Addr}
    (a__law_flat : PySem.W.nsIn K mainGlobals "_law_flat" = some (some (.ref f__law_flat))) (l__law_flat : K.lookup f__law_flat = some ⟨oc__law_flat, od__law_flat, .func (PySem.W.fnOf "_law_flat" "_law_flat" (C8.fnArgs s__law_flat) (C8.fnBody s__law_flat) (C8.fnScope s__law_flat) .none kV__law_flat dc__law_flat pm__law_flat an__law_flat cd__law_flat ct__law_flat), sl__law_flat⟩)
    (c__law_flat : PySem.W.codeIn K cd__law_flat "_law_flat" = true) (k__law_flat : PySem.W.keepIn K (.ref f__law_flat) = true)
    {od__law_lines an__law_lines : Option Addr} {sl__law_lines : Array (Option Value)} {oc__law_lines kV__law_lines dc__law_lines pm__law_lines cd__law_lines ct__law_lines : Value} {f__law_lines : Addr}
    (a__law_lines : PySem.W.nsIn K mainGlobals "_law_lines" = some (some (.ref f__law_lines))) (l__law_lines : K.lookup f__law_lines = some ⟨oc__law_lines, od__law_lines, .func (PySem.W.fnOf "_law_lines" "_law_lines" (C8.fnArgs s__law_lines) (C8.fnBody s__law_lines) (C8.fnScope s__law_lines) .none kV__law_lines dc__law_lines pm__law_lines an__law_lines cd__law_lines ct__law_lines), sl__law_lines⟩)
    (c__law_lines : PySem.W.codeIn K cd__law_lines "_law_lines" = true) (k__law_lines : PySem.W.keepIn K (.ref f__law_lines) = true)
    {od_whole_text an_whole_text : Option Addr} {sl_whole_text : Array (Option Value)} {oc_whole_text kV_whole_text dc_whole_text pm_whole_text cd_whole_text ct_whole_text : Value} {f_whole_text : Addr}
    (a_whole_text : PySem.W.nsIn K mainGlobals "whole_text" = some (some (.ref f_whole_text))) (l_whole_text : K.lookup f_whole_text = some ⟨oc_whole_text, od_whole_text, .func (PySem.W.fnOf "whole_text" "whole_text" (C8.fnArgs s_whole_text) (C8.fnBody s_whole_text) (C8.fnScope s_whole_text) .none kV_whole_text dc_whole_text pm_whole_text an_whole_text cd_whole_text ct_whole_text), sl_whole_text⟩)
    (c_whole_text : PySem.W.codeIn K cd_whole_text "whole_text" = true) (k_whole_text : PySem.W.keepIn K (.ref f_whole_text) = true)
    {od_worth_text an_worth_text : Option Addr} {sl_worth_text : Array (Option Value)} {oc_worth_text kV_worth_text dc_worth_text pm_worth_text cd_worth_text ct_worth_text : Value} {f_worth_text : Addr}
    (a_worth_text : PySem.W.nsIn K mainGlobals "worth_text" = some (some (.ref f_worth_text))) (l_worth_text : K.lookup f_worth_text = some ⟨oc_worth_text, od_worth_text, .func (PySem.W.fnOf "worth_text" "worth_text" (C8.fnArgs s_worth_text) (C8.fnBody s_worth_text) (C8.fnScope s_worth_text) .none kV_worth_text dc_worth_text pm_worth_text an_worth_text cd_worth_text ct_worth_text), sl_worth_text⟩)
    (c_worth_text : PySem.W.codeIn K cd_worth_text "worth_text" = true) (k_worth_text : PySem.W.keepIn K (.ref f_worth_text) = true)
    {od_two_text an_two_text : Option Addr} {sl_two_text : Array (Option Value)} {oc_two_text kV_two_text dc_two_text pm_two_text cd_two_text ct_two_text : Value} {f_two_text : Addr}
    (a_two_text : PySem.W.nsIn K mainGlobals "two_text" = some (some (.ref f_two_text))) (l_two_text : K.lookup f_two_text = some ⟨oc_two_text, od_two_text, .func (PySem.W.fnOf "two_text" "two_text" (C8.fnArgs s_two_text) (C8.fnBody s_two_text) (C8.fnScope s_two_text) .none kV_two_text dc_two_text pm_two_text an_two_text cd_two_text ct_two_text), sl_two_text⟩)
    (c_two_text : PySem.W.codeIn K cd_two_text "two_text" = true) (k_two_text : PySem.W.keepIn K (.ref f_two_text) = true)
    {od_single_text an_single_text : Option Addr} {sl_single_text : Array (Option Value)} {oc_single_text kV_single_text dc_single_text pm_single_text cd_single_text ct_single_text : Value} {f_single_text : Addr}
    (a_single_text : PySem.W.nsIn K mainGlobals "single_text" = some (some (.ref f_single_text))) (l_single_text : K.lookup f_single_text = some ⟨oc_single_text, od_single_text, .func (PySem.W.fnOf "single_text" "single_text" (C8.fnArgs s_single_text) (C8.fnBody s_single_text) (C8.fnScope s_single_text) .none kV_single_text dc_single_text pm_single_text an_single_text cd_single_text ct_single_text), sl_single_text⟩)
    (c_single_text : PySem.W.codeIn K cd_single_text "single_text" = true) (k_single_text : PySem.W.keepIn K (.ref f_single_text) = true)
    {od_row_texts an_row_texts : Option Addr} {sl_row_texts : Array (Option Value)} {oc_row_texts kV_row_texts dc_row_texts pm_row_texts cd_row_texts ct_row_texts : Value} {f_row_texts : Addr}
    (a_row_texts : PySem.W.nsIn K mainGlobals "row_texts" = some (some (.ref f_row_texts))) (l_row_texts : K.lookup f_row_texts = some ⟨oc_row_texts, od_row_texts, .func (PySem.W.fnOf "row_texts" "row_texts" (C8.fnArgs s_row_texts) (C8.fnBody s_row_texts) (C8.fnScope s_row_texts) .none kV_row_texts dc_row_texts pm_row_texts an_row_texts cd_row_texts ct_row_texts), sl_row_texts⟩)
    (c_row_texts : PySem.W.codeIn K cd_row_texts "row_texts" = true) (k_row_texts : PySem.W.keepIn K (.ref f_row_texts) = true)
    {od_deeper_rows an_deeper_rows : Option Addr} {sl_deeper_rows : Array (Option Value)} {oc_deeper_rows kV_deeper_rows dc_deeper_rows pm_deeper_rows cd_deeper_rows ct_deeper_rows : Value} {f_deeper_rows : Addr}
    (a_deeper_rows : PySem.W.nsIn K mainGlobals "deeper_rows" = some (some (.ref f_deeper_rows))) (l_deeper_rows : K.lookup f_deeper_rows = some ⟨oc_deeper_rows, od_deeper_rows, .func (PySem.W.fnOf "deeper_rows" "deeper_rows" (C8.fnArgs s_deeper_rows) (C8.fnBody s_deeper_rows) (C8.fnScope s_deeper_rows) .none kV_deeper_rows dc_deeper_rows pm_deeper_rows an_deeper_rows cd_deeper_rows ct_deeper_rows), sl_deeper_rows⟩)
    (c_deeper_rows : PySem.W.codeIn K cd_deeper_rows "deeper_rows" = true) (k_deeper_rows : PySem.W.keepIn K (.ref f_deeper_rows) = true)
    {od_else_rows an_else_rows : Option Addr} {sl_else_rows : Array (Option Value)} {oc_else_rows kV_else_rows dc_else_rows pm_else_rows cd_else_rows ct_else_rows : Value} {f_else_rows : Addr}
    (a_else_rows : PySem.W.nsIn K mainGlobals "else_rows" = some (some (.ref f_else_rows))) (l_else_rows : K.lookup f_else_rows = some ⟨oc_else_rows, od_else_rows, .func (PySem.W.fnOf "else_rows" "else_rows" (C8.fnArgs s_else_rows) (C8.fnBody s_else_rows) (C8.fnScope s_else_rows) .none kV_else_rows dc_else_rows pm_else_rows an_else_rows cd_else_rows ct_else_rows), sl_else_rows⟩)
    (c_else_rows : PySem.W.codeIn K cd_else_rows "else_rows" = true) (k_else_rows : PySem.W.keepIn K (.ref f_else_rows) = true)
    {od_def_rows an_def_rows : Option Addr} {sl_def_rows : Array (Option Value)} {oc_def_rows kV_def_rows dc_def_rows pm_def_rows cd_def_rows ct_def_rows : Value} {f_def_rows : Addr}
    (a_def_rows : PySem.W.nsIn K mainGlobals "def_rows" = some (some (.ref f_def_rows))) (l_def_rows : K.lookup f_def_rows = some ⟨oc_def_rows, od_def_rows, .func (PySem.W.fnOf "def_rows" "def_rows" (C8.fnArgs s_def_rows) (C8.fnBody s_def_rows) (C8.fnScope s_def_rows) .none kV_def_rows dc_def_rows pm_def_rows an_def_rows cd_def_rows ct_def_rows), sl_def_rows⟩)
    (c_def_rows : PySem.W.codeIn K cd_def_rows "def_rows" = true) (k_def_rows : PySem.W.keepIn K (.ref f_def_rows) = true)
    {od_told_rows an_told_rows : Option Addr} {sl_told_rows : Array (Option Value)} {oc_told_rows kV_told_rows dc_told_rows pm_told_rows cd_told_rows ct_told_rows : Value} {f_told_rows : Addr}
    (a_told_rows : PySem.W.nsIn K mainGlobals "told_rows" = some (some (.ref f_told_rows))) (l_told_rows : K.lookup f_told_rows = some ⟨oc_told_rows, od_told_rows, .func (PySem.W.fnOf "told_rows" "told_rows" (C8.fnArgs s_told_rows) (C8.fnBody s_told_rows) (C8.fnScope s_told_rows) .none kV_told_rows dc_told_rows pm_told_rows an_told_rows cd_told_rows ct_told_rows), sl_told_rows⟩)
    (c_told_rows : PySem.W.codeIn K cd_told_rows "told_rows" = true) (k_told_rows : PySem.W.keepIn K (.ref f_told_rows) = true)
    {od_text_of an_text_of : Option Addr} {sl_text_of : Array (Option Value)} {oc_text_of kV_text_of dc_text_of pm_text_of cd_text_of ct_text_of : Value} {f_text_of : Addr}
    (a_text_of : PySem.W.nsIn K mainGlobals "text_of" = some (some (.ref f_text_of))) (l_text_of : K.lookup f_text_of = some ⟨oc_text_of, od_text_of, .func (PySem.W.fnOf "text_of" "text_of" (C8.fnArgs s_text_of) (C8.fnBody s_text_of) (C8.fnScope s_text_of) .none kV_text_of dc_text_of pm_text_of an_text_of cd_text_of ct_text_of), sl_text_of⟩)
    (c_text_of : PySem.W.codeIn K cd_text_of "text_of" = true) (k_text_of : PySem.W.keepIn K (.ref f_text_of) = true)
    {od_law an_law : Option Addr} {sl_law : Array (Option Value)} {oc_law kV_law dc_law pm_law cd_law ct_law : Value} {f_law : Addr}
    (a_law : PySem.W.nsIn K mainGlobals "law" = some (some (.ref f_law))) (l_law : K.lookup f_law = some ⟨oc_law, od_law, .func (PySem.W.fnOf "law" "law" (C8.fnArgs s_law) (C8.fnBody s_law) (C8.fnScope s_law) .none kV_law dc_law pm_law an_law cd_law ct_law), sl_law⟩)
    (c_law : PySem.W.codeIn K cd_law "law" = true) (k_law : PySem.W.keepIn K (.ref f_law) = true)
    (z_len : PySem.W.nsIn K mainGlobals "len" = some none)
    (z_enumerate : PySem.W.nsIn K mainGlobals "enumerate" = some none)
    (z_int : PySem.W.nsIn K mainGlobals "int" = some none)
    (z_str : PySem.W.nsIn K mainGlobals "str" = some none)
    (z_bool : PySem.W.nsIn K mainGlobals "bool" = some none)
    (z_tuple : PySem.W.nsIn K mainGlobals "tuple" = some none)
    (z_list : PySem.W.nsIn K mainGlobals "list" = some none)
    (z_range : PySem.W.nsIn K mainGlobals "range" = some none)
    (z_isinstance : PySem.W.nsIn K mainGlobals "isinstance" = some none) :
    ∃ fd : FuncData, (∀ (s : Shared) (v : Value), BindsTo s fd ⟨[v], []⟩ [("_law_script", v)]) ∧ ∀ base : Heap, K.In base → base.Ns mainGlobals mg → FnOk l.prog w K mg base C8.CX0 61 fa fd ["_law_script"] (spLaw K) := by
  have e : f_law = fa := by
    have z := (PySem.W.mg_of X G a_law).symm.trans hfa
    injection z with z
    injection z
  subst e
  have D__law_dice : Def K mg "_law_dice" s__law_dice f__law_dice _ := ⟨⟨_, _, _, _, _, _, _, _, _, _, rfl, l__law_dice, c__law_dice⟩, PySem.W.mg_of X G a__law_dice, k__law_dice⟩
  have b__law_dice := C8.Fun.binds D__law_dice.fn rfl (ps := ["_law_script"]) fun _ _ _ _ _ _ us hl => match us, hl with | [_], _ => rfl
  have D__law_next : Def K mg "_law_next" s__law_next f__law_next _ := ⟨⟨_, _, _, _, _, _, _, _, _, _, rfl, l__law_next, c__law_next⟩, PySem.W.mg_of X G a__law_next, k__law_next⟩
  have b__law_next := C8.Fun.binds D__law_next.fn rfl (ps := ["_law_dice_here", "_law_many"]) fun _ _ _ _ _ _ us hl => match us, hl with | [_, _], _ => rfl
  have D__law_like : Def K mg "_law_like" s__law_like f__law_like _ := ⟨⟨_, _, _, _, _, _, _, _, _, _, rfl, l__law_like, c__law_like⟩, PySem.W.mg_of X G a__law_like, k__law_like⟩
  have b__law_like := C8.Fun.binds D__law_like.fn rfl (ps := ["_law_found", "_law_due"]) fun _ _ _ _ _ _ us hl => match us, hl with | [_, _], _ => rfl
  have D__law_pick : Def K mg "_law_pick" s__law_pick f__law_pick _ := ⟨⟨_, _, _, _, _, _, _, _, _, _, rfl, l__law_pick, c__law_pick⟩, PySem.W.mg_of X G a__law_pick, k__law_pick⟩
  have b__law_pick := C8.Fun.binds D__law_pick.fn rfl (ps := ["_law_d", "_law_some"]) fun _ _ _ _ _ _ us hl => match us, hl with | [_, _], _ => rfl
  have D__law_word : Def K mg "_law_word" s__law_word f__law_word _ := ⟨⟨_, _, _, _, _, _, _, _, _, _, rfl, l__law_word, c__law_word⟩, PySem.W.mg_of X G a__law_word, k__law_word⟩
  have b__law_word := C8.Fun.binds D__law_word.fn rfl (ps := ["_law_d", "_law_used"]) fun _ _ _ _ _ _ us hl => match us, hl with | [_, _], _ => rfl
  have D__law_e : Def K mg "_law_e" s__law_e f__law_e _ := ⟨⟨_, _, _, _, _, _, _, _, _, _, rfl, l__law_e, c__law_e⟩, PySem.W.mg_of X G a__law_e, k__law_e⟩
  have b__law_e := C8.Fun.binds D__law_e.fn rfl (ps := ["_law_d", "_law_kind", "_law_c", "_law_deep"]) fun _ _ _ _ _ _ us hl => match us, hl with | [_, _, _, _], _ => rfl
  have D__law_rows : Def K mg "_law_rows" s__law_rows f__law_rows _ := ⟨⟨_, _, _, _, _, _, _, _, _, _, rfl, l__law_rows, c__law_rows⟩, PySem.W.mg_of X G a__law_rows, k__law_rows⟩
  have b__law_rows := C8.Fun.binds D__law_rows.fn rfl (ps := ["_law_d", "_law_c", "_law_deep", "_law_many"]) fun _ _ _ _ _ _ us hl => match us, hl with | [_, _, _, _], _ => rfl
  have D__law_one_row : Def K mg "_law_one_row" s__law_one_row f__law_one_row _ := ⟨⟨_, _, _, _, _, _, _, _, _, _, rfl, l__law_one_row, c__law_one_row⟩, PySem.W.mg_of X G a__law_one_row, k__law_one_row⟩
  have b__law_one_row := C8.Fun.binds D__law_one_row.fn rfl (ps := ["_law_d", "_law_c", "_law_deep"]) fun _ _ _ _ _ _ us hl => match us, hl with | [_, _, _], _ => rfl
  have D__law_filled : Def K mg "_law_filled" s__law_filled f__law_filled _ := ⟨⟨_, _, _, _, _, _, _, _, _, _, rfl, l__law_filled, c__law_filled⟩, PySem.W.mg_of X G a__law_filled, k__law_filled⟩
  have b__law_filled := C8.Fun.binds D__law_filled.fn rfl (ps := ["_law_d", "_law_plan", "_law_all_told", "_law_used"]) fun _ _ _ _ _ _ us hl => match us, hl with | [_, _, _, _], _ => rfl
  have D__law_house : Def K mg "_law_house" s__law_house f__law_house _ := ⟨⟨_, _, _, _, _, _, _, _, _, _, rfl, l__law_house, c__law_house⟩, PySem.W.mg_of X G a__law_house, k__law_house⟩
  have b__law_house := C8.Fun.binds D__law_house.fn rfl (ps := ["_law_d", "_law_many", "_law_size"]) fun _ _ _ _ _ _ us hl => match us, hl with | [_, _, _], _ => rfl
  have D__law_level : Def K mg "_law_level" s__law_level f__law_level _ := ⟨⟨_, _, _, _, _, _, _, _, _, _, rfl, l__law_level, c__law_level⟩, PySem.W.mg_of X G a__law_level, k__law_level⟩
  have b__law_level := C8.Fun.binds D__law_level.fn rfl (ps := ["_law_sign"]) fun _ _ _ _ _ _ us hl => match us, hl with | [_], _ => rfl
  have D__law_flat : Def K mg "_law_flat" s__law_flat f__law_flat _ := ⟨⟨_, _, _, _, _, _, _, _, _, _, rfl, l__law_flat, c__law_flat⟩, PySem.W.mg_of X G a__law_flat, k__law_flat⟩
  have b__law_flat := C8.Fun.binds D__law_flat.fn rfl (ps := ["_law_e_here", "_law_level_here"]) fun _ _ _ _ _ _ us hl => match us, hl with | [_, _], _ => rfl
  have D__law_lines : Def K mg "_law_lines" s__law_lines f__law_lines _ := ⟨⟨_, _, _, _, _, _, _, _, _, _, rfl, l__law_lines, c__law_lines⟩, PySem.W.mg_of X G a__law_lines, k__law_lines⟩
  have b__law_lines := C8.Fun.binds D__law_lines.fn rfl (ps := ["_law_rows_here", "_law_ahead"]) fun _ _ _ _ _ _ us hl => match us, hl with | [_, _], _ => rfl
  have D_whole_text : Def K mg "whole_text" s_whole_text f_whole_text _ := ⟨⟨_, _, _, _, _, _, _, _, _, _, rfl, l_whole_text, c_whole_text⟩, PySem.W.mg_of X G a_whole_text, k_whole_text⟩
  have b_whole_text := C8.Fun.binds D_whole_text.fn rfl (ps := ["worth"]) fun _ _ _ _ _ _ us hl => match us, hl with | [_], _ => rfl
  have D_worth_text : Def K mg "worth_text" s_worth_text f_worth_text _ := ⟨⟨_, _, _, _, _, _, _, _, _, _, rfl, l_worth_text, c_worth_text⟩, PySem.W.mg_of X G a_worth_text, k_worth_text⟩
  have b_worth_text := C8.Fun.binds D_worth_text.fn rfl (ps := ["worth", "least"]) fun _ _ _ _ _ _ us hl => match us, hl with | [_, _], _ => rfl
  have D_two_text : Def K mg "two_text" s_two_text f_two_text _ := ⟨⟨_, _, _, _, _, _, _, _, _, _, rfl, l_two_text, c_two_text⟩, PySem.W.mg_of X G a_two_text, k_two_text⟩
  have b_two_text := C8.Fun.binds D_two_text.fn rfl (ps := ["worth", "loose"]) fun _ _ _ _ _ _ us hl => match us, hl with | [_, _], _ => rfl
  have D_single_text : Def K mg "single_text" s_single_text f_single_text _ := ⟨⟨_, _, _, _, _, _, _, _, _, _, rfl, l_single_text, c_single_text⟩, PySem.W.mg_of X G a_single_text, k_single_text⟩
  have b_single_text := C8.Fun.binds D_single_text.fn rfl (ps := ["worth"]) fun _ _ _ _ _ _ us hl => match us, hl with | [_], _ => rfl
  have D_row_texts : Def K mg "row_texts" s_row_texts f_row_texts _ := ⟨⟨_, _, _, _, _, _, _, _, _, _, rfl, l_row_texts, c_row_texts⟩, PySem.W.mg_of X G a_row_texts, k_row_texts⟩
  have b_row_texts := C8.Fun.binds D_row_texts.fn rfl (ps := ["row"]) fun _ _ _ _ _ _ us hl => match us, hl with | [_], _ => rfl
  have D_deeper_rows : Def K mg "deeper_rows" s_deeper_rows f_deeper_rows _ := ⟨⟨_, _, _, _, _, _, _, _, _, _, rfl, l_deeper_rows, c_deeper_rows⟩, PySem.W.mg_of X G a_deeper_rows, k_deeper_rows⟩
  have b_deeper_rows := C8.Fun.binds D_deeper_rows.fn rfl (ps := ["rows"]) fun _ _ _ _ _ _ us hl => match us, hl with | [_], _ => rfl
  have D_else_rows : Def K mg "else_rows" s_else_rows f_else_rows _ := ⟨⟨_, _, _, _, _, _, _, _, _, _, rfl, l_else_rows, c_else_rows⟩, PySem.W.mg_of X G a_else_rows, k_else_rows⟩
  have b_else_rows := C8.Fun.binds D_else_rows.fn rfl (ps := ["rows"]) fun _ _ _ _ _ _ us hl => match us, hl with | [_], _ => rfl
  have D_def_rows : Def K mg "def_rows" s_def_rows f_def_rows _ := ⟨⟨_, _, _, _, _, _, _, _, _, _, rfl, l_def_rows, c_def_rows⟩, PySem.W.mg_of X G a_def_rows, k_def_rows⟩
  have b_def_rows := C8.Fun.binds D_def_rows.fn rfl (ps := ["one"]) fun _ _ _ _ _ _ us hl => match us, hl with | [_], _ => rfl
  have D_told_rows : Def K mg "told_rows" s_told_rows f_told_rows _ := ⟨⟨_, _, _, _, _, _, _, _, _, _, rfl, l_told_rows, c_told_rows⟩, PySem.W.mg_of X G a_told_rows, k_told_rows⟩
  have b_told_rows := C8.Fun.binds D_told_rows.fn rfl (ps := ["one"]) fun _ _ _ _ _ _ us hl => match us, hl with | [_], _ => rfl
  have D_text_of : Def K mg "text_of" s_text_of f_text_of _ := ⟨⟨_, _, _, _, _, _, _, _, _, _, rfl, l_text_of, c_text_of⟩, PySem.W.mg_of X G a_text_of, k_text_of⟩
  have b_text_of := C8.Fun.binds D_text_of.fn rfl (ps := ["tree"]) fun _ _ _ _ _ _ us hl => match us, hl with | [_], _ => rfl
  have D_law : Def K mg "law" s_law f_law _ := ⟨⟨_, _, _, _, _, _, _, _, _, _, rfl, l_law, c_law⟩, PySem.W.mg_of X G a_law, k_law⟩
  have b_law := C8.Fun.binds D_law.fn rfl (ps := ["_law_script"]) fun _ _ _ _ _ _ us hl => match us, hl with | [_], _ => rfl
  have TL : ModsL K mg := ⟨PySem.W.mg_none_of X G z_len, PySem.W.mg_none_of X G z_int, PySem.W.mg_none_of X G z_str, PySem.W.mg_none_of X G z_bool, PySem.W.mg_none_of X G z_tuple, PySem.W.mg_none_of X G z_list, PySem.W.mg_none_of X G z_range, PySem.W.mg_none_of X G z_isinstance⟩
  obtain ⟨es, n0, LM⟩ := loose_mk (w := w) (PySem.W.mg_of X G g_L) (PySem.W.mg_of X G g_LT) d_L v_L
  refine ⟨PySem.W.fnOf "law" "law" (C8.fnArgs s_law) (C8.fnBody s_law) (C8.fnScope s_law) .none kV_law dc_law pm_law an_law cd_law ct_law, fun s v => .of_eq rfl, fun base _ _ => ?_⟩
  have cd := ok_dice (ok_dice0 (P := l.prog) (w := w) (base := base) TL D__law_dice b__law_dice)
  have cn := ok_next (ok_next0 (P := l.prog) (w := w) (base := base) TL D__law_next b__law_next)
  have cp := ok_pick TL cn D__law_pick b__law_pick
  have cl := ok_like (P := l.prog) (w := w) (base := base) TL D__law_like b__law_like 1
  have cv := ok_level (P := l.prog) (w := w) (base := base) TL D__law_level b__law_level
  have cw := ok_word TL cn D__law_word b__law_word
  have e3 := ok_e (pm := 3) TL (by decide) cn cp D__law_e b__law_e 3
  have o0 : Cal l.prog w K mg base 5 "_law_one_row" (spOne K 0) [] := cal_no D__law_one_row b__law_one_row one_no
  have mn := PySem.W.mg_none_of X G z_min
  have r0 := ok_rows TL mn (by decide) o0 D__law_rows b__law_rows
  have o1 := ok_one TL (by decide) cn cp cw e3 r0 D__law_one_row b__law_one_row
  have r1 := ok_rows TL mn (by decide) o1 D__law_rows b__law_rows
  have o2 := ok_one TL (by decide) cn cp cw e3 r1 D__law_one_row b__law_one_row
  have r2 := ok_rows TL mn (by decide) o2 D__law_rows b__law_rows
  have o3 := ok_one TL (by decide) cn cp cw e3 r2 D__law_one_row b__law_one_row
  have r3 := ok_rows TL mn (by decide) o3 D__law_rows b__law_rows
  have o4 := ok_one TL (by decide) cn cp cw e3 r3 D__law_one_row b__law_one_row
  have r4 := ok_rows TL mn (by decide) o4 D__law_rows b__law_rows
  have cf := ok_filled TL (by decide) cn e3 r4 D__law_filled b__law_filled
  have ch := ok_house (N := 4) TL (by decide) (by decide) cn cp cw cf D__law_house b__law_house
  -- the texts of E, N levels of them
  have wt : ∀ N, Cal l.prog w K mg base (1 + 3 * N) "worth_text" (spWT K N) [] := fun N => by
    induction N with
    | zero => exact cal_no D_worth_text b_worth_text wt_no
    | succ N ih =>
      have a1 := ok_whole LM ih D_whole_text b_whole_text
      have a2 := ok_two LM ih D_two_text b_two_text
      have a3 := ok_single TL a1 D_single_text b_single_text
      exact ok_worthT (k := 1 + 3 * N + 2) LM a3 (cal_up a1 (Nat.le_succ _)) (cal_up ih (Nat.le_add_right _ 2)) (cal_up a2 (Nat.le_succ _)) D_worth_text b_worth_text
  have wh := ok_whole LM (wt 7) D_whole_text b_whole_text
  have rt : ∀ N, Cal l.prog w K mg base (23 + 3 * N) "row_texts" (spRowT K N) [] := fun N => by
    induction N with
    | zero => exact cal_no D_row_texts b_row_texts rowT_no
    | succ N ih =>
      have a1 := ok_deeper ih D_deeper_rows b_deeper_rows
      have a2 := ok_else a1 D_else_rows b_else_rows
      exact ok_rowT (k := 23 + 3 * N + 2) (cal_up wh (show 23 ≤ 23 + 3 * N + 2 by omega)) (cal_up a1 (Nat.le_succ _)) a2 D_row_texts b_row_texts
  have dp := ok_deeper (rt 5) D_deeper_rows b_deeper_rows
  have df := ok_defT dp D_def_rows b_def_rows
  have td := ok_toldT df (cal_up wh (by decide)) D_told_rows b_told_rows
  have to := ok_textOf td D_text_of b_text_of
  have fl : ∀ N, Cal l.prog w K mg base (1 + N) "_law_flat" (spFlat K N) [] := fun N => by
    induction N with
    | zero => exact cal_no D__law_flat b__law_flat flat_no
    | succ N ih => exact ok_flat (k := 1 + N) TL (by omega) cv ih D__law_flat b__law_flat
  have li : ∀ N, Cal l.prog w K mg base (5 + N) "_law_lines" (spLines K N) [] := fun N => by
    induction N with
    | zero => exact cal_no D__law_lines b__law_lines lines_no
    | succ N ih => exact ok_lines (k := 5 + N) (cal_up (fl 4) (by omega)) ih D__law_lines b__law_lines
  exact ok_law TL (PySem.W.mg_none_of X G z_sorted) (k := 60) (by decide) cd (cal_up ch (by decide)) (cal_up to (by decide)) cl (cal_up (fl 4) (by decide)) (cal_up (li 5) (by decide)) D_law.fn
end Wt
open PySem PySem.W PyProof.Rows
set_option maxRecDepth 100000 in
set_option maxHeartbeats 0 in
theorem PySem.Challenge.cw_wholetongue_k06_trees_written_one_way_holds : PySem.Challenge.rw_wholetongue_k06_trees_written_one_way.Holds := by
  w_on; o_law; k_head; (case hw => w_witness2)
  k_fill
  refine L2.walk_of (l := PySem.Challenge.rw_wholetongue_k06_trees_written_one_way) (n := 63) (k := 61) (x := "_law_script") (CX := fun _ => C8.CX0) (sp := fun w => Wt.spLaw _) rfl (by decide) rfl ⟨rfl, by decide, by decide⟩ (fun w h Y => PySem.W.kIn_of Y) ?F (fun _ _ a ns hl ho hS => ⟨a, ns, rfl, Wt.scr_of hl ho hS, fun _ => rfl⟩) (fun _ _ _ _ _ h => h)
  case F =>
    intro w mg fa h KX G hmg
    refine' Wt.all_mk KX G hmg ?g_L ?g_LT ?d_L ?v_L ?z_min ?z_sorted ?a__law_dice ?l__law_dice ?c__law_dice ?k__law_dice ?a__law_next ?l__law_next ?c__law_next ?k__law_next ?a__law_like ?l__law_like ?c__law_like ?k__law_like ?a__law_pick ?l__law_pick ?c__law_pick ?k__law_pick ?a__law_word ?l__law_word ?c__law_word ?k__law_word ?a__law_e ?l__law_e ?c__law_e ?k__law_e ?a__law_rows ?l__law_rows ?c__law_rows ?k__law_rows ?a__law_one_row ?l__law_one_row ?c__law_one_row ?k__law_one_row ?a__law_filled ?l__law_filled ?c__law_filled ?k__law_filled ?a__law_house ?l__law_house ?c__law_house ?k__law_house ?a__law_level ?l__law_level ?c__law_level ?k__law_level ?a__law_flat ?l__law_flat ?c__law_flat ?k__law_flat ?a__law_lines ?l__law_lines ?c__law_lines ?k__law_lines ?a_whole_text ?l_whole_text ?c_whole_text ?k_whole_text ?a_worth_text ?l_worth_text ?c_worth_text ?k_worth_text ?a_two_text ?l_two_text ?c_two_text ?k_two_text ?a_single_text ?l_single_text ?c_single_text ?k_single_text ?a_row_texts ?l_row_texts ?c_row_texts ?k_row_texts ?a_deeper_rows ?l_deeper_rows ?c_deeper_rows ?k_deeper_rows ?a_else_rows ?l_else_rows ?c_else_rows ?k_else_rows ?a_def_rows ?l_def_rows ?c_def_rows ?k_def_rows ?a_told_rows ?l_told_rows ?c_told_rows ?k_told_rows ?a_text_of ?l_text_of ?c_text_of ?k_text_of ?a_law ?l_law ?c_law ?k_law ?z_len ?z_enumerate ?z_int ?z_str ?z_bool ?z_tuple ?z_list ?z_range ?z_isinstance
    (case g_L => k_is); (case g_LT => k_is)
    (case d_L => first | k_is | kernel_rfl | exact rfl); (case v_L => first | decide +kernel | kernel_rfl | k_is)
    (case z_min => k_is); (case z_sorted => k_is)
    (case a__law_dice => k_is); (case l__law_dice => k_is); (case c__law_dice => k_is); (case k__law_dice => k_is)
    (case a__law_next => k_is); (case l__law_next => k_is); (case c__law_next => k_is); (case k__law_next => k_is)
    (case a__law_like => k_is); (case l__law_like => k_is); (case c__law_like => k_is); (case k__law_like => k_is)
    (case a__law_pick => k_is); (case l__law_pick => k_is); (case c__law_pick => k_is); (case k__law_pick => k_is)
    (case a__law_word => k_is); (case l__law_word => k_is); (case c__law_word => k_is); (case k__law_word => k_is)
    (case a__law_e => k_is); (case l__law_e => k_is); (case c__law_e => k_is); (case k__law_e => k_is)
    (case a__law_rows => k_is); (case l__law_rows => k_is); (case c__law_rows => k_is); (case k__law_rows => k_is)
    (case a__law_one_row => k_is); (case l__law_one_row => k_is); (case c__law_one_row => k_is); (case k__law_one_row => k_is)
    (case a__law_filled => k_is); (case l__law_filled => k_is); (case c__law_filled => k_is); (case k__law_filled => k_is)
    (case a__law_house => k_is); (case l__law_house => k_is); (case c__law_house => k_is); (case k__law_house => k_is)
    (case a__law_level => k_is); (case l__law_level => k_is); (case c__law_level => k_is); (case k__law_level => k_is)
    (case a__law_flat => k_is); (case l__law_flat => k_is); (case c__law_flat => k_is); (case k__law_flat => k_is)
    (case a__law_lines => k_is); (case l__law_lines => k_is); (case c__law_lines => k_is); (case k__law_lines => k_is)
    (case a_whole_text => k_is); (case l_whole_text => k_is); (case c_whole_text => k_is); (case k_whole_text => k_is)
    (case a_worth_text => k_is); (case l_worth_text => k_is); (case c_worth_text => k_is); (case k_worth_text => k_is)
    (case a_two_text => k_is); (case l_two_text => k_is); (case c_two_text => k_is); (case k_two_text => k_is)
    (case a_single_text => k_is); (case l_single_text => k_is); (case c_single_text => k_is); (case k_single_text => k_is)
    (case a_row_texts => k_is); (case l_row_texts => k_is); (case c_row_texts => k_is); (case k_row_texts => k_is)
    (case a_deeper_rows => k_is); (case l_deeper_rows => k_is); (case c_deeper_rows => k_is); (case k_deeper_rows => k_is)
    (case a_else_rows => k_is); (case l_else_rows => k_is); (case c_else_rows => k_is); (case k_else_rows => k_is)
    (case a_def_rows => k_is); (case l_def_rows => k_is); (case c_def_rows => k_is); (case k_def_rows => k_is)
    (case a_told_rows => k_is); (case l_told_rows => k_is); (case c_told_rows => k_is); (case k_told_rows => k_is)
    (case a_text_of => k_is); (case l_text_of => k_is); (case c_text_of => k_is); (case k_text_of => k_is)
    (case a_law => k_is); (case l_law => k_is); (case c_law => k_is); (case k_law => k_is)
    (case z_len => k_is)
    (case z_enumerate => k_is)
    (case z_int => k_is)
    (case z_str => k_is)
    (case z_bool => k_is)
    (case z_tuple => k_is)
    (case z_list => k_is)
    (case z_range => k_is)
    (case z_isinstance => k_is)
