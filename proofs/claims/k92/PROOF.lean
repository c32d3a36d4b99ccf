import PyProof.Rows.All
import Wide.All
import OpenK.AllK
import Wide.FinOn
import HandS.ForMost
import HandS.Codes
import HandS.Evl
import HandS.IsInst
import KE.GoesEnumKw
import KE.GoesMore
import HandS.SortKw
import HandS.ExcOwn
import HandS.ExcInit
import HandS.ExcField
import HandS.Lambda
import HandS.CallLocal
import HandS.Iter
import KE.KDictLaws
import HandS.Walk
import HandS.TupAny
import HandS.EndTab
import HandS.StrMore
import PySem.Challenge.RW_wholetongue_k92_trees_of_one_e
set_option Elab.async false
set_option linter.all false
set_option maxRecDepth 100000
/-! What is general: texts as lists of signs, readings of further rules. -/
namespace Wt
open PySem PySem.Spec PyProof.Rows L2 SX Evl

/-! ### texts -/
theorem slice_mid {a : List Nat} {i j : Nat} (h : i ≤ j) (hj : j ≤ a.length) : Txt.slice (S a) (some (i : Int)) (some (j : Int)) = S ((a.drop i).take (j - i)) := by
  have hl : (S a).length = a.length := S_len a
  have e := beq_iff_eq.mp (PyProof.Rows.slice_closesL (x := S a) (i := (i : Int)) (j := (j : Int)) (by omega) (by omega) (by rw [hl]; omega))
  refine e.trans (TL.ext_tl ?_)
  show (a.drop (i : Int).toNat).take ((j : Int) - (i : Int)).toNat = (a.drop i).take (j - i)
  rw [Int.toNat_natCast, show ((j : Int) - (i : Int)).toNat = j - i by omega]
theorem S1 (c : Nat) : (⟨#[c]⟩ : Str) = S [c] := rfl
theorem S_list (a : List Nat) : (S a).cps.toList = a := by simp [S]

/-! ### readings -/
section
variable {K : PySem.W.Frag} {σ : L2.St} {H H' : Hp} {ta tb te tx : TE} {t u : TT} {x y z v : V}
theorem rc_lenS {a : List Nat} (h : a.length ≤ 100000) : RC (fun xs H Q => ∃ z, xs = [.str z] ∧ z.length ≤ sizeLine ∧ Q (.int z.length) H) [.str (S a)] H (.int (a.length : Int)) := fun H1 _ Q q => by
  refine ⟨S a, rfl, ?_, ?_⟩
  · rw [S_len]
    exact sz_of h
  · rw [S_len]
    exact q H1 (Ex.refl H1)
theorem ev_lenS {a : List Nat} (ha : Ev ta σ H (.str (S a))) (h : a.length ≤ 100000) : Ev (tCB (fun xs H Q => ∃ z, xs = [.str z] ∧ z.length ≤ sizeLine ∧ Q (.int z.length) H) (tCons ta tNil)) σ H (.int (a.length : Int)) :=
  ev_cb (ea_cons ha ea_nil) (rc_lenS h)
theorem rv_inSign {c : Nat} {w : List Nat} : RV (fun x y H Q => ∃ (c : Nat) (z : Str), x = .str ⟨#[c]⟩ ∧ y = .str z ∧ Q (.bl (decide (c ∈ z.cps.toList))) H) (.str (S [c])) (.str (S w)) H (.bl (decide (c ∈ w))) := fun H1 _ Q q => by
  refine ⟨c, S w, rfl, rfl, ?_⟩
  rw [S_list]
  exact q H1 (Ex.refl H1)
/-- a text's sign -/
theorem rv_at {w : List Nat} {i : Nat} {c : Nat} (h : w.length ≤ 100000) (ha : w[i]? = some c) : RV rIxS (.str (S w)) (.int (i : Int)) H (.str (S [c])) := fun H1 _ Q q =>
  ⟨S w, (i : Int), c, rfl, rfl, by rw [S_len]; exact sz_of h, by rw [S_list]; exact atI_nat ha, q H1 (Ex.refl H1)⟩
theorem ev_sl {te : TE} {tl th : TO} {a : List Nat} {i j : Nat} (h : Ev te σ H (.str (S a))) (h1 : EvO tl σ H (some (i : Int))) (h2 : EvO th σ H (some (j : Int))) (hl : a.length ≤ 100000) (hi : i ≤ j) (hj : j ≤ a.length) :
    Ev (tSl C8.rSlX te tl th) σ H (.str (S ((a.drop i).take (j - i)))) := fun H1 e Q q =>
  h H1 e _ fun H2 e2 => h1 H2 (e.trans e2) _ fun H3 e3 => h2 H3 ((e.trans e2).trans e3) _ fun H4 e4 => by
    refine ⟨S a, rfl, ?_, ?_⟩
    · rw [S_len]
      exact sz_of hl
    · rw [slice_mid hi hj]
      exact q H4 ((e2.trans e3).trans e4)
end
end Wt

set_option Elab.async false
set_option linter.all false
set_option maxRecDepth 100000
set_option maxHeartbeats 4000000
/-! Rules of ours: enumerate from a start, dict.update, a text many times. -/
namespace Wt
open PySem PySem.Spec PyProof.Rows L2 SX Evl

theorem bt_int : bootBuiltins "int" = some (.type "int") := by decide +kernel
theorem bt_str : bootBuiltins "str" = some (.type "str") := by decide +kernel
theorem bt_bool : bootBuiltins "bool" = some (.type "bool") := by decide +kernel
theorem bt_list : bootBuiltins "list" = some (.type "list") := by decide +kernel
theorem bt_tuple : bootBuiltins "tuple" = some (.type "tuple") := by decide +kernel
theorem bt_enum : bootBuiltins "enumerate" = some (.type "enumerate") := by decide +kernel
theorem bt_isinstance : bootBuiltins "isinstance" = some (.builtin "isinstance") := by decide +kernel

/-! ### d.update(e) -/
def rDUpd : V → List V → Hp → VK → Prop := fun x vs H Q =>
  ∃ (a b : Addr) (ks ls : List (Key × V)), x = .ref a ∧ vs = [.ref b] ∧ a ≠ b ∧ H a = some (.dK ks) ∧ H b = some (.dK ls) ∧ ks.length + ls.length ≤ sizeLine ∧
    Q .non (upd H a (.dK (mergeK ks ls)))
theorem mt_dupdate {X : Cx} : MtR X "dict.update" rDUpd := by
  intro pins s σ H x vs v us Q I rx rv hyp
  obtain ⟨a, b, ks, ls, rfl, rfl, hab, ea, eb, hz, q⟩ := hyp
  obtain rfl : v = Value.ref a := rx
  obtain ⟨u, rfl, ru⟩ := rv.one
  obtain rfl : u = Value.ref b := ru
  obtain ⟨za, ha, va, ra, da⟩ := dk_of I.hok ea
  obtain ⟨zb, hb, vb, rb, db⟩ := dk_of I.hok eb
  have hsum : va.length + vb.length ≤ sizeLine := by
    rw [← ra.length, ← rb.length]
    exact hz
  refine call_meetsIn PySem.F.slot_dict_update da.typeIs PySem.F.entry_dict_update (PySem.F.args_dict_update_2 _ _)
    (meets_dict_update (mixKind X.prog X.w) a b hab hb) ⟨va, vb, da, db, hsum, fun h2 dd2 _ hs => ?_⟩
  have there : ∃ q, h2.get? a = some q := by
    obtain ⟨q, _, _, hq, _⟩ := dd2
    exact ⟨q, hq⟩
  have hl : (mergeK ks ls).length ≤ sizeLine := Nat.le_trans (length_mergeK ls ks) hz
  exact ⟨.non, _, d_write (t' := s.toks) I (by rw [ea]; exact True.intro) hs there (dk_new hl ha (KV.merge rb ra) dd2), rfl, q⟩

/-! ### a text many times -/
theorem mul_S {a : List Nat} {k : Nat} : Txt.mul (S a) (k : Int) = S (List.replicate k a).flatten := by
  unfold Txt.mul
  by_cases h0 : (k : Int) < 1
  · have e : k = 0 := by omega
    subst e
    rw [if_pos (by decide)]
    rfl
  · rw [if_neg h0]
    by_cases h1 : ((k : Int) == 1 || (S a).length == 0) = true
    · rw [if_pos h1]
      rw [Bool.or_eq_true] at h1
      rcases h1 with h1 | h1
      · have e : k = 1 := by
          have := eq_of_beq h1
          omega
        subst e
        show S a = S (a ++ [])
        rw [List.append_nil]
      · have e : a = [] := by
          have := eq_of_beq h1
          rw [S_len] at this
          exact List.length_eq_zero_iff.mp this
        subst e
        refine congrArg S ?_
        have : ∀ n : Nat, (List.replicate n ([] : List Nat)).flatten = [] := fun n => by
          induction n with
          | zero => rfl
          | succ n ih => rw [List.replicate_succ, List.flatten_cons, ih] <;> rfl
        rw [this]
    · rw [if_neg h1]
      have go : ∀ (n : Nat) (acc : List Nat), (List.replicate n (S a).cps).foldl (· ++ ·) acc.toArray = (acc ++ (List.replicate n a).flatten).toArray := fun n => by
        induction n with
        | zero =>
          intro acc
          show acc.toArray = (acc ++ []).toArray
          rw [List.append_nil]
        | succ n ih =>
          intro acc
          rw [List.replicate_succ, List.replicate_succ, List.foldl_cons, List.flatten_cons]
          have e : acc.toArray ++ (S a).cps = (acc ++ a).toArray := by simp [S]
          rw [e, ih, List.append_assoc]
      have e2 := go ((k : Int).toNat) []
      rw [Int.toNat_natCast] at e2 ⊢
      have e3 : (List.replicate k (S a).cps).foldl (· ++ ·) #[] = ((List.replicate k a).flatten).toArray := by
        refine Eq.trans ?_ (e2.trans ?_)
        · rfl
        · rw [List.nil_append]
      rw [e3]
def rRepS : R2 := fun x y H Q => ∃ (a : List Nat) (k : Nat), x = .str (S a) ∧ y = .int (k : Int) ∧ a.length ≤ 16 ∧ k ≤ 100000 ∧ Q (.str (S (List.replicate k a).flatten)) H
theorem op_rep_str {X : Cx} : OpR X (binaryOp .Mult) rRepS := by
  intro pins s σ H x y v u Q I rx ry hyp
  obtain ⟨a, k, rfl, rfl, ha, hk, q⟩ := hyp
  obtain ⟨t, rfl⟩ := rx
  obtain ⟨t2, rfl⟩ := ry
  refine SB.mul (mulOk_of 16 100000 (by rw [S_len]; exact ha) (by omega) (by omega) (by decide) (by decide)) fun t3 k3 => ?_
  rw [mul_S]
  exact ⟨.str (S (List.replicate k a).flatten), H, I.tok _, ⟨_, rfl⟩, q⟩

/-! ### enumerate(xs, start=k) -/
/-- the list at a as it stands at each turn, each item behind its number, from k on -/
def Itk0 (K : PySem.W.Frag) (a : Addr) (k : Int) : It where
  go := fun i H => ∃ (xs : List V) (x : V), SqL K H a xs ∧ xs[i]? = some x
  yld := fun i H v H' => ∃ (T : Addr) (x : V), v = .ref T ∧ H T = none ∧ H' = upd H T (.tup [.int (k + (i : Nat)), x]) ∧ ∀ xs, SqL K H a xs → xs[i]? = some x
  stop := fun i H => ∃ xs : List V, SqL K H a xs ∧ xs.length ≤ i
theorem turn_from {P : Program} {w : World} {K : PySem.W.Frag} {elts : List Expr} {kk : Nat} {tpos : Pos} (a e it : Addr) (k : Int) (hai : a ≠ it) (hae : a ≠ e) :
    Turn P w K (.Tuple elts kk tpos) (Itk0 K a k) [e, it] e (fun i h => (∃ old, IsEnum h e it (k + (i : Nat)) old) ∧ h.IsListIter it a i ∧ e ≠ it) where
  mem := List.mem_cons_self ..
  obj := by
    rintro i h ⟨⟨old, he⟩, ⟨o, ho, hc, hd⟩, _⟩ b hb
    rcases List.mem_cons.mp hb with rfl | hb
    · exact ⟨_, he, fun v q => nomatch q⟩
    · rw [List.mem_singleton.mp hb]
      exact ⟨o, ho, fun v q => by rw [hd] at q; cases q⟩
  keep := by
    rintro i h h2 ⟨⟨old, he⟩, hi, hne⟩ kp
    exact ⟨⟨old, kp e (List.mem_cons_self ..) _ he⟩, hi.at fun o q => kp it (List.mem_cons_of_mem _ (List.mem_singleton.mpr rfl)) o q, hne⟩
  item := by
    intro X hP hw hK hc i pins s σ H E I hf st hg
    subst hP hw hK
    obtain ⟨⟨old, he⟩, hit, hne⟩ := st
    obtain ⟨xs, x, hq, hx⟩ := hg
    obtain ⟨its, rv, p, hz⟩ := I.list hq
    obtain ⟨u, hu, ru⟩ := rv.get hx
    have hel : e < s.heap.objs.size := Heap.lt_size he
    have hil : it < s.heap.objs.size := by
      obtain ⟨_, q, _⟩ := hit
      exact Heap.lt_size q
    have hlt : i < its.toArray.size := by
      have := (List.getElem?_eq_some_iff.mp hu).1
      rw [List.size_toArray]
      exact this
    refine wpAny_pyNext_enum_itemC (Draws.list (prog := X.prog) (w := X.w) (A := X.A.in1) (show X.A.in1.handled = none from I.ok.hd hc) it a hai its.toArray) he ⟨hit, p.isList⟩ hlt hne (fun m => ?_) fun y h2 tk hy ho st2 hT hsz hk => ?_
    · rcases List.mem_cons.mp m with z | z
      · exact hne z
      · exact hae (List.mem_singleton.mp z).symm
    have hyu : y = u := by
      have z : its[i]? = some y := by simpa using hy
      rw [hu] at z
      exact (Option.some.inj z).symm
    subst hyu
    refine ⟨_, rfl, wpAny_letOwnedTupleGo_enum (s := { s with heap := h2, toks := tk + 1 }) ho fun h3 he3 sb => ?_⟩
    have hT2 := (sb.2 s.heap.objs.size (Nat.ne_of_gt hel)).trans hT
    have new : ObjOk X.prog X.w (upd H s.heap.objs.size (.tup [.int (k + (i : Nat)), x])) h3 s.heap.objs.size (.tup [.int (k + (i : Nat)), x]) :=
      ⟨by show 2 ≤ sizeLine; decide, [.int (k + (i : Nat)) tk, y], .cons ⟨_, rfl⟩ (.cons ru .nil), ⟨_, hT2, rfl, _, rfl⟩⟩
    have I1 := I.turnedNew (h' := h3) (t' := tk + 1) (ch := [e, it]) (fun b ob hb q => by
      have n1 : b ≠ e := fun z => hb (z ▸ List.mem_cons_self ..)
      have n2 : b ≠ it := fun z => hb (z ▸ List.mem_cons_of_mem _ (List.mem_singleton.mpr rfl))
      exact (sb.2 b n1).trans (hk b ob n1 n2 q)) hf (Nat.le_refl _) new
    refine ⟨.ref s.heap.objs.size, _, I1, rfl, ⟨_, x, rfl, I.hok.fresh (Nat.le_refl _), rfl, fun ys hy2 => ?_⟩, ⟨⟨y, ?_⟩, ?_, hne⟩, fun b hb => ?_⟩
    · rw [I.list_inj hy2 hq]
      exact hx
    · have e1 : k + ((i + 1 : Nat) : Int) = k + (i : Int) + 1 := by omega
      rw [e1]
      exact he3
    · exact st2.1.at fun o q => (sb.2 it (Ne.symm hne)).trans q
    · have hb2 : b < s.heap.objs.size := by
        rcases List.mem_cons.mp hb with rfl | z
        · exact hel
        · rw [List.mem_singleton.mp z]
          exact hil
      rw [upd_ne (Nat.ne_of_lt hb2)]
      exact (hf b hb).1
  done := by
    intro X hP hw hK hc i pins s σ H E I hf st hg
    subst hP hw hK
    obtain ⟨⟨old, he⟩, hit, hne⟩ := st
    obtain ⟨xs, hq, hx⟩ := hg
    obtain ⟨its, rv, p, hz⟩ := I.list hq
    obtain ⟨f0, f1, f2, f3, f4, f5⟩ := hf it (List.mem_cons_of_mem _ (List.mem_singleton.mpr rfl))
    have hl := rv.length
    have hT : s.TypeIs (.ref e) "enumerate" := ⟨_, he, rfl⟩
    have hnone : its.toArray[i]? = none := by
      simp
      omega
    unfold pyNext
    refine wpAny_bind (wpAny_attempt (wpAny_callSpecial?_slot (name := Str.ofString "__next__") hT PySem.F.slot_enumerate_next
      (wpAny_call_entry PySem.F.slot_enumerate_next hT PySem.F.entry_enumerate_next ?_ (PySem.F.args_enumerate_next_1 _))))
    show wpAny _ _ (field (.ref e) 2 >>= _) _ _ _
    refine wpAny_bind (wpAny_field he rfl (x := .ref it) rfl (wpAny_bind (wpAny_nextOf_list_end (I.ok.hd hc) hit p.isList hnone fun h2 x2 hE2 hx2 => ?_)))
    obtain ⟨o2, ho2, hc2⟩ := hx2
    exact wpAny_bind (wpAny_isInstance (T := "StopIteration") (b := true) ⟨o2, ho2, hc2⟩ isSubtype_stop
      (wpAny_pure ⟨rfl, I.turned (t' := s.toks) (fun b o hb q => hE2 b o hb q) f0 f1 f3 f4 f5⟩))
  self := by
    rintro A i s Q E ⟨⟨_, he⟩, _⟩ h
    exact wpAny_pyIter_enum he h
/-- a built-in class called with keywords -/
theorem callWith_tyKw {M : Model} {A : Around} {E : Value → Shared → Prop} {s : Shared} {env : Env} {pos : Pos} {T : String} {e : Expr} {rest : List Expr} {kws : List Keyword} {Q : Value → Shared → Prop}
    (h : wpAny M A (spliced (backTo pos (starEach (e :: rest) env))) (fun vs s1 => wpAny M A (evalAll ((backToKw pos (keywordEach kws env)).map (·.2)))
      (fun ks s2 => wpAny M A (call (.type T) vs (((backToKw pos (keywordEach kws env)).filterMap (·.1)).zip ks)) Q E s2) E s1) E s)
    (he : backTo pos (starEach (e :: rest) env) = (false, eval e env) :: backTo pos (starEach rest env) := by rfl)
    (hpl : (backTo pos (starEach (e :: rest) env)).any (·.1) = false := by rfl)
    (hall : (backToKw pos (keywordEach kws env)).all (·.1.isSome) = true := by rfl)
    (hkw : (backToKw pos (keywordEach kws env)).any (·.1.isNone) = false := by rfl) :
    wpAny M A (callWith pos (.type T) [] (backTo pos (starEach (e :: rest) env)) (backToKw pos (keywordEach kws env))) Q E s := by
  unfold callWith
  have h2 : wpAny M A (evalArgs (.type T) true (backTo pos (starEach (e :: rest) env)) (backToKw pos (keywordEach kws env))) (fun a s1 => wpAny M A (call (.type T) a.pos a.kw) Q E s1) E s := by
    rw [he] at h ⊢
    exact evalArgs_kwB hall h
  refine wpAny_bind (wpAny_holding (wpAny_mono h2 (fun a s1 h1 => wpAny_bind (wpAny_standAt ?_)) fun _ _ x => x))
  rw [hpl, hkw]
  refine wpAny_bind (wpAny_pure ?_)
  refine wpAny_bind (wpAny_mono h1 (fun r s2 hr => ?_) fun _ _ x => x)
  exact wpAny_bind (wpAny_holding (wpAny_point (wpAny_pure hr)))
def iFrom (K : PySem.W.Frag) (k : Int) (ta : TA) : TI := fun σ H R => ta σ H fun vs H1 => ∃ a xs, vs = [.ref a] ∧ SqL K H1 a xs ∧ R (Itk0 K a k) H1
theorem pi_enumS {X : Cx} {e : Expr} {ta : TA} {p pos tpos p1 p2 : Pos} {elts : List Expr} {kk j : Nat} {k : Int} (hg : Gl X "enumerate") (hm : X.mg "enumerate" = none) (ha : PA X [e] ta)
    (hk0 : -(2 ^ 63) ≤ k := by decide) (hk1 : k < 2 ^ 63 := by decide)
    (he : backTo pos (starEach [e] X.env) = (false, eval e X.env) :: backTo pos (starEach [] X.env) := by rfl) (hpl : (backTo pos (starEach [e] X.env)).any (·.1) = false := by rfl)
    (hall : (backToKw pos (keywordEach [⟨some "start", .Constant (.int k) j p1, p2⟩] X.env)).all (·.1.isSome) = true := by rfl)
    (hkw : (backToKw pos (keywordEach [⟨some "start", .Constant (.int k) j p1, p2⟩] X.env)).any (·.1.isNone) = false := by rfl)
    (hks : (backToKw pos (keywordEach [⟨some "start", .Constant (.int k) j p1, p2⟩] X.env)).filterMap (·.1) = [Str.ofString "start"] := by rfl) :
    PI X (.Tuple elts kk tpos) (.Call (.Name "enumerate" p) [e] [⟨some "start", .Constant (.int k) j p1, p2⟩] pos) (iFrom X.K k ta) := by
  refine ⟨fun pins s σ H R I h => wpAny_Call_Name_kw (ld_blt I hg hm bt_enum ?_ (by decide))⟩
  refine callWith_tyKw (thn (ha.run pos pins s σ H _ I h) fun us s1 ⟨vs, H1, I1, r1, q1⟩ => ?_) he hpl hall hkw
  refine thn ((pk_cons (pe_int (X := X) (pos := p1) (j := j) (i := k)) pk_nil).run pos pins s1 σ H1 (fun zs H2 => zs = [.int k] ∧ H2 = H1) I1 ⟨rfl, rfl⟩) fun ws s2 ⟨zs, H2, I2, r2, q2⟩ => ?_
  rw [hks]
  obtain ⟨rfl, rfl⟩ := q2
  obtain ⟨a, xs, rfl, hq, q⟩ := q1
  obtain ⟨u, rfl, ru⟩ := r1.one
  cases ru
  obtain ⟨u2, rfl, t2, rfl⟩ := r2.one
  obtain ⟨its, rv, p3, hz⟩ := I2.list hq
  refine enum_begins_start (begins_list a its.toArray) p3.isList hk0 hk1 fun h2 he2 hit hsz hk => wpAny_pyIter_enum he2 ?_
  have I3 : Inv X pins σ H2 { s2 with heap := h2 } := I2.kept (t' := s2.toks) hk
  have hal : a < s2.heap.objs.size := by
    obtain ⟨o, n, ho, _⟩ := p3
    exact Heap.lt_size ho
  refine ⟨s2.heap.objs.size + 1, [s2.heap.objs.size + 1, s2.heap.objs.size], _, _, H2, rfl, I3,
    turn_from a (s2.heap.objs.size + 1) s2.heap.objs.size k (Nat.ne_of_lt hal) (Nat.ne_of_lt (Nat.lt_succ_of_lt hal)), ⟨⟨.none, ?_⟩, ⟨_, hit, rfl, rfl⟩, Nat.succ_ne_self _⟩, fun b hb => ?_, q⟩
  · show IsEnum h2 (s2.heap.objs.size + 1) s2.heap.objs.size (k + ((0 : Nat) : Int)) .none
    rw [show k + ((0 : Nat) : Int) = k by omega]
    exact he2
  · have hle : s2.heap.objs.size ≤ b := by
      rcases List.mem_cons.mp hb with rfl | z
      · exact Nat.le_succ _
      · rw [List.mem_singleton.mp z]
        exact Nat.le_refl _
    exact I2.fpOk hle (I2.hok.fresh hle)
/-- a walk of it by its invariant -/
theorem for_from {K : PySem.W.Frag} {a : Addr} {xs : List V} {k : Int} {g : TG} {tb : TS} {D : Ends} {σ : L2.St} {H : Hp} (Pv : Nat → L2.St → Hp → Prop) (h0 : Pv 0 σ H) (hl : ∀ i σ H, i ≤ xs.length → Pv i σ H → SqL K H a xs)
    (hs : ∀ i x T σ H, xs[i]? = some x → Pv i σ H → H T = none → g (.ref T) σ (upd H T (.tup [.int (k + (i : Nat)), x])) fun σ2 H2 => tb { D with nx := Pv (i + 1), ct := Pv (i + 1), bk := D.nx } σ2 H2)
    (hd : ∀ σ H, Pv xs.length σ H → D.nx σ H) :
    ∃ W : Nat → Nat → L2.St → Hp → Prop, (∃ m, W 0 m σ H) ∧ ∀ i m σ H, W i m σ H →
      ((Itk0 K a k).stop i H ∧ D.nx σ H) ∨ ((Itk0 K a k).go i H ∧ ∃ N : L2.St → Hp → Prop, (∀ σ' H', N σ' H' → ∃ m', m' < m ∧ W (i + 1) m' σ' H') ∧
        ∀ x H', (Itk0 K a k).yld i H x H' → g x σ H' fun σ2 H2 => tb { D with nx := N, ct := N, bk := D.nx } σ2 H2) := by
  refine ⟨fun i m σ H => i + m = xs.length ∧ Pv i σ H, ⟨xs.length, by omega, h0⟩, ?_⟩
  rintro i m σ H ⟨hm, p⟩
  have hq := hl i σ H (by omega) p
  by_cases hi : i < xs.length
  · have hx : xs[i]? = some xs[i] := List.getElem?_eq_getElem hi
    refine .inr ⟨⟨xs, _, hq, hx⟩, fun σ' H' => Pv (i + 1) σ' H', fun σ' H' p2 => ⟨m - 1, by omega, by omega, p2⟩, ?_⟩
    rintro v H' ⟨T, x, rfl, hT, rfl, hf⟩
    exact hs i x T σ H (hf xs hq) p hT
  · have e : i = xs.length := by omega
    subst e
    exact .inl ⟨⟨xs, hq, Nat.le_refl _⟩, hd σ H p⟩
end Wt

set_option Elab.async false
set_option linter.all false
set_option maxRecDepth 100000
set_option maxHeartbeats 4000000
/-! Data; values that are not known but by what is true of them; the dice. -/
namespace Wt
open PySem PySem.Spec PyProof.Rows L2 SX Evl

/-! ### data -/
mutual
theorem Dp.ex {K : PySem.W.Frag} {H H' : Hp} (e : Ex H H') : ∀ (d : PyData) (v : V), Dp K H v d → Dp K H' v d
  | .none, _, h => by
    cases h
    exact .non
  | .bool b, _, h => by
    cases h
    exact .bl b
  | .int i, _, h => by
    cases h
    exact .int i
  | .str x, _, h => by
    cases h
    exact .str x
  | .list ds, _, h => by
    cases h with
    | lst h1 h2 => exact .lst (ex_l e h1) (DpAll.ex e ds _ h2)
  | .tuple ds, _, h => by
    cases h with
    | tup h1 h2 => exact .tup (ex_t e h1) (DpAll.ex e ds _ h2)
  | .dict kvs, _, h => by cases h
theorem DpAll.ex {K : PySem.W.Frag} {H H' : Hp} (e : Ex H H') : ∀ (ds : List PyData) (vs : List V), DpAll K H vs ds → DpAll K H' vs ds
  | [], _, h => by
    cases h
    exact .nil
  | d :: ds, _, h => by
    cases h with
    | cons h1 h2 => exact .cons (Dp.ex e d _ h1) (DpAll.ex e ds _ h2)
end
theorem dpa_len {K : PySem.W.Frag} {H : Hp} : ∀ {vs : List V} {ds : List PyData}, DpAll K H vs ds → vs.length = ds.length
  | _, _, .nil => rfl
  | _, _, .cons _ h => congrArg (· + 1) (dpa_len h)
theorem dpa_get {K : PySem.W.Frag} {H : Hp} : ∀ {vs : List V} {ds : List PyData} {i : Nat}, DpAll K H vs ds → i < ds.length → ∃ v d, vs[i]? = some v ∧ ds[i]? = some d ∧ Dp K H v d
  | _, _, _, .nil, h => absurd h (Nat.not_lt_zero _)
  | _, _, 0, .cons h _, _ => ⟨_, _, rfl, rfl, h⟩
  | _, _, i + 1, .cons _ t, h => by
    obtain ⟨v, d, h1, h2, h3⟩ := dpa_get t (i := i) (Nat.lt_of_succ_lt_succ h)
    exact ⟨v, d, h1, h2, h3⟩
theorem dpa_app {K : PySem.W.Frag} {H : Hp} : ∀ {vs : List V} {ds : List PyData} {us : List V} {es : List PyData}, DpAll K H vs ds → DpAll K H us es → DpAll K H (vs ++ us) (ds ++ es)
  | _, _, _, _, .nil, h => h
  | _, _, _, _, .cons h t, g => .cons h (dpa_app t g)
theorem dpa_snoc {K : PySem.W.Frag} {H : Hp} {vs : List V} {ds : List PyData} {v : V} {d : PyData} (h : DpAll K H vs ds) (g : Dp K H v d) : DpAll K H (vs ++ [v]) (ds ++ [d]) := dpa_app h (.cons g .nil)

/-- what stands in tuples alone: it stays whatever else changes -/
def Tx (H H' : Hp) : Prop := ∀ a xs, H a = some (.tup xs) → H' a = some (.tup xs)
theorem Tx.refl (H : Hp) : Tx H H := fun _ _ h => h
theorem Tx.trans {H H1 H2 : Hp} (a : Tx H H1) (b : Tx H1 H2) : Tx H H2 := fun x xs h => b x xs (a x xs h)
theorem Tx.of {H H' : Hp} (e : Ex H H') : Tx H H' := fun a xs h => e a _ h
theorem Tx.lst {H : Hp} {l : Addr} {xs ys : List V} (h : H l = some (.lst xs)) : Tx H (upd H l (.lst ys)) := fun a zs q => by
  rw [upd_ne (ne_of q h (by intro z; cases z))]
  exact q
theorem Tx.dK {H : Hp} {l : Addr} {ks ls : List (Key × V)} (h : H l = some (.dK ks)) : Tx H (upd H l (.dK ls)) := fun a zs q => by
  rw [upd_ne (ne_of q h (by intro z; cases z))]
  exact q
mutual
inductive Td (H : Hp) : V → PyData → Prop
  | non : Td H .non .none
  | bl (b : Bool) : Td H (.bl b) (.bool b)
  | int (i : Int) : Td H (.int i) (.int i)
  | str (x : Str) : Td H (.str x) (.str x)
  | tup {a : Addr} {xs : List V} {ds : List PyData} : H a = some (.tup xs) → TdAll H xs ds → Td H (.ref a) (.tuple ds)
inductive TdAll (H : Hp) : List V → List PyData → Prop
  | nil : TdAll H [] []
  | cons {v : V} {vs : List V} {d : PyData} {ds : List PyData} : Td H v d → TdAll H vs ds → TdAll H (v :: vs) (d :: ds)
end
mutual
theorem Td.tx {H H' : Hp} (e : Tx H H') : ∀ (d : PyData) (v : V), Td H v d → Td H' v d
  | .none, _, h => by
    cases h
    exact .non
  | .bool b, _, h => by
    cases h
    exact .bl b
  | .int i, _, h => by
    cases h
    exact .int i
  | .str x, _, h => by
    cases h
    exact .str x
  | .list ds, _, h => by cases h
  | .tuple ds, _, h => by
    cases h with
    | tup h1 h2 => exact .tup (e _ _ h1) (TdAll.tx e ds _ h2)
  | .dict kvs, _, h => by cases h
theorem TdAll.tx {H H' : Hp} (e : Tx H H') : ∀ (ds : List PyData) (vs : List V), TdAll H vs ds → TdAll H' vs ds
  | [], _, h => by
    cases h
    exact .nil
  | d :: ds, _, h => by
    cases h with
    | cons h1 h2 => exact .cons (Td.tx e d _ h1) (TdAll.tx e ds _ h2)
end
mutual
theorem Td.dp {K : PySem.W.Frag} {H : Hp} : ∀ (d : PyData) (v : V), Td H v d → Dp K H v d
  | .none, _, h => by
    cases h
    exact .non
  | .bool b, _, h => by
    cases h
    exact .bl b
  | .int i, _, h => by
    cases h
    exact .int i
  | .str x, _, h => by
    cases h
    exact .str x
  | .list ds, _, h => by cases h
  | .tuple ds, _, h => by
    cases h with
    | tup h1 h2 => exact .tup (st_of h1) (TdAll.dp ds _ h2)
  | .dict kvs, _, h => by cases h
theorem TdAll.dp {K : PySem.W.Frag} {H : Hp} : ∀ (ds : List PyData) (vs : List V), TdAll H vs ds → DpAll K H vs ds
  | [], _, h => by
    cases h
    exact .nil
  | d :: ds, _, h => by
    cases h with
    | cons h1 h2 => exact .cons (Td.dp d _ h1) (TdAll.dp ds _ h2)
end
theorem TdAll.app {H : Hp} : ∀ {vs : List V} {ds : List PyData} {us : List V} {es : List PyData}, TdAll H vs ds → TdAll H us es → TdAll H (vs ++ us) (ds ++ es)
  | _, _, _, _, .nil, h => h
  | _, _, _, _, .cons h t, g => .cons h (t.app g)
theorem TdAll.snoc {H : Hp} {vs : List V} {ds : List PyData} {v : V} {d : PyData} (h : TdAll H vs ds) (g : Td H v d) : TdAll H (vs ++ [v]) (ds ++ [d]) := h.app (.cons g .nil)
theorem TdAll.len {H : Hp} : ∀ {vs : List V} {ds : List PyData}, TdAll H vs ds → vs.length = ds.length
  | _, _, .nil => rfl
  | _, _, .cons _ h => congrArg (· + 1) h.len

/-! ### a value that is known by what is true of it -/
def EvN (te : TE) (σ : L2.St) (H : Hp) (P : V → Prop) : Prop := ∀ H1, Ex H H1 → ∀ Q : VK, (∀ v H2, P v → Ex H1 H2 → Q v H2) → te σ H1 Q
def SpN (sp : Sp) (vs : List V) (H : Hp) (P : V → Prop) : Prop := ∀ H1, Ex H H1 → ∀ Q : VK, (∀ v H2, P v → Ex H1 H2 → Q v H2) → ∀ E : XK, sp vs H1 Q E
def EvTN (tt : TT) (σ : L2.St) (H : Hp) (P : Bool → Prop) : Prop := ∀ H1, Ex H H1 → ∀ Q : Bool → Hp → Prop, (∀ b H2, P b → Ex H1 H2 → Q b H2) → tt σ H1 Q
section
variable {K : PySem.W.Frag} {σ : L2.St} {H H' : Hp} {ta tb te tx : TE} {t u : TT} {x y z v : V} {r : R2} {P P2 : V → Prop}
theorem EvN.of (h : Ev te σ H v) : EvN te σ H (· = v) := fun H1 e Q q => h H1 e Q fun H2 e2 => q v H2 rfl e2
theorem EvN.mono (e : Ex H H') (h : EvN te σ H P) : EvN te σ H' P := fun H1 e1 Q q => h H1 (e.trans e1) Q q
theorem EvN.imp (h : EvN te σ H P) (i : ∀ v, P v → P2 v) : EvN te σ H P2 := fun H1 e Q q => h H1 e Q fun v H2 p e2 => q v H2 (i v p) e2
theorem EvN.one (h : EvN te σ H P) (i : ∀ w, P w → w = v) : Ev te σ H v := fun H1 e Q q => h H1 e Q fun w H2 p e2 => by
  rw [i w p]
  exact q H2 e2
theorem en_op (ha : EvN ta σ H P) (hb : ∀ x, P x → EvN tb σ H P2) {P3 : V → Prop} (hr : ∀ x y H1, P x → P2 y → Ex H H1 → ∀ Q : VK, (∀ z H2, P3 z → Ex H1 H2 → Q z H2) → r x y H1 Q) : EvN (tOp r ta tb) σ H P3 := fun H1 e Q q =>
  ha H1 e _ fun x H2 px e2 => hb x px H2 (e.trans e2) _ fun y H3 py e3 => hr x y H3 px py ((e.trans e2).trans e3) Q fun z H4 pz e4 => q z H4 pz ((e2.trans e3).trans e4)
/-- both operands, then a value -/
theorem en_opV (ha : EvN ta σ H P) (hb : ∀ x, P x → EvN tb σ H P2) {P3 : V → Prop} (hr : ∀ x y, P x → P2 y → ∃ z, P3 z ∧ RV r x y H z) : EvN (tOp r ta tb) σ H P3 := en_op ha hb fun x y H1 px py e Q q => by
  obtain ⟨z, pz, rz⟩ := hr x y px py
  exact rz H1 e Q fun H2 e2 => q z H2 pz e2
theorem en_call {sp : Sp} {dvs vs : List V} {E : XK} {ta : TA} (h : EvA ta σ H vs) (hs : SpN sp (vs ++ dvs) H P) : EvN (tCall sp dvs E ta) σ H P := fun H1 e Q q =>
  h H1 e _ fun H2 e2 => hs H2 (e.trans e2) Q (fun v H3 p e3 => q v H3 p (e2.trans e3)) E
theorem etn_test (h : EvN te σ H P) {B : Bool → Prop} (i : ∀ v, P v → ∃ b, v = .bl b ∧ B b) : EvTN (tTest te) σ H B := fun H1 e Q q => h H1 e _ fun v H2 p e2 => by
  obtain ⟨b, rfl, pb⟩ := i v p
  exact ⟨b, rfl, q b H2 pb e2⟩
theorem en_if {b : Bool} (h : EvT t σ H b) (h1 : b = true → EvN ta σ H P) (h2 : b = false → EvN tb σ H P) : EvN (tIf t ta tb) σ H P := fun H1 e Q q => h H1 e _ fun H2 e2 => by
  cases b with
  | true =>
    show ta σ H2 Q
    exact h1 rfl H2 (e.trans e2) Q fun v H3 p e3 => q v H3 p (e2.trans e3)
  | false =>
    show tb σ H2 Q
    exact h2 rfl H2 (e.trans e2) Q fun v H3 p e3 => q v H3 p (e2.trans e3)
variable {D : Ends} {tu tw tz : TS} {g : TG}
theorem sn_asg {i : Nat} (h : EvN te σ H P) (k : ∀ v H1, P v → Ex H H1 → D.nx (σ.set i (some v)) H1) : tAsg te (gName i) D σ H := h H (Ex.refl H) _ fun v H1 p e => k v H1 p e
theorem qn_asg {i : Nat} (h : EvN te σ H P) (k : ∀ v H1, P v → Ex H H1 → tz D (σ.set i (some v)) H1) : tSeq (tAsg te (gName i)) tz D σ H := sn_asg (D := { D with nx := tz D }) h k
theorem sn_ret (h : EvN te σ H P) (k : ∀ v H1, P v → Ex H H1 → D.rt v H1) : tRet te D σ H := h H (Ex.refl H) _ k
theorem sn_if (h : EvTN t σ H B) (h1 : B true → ∀ H1, Ex H H1 → tu D σ H1) (h2 : B false → ∀ H1, Ex H H1 → tw D σ H1) : tIfS t tu tw D σ H := h H (Ex.refl H) _ fun b H1 p e => by
  cases b with
  | true =>
    show tu D σ H1
    exact h1 p H1 e
  | false =>
    show tw D σ H1
    exact h2 p H1 e
theorem qn_if (h : EvTN t σ H B) (h1 : B true → ∀ H1, Ex H H1 → tu { D with nx := tz D } σ H1) (h2 : B false → ∀ H1, Ex H H1 → tw { D with nx := tz D } σ H1) : tSeq (tIfS t tu tw) tz D σ H := sn_if (D := { D with nx := tz D }) h h1 h2
end

/-! ### a promise seen through other words of the heap -/
/-- B tells of the same heap otherwise -/
structure Alike (A B : Hp) : Prop where
  free : ∀ b, A b = none → B b = none
  tups : ∀ b xs, A b = some (.tup xs) → B b = some (.tup xs)
  frzs : ∀ b o u, A b = some (.frz o u) → B b = some (.frz o u)
  tbls : ∀ b ps, A b = some (.tbl ps) → B b = some (.tbl ps)
section
variable {P : Program} {w : World} {K : PySem.W.Frag} {mg : Str → Option Value} {base : Heap}
theorem fn_seen {k : Nat} {f : Addr} {fd : FuncData} {ps : List Str} {sp sp' : Sp} (F : FnOk P w K mg base CX0 k f fd ps sp) (hlen : ∀ vs H Q E, sp' vs H Q E → vs.length = ps.length)
    (h : ∀ vs H Q E, sp' vs H Q E → ∀ hp : Heap, HOk P w H hp → ∃ (H1 : Hp) (Q1 : VK), Alike H H1 ∧ HOk P w H1 hp ∧ sp vs H1 Q1 E ∧
      ∀ v H2 (hp2 : Heap), HOk P w H2 hp2 → Q1 v H2 → ∃ H3, Alike H2 H3 ∧ HOk P w H3 hp2 ∧ Q v H3) : FnOk P w K mg base CX0 k f fd ps sp' := by
  refine ⟨hlen, fun A outer s H args us vs Q E hr e0 hb hv hs => ?_⟩
  obtain ⟨H1, Q1, al, ok1, hs1, back⟩ := h vs H Q E hs s.heap e0.hok
  have e1 : Env0 P w K mg base A outer s H1 := ⟨e0.frames, e0.mod, fun b o e => ⟨(e0.bs b o e).1, al.free b (e0.bs b o e).2⟩, e0.bsz, e0.funs, fun b hb => al.free b (e0.frf b hb), ok1, e0.bare⟩
  refine codeAny_mono (F.run A outer s H1 args us vs Q1 E hr e1 hb hv hs1) fun r s' hr' => ?_
  cases r with
  | error e => exact hr'
  | ok fl =>
    cases fl with
    | ret u =>
      obtain ⟨v, H2, os, br, un, ok2, rv, q⟩ := hr'
      obtain ⟨H3, al2, ok3, q3⟩ := back v H2 s'.heap ok2 q
      exact ⟨v, H3, os, br, ⟨fun b o e n h1 h2 => un.keep b o e (al.free b n) h1 h2, fun b o e n h1 h2 => un.slot b o e (al.free b n) h1 h2, fun b o e n h1 => al2.free b (un.free b o e (al.free b n) h1), un.there,
        fun b xs e => al2.tups b xs (un.tups b xs (al.tups b xs e)), fun b o u e => al2.frzs b o u (un.frzs b o u (al.frzs b o u e)), fun b ps e => by
          obtain ⟨more, e2⟩ := un.tbls b ps (al.tbls b ps e)
          exact ⟨more, al2.tbls b _ e2⟩⟩, ok3, rv, q3⟩
    | _ => exact hr'.elim
/-- one changing object told otherwise -/
theorem alike_at {H : Hp} {d : Addr} {o o2 : HO} (h : H d = some o) (m : Mut (some o)) (h1 : ∀ xs, o2 ≠ .tup xs) (h2 : ∀ ob u, o2 ≠ .frz ob u) (h3 : ∀ ps, o2 ≠ .tbl ps) : Alike H (upd H d o2) where
  free := fun b n => by
    rw [upd_ne (ne_of_none h n).symm]
    exact n
  tups := fun b xs e => by
    rw [upd_ne (ne_of e h (by intro z; subst z; exact m))]
    exact e
  frzs := fun b ob u e => by
    rw [upd_ne (ne_of e h (by intro z; subst z; exact m))]
    exact e
  tbls := fun b ps e => by
    rw [upd_ne (ne_of e h (by intro z; subst z; exact m))]
    exact e
theorem hok_at {H : Hp} {hp : Heap} {d : Addr} {o o2 : HO} (ok : HOk P w H hp) (h : H d = some o) (m : Mut (some o)) (new : ObjOk P w (upd H d o2) hp d o2) : HOk P w (upd H d o2) hp := fun b u e => by
  by_cases hb : b = d
  · subst hb
    rw [upd_same] at e
    cases e
    exact new
  · rw [upd_ne hb] at e
    refine (ok b u e).stay (fun c z _ q => q) (fun c q => ?_) (fun c xs q => ?_)
    · rw [upd_ne (ne_of q h (by intro z; subst z; exact m))]
      exact q
    · rw [upd_ne (ne_of q h (by intro z; subst z; exact m))]
      exact q
end

/-! ### the dice: the list of the script, a place, a mixed number, a rest -/
def diceP (d a : Addr) (h : Heap) : Prop := ∃ (i m r : Int) (t1 t2 t3 : Tok) (n : Nat), h.get? d = some { cls := .type "list", data := .seq #[.ref a, .int i t1, .int m t2, .int r t3] n } ∧ 0 ≤ i ∧ 0 ≤ m ∧ m < 2147483647
/-- a dice over the script at a -/
def DiceO (d a : Addr) : HO := .ext (diceP d a)
theorem dice_ok {P : Program} {w : World} {H : Hp} {hp : Heap} {d a : Addr} (h : diceP d a hp) : ObjOk P w H hp d (DiceO d a) := by
  refine ⟨h, ?_, ?_⟩
  · obtain ⟨i, m, r, t1, t2, t3, n, e, _⟩ := h
    exact ⟨_, e⟩
  · rintro h1 h2 ⟨i, m, r, t1, t2, t3, n, e, z⟩ k
    exact ⟨i, m, r, t1, t2, t3, n, k _ e, z⟩
theorem dice_of {P : Program} {w : World} {H : Hp} {hp : Heap} {d a : Addr} {i m r : Int} (ok : HOk P w H hp) (h : H d = some (.lst [.ref a, .int i, .int m, .int r])) (h0 : 0 ≤ i) (h1 : 0 ≤ m) (h2 : m < 2147483647) : diceP d a hp := by
  obtain ⟨_, its, n, rv, e⟩ := (show ObjOk P w H hp d (.lst [.ref a, .int i, .int m, .int r]) from ok d _ h)
  cases rv with
  | cons ra rest =>
    cases ra
    cases rest with
    | cons ri rest =>
      obtain ⟨t1, rfl⟩ := ri
      cases rest with
      | cons rm rest =>
        obtain ⟨t2, rfl⟩ := rm
        cases rest with
        | cons rr rest =>
          obtain ⟨t3, rfl⟩ := rr
          cases rest
          exact ⟨i, m, r, t1, t2, t3, n, e, h0, h1, h2⟩
theorem dice_out {P : Program} {w : World} {H : Hp} {hp : Heap} {d a : Addr} (ok : HOk P w H hp) (h : H d = some (DiceO d a)) : ∃ i m r, 0 ≤ i ∧ 0 ≤ m ∧ m < 2147483647 ∧
    Alike H (upd H d (.lst [.ref a, .int i, .int m, .int r])) ∧ HOk P w (upd H d (.lst [.ref a, .int i, .int m, .int r])) hp := by
  obtain ⟨⟨i, m, r, t1, t2, t3, n, e, z0, z1, z2⟩, _⟩ := (show ObjOk P w H hp d (DiceO d a) from ok d _ h)
  refine ⟨i, m, r, z0, z1, z2, alike_at h True.intro (fun _ z => nomatch z) (fun _ _ z => nomatch z) (fun _ z => nomatch z), hok_at ok h True.intro ⟨(by show 4 ≤ sizeLine; decide), [.ref a, .int i t1, .int m t2, .int r t3], n, ?_, e⟩⟩
  exact .cons rfl (.cons ⟨_, rfl⟩ (.cons ⟨_, rfl⟩ (.cons ⟨_, rfl⟩ .nil)))
theorem dice_in {P : Program} {w : World} {H : Hp} {hp : Heap} {d a : Addr} {i m r : Int} (ok : HOk P w H hp) (h : H d = some (.lst [.ref a, .int i, .int m, .int r])) (h0 : 0 ≤ i) (h1 : 0 ≤ m) (h2 : m < 2147483647) :
    Alike H (upd H d (DiceO d a)) ∧ HOk P w (upd H d (DiceO d a)) hp :=
  ⟨alike_at h True.intro (fun _ z => nomatch z) (fun _ _ z => nomatch z) (fun _ z => nomatch z), hok_at ok h True.intro (dice_ok (dice_of ok h h0 h1 h2))⟩
end Wt

set_option Elab.async false
set_option linter.all false
set_option maxRecDepth 100000
set_option maxHeartbeats 4000000
/-! Words of a row: the plain functions. -/
namespace Wt
open PySem PySem.Spec PyProof.Rows L2 SX Evl

def letters : List Nat := [97, 98, 99, 100, 101, 102, 103, 104, 105, 106, 107, 108, 109, 110, 111, 112, 113, 114, 115, 116, 117, 118, 119, 120, 121, 122]
def figures : List Nat := [48, 49, 50, 51, 52, 53, 54, 55, 56, 57]
def signs : List (List Nat) := [[60, 62], [60, 61], [40], [41], [44], [46], [61], [60], [43], [45], [42], [47]]
def owns : List (List Nat) := [[117, 115, 101], [99, 111, 110, 115, 116], [107, 101, 101, 112], [111, 117, 116], [100, 101, 102], [110, 117, 109], [121, 101, 115], [110, 111], [108, 101, 116], [105, 102],
  [101, 108, 115, 101], [119, 104, 105, 108, 101], [101, 110, 100], [103, 105, 118, 101], [115, 97, 121], [100, 111], [111, 114], [97, 110, 100], [110, 111, 116], [109, 111, 100]]
def kName : List Nat := [110, 97, 109, 101]
def kNum : List Nat := [110, 117, 109]
def kSign : List Nat := [115, 105, 103, 110]
def kOwn : List Nat := [111, 119, 110]
def isL (c : Nat) : Bool := decide (c ∈ letters)
def isF (c : Nat) : Bool := decide (c ∈ figures)
/-- the longest word that begins what is left -/
def wordAt : List Nat → List Nat
  | [] => []
  | c :: r => if isL c = true then (c :: r).takeWhile isL else if isF c = true then (c :: r).takeWhile isF else (signs.find? fun s => decide ((c :: r).take s.length = s)).getD []
def kindOf (w : List Nat) : List Nat :=
  if w ∈ owns then kOwn else if w ∈ signs then kSign else if w = [] ∨ 6 < w.length then [] else
  if isL (w.headD 0) = true then kName else if w.headD 0 = 48 ∧ 1 < w.length then [] else kNum
/-- a word: kind, word, column -/
abbrev Word := List Nat × List Nat × Nat
/-- the words of what is left of a row, which stands behind so many signs; where the first that is none begins -/
def lexAt : Nat → Nat → List Nat → List Word × Option Nat
  | 0, _, _ => ([], none)
  | _ + 1, _, [] => ([], none)
  | f + 1, i, c :: r => if c = 32 then lexAt f (i + 1) r else
    if kindOf (wordAt (c :: r)) = [] then ([], some (i + 1)) else
      ((kindOf (wordAt (c :: r)), wordAt (c :: r), i + 1) :: (lexAt f (i + (wordAt (c :: r)).length) ((c :: r).drop (wordAt (c :: r)).length)).1,
        (lexAt f (i + (wordAt (c :: r)).length) ((c :: r).drop (wordAt (c :: r)).length)).2)
def told (row : List Nat) : List Nat := row.takeWhile fun c => decide (c ≠ 35)
def lexRow (row : List Nat) : List Word × Option Nat := lexAt (told row).length 0 (told row)

/-! ### facts -/
theorem takeWhile_len {p : Nat → Bool} : ∀ l : List Nat, (l.takeWhile p).length ≤ l.length
  | [] => Nat.le_refl _
  | c :: r => by
    rw [List.takeWhile_cons]
    split
    · exact Nat.succ_le_succ (takeWhile_len r)
    · exact Nat.zero_le _
theorem find_len {l s : List Nat} {ss : List (List Nat)} (h : ss.find? (fun s => decide (l.take s.length = s)) = some s) : s.length ≤ l.length := by
  have e := List.find?_some h
  have e2 : l.take s.length = s := of_decide_eq_true e
  have e3 := congrArg List.length e2
  rw [List.length_take] at e3
  omega
theorem wordAt_cons (c : Nat) (r : List Nat) : wordAt (c :: r) = if isL c = true then (c :: r).takeWhile isL else if isF c = true then (c :: r).takeWhile isF else (signs.find? fun s => decide ((c :: r).take s.length = s)).getD [] := rfl
theorem lexAt_cons (f i c : Nat) (r : List Nat) : lexAt (f + 1) i (c :: r) = if c = 32 then lexAt f (i + 1) r else
    if kindOf (wordAt (c :: r)) = [] then ([], some (i + 1)) else
      ((kindOf (wordAt (c :: r)), wordAt (c :: r), i + 1) :: (lexAt f (i + (wordAt (c :: r)).length) ((c :: r).drop (wordAt (c :: r)).length)).1,
        (lexAt f (i + (wordAt (c :: r)).length) ((c :: r).drop (wordAt (c :: r)).length)).2) := rfl
theorem wordAt_len : ∀ l : List Nat, (wordAt l).length ≤ l.length
  | [] => Nat.le_refl _
  | c :: r => by
    rw [wordAt_cons]
    split
    · exact takeWhile_len _
    · split
      · exact takeWhile_len _
      · cases h : signs.find? (fun s => decide ((c :: r).take s.length = s)) with
        | none => exact Nat.zero_le _
        | some s => exact find_len h
/-- what is a word is not empty -/
theorem kind_ne {w : List Nat} (h : kindOf w ≠ []) : w ≠ [] := fun e => by
  subst e
  exact h (by decide +kernel)
theorem kind_pos {w : List Nat} (h : kindOf w ≠ []) : 0 < w.length := List.length_pos_iff.mpr (kind_ne h)
/-- enough turns are enough -/
theorem lexAt_fuel : ∀ (f g i : Nat) (l : List Nat), l.length ≤ f → l.length ≤ g → lexAt f i l = lexAt g i l
  | 0, 0, _, _, _, _ => rfl
  | 0, g + 1, _, [], _, _ => rfl
  | 0, _ + 1, _, _ :: _, h, _ => absurd h (Nat.not_succ_le_zero _)
  | f + 1, 0, _, [], _, _ => rfl
  | _ + 1, 0, _, _ :: _, _, h => absurd h (Nat.not_succ_le_zero _)
  | _ + 1, _ + 1, _, [], _, _ => rfl
  | f + 1, g + 1, i, c :: r, hf, hg => by
    have hf1 : r.length ≤ f := Nat.le_of_succ_le_succ hf
    have hg1 : r.length ≤ g := Nat.le_of_succ_le_succ hg
    rw [lexAt_cons, lexAt_cons]
    by_cases h1 : c = 32
    · rw [if_pos h1, if_pos h1]
      exact lexAt_fuel f g _ r hf1 hg1
    · rw [if_neg h1, if_neg h1]
      by_cases h2 : kindOf (wordAt (c :: r)) = []
      · rw [if_pos h2, if_pos h2]
      · rw [if_neg h2, if_neg h2]
        have hp := kind_pos h2
        have hl : ((c :: r).drop (wordAt (c :: r)).length).length ≤ r.length := by
          rw [List.length_drop, List.length_cons]
          omega
        rw [lexAt_fuel f g _ _ (Nat.le_trans hl hf1) (Nat.le_trans hl hg1)]
/-- with just enough turns: the equations -/
def lexR (i : Nat) (l : List Nat) : List Word × Option Nat := lexAt l.length i l
theorem lexR_nil (i : Nat) : lexR i [] = ([], none) := rfl
theorem lexR_blank (i : Nat) (r : List Nat) : lexR i (32 :: r) = lexR (i + 1) r := by
  unfold lexR
  show lexAt (r.length + 1) i (32 :: r) = _
  rw [lexAt_cons, if_pos rfl]
theorem lexR_bad {i c : Nat} {r : List Nat} (h1 : c ≠ 32) (h2 : kindOf (wordAt (c :: r)) = []) : lexR i (c :: r) = ([], some (i + 1)) := by
  unfold lexR
  show lexAt (r.length + 1) i (c :: r) = _
  rw [lexAt_cons, if_neg h1, if_pos h2]
theorem lexR_word {i c : Nat} {r : List Nat} (h1 : c ≠ 32) (h2 : kindOf (wordAt (c :: r)) ≠ []) :
    lexR i (c :: r) = ((kindOf (wordAt (c :: r)), wordAt (c :: r), i + 1) :: (lexR (i + (wordAt (c :: r)).length) ((c :: r).drop (wordAt (c :: r)).length)).1,
      (lexR (i + (wordAt (c :: r)).length) ((c :: r).drop (wordAt (c :: r)).length)).2) := by
  have hp := kind_pos h2
  have hl : ((c :: r).drop (wordAt (c :: r)).length).length ≤ r.length := by
    rw [List.length_drop, List.length_cons]
    omega
  have e : lexR i (c :: r) = lexAt (r.length + 1) i (c :: r) := rfl
  rw [e, lexAt_cons, if_neg h1, if_neg h2]
  unfold lexR
  rw [lexAt_fuel r.length _ _ _ hl (Nat.le_refl _)]
theorem lexRow_R (row : List Nat) : lexRow row = lexR 0 (told row) := rfl
theorem lexR_count : ∀ (n i : Nat) (l : List Nat), l.length ≤ n → (lexR i l).1.length ≤ l.length
  | _, i, [], _ => by
    rw [lexR_nil]
    exact Nat.le_refl _
  | 0, _, _ :: _, h => absurd h (Nat.not_succ_le_zero _)
  | n + 1, i, c :: r, h => by
    by_cases h1 : c = 32
    · subst h1
      rw [lexR_blank]
      exact Nat.le_succ_of_le (lexR_count n _ r (Nat.le_of_succ_le_succ h))
    · by_cases h2 : kindOf (wordAt (c :: r)) = []
      · rw [lexR_bad h1 h2]
        exact Nat.zero_le _
      · rw [lexR_word h1 h2]
        have hp := kind_pos h2
        have hl : ((c :: r).drop (wordAt (c :: r)).length).length ≤ r.length := by
          rw [List.length_drop, List.length_cons]
          omega
        have ih := lexR_count n (i + (wordAt (c :: r)).length) _ (Nat.le_trans hl (Nat.le_of_succ_le_succ h))
        show _ + 1 ≤ r.length + 1
        exact Nat.succ_le_succ (Nat.le_trans ih hl)
theorem lexRow_count (row : List Nat) : (lexRow row).1.length ≤ row.length := by
  rw [lexRow_R]
  exact Nat.le_trans (lexR_count _ 0 _ (Nat.le_refl _)) (takeWhile_len _)

/-- a word as data, in a row of this number -/
def wordD (n : Nat) (w : Word) : PyData := .tuple [.str (S w.1), .str (S w.2.1), .tuple [.int (n : Int), .int (w.2.2 : Nat)]]
/-- all words of rows numbered from n on -/
def allD (n : Nat) : List (List Nat) → List PyData
  | [] => []
  | row :: rest => (lexRow row).1.map (wordD n) ++ allD (n + 1) rest
end Wt

set_option Elab.async false
set_option linter.all false
set_option maxRecDepth 100000
set_option maxHeartbeats 4000000
/-! What stands ahead of a remark; words told, row by row. -/
namespace Wt
open PySem PySem.Spec PyProof.Rows L2 SX Evl
/-- a new list of what is told -/
def RetTd (ds : List PyData) (H : Hp) (Q : VK) : Prop := ∀ p H2 vs, H p = none → Ex H H2 → H2 p = some (.lst vs) → TdAll H2 vs ds → Q (.ref p) H2
theorem told_split (row : List Nat) : (35 ∉ row ∧ told row = row) ∨ ∃ r, row = told row ++ 35 :: r ∧ 35 ∉ told row := by
  have hno : ∀ l : List Nat, 35 ∉ told l := fun l => by
    induction l with
    | nil => intro h; cases h
    | cons c r ih =>
      unfold told at ih ⊢
      rw [List.takeWhile_cons]
      by_cases h : c = 35
      · rw [if_neg (by simp [h])]
        intro z
        cases z
      · rw [if_pos (by simp [h])]
        intro z
        rcases List.mem_cons.mp z with z | z
        · exact h z.symm
        · exact ih z
  have hsp : ∀ l : List Nat, 35 ∈ l → ∃ r, l = told l ++ 35 :: r := fun l => by
    induction l with
    | nil => intro h; cases h
    | cons c r ih =>
      intro h
      unfold told at ih ⊢
      rw [List.takeWhile_cons]
      by_cases hc : c = 35
      · rw [if_neg (by simp [hc])]
        exact ⟨r, by rw [hc] <;> rfl⟩
      · rw [if_pos (by simp [hc])]
        rcases List.mem_cons.mp h with z | z
        · exact absurd z.symm hc
        · obtain ⟨q, e⟩ := ih z
          exact ⟨q, by rw [List.cons_append, ← e]⟩
  by_cases h : 35 ∈ row
  · obtain ⟨r, e⟩ := hsp row h
    exact .inr ⟨r, e, hno row⟩
  · refine .inl ⟨h, ?_⟩
    have all : ∀ l : List Nat, 35 ∉ l → told l = l := fun l => by
      induction l with
      | nil => intro _; rfl
      | cons c r ih =>
        intro hn
        unfold told at ih ⊢
        have hc : c ≠ 35 := fun z => hn (z ▸ List.mem_cons_self ..)
        rw [List.takeWhile_cons, if_pos (by simp [hc]), ih fun z => hn (List.mem_cons_of_mem _ z)]
    exact all row h
theorem part_told (row : List Nat) : (Txt.partition (S row) (S [35])).1 = S (told row) := by
  rcases told_split row with ⟨h, e⟩ | ⟨r, e, h⟩
  · rw [SX.partition_none (by simp) (par_head_none h), e]
  · have z : TL.par [35] [] row = some (told row, r) := by
      have q := par_head (c := 35) (sep := []) r h
      rw [show told row ++ ([35] ++ r) = row from e.symm] at q
      exact q
    rw [SX.partition_some (by simp) z]
theorem told_len (row : List Nat) : (told row).length ≤ row.length := takeWhile_len row
section
variable {K : PySem.W.Frag} {σ : L2.St} {H H' : Hp} {ta tb te tx : TE} {t u : TT} {x y z v : V}
/-- t.partition("#")[0] -/
theorem ev_told {row : List Nat} (ha : Ev ta σ H (.str (S row))) (hb : Ev tb σ H (.str (S [35]))) (hl : row.length ≤ 100000) :
    Ev (tOp (rIxT K) (tM1 (fun x xs H Q => ∃ a b, x = .str a ∧ xs = [.str b] ∧ (b.length == 0) = false ∧ a.length ≤ sizeLine ∧
      ∀ p, H p = none → Q (.ref p) (upd H p (.tup [.str (Txt.partition a b).1, .str (Txt.partition a b).2.1, .str (Txt.partition a b).2.2]))) ta tb) (tC (.int 0))) σ H (.str (S (told row))) := fun H1 e Q q =>
  ha H1 e _ fun H2 e2 => ⟨⟨S row, rfl⟩, hb H2 (e.trans e2) _ fun H3 e3 => ⟨S row, S [35], rfl, rfl, by decide +kernel, by rw [S_len]; exact sz_of hl, fun p hp =>
    ⟨p, _, 0, _, rfl, rfl, st_of upd_same, atI_nat (j := 0) rfl, by
      rw [part_told]
      exact q _ ((e2.trans e3).trans (Ex.new hp))⟩⟩⟩
end
/-- all rows are words -/
def AllWords (rows : List (List Nat)) : Prop := ∀ r ∈ rows, (lexRow r).2 = none
theorem allD_snoc : ∀ (n : Nat) (rs : List (List Nat)) (r : List Nat), allD n (rs ++ [r]) = allD n rs ++ (lexRow r).1.map (wordD (n + rs.length))
  | n, [], r => by
    show (lexRow r).1.map (wordD n) ++ [] = [] ++ _
    rw [List.append_nil, List.nil_append] <;> rfl
  | n, x :: rs, r => by
    show (lexRow x).1.map (wordD n) ++ allD (n + 1) (rs ++ [r]) = ((lexRow x).1.map (wordD n) ++ allD (n + 1) rs) ++ _
    rw [allD_snoc, List.append_assoc, show n + 1 + rs.length = n + (x :: rs).length by rw [List.length_cons]; omega]
end Wt

set_option Elab.async false
set_option linter.all false
set_option maxRecDepth 100000
set_option maxHeartbeats 4000000
/-! Lists, arguments, loops known by what is true of them. -/
namespace Wt
open PySem PySem.Spec PyProof.Rows L2 SX Evl
/-- a new list, known by what is true of its items -/
def EvNL (te : TE) (σ : L2.St) (H : Hp) (P : List V → Prop) : Prop := ∀ H1, Ex H H1 → ∀ Q : VK, (∀ p H2 xs, P xs → H1 p = none → Ex H1 H2 → H2 p = some (.lst xs) → Q (.ref p) H2) → te σ H1 Q
section
variable {K : PySem.W.Frag} {σ : L2.St} {H H' : Hp} {ta tb te tx : TE} {t u : TT} {x y z v : V}
/-- [e for k in range(n)], n and e known by what is true of them -/
theorem en_lcR {j : Nat} {vs : List Nat} {N : Nat} {P : V → Prop} (h : EvN ta σ H (fun v => ∃ z : Int, v = .int z ∧ 0 ≤ z ∧ z ≤ (N : Int))) (hN : N ≤ 10000) (hw : ∀ x, wipe ((wipe σ vs).set j (some x)) vs = wipe σ vs)
    (he : ∀ (i : Nat) H1, Ex H H1 → EvN te ((wipe σ vs).set j (some (.int (i : Int)))) H1 P) : EvNL (tLc (iRng1 (tCons ta tNil)) (gName j) tYes te vs) σ H (fun xs => xs.length ≤ N ∧ ∀ x ∈ xs, P x) := fun H0 e Q q =>
  h H0 e _ fun v H1 hv e1 => by
    obtain ⟨z, rfl, z0, z1⟩ := hv
    refine ⟨z, rfl, by omega, by omega, fun Dl hD => ?_⟩
    refine lc_range (lo := 0) (n := z.toNat) (fun i H2 => ∃ xs, Ex H1 H2 ∧ H2 Dl = some (.lst xs) ∧ xs.length = i ∧ ∀ x ∈ xs, P x) ⟨[], Ex.new hD, upd_same, rfl, fun _ h => absurd h (by simp)⟩ ?_ ?_
    · rintro i H2 hi ⟨xs, e2, h2, hl, hP⟩
      have e0 : (0 : Int) + (i : Int) = (i : Int) := Int.zero_add _
      show wipe ((wipe σ vs).set j (some (.int ((0 : Int) + (i : Int))))) vs = wipe σ vs ∧ tYes ((wipe σ vs).set j (some (.int ((0 : Int) + (i : Int))))) H2 _
      rw [e0]
      refine ⟨hw _, ?_⟩
      show te ((wipe σ vs).set j (some (.int (i : Int)))) H2 _
      refine he i H2 ((e.trans e1).trans e2) H2 (Ex.refl H2) _ fun y H3 py e3 => ⟨xs, e3 Dl _ h2, sz_lt (by omega), xs ++ [y], ?_, upd_same, by rw [List.length_append, hl] <;> rfl, fun x hx => ?_⟩
      · exact Ex.mut (e2.trans e3) hD
      · rcases List.mem_append.mp hx with h | h
        · exact hP x h
        · rw [List.mem_singleton.mp h]
          exact py
    · rintro H2 ⟨xs, e2, h2, hl, hP⟩
      exact q Dl H2 xs ⟨by omega, hP⟩ (fresh_back e1 hD) (e1.trans e2) h2
theorem ev_dget {kvs : List (Key × V)} {a : Addr} {k : Str} (ha : Ev ta σ H (.ref a)) (hb : Ev tb σ H (.str k)) (h : H a = some (.dK kvs)) (hv : valV kvs (Sum.inr k : Key) = some v) : Ev (tDGet ta tb) σ H v := fun H1 e Q q =>
  ha H1 e _ fun H2 e2 => hb H2 (e.trans e2) _ fun H3 e3 => ⟨a, v, rfl, by
    have g := DGet.k (k := (Sum.inr k : Key)) (((e.trans e2).trans e3) a _ h)
    rw [hv] at g
    exact g, q H3 (e2.trans e3)⟩
theorem rv_addS {a b : List Nat} (h : a.length + b.length ≤ 100000) : RV (fun x y H Q => ∃ i j, x = .str i ∧ y = .str j ∧ i.length + j.length ≤ sizeLine ∧ Q (.str (i ++ j)) H) (.str (S a)) (.str (S b)) H (.str (S (a ++ b))) := fun H1 _ Q q =>
  ⟨S a, S b, rfl, rfl, by rw [S_len, S_len]; exact sz_of h, by rw [S_cat]; exact q H1 (Ex.refl H1)⟩
theorem rv_repS {a : List Nat} {k : Nat} (h : a.length ≤ 16) (hk : k ≤ 100000) : RV rRepS (.str (S a)) (.int (k : Int)) H (.str (S (List.replicate k a).flatten)) := fun H1 _ Q q => ⟨a, k, rfl, rfl, h, hk, q H1 (Ex.refl H1)⟩
end
theorem joinL_nil : ∀ l : List Nat, TL.joinL [] (l.map fun c => [c]) = l
  | [] => rfl
  | [c] => rfl
  | c :: d :: r => by
    show [c] ++ ([] ++ TL.joinL [] ((d :: r).map fun c => [c])) = _
    rw [joinL_nil (d :: r)] <;> rfl
theorem given_nil {n : Nat} {f : Nat → Bool} {v : Nat → V} : (given n f v = []) ↔ ∀ i, i < n → f i = false := by
  unfold given
  rw [List.map_eq_nil_iff, List.filter_eq_nil_iff]
  constructor
  · intro h i hi
    have := h i (List.mem_range.mpr hi)
    simpa using this
  · intro h i hi
    rw [h i (List.mem_range.mp hi)]
    exact Bool.false_ne_true
/-- [1, ..] != [] -/
theorem eqvAll_nil : ∀ ds : List PyData, PyData.eqvAll ds [] = decide (ds = [])
  | [] => by decide +kernel
  | d :: ds => by
    have e : PyData.eqvAll (d :: ds) [] = false := by
      unfold PyData.eqvAll
      rfl
    rw [e]
    exact (decide_eq_false (List.cons_ne_nil _ _)).symm
/-- arguments known by what is true of them -/
def EAN (ta : TA) (σ : L2.St) (H : Hp) (P : List V → Prop) : Prop := ∀ H1, Ex H H1 → ∀ Q : List V → Hp → Prop, (∀ vs H2, P vs → Ex H1 H2 → Q vs H2) → ta σ H1 Q
section
variable {K : PySem.W.Frag} {σ : L2.St} {H H' : Hp} {ta tb te tx t1 t2 : TE} {t u : TT} {x y z v : V} {P : V → Prop} {L : List V → Prop} {D : Ends} {tz : TS}
theorem ean_nil : EAN tNil σ H (· = []) := fun H1 _ _ q => q [] H1 rfl (Ex.refl H1)
theorem ean_cons {tr : TA} (h : EvN te σ H P) (hr : EAN tr σ H L) : EAN (tCons te tr) σ H (fun l => ∃ v r, l = v :: r ∧ P v ∧ L r) := fun H1 e Q q =>
  h H1 e _ fun v H2 pv e2 => hr H2 (e.trans e2) _ fun r H3 pr e3 => q (v :: r) H3 ⟨v, r, rfl, pv, pr⟩ (e2.trans e3)
theorem ean_one {tr : TA} (h : Ev te σ H v) (hr : EAN tr σ H L) : EAN (tCons te tr) σ H (fun l => ∃ r, l = v :: r ∧ L r) := fun H1 e Q q =>
  h H1 e _ fun H2 e2 => hr H2 (e.trans e2) _ fun r H3 pr e3 => q (v :: r) H3 ⟨r, rfl, pr⟩ (e2.trans e3)
theorem enl_lst {ta : TA} (h : EAN ta σ H L) (hl : ∀ l, L l → l.length ≤ 100000) : EvNL (tLst ta) σ H L := fun H1 e Q q =>
  h H1 e _ fun vs H2 pv e2 => ⟨sz_of (hl vs pv), fun p hp => q p _ vs pv (fresh_back e2 hp) (e2.trans (Ex.new hp)) upd_same⟩
theorem EvNL.of {xs : List V} (h : EvL te σ H xs) : EvNL te σ H (· = xs) := fun H1 e Q q => h H1 e Q fun p H2 hp e2 h2 => q p H2 xs rfl hp e2 h2
/-- an item of such a list at a number below its length -/
theorem en_ixNL {n : Nat} (ha : EvNL ta σ H L) (hb : EvN tb σ H (fun v => ∃ z : Int, v = .int z ∧ 0 ≤ z ∧ z < (n : Int))) (hl : ∀ l, L l → l.length = n ∧ ∀ v ∈ l, P v) : EvN (tOp (rIxL K) ta tb) σ H P := fun H1 e Q q =>
  ha H1 e _ fun p H2 xs hL hp e2 h2 => hb H2 (e.trans e2) _ fun v H3 hv e3 => by
    obtain ⟨z, rfl, z0, z1⟩ := hv
    obtain ⟨k, rfl⟩ : ∃ k : Nat, z = (k : Int) := ⟨z.toNat, by omega⟩
    obtain ⟨h5, h6⟩ := hl xs hL
    have hlt : k < xs.length := by omega
    exact ⟨p, xs, (k : Int), xs[k], rfl, rfl, sq_of (e3 p _ h2), atI_nat (List.getElem?_eq_getElem hlt), q _ H3 (h6 _ (List.getElem_mem hlt)) (e2.trans e3)⟩
/-- a, b = e, a new list -/
theorem q_tupL {i j : Nat} {xs : List V} (h1 : Ev t1 σ H v) (h2 : EvL t2 σ H xs) (k : ∀ p H1, H p = none → Ex H H1 → H1 p = some (.lst xs) → tz D ((σ.set i (some v)).set j (some (.ref p))) H1) :
    tSeq (tAsg (tTup (tCons t1 (tCons t2 tNil))) (gTup K 2 (gCons (gName i) (gCons (gName j) gNil)))) tz D σ H :=
  h1 H (Ex.refl H) _ fun H1 e1 => h2 H1 e1 _ fun p H2 hp e2 hpl => ⟨by show 2 ≤ sizeLine; decide, fun c hc =>
    ⟨c, [v, .ref p], rfl, st_of upd_same, rfl, v, [.ref p], rfl, .ref p, [], rfl, rfl, k p _ (fresh_back e1 hp) ((e1.trans e2).trans (Ex.new hc)) (by
      rw [upd_ne (ne_of_none hpl hc)]
      exact hpl)⟩⟩
/-- a new list of flat data is not empty -/
theorem ev_neNil {n : Nat} {f : Nat → Bool} (ha : EvL ta σ H (given n f fun _ => .int 1)) (hn : n ≤ 60) : Ev (tOp (rNeD K) ta (tLst tNil)) σ H (.bl ((List.range n).any f)) := ev_opLL ha (el_lst ea_nil (Nat.zero_le _)) fun p q H1 h1 h2 _ H2 e2 Q q2 => by
  obtain ⟨m, hm, em⟩ : ∃ m, m ≤ n ∧ (given n f fun _ => V.int 1) = List.replicate m (V.int 1) := by
    have hl := given_len n f fun _ => V.int 1
    refine ⟨_, hl, List.eq_replicate_iff.mpr ⟨rfl, fun b hb => ?_⟩⟩
    unfold given at hb
    obtain ⟨_, _, e⟩ := List.mem_map.mp hb
    exact e.symm
  have hall : ∀ m : Nat, DpAll K H2 (List.replicate m (V.int 1)) (List.replicate m (PyData.int 1)) := fun m => by
    induction m with
    | zero => exact .nil
    | succ m ih => exact .cons (.int 1) ih
  have hany : (List.range n).any f = !decide (m = 0) := by
    have h3 : (m = 0) ↔ ∀ i, i < n → f i = false := by
      rw [← given_nil (v := fun _ => V.int 1), em]
      cases m with
      | zero => exact ⟨fun _ => rfl, fun _ => rfl⟩
      | succ m => exact ⟨fun z => absurd z (Nat.succ_ne_zero m), fun z => by rw [List.replicate_succ] at z; cases z⟩
    cases hb : (List.range n).any f with
    | false =>
      rw [List.any_eq_false] at hb
      have hm0 : m = 0 := h3.mpr fun i hi => by
        have := hb i (List.mem_range.mpr hi)
        simpa using this
      rw [decide_eq_true hm0] <;> rfl
    | true =>
      rw [List.any_eq_true] at hb
      obtain ⟨i, hi, hfi⟩ := hb
      have hm0 : ¬ m = 0 := fun z => by
        have := h3.mp z i (List.mem_range.mp hi)
        rw [hfi] at this
        cases this
      rw [decide_eq_false hm0] <;> rfl
  rw [em] at h1
  have hsh : ∀ m, m ≤ 60 → SeqAt.shaped (.list (List.replicate m (PyData.int 1))) = true := by decide +kernel
  refine ⟨.list (List.replicate m (.int 1)), .list [], .lst (sq_of (e2 p _ h1)) (hall m), .lst (sq_of (e2 q _ h2)) .nil, hsh m (by omega), by decide +kernel, ?_⟩
  have e : PyData.eqv (.list (List.replicate m (PyData.int 1))) (.list []) = decide (m = 0) := by
    refine (eqvAll_nil _).trans ?_
    cases m with
    | zero => rfl
    | succ m =>
      rw [decide_eq_false (Nat.succ_ne_zero m), List.replicate_succ]
      exact decide_eq_false (List.cons_ne_nil _ _)
  rw [e, ← hany]
  exact q2 H2 (Ex.refl H2)
end
section
variable {K : PySem.W.Frag} {σ : L2.St} {H H' : Hp} {ta tb te tx t1 t2 : TE} {t u : TT} {x y z v : V} {P : V → Prop} {L : List V → Prop} {D : Ends} {tz tu : TS}
theorem el_cat {l : Addr} {xs zs : List V} (ha : Ev ta σ H (.ref l)) (hl : H l = some (.lst xs)) (hb : EvL tb σ H zs) (hz : xs.length + zs.length ≤ 100000) : EvL (tOp rCat ta tb) σ H (xs ++ zs) := fun H1 e Q q =>
  ha H1 e _ fun H2 e2 => hb H2 (e.trans e2) _ fun p H3 hp e3 h3 => ⟨l, p, xs, zs, rfl, rfl, e3 l _ (e2 l _ (e l _ hl)), h3, sz_of hz, fun c hc => q c _ (fresh_back (e2.trans e3) hc) ((e2.trans e3).trans (Ex.new hc)) upd_same⟩
theorem en_callN {sp : Sp} {dvs : List V} {E : XK} {ta : TA} (h : EAN ta σ H L) (hs : ∀ vs, L vs → SpN sp (vs ++ dvs) H P) : EvN (tCall sp dvs E ta) σ H P := fun H1 e Q q =>
  h H1 e _ fun vs H2 hv e2 => hs vs hv H2 (e.trans e2) Q (fun v H3 p e3 => q v H3 p (e2.trans e3)) E
/-- a loop over range(n), n known by what is true of it -/
theorem q_forRN {j N : Nat} (h : EvN te σ H (fun v => ∃ z : Int, v = .int z ∧ 0 ≤ z ∧ z < (N : Int))) (hN : N ≤ 10000) (Pv : Nat → L2.St → Hp → Prop) (h0 : ∀ H1, Ex H H1 → Pv 0 σ H1)
    (hs : ∀ (i : Nat) σ' H', i < N → Pv i σ' H' → tu { D with nx := Pv (i + 1), ct := Pv (i + 1), bk := tz D } (σ'.set j (some (.int (i : Int)))) H') (hd : ∀ n σ' H', n < N → Pv n σ' H' → tz D σ' H') :
    tSeq (tFor (iRng1 (tCons te tNil)) (gName j) tu) tz D σ H := h H (Ex.refl H) _ fun v H1 hv e1 => by
  obtain ⟨z, rfl, z0, z1⟩ := hv
  refine ⟨z, rfl, by omega, by omega, for_range (D := { D with nx := tz D }) (lo := 0) (n := z.toNat) Pv (h0 H1 e1) (fun i σ' H' hi p => ?_) fun σ' H' p => hd z.toNat σ' H' (by omega) p⟩
  have e0 : (0 : Int) + (i : Int) = (i : Int) := Int.zero_add _
  show tu { D with nx := Pv (i + 1), ct := Pv (i + 1), bk := tz D } (σ'.set j (some (.int ((0 : Int) + (i : Int))))) H'
  rw [e0]
  exact hs i σ' H' (by omega) p
theorem s_forRN {j N : Nat} (h : EvN te σ H (fun v => ∃ z : Int, v = .int z ∧ 0 ≤ z ∧ z < (N : Int))) (hN : N ≤ 10000) (Pv : Nat → L2.St → Hp → Prop) (h0 : ∀ H1, Ex H H1 → Pv 0 σ H1)
    (hs : ∀ (i : Nat) σ' H', i < N → Pv i σ' H' → tu { D with nx := Pv (i + 1), ct := Pv (i + 1), bk := D.nx } (σ'.set j (some (.int (i : Int)))) H') (hd : ∀ n σ' H', n < N → Pv n σ' H' → D.nx σ' H') :
    tFor (iRng1 (tCons te tNil)) (gName j) tu D σ H := q_forRN (D := D) (tz := tNext) h hN Pv h0 hs hd
/-- a, b = x, y -/
theorem q_par {i j : Nat} {ta : TA} {a b : V} (h : EvA ta σ H [a, b]) (k : ∀ H1, Ex H H1 → tz D ((σ.set i (some a)).set j (some b)) H1) : tSeq (tPar i j ta) tz D σ H := h H (Ex.refl H) _ fun H1 e1 => ⟨_, _, rfl, k H1 e1⟩
end
end Wt

set_option Elab.async false
set_option linter.all false
set_option maxRecDepth 100000
set_option maxHeartbeats 4000000
/-! What raises: a def that may, its call; a Fault that is made; try with several clauses, the first one taken; a lambda handed in. -/
namespace Wt
open PySem PySem.Spec PyProof.Rows L2 SX Evl
open C8 (Def fnBody fnScope)
section
variable {P : Program} {w : World} {K : PySem.W.Frag} {mg : Str → Option Value} {base : Heap}
/-! ### defs that may raise -/
structure CalX (P : Program) (w : World) (K : PySem.W.Frag) (mg : Str → Option Value) (base : Heap) (k : Nat) (x : Str) (sp : Sp) : Prop where
  ex : ∃ (f : Addr) (fd : FuncData) (ps : List Str), FnOk P w K mg base (L2.CX P w) k f fd ps sp ∧ mg x = some (.ref f) ∧ PySem.W.keepIn K (.ref f) = true ∧ Binds K fd ps []
theorem calX {x : Str} {st : Stmt} {f : Addr} {fd : FuncData} {N ps : List Str} {k : Nat} {sp : Sp} (F : Def K mg x st f fd) (b : Binds K fd ps []) (S : FnScope N ps (fnScope st)) (len : ∀ vs H Q E, sp vs H Q E → vs.length = ps.length)
    (body : ∀ (cdv : Value) (A : Around) (outer : List Env) (s : Shared) (H : Hp) (vs : List V) (Q : VK) (E : XK), Room k (A.deeper (envOfC x (fnScope st) s.heap.objs.size f cdv)) → sp vs H Q E →
      ∃ t, PSs (cxOf (L2.CX P w) P w K mg base N x (fnScope st) f cdv A outer s H E) (fnBody st) t ∧ t { nx := fun _ H' => Q .non H', rt := Q } (start N vs) H) : CalX P w K mg base (k + 1) x sp := by
  obtain ⟨oc, od, dV, kV, doc, pm, an, cdv, ct, osl, rfl, lk, hcd⟩ := F.fn.ex
  exact ⟨f, _, ps, fn_of lk hcd S len fun A outer s H vs Q E hr hsp => body cdv A outer s H vs Q E hr hsp, F.mgf, F.kp, b⟩
/-- what such a def lets out -/
theorem tk_cx {N : List Str} {q : Str} {sc : Scope} {f : Addr} {cdv : Value} {A : Around} {outer : List Env} {s : Shared} {H : Hp} {E : XK} : Takes (cxOf (L2.CX P w) P w K mg base N q sc f cdv A outer s H E) (fun cls d _ H' => E cls d H') :=
  takes_of (E := E) rfl rfl rfl rfl
end
section
variable {X : Cx} {k j : Nat} {x : Str} {sp : Sp} {p pos : Pos} {e : Expr} {es : List Expr} {t : TA} {W : WX}
theorem pe_cX (c : CalX X.prog X.w X.K X.mg X.base k x sp) (tk : Takes X W) (hr : Room j X.A) (hk : k ≤ j) (hg : Gl X x) (ha : PA X (e :: es) t)
    (hdb : (x == ("__debug__" : Str)) = false := by decide) (he : starEach (e :: es) X.env = (false, eval e X.env) :: starEach es X.env := by rfl) (hpl : (backTo pos (starEach es X.env)).any (·.1) = false := by rfl) :
    PE X (.Call (.Name x p) (e :: es) [] pos) (tCallS sp (WE W) t) := by
  obtain ⟨f, fd, ps, F, hm, kp, b⟩ := c.ex
  exact pe_callS F (hr.mono hk) hg hm kp b (fun σ => passAt tk σ) ha hdb he hpl
end

/-! ### an exception of four fields, made by its own __init__ -/
def spFault (C : Addr) : Sp := fun vs H Q _ => ∃ (a : Addr) (v1 v2 v3 v4 : V), vs = [.ref a, v1, v2, v3, v4] ∧ H a = some (exo a C none) ∧
  ∀ dx H2, H dx = none → dx ≠ a → (∀ b, b ≠ a → b ≠ dx → H2 b = H b) → H2 a = some (exo a C (some dx)) → H2 dx = some (exd dx [("why", v4), ("place", v3), ("file", v2), ("stage", v1)]) → Q .non H2
theorem mk_fault {C : Addr} {ta : TA} {σ : L2.St} {H : Hp} {Q : XK} {v1 v2 v3 v4 : V} (h : EvA ta σ H [v1, v2, v3, v4]) (q : ∀ d H2, Ex H H2 → H2 d = some (.xd [("why", v4), ("place", v3), ("file", v2), ("stage", v1)]) → Q (.ref C) (some d) H2) :
    tMkO C (spFault C) [] ta σ H Q := h H (Ex.refl H) _ fun H1 e1 => by
  refine ⟨by show 4 ≤ 1000; decide, fun a ha => ⟨a, v1, v2, v3, v4, rfl, upd_same, fun dx H2 hdx hne hb h2a h2d => ⟨rfl, dx, _, h2a, h2d, ?_, q dx _ (fun b o ho => ?_) upd_same⟩⟩⟩
  · rw [upd_ne hne] at hdx
    exact hdx
  · have h1 := e1 b o ho
    have nba : b ≠ a := ne_of_none h1 ha
    have nbd : b ≠ dx := by
      rw [upd_ne hne] at hdx
      exact ne_of_none h1 hdx
    rw [upd_ne nbd, del_ne nba, hb b nba nbd, upd_ne nba]
    exact h1
theorem fault_end {C : Addr} {H1 : Hp} {Q : XK} {v1 v2 v3 v4 : V} (q : ∀ d H2, Ex H1 H2 → H2 d = some (.xd [("why", v4), ("place", v3), ("file", v2), ("stage", v1)]) → Q (.ref C) (some d) H2) :
    ([v1, v2, v3, v4] : List V).length ≤ 1000 ∧ ∀ a, H1 a = none → spFault C (.ref a :: ([v1, v2, v3, v4] ++ [])) (upd H1 a (exo a C none)) (fun v H2 => v = .non ∧ ∃ (d : Addr) (fs : List (Str × V)), H2 a = some (exo a C (some d)) ∧ H2 d = some (exd d fs) ∧ H1 d = none ∧ Q (.ref C) (some d) (upd (del H2 a) d (.xd fs))) (fun _ _ _ => False) :=
  mk_fault (ta := fun _ H Q => Q [v1, v2, v3, v4] H) (σ := []) (fun H2 e Q q2 => q2 H2 (Ex.refl H2)) q
/-- the class that makes it -/
structure MakF (P : Program) (w : World) (K : PySem.W.Frag) (mg : Str → Option Value) (base : Heap) (k : Nat) (x : Str) (C : Addr) : Prop where
  ex : ∃ (fI : Addr) (fd : FuncData) (ps : List Str), OexC K C ∧ PySem.W.findIn K (.ref C) "__init__" = some (some (.ref fI)) ∧ PySem.W.typeIn K (.ref fI) = some (.type "function") ∧ FnOk P w K mg base C8.CX0 k fI fd ps (spFault C) ∧ Binds K fd ps [] ∧ mg x = some (.ref C)
theorem ps_fault {X : Cx} {k j : Nat} {x : Str} {C : Addr} {p pos pos' : Pos} {e : Expr} {es : List Expr} {ta : TA} {W : WX} (c : MakF X.prog X.w X.K X.mg X.base k x C) (hr : Room j X.A) (hk : k + 1 ≤ j) (hc : X.calm = true) (tk : Takes X W) (hg : Gl X x) (ha : PA X (e :: es) ta)
    (hdb : (x == ("__debug__" : Str)) = false := by decide) (he : starEach (e :: es) X.env = (false, eval e X.env) :: starEach es X.env := by rfl) (hpl : (backTo pos (starEach es X.env)).any (·.1) = false := by rfl) :
    PS X (.Raise (some (.Call (.Name x p) (e :: es) [] pos)) none pos') (fun _ σ H => tMkO C (spFault C) [] ta σ H fun cls d H' => W cls d σ H') := by
  obtain ⟨fI, fd, ps, T, iC, tI, F, b, hm⟩ := c.ex
  exact ps_raise hc tk (pmk_oex T iC tI F (hr.mono hk) b .nil C8.pass0 hg hm ha hdb he hpl)
/-- self.f = v, four times -/
theorem init4 {K : PySem.W.Frag} {C a : Addr} {σ : L2.St} {H : Hp} {D : Ends} {f1 f2 f3 f4 : Str} {v1 v2 v3 v4 : V} (T : OexC K C) (n1 : PySem.W.findIn K (.ref C) f1 = some none) (n2 : PySem.W.findIn K (.ref C) f2 = some none) (n3 : PySem.W.findIn K (.ref C) f3 = some none) (n4 : PySem.W.findIn K (.ref C) f4 = some none)
    (s0 : σ[0]? = some (some (.ref a))) (s1 : σ[1]? = some (some v1)) (s2 : σ[2]? = some (some v2)) (s3 : σ[3]? = some (some v3)) (s4 : σ[4]? = some (some v4)) (ha : H a = some (exo a C none))
    (q : ∀ dx H2, H dx = none → dx ≠ a → (∀ b, b ≠ a → b ≠ dx → H2 b = H b) → H2 a = some (exo a C (some dx)) → H2 dx = some (exd dx [(f4, v4), (f3, v3), (f2, v2), (f1, v1)]) → D.nx σ H2) :
    tSeq (tOst K f1 (tVar 0) (tVar 1)) (tSeq (tOst K f2 (tVar 0) (tVar 2)) (tSeq (tOst K f3 (tVar 0) (tVar 3)) (tOst K f4 (tVar 0) (tVar 4)))) D σ H := by
  refine ⟨_, s1, _, s0, a, C, rfl, T, n1, .inl ⟨ha, fun dx hdx hne => ?_⟩⟩
  refine ⟨_, s2, _, s0, a, C, rfl, T, n2, .inr ⟨dx, _, upd_same, by rw [upd_ne hne]; exact upd_same, by show 1 ≤ 900; decide, ?_⟩⟩
  refine ⟨_, s3, _, s0, a, C, rfl, T, n3, .inr ⟨dx, _, by rw [upd_ne hne.symm]; exact upd_same, upd_same, by show 2 ≤ 900; decide, ?_⟩⟩
  refine ⟨_, s4, _, s0, a, C, rfl, T, n4, .inr ⟨dx, _, by rw [upd_ne hne.symm, upd_ne hne.symm]; exact upd_same, upd_same, by show 3 ≤ 900; decide, ?_⟩⟩
  refine q dx _ hdx hne (fun b h1 h2 => by rw [upd_ne h2, upd_ne h2, upd_ne h2, upd_ne h1, upd_ne h2]) ?_ upd_same
  rw [upd_ne hne.symm, upd_ne hne.symm, upd_ne hne.symm]
  exact upd_same

/-! ### try: body, several clauses, the first one taken -/
/-- only what the first clause takes comes out of the body; slot i is the clause's name -/
def wHit (K : PySem.W.Frag) (m : Nat) (c : Value) (i : Nat) (ts : Addr → Value → Option Addr → TS) (D : Ends) : WX := fun cls d σ H => PySem.W.exmOne K cls c = some true ∧ ∀ a, H a = none → σ.length = m →
  ts a cls d { nx := fun σ' H' => D.nx (σ'.set i none) H', rt := D.rt, bk := fun σ' H' => D.bk (σ'.set i none) H', ct := fun σ' H' => D.ct (σ'.set i none) H' } (σ.set i (some (.ref a))) H
section
variable {X : Cx} {x n : Str} {c : Value} {i : Nat} {body suite : List Stmt} {b₀ : Stmt} {hds : List ExceptHandler} {np pos pos' : Pos} {tb : WX → TS} {ts : Addr → Value → Option Addr → TS}
/-- a caught one stands at no frame -/
theorem caught_off {B h : Heap} {l : List Env} {a : Addr} {o : Obj} {vs : Array Value} (ff : h.FunFrames B l) (e : h.get? a = some o) (dd : o.data = .fields vs) : a ∉ frs l := fun hm => by
  obtain ⟨_, u, eu, no⟩ := ff.mem hm
  have z : o = u := Option.some.inj (e.symm.trans eu)
  exact no vs (z ▸ dd)
theorem ps_try_hit (hs : X.stack = X.env :: X.outer) (hf : X.env.frame = some X.env.locals) (hN : X.N.Nodup) (hi : X.N[i]? = some n) (hln : X.env.kindOf n = some .local) (hc : Names X x c)
    (hb : ∀ (W : WX) (pn : List (Addr × Obj)) (xe : Value → Shared → Prop), Takes (X.tr pn xe) W → PassesOwn (model X.prog X.w) X.A X.env xe → PSs (X.tr pn xe) body (tb W))
    (hsu : ∀ (a : Addr) (oe : Obj) (cls : Value) (d : Option Addr) (pn : List (Addr × Obj)), Zc cls d oe → (∃ vs, oe.data = .fields vs) → PSs (X.suite a ((a, oe) :: pn)) (b₀ :: suite) (ts a cls d)) :
    PS X (.Try body (.ExceptHandler (some (.Name x np)) (some n) (b₀ :: suite) pos' :: hds) [] [] pos) (fun D σ H => tb (wHit X.K X.N.length c i ts D) D σ H) := by
  refine ⟨fun pins s σ H D I h => ?_⟩
  have ok := I.ok
  have frames : X.A.frames = some (X.env :: X.outer) := by rw [ok.frames, hs]
  -- what the clauses do with what comes out
  have caught : ∀ u s', XE (X.tr (X.pn ++ pins) (fun e s₁ => wpAny (model X.prog X.w) X.A (noteFrame e X.env) (fun _ s₂ => wpAny (model X.prog X.w) X.A (setFlight e none) (fun _ s₃ =>
      wpAny (model X.prog X.w) X.A (handleBy e X.env (.ExceptHandler (some (.Name x np)) (some n) (b₀ :: suite) pos' :: hds)) (SP X pins D) X.xe s₃) X.xe s₂) X.xe s₁)) (wHit X.K X.N.length c i ts D) u s' →
      wpAny (model X.prog X.w) X.A (noteFrame u X.env) (fun _ s₂ => wpAny (model X.prog X.w) X.A (setFlight u none) (fun _ s₃ =>
        wpAny (model X.prog X.w) X.A (handleBy u X.env (.ExceptHandler (some (.Name x np)) (some n) (b₀ :: suite) pos' :: hds)) (SP X pins D) X.xe s₃) X.xe s₂) X.xe s' := by
    rintro u s' ⟨a, B, sI, pins', σ', H', cls, d, rfl, J0, ground, up, sky, na, os, ag, hit, go⟩
    have J : Inv X pins σ' H' sI := J0.ofTry ok
    refine Sky.land Zc.steady frames hf (by rw [← hs]; exact sky) fun h1 fl1 up1 => ?_
    have J1 : Inv X pins σ' H' { s' with heap := h1 } := J.landed ground fl1.1 (up.trans up1) os ag
    obtain ⟨o1, vs1, g1, z1, d1⟩ := fl1.there
    have off := caught_off fl1.2.2.1 g1 d1
    have offL : a ≠ X.env.locals := fun z => off (List.mem_filterMap.mpr ⟨X.env, List.mem_cons_self, by rw [hf, z]⟩)
    have offF : a ∉ X.fs := fun hm => by
      obtain ⟨e, he, q⟩ := List.mem_filterMap.mp hm
      exact off (List.mem_filterMap.mpr ⟨e, List.mem_cons_of_mem _ he, q⟩)
    have T1 := J1.suite g1 d1 na offL offF
    refine wpAny_handleBy_cons (codeAny_handlers_test ?_) (fun q => by cases q)
    have look : PySem.W.Looks (model X.prog X.w) h1 (excMatches (.ref a) c) true := PySem.W.exm_one J1.kIn (fun A Q E s k q => wpAny_typeOf_ref (k _ _ g1) (by rw [z1.1]; exact q)) hit
    have named : ∀ {Q : Value → Shared → Prop} {E : Value → Shared → Prop}, Q c { s' with heap := h1 } → wpAny (model X.prog X.w) (X.A.mark (some (.ref a))) (eval (.Name x np) X.env) Q E { s' with heap := h1 } := fun {Q E} q => by
      obtain ⟨hg, hdb, hm | ⟨hm, hv, hnn⟩⟩ := hc
      · exact ld_glob (X := X.suite a ((a, o1) :: (X.pn ++ pins))) T1 hg hm q hdb
      · exact ld_blt (X := X.suite a ((a, o1) :: (X.pn ++ pins))) T1 hg hm hv q hnn hdb
    refine named (look.here (codeAny_handlers_suite_as ?_))
    refine HandSPX.lands_againZ fl1 fun h2 fl2 up2 => ?_
    have J2 : Inv X pins σ' H' { s' with heap := h2 } := J.landed ground fl2.1 ((up.trans up1).trans up2) os ag
    obtain ⟨o2, vs2, g2, z2, d2⟩ := fl2.there
    have T2 := J2.suite g2 d2 na offL offF
    refine store_ok (X := X.suite a ((a, o2) :: (X.pn ++ pins))) (v := .ref a) T2 hN hi (.inl hln) rfl (fun s3 T3 => ?_) (.inr hln)
    refine wpAny_mono ((hsu a o2 cls d (X.pn ++ pins) z2 ⟨_, d2⟩).run [] s3 _ H' _ T3 (go a na J.len)) (fun fl s4 hsp => ?_) fun _ _ z => z.elim
    have done : ∀ {σ4 : L2.St} {H4 : Hp} {Q : Shared → Prop}, Inv (X.suite a ((a, o2) :: (X.pn ++ pins))) [] σ4 H4 s4 → (∀ s5, Inv X pins (σ4.set i none) H4 s5 → Q s5) →
        wpAny (model X.prog X.w) X.A (do bindName X.env n .none; unbindBehindTheSuite X.env n pos') (fun _ s5 => Q s5) X.xe s4 := fun T4 hq => gone_ok (T4.unsuite ok) hN hi hln hq
    match fl, hsp with
    | .next, ⟨_, _, T4, q4⟩ => exact done T4 fun s5 J5 => ⟨_, _, J5, q4⟩
    | .brk, ⟨_, _, T4, q4⟩ => exact done T4 fun s5 J5 => ⟨_, _, J5, q4⟩
    | .cont, ⟨_, _, T4, q4⟩ => exact done T4 fun s5 J5 => ⟨_, _, J5, q4⟩
    | .ret u4, ⟨_, _, _, T4, r4, q4⟩ => exact done T4 fun s5 J5 => ⟨_, _, _, J5, r4, q4⟩
  refine wpAny_Try_except (wpAny_mono ((hb (wHit X.K X.N.length c i ts D) (X.pn ++ pins) _ caught PassesOwn.looking).run [] s σ H D (I.toTry _) h) (fun fl s1 hsp => ?_) fun e s1 he => he)
  match fl, hsp with
  | .next, ⟨σ', H', J', q⟩ => exact wpAny_execs_nil ⟨σ', H', J'.ofTry ok, q⟩
  | .brk, ⟨σ', H', J', q⟩ => exact ⟨σ', H', J'.ofTry ok, q⟩
  | .cont, ⟨σ', H', J', q⟩ => exact ⟨σ', H', J'.ofTry ok, q⟩
  | .ret u, ⟨v, σ', H', J', r, q⟩ => exact ⟨v, σ', H', J'.ofTry ok, r, q⟩
end

/-! ### the harness's _law_told over a lambda -/
/-- what is told of a lambda's reading tl: its result, or a tuple of what the Fault tells -/
def TToldF (K : PySem.W.Frag) (CF : Addr) (ret f1 f2 f3 f4 : Str) : (XK → Hp → VK → Prop) → Hp → VK → Prop := fun tl H Q =>
  tl (fun cls d H' => cls = .ref CF ∧ ∃ (dd : Addr) (fs : List (Str × V)) (v1 v2 v3 v4 : V), d = some dd ∧ H' dd = some (.xd fs) ∧ fs.lookup f1 = some v1 ∧ fs.lookup f2 = some v2 ∧ fs.lookup f3 = some v3 ∧ fs.lookup f4 = some v4 ∧
    ∀ p, H' p = none → Q (.ref p) (upd H' p (.tup [.str ret, v1, v2, v3, v4]))) H Q
/-- what must be known of the exception's class -/
structure FltC (K : PySem.W.Frag) (CF : Addr) (f1 f2 f3 f4 : Str) : Prop where
  x : XfC K CF
  hit : PySem.W.exmOne K (.ref CF) (.ref CF) = some true
  n1 : PySem.W.findIn K (.ref CF) f1 = some none
  n2 : PySem.W.findIn K (.ref CF) f2 = some none
  n3 : PySem.W.findIn K (.ref CF) f3 = some none
  n4 : PySem.W.findIn K (.ref CF) f4 = some none
theorem told_hit {X : Cx} {Ng : List Str} {x a e n q ret f1 f2 f3 f4 : Str} {sg : Scope} {g CF : Addr} {cdg : Value} {j kt : Nat} {hds : List ExceptHandler} {p1 p2 p3 p4 p5 p6 p7 p8 p9 p10 p11 p12 p13 p14 p15 p16 p17 : Pos}
    (T : FltC X.K CF f1 f2 f3 f4) (hN : Ng.Nodup) (hi : Ng[1]? = some n) (hln : sg.names.lookup n = some .local) (hge : sg.names.lookup e = some .globalImplicit) (hme : X.mg e = some (.ref CF)) (h0 : ∀ f : Addr, (L2.start Ng [V.ref f])[0]? = some (some (V.ref f))) (hlen : 1 < Ng.length)
    (hde : (e == ("__debug__" : Str)) = false) (hdn : (n == ("__debug__" : Str)) = false) (hcn : (n == ("__classdict__" : Str)) = false) :
    LamX.GivesTo X Ng x sg g cdg [.Try [.Return (some (.Call (.Name a p1) [] [] p2)) p3] (.ExceptHandler (some (.Name e p4)) (some n) [.Return (some (.Tuple [.Constant (.str ret) j p5, .Attribute (.Name n p6) f1 p7, .Attribute (.Name n p8) f2 p9, .Attribute (.Name n p10) f3 p11, .Attribute (.Name n p12) f4 p13] kt p14)) p15] p16 :: hds) [] [] p17]
      a q (TToldF X.K CF ret f1 f2 f3 f4) := by
  intro f c' s H Q tl act hc h
  have hgl : Gl (cxOf C8.CX0 X.prog X.w X.K X.mg X.base Ng x sg g cdg X.A X.stack s H C8.E0).nox e := hge
  have vis : Vis sg n := .inl hln
  refine ⟨_, pss_one (ps_try_hit (X := (cxOf C8.CX0 X.prog X.w X.K X.mg X.base Ng x sg g cdg X.A X.stack s H C8.E0).nox) (c := .ref CF) (i := 1)
      (tb := fun W D σ H => ∃ Ech : XK, (∀ cls d σ' H', Ech cls d H' → W cls d σ' H') ∧ σ[0]? = some (some (.ref f)) ∧ H c' = some (LamX.CodeO c' q) ∧ tl Ech H D.rt)
      rfl rfl hN hi hln ⟨hgl, hde, .inl hme⟩ (fun W pn xe tk _ => ?_) (fun a oe cls d pn hz hf => pss_one (ps_ret (pe_tup (pa_cons pe_str (pa_cons (pe_xf T.x T.n1 hz hf (pe_var (i := 1) hi vis hdn hcn))
        (pa_cons (pe_xf T.x T.n2 hz hf (pe_var (i := 1) hi vis hdn hcn)) (pa_cons (pe_xf T.x T.n3 hz hf (pe_var (i := 1) hi vis hdn hcn)) (pa_cons (pe_xf T.x T.n4 hz hf (pe_var (i := 1) hi vis hdn hcn)) pa_nil))))))))), ?_⟩
  · refine ⟨fun pins s' σ H' D I h' => ?_⟩
    obtain ⟨Ech, hW, h1, h2, h3⟩ := h'
    exact (pss_one (ps_ret (pos := p3) (act W pn xe Ech p1 p2 tk hW))).run pins s' σ H' D I ⟨h1, h2, h3⟩
  · refine ⟨_, ?_, h0 f, hc, h⟩
    rintro cls d σ' H' ⟨rfl, dd, fs, v1, v2, v3, v4, rfl, hx, l1, l2, l3, l4, go⟩
    refine ⟨T.hit, fun a na hl => ?_⟩
    have sa : (σ'.set 1 (some (.ref a)))[1]? = some (some (.ref a)) := List.getElem?_set_self (by rw [hl]; exact hlen)
    exact ⟨_, sa, rfl, rfl, dd, fs, v1, rfl, hx, l1, _, sa, rfl, rfl, dd, fs, v2, rfl, hx, l2, _, sa, rfl, rfl, dd, fs, v3, rfl, hx, l3, _, sa, rfl, rfl, dd, fs, v4, rfl, hx, l4, (by show 5 ≤ sizeLine; exact sz_of (by decide)), fun p hp => go p hp⟩
/-- _law_told(lambda: body) -/
theorem pe_toldL {X : Cx} {T : List (Addr × Str)} {TT : (XK → Hp → VK → Prop) → Hp → VK → Prop} {x a : Str} {st : Stmt} {g c P : Addr} {fd : FuncData} {k : Nat} {Ng : List Str} {params : Arguments} {body : Expr} {scope : Scope} {t : XK → TE} {p lpos pos : Pos}
    (hg : Gl X x) (F : Def X.K X.mg x st g fd) (hb : L2.Binds X.K fd [a] []) (Sg : FnScope Ng [a] (fnScope st)) (hNg : Ng[0]? = some a) (hva : Vis (fnScope st) a) (hG : ∀ cdv, LamX.GivesTo X Ng x (fnScope st) g cdv (fnBody st) a (X.env.qual ++ "<lambda>") TT)
    (TB : LamX.TabB X.base X.mg c P) (hcode : X.env.code = .ref c) (hmT : (P, X.env.qual ++ "<lambda>") ∈ T) (hu : ∀ p ∈ T, p.1 = P → p.2 = X.env.qual ++ "<lambda>") (hr : Room (k + 2) X.A) (L : LamX.LamS X.env.scope scope) (hdef : defaultsOf params X.env = ([], []))
    (hbind : ∀ (q : Str) (cl : List (Str × Addr)) (pm cv ctv : Value), bindArgs (PySem.W.kla_fn "<lambda>" q params body scope cl pm cv ctv) ⟨[], []⟩ = pure [])
    (hbody : ∀ (A : Around) (outer : List Env) (s : Shared) (H : Hp) (E : XK) (f c' : Addr), Room k (A.deeper (LamX.lamEnv X scope s.heap.objs.size f c')) → PE (LamX.lamCx X A outer s H E scope f c') body (t E))
    (hdb : (x == ("__debug__" : Str)) = false := by decide) (hd : (a == ("__debug__" : Str)) = false := by decide) (hcd : (a == ("__classdict__" : Str)) = false := by decide) :
    PE X (.Call (.Name x p) [.Lambda params body scope lpos] [] pos) (LamX.tLam T TT t) := by
  obtain ⟨oc, od, dV, kV, doc, pm, an, cdv, ct, osl, rfl, lk, hc2⟩ := F.fn.ex
  exact LamX.pe_lamcall hg F.mgf F.kp lk hc2 hb Sg hNg hva (hG cdv) TB hcode hmT hu hr L hdef hbind hbody hdb hd hcd
/-- what a lambda lets out -/
theorem tk_lam {X : Cx} {A : Around} {outer : List Env} {s : Shared} {H : Hp} {E : XK} {scope : Scope} {f c' : Addr} : Takes (LamX.lamCx X A outer s H E scope f c') (fun cls d _ H' => E cls d H') := takes_of (E := E) rfl rfl rfl rfl
end Wt

set_option Elab.async false
set_option linter.all false
set_option maxRecDepth 100000
set_option maxHeartbeats 4000000
/-! What may raise, further: methods, defs handed in, classes made; fields read and written. -/
namespace Wt
open PySem PySem.Spec PyProof.Rows L2 SX Evl
open C8 (Def fnBody fnScope)
section
variable {P : Program} {w : World} {K : PySem.W.Frag} {mg : Str → Option Value} {base : Heap}
structure MetX (P : Program) (w : World) (K : PySem.W.Frag) (mg : Str → Option Value) (base : Heap) (k : Nat) (C : Addr) (m : Str) (sp : Sp) : Prop where
  ex : ∃ (f : Addr) (fd : FuncData) (ps : List Str), Cls K C ∧ Meth K C m f ∧ FnOk P w K mg base (L2.CX P w) k f fd ps sp ∧ Binds K fd ps []
theorem metX {m qual : Str} {C : Addr} {st : Stmt} {f : Addr} {fd : FuncData} {N ps : List Str} {k : Nat} {sp : Sp} (c : Cls K C) (me : Meth K C m f) (F : C8.Fun K m qual st f fd) (b : Binds K fd ps []) (S : FnScope N ps (fnScope st)) (len : ∀ vs H Q E, sp vs H Q E → vs.length = ps.length)
    (body : ∀ (cdv : Value) (A : Around) (outer : List Env) (s : Shared) (H : Hp) (vs : List V) (Q : VK) (E : XK), Room k (A.deeper (envOfC qual (fnScope st) s.heap.objs.size f cdv)) → sp vs H Q E →
      ∃ t, PSs (cxOf (L2.CX P w) P w K mg base N qual (fnScope st) f cdv A outer s H E) (fnBody st) t ∧ t { nx := fun _ H' => Q .non H', rt := Q } (start N vs) H) : MetX P w K mg base (k + 1) C m sp := by
  obtain ⟨oc, od, dV, kV, doc, pm, an, cdv, ct, osl, rfl, lk, hcd⟩ := F.ex
  exact ⟨f, _, ps, c, me, fn_of lk hcd S len fun A outer s H vs Q E hr hsp => body cdv A outer s H vs Q E hr hsp, b⟩
/-- a class whose __init__ may raise -/
structure MakX (P : Program) (w : World) (K : PySem.W.Frag) (mg : Str → Option Value) (base : Heap) (k : Nat) (x : Str) (C : Addr) (sp : Sp) : Prop where
  ex : ∃ (f : Addr) (fd : FuncData) (ps : List Str), Mk K C f ∧ FnOk P w K mg base (L2.CX P w) k f fd ps sp ∧ mg x = some (.ref C) ∧ Binds K fd ps []
theorem makX {x qual : Str} {C : Addr} {st : Stmt} {f : Addr} {fd : FuncData} {N ps : List Str} {k : Nat} {sp : Sp} (M : Mk K C f) (hm : mg x = some (.ref C)) (F : C8.Fun K "__init__" qual st f fd) (b : Binds K fd ps []) (S : FnScope N ps (fnScope st)) (len : ∀ vs H Q E, sp vs H Q E → vs.length = ps.length)
    (body : ∀ (cdv : Value) (A : Around) (outer : List Env) (s : Shared) (H : Hp) (vs : List V) (Q : VK) (E : XK), Room k (A.deeper (envOfC qual (fnScope st) s.heap.objs.size f cdv)) → sp vs H Q E →
      ∃ t, PSs (cxOf (L2.CX P w) P w K mg base N qual (fnScope st) f cdv A outer s H E) (fnBody st) t ∧ t { nx := fun _ H' => Q .non H', rt := Q } (start N vs) H) : MakX P w K mg base (k + 1) x C sp := by
  obtain ⟨oc, od, dV, kV, doc, pm, an, cdv, ct, osl, rfl, lk, hcd⟩ := F.ex
  exact ⟨f, _, ps, M, fn_of lk hcd S len fun A outer s H vs Q E hr hsp => body cdv A outer s H vs Q E hr hsp, hm, b⟩
end
/-- what this def lets out is what its caller wants -/
abbrev Lets (X : Cx) (E : XK) : Prop := Takes X (fun cls d _ H => E cls d H)
section
variable {X : Cx} {k j i : Nat} {C f : Addr} {x m : Str} {sp : Sp} {p pos apos : Pos} {e o : Expr} {es : List Expr} {ta : TE} {t : TA} {E : XK}
theorem pe_cE (c : CalX X.prog X.w X.K X.mg X.base k x sp) (tk : Lets X E) (hr : Room j X.A) (hk : k ≤ j) (hg : Gl X x) (ha : PA X (e :: es) t)
    (hdb : (x == ("__debug__" : Str)) = false := by decide) (he : starEach (e :: es) X.env = (false, eval e X.env) :: starEach es X.env := by rfl) (hpl : (backTo pos (starEach es X.env)).any (·.1) = false := by rfl) :
    PE X (.Call (.Name x p) (e :: es) [] pos) (tCall sp [] E t) := by
  obtain ⟨f, fd, ps, F, hm, kp, b⟩ := c.ex
  exact pe_call F (hr.mono hk) hg hm kp b .nil (passes_call tk fun _ _ _ _ h => h) ha hdb he hpl
theorem pe_mkX (c : MakX X.prog X.w X.K X.mg X.base k x C sp) (tk : Lets X E) (hr : Room j X.A) (hk : k + 1 ≤ j) (hg : Gl X x) (ha : PA X (e :: es) t)
    (hdb : (x == ("__debug__" : Str)) = false := by decide) (he : starEach (e :: es) X.env = (false, eval e X.env) :: starEach es X.env := by rfl) (hpl : (backTo pos (starEach es X.env)).any (·.1) = false := by rfl) :
    PE X (.Call (.Name x p) (e :: es) [] pos) (tMake C sp [] E t) := by
  obtain ⟨f, fd, ps, M, F, hm, b⟩ := c.ex
  exact pe_make M F (hr.mono hk) hg hm b .nil (passes_call tk fun _ _ _ _ h => h) ha hdb he hpl
theorem pe_mtX {pl : Sem Bool} (c : MetX X.prog X.w X.K X.mg X.base k C m sp) (tk : Lets X E) (hr : Room j X.A) (hk : k ≤ j) (he : PE X o ta) (ha : PA X (e :: es) t)
    (hst : starEach (e :: es) X.env = (false, eval e X.env) :: starEach es X.env := by rfl) (hpl : (backTo pos (starEach es X.env)).any (·.1) = false := by rfl)
    (ht : eval (.Call (.Attribute o m apos) (e :: es) [] pos) X.env = (do
      let ov ← eval o X.env
      standAt apos.atName
      let (f, first) ← holding [ov] (getMethod ov m pl)
      callWith pos f first (backTo pos (starEach (e :: es) X.env)) (backToKw pos (keywordEach [] X.env))) := by rfl) :
    PE X (.Call (.Attribute o m apos) (e :: es) [] pos) (tMeth C m sp [] E ta t) := by
  obtain ⟨f, fd, ps, hc, hm, F, b⟩ := c.ex
  exact pe_meth (pl := pl) he hc hm F (hr.mono hk) b .nil (passes_call tk fun _ _ _ _ h => h) ha hst hpl ht
theorem pe_mtX0 {pl : Sem Bool} (c : MetX X.prog X.w X.K X.mg X.base k C m sp) (tk : Lets X E) (hr : Room j X.A) (hk : k ≤ j) (he : PE X o ta)
    (ht : eval (.Call (.Attribute o m apos) [] [] pos) X.env = (do
      let ov ← eval o X.env
      standAt apos.atName
      let (f, first) ← holding [ov] (getMethod ov m pl)
      callWith pos f first (backTo pos (starEach [] X.env)) (backToKw pos (keywordEach [] X.env))) := by rfl) :
    PE X (.Call (.Attribute o m apos) [] [] pos) (tMeth C m sp [] E ta tNil) := by
  obtain ⟨f, fd, ps, hc, hm, F, b⟩ := c.ex
  exact pe_meth0 (pl := pl) he hc hm F (hr.mono hk) b .nil (passes_call tk fun _ _ _ _ h => h) ht
/-- a def handed in, as it is called -/
theorem pe_clX {fd : FuncData} {ps : List Str} (F : FnOk X.prog X.w X.K X.mg X.base (L2.CX X.prog X.w) k f fd ps sp) (kp : PySem.W.keepIn X.K (.ref f) = true) (b : Binds X.K fd ps []) (tk : Lets X E) (hr : Room j X.A) (hk : k ≤ j) (hN : X.N[i]? = some x) (hv : Vis X.env.scope x) (ha : PA X (e :: es) t)
    (hdb : (x == ("__debug__" : Str)) = false := by decide) (hcd : (x == ("__classdict__" : Str)) = false := by decide)
    (he : starEach (e :: es) X.env = (false, eval e X.env) :: starEach es X.env := by rfl) (hpl : (backTo pos (starEach es X.env)).any (·.1) = false := by rfl) : PE X (.Call (.Name x p) (e :: es) [] pos) (tCallL i f sp [] E t) :=
  pe_callL F (hr.mono hk) hN hv kp b .nil (passes_call tk fun _ _ _ _ h => h) ha hdb hcd he hpl
end
section
variable {K : PySem.W.Frag} {σ : L2.St} {H H' : Hp} {ta tb te tx : TE} {t : TA} {x y z v : V} {D : Ends} {tz : TS}
theorem ev_fld {a C dx : Addr} {fs : List (Str × V)} {f : Str} (ha : Ev ta σ H (.ref a)) (h : H a = some (.ins C dx fs)) (c : Cls K C) (n : NoAttr K C f) (l : fs.lookup f = some v) : Ev (tFld K ta f) σ H v := fun H1 e Q q =>
  ha H1 e _ fun H2 e2 => ⟨a, C, dx, fs, v, rfl, e2 _ _ (e _ _ h), c, n, l, q H2 e2⟩
/-- o.m() where nothing but new things come of it -/
theorem ev_meth {C a dx : Addr} {fs : List (Str × V)} {m : Str} {sp : Sp} {E : XK} {vs : List V} (ha : Ev ta σ H (.ref a)) (h : H a = some (.ins C dx fs)) (l : fs.lookup m = none) (ht : EvA t σ H vs) (hs : ∀ H1, Ex H H1 → ∀ Q : VK, (∀ H2, Ex H1 H2 → Q v H2) → sp (.ref a :: (vs ++ [])) H1 Q E) :
    Ev (tMeth C m sp [] E ta t) σ H v := fun H1 e Q q => ha H1 e _ fun H2 e2 => ⟨a, dx, fs, rfl, e2 _ _ (e _ _ h), l, ht H2 (e.trans e2) _ fun H3 e3 => hs H3 ((e.trans e2).trans e3) Q fun H4 e4 => q H4 ((e2.trans e3).trans e4)⟩
end
end Wt

set_option Elab.async false
set_option linter.all false
set_option maxRecDepth 100000
set_option maxHeartbeats 4000000
/-! d.setdefault(k, z). -/
namespace Wt
open PySem PySem.Spec PyProof.Rows L2 SX Evl
def rSetDef : V → List V → Hp → VK → Prop := fun x vs H Q => ∃ (a : Addr) (kvs : List (Key × V)) (k : Key) (z : V), x = .ref a ∧ vs = [kV k, z] ∧ H a = some (.dK kvs) ∧ kvs.length < sizeLine ∧
  (∀ v, valV kvs k = some v → Q v H) ∧ (valV kvs k = none → Q z (upd H a (.dK (putK kvs k z))))
theorem mt_setdef {X : Cx} : MtR X "dict.setdefault" rSetDef := by
  intro pins s σ H x vs v us Q I rx rv hyp
  obtain ⟨a, kvs, k, z, rfl, rfl, ea, hz, h1, h2⟩ := hyp
  obtain rfl : v = Value.ref a := rx
  cases rv with
  | @cons _ u1 _ _ r1 rv =>
    cases rv with
    | @cons _ u2 _ _ r2 rv =>
      cases rv
      obtain ⟨za, ha, va, ra, da⟩ := dk_of I.hok ea
      have hlen : va.length ≤ sizeLine := by
        rw [← ra.length]
        exact za
      refine call_meetsIn PySem.F.slot_dict_setdefault da.typeIs PySem.F.entry_dict_setdefault (PySem.F.args_dict_setdefault_3 _ _ _) (kt_meets_setdefault (mixKind X.prog X.w) a (kV_is r1) ha u2) ⟨va, da, hlen, fun v' hv' => ?_, fun hn h' dd hs => ?_⟩
      · have rel := ra.val k
        rw [hv'] at rel
        cases hv : valV kvs k with
        | none =>
          rw [hv] at rel
          exact rel.elim
        | some y =>
          rw [hv] at rel
          exact ⟨y, H, I.tok _, rel, h1 y hv⟩
      · have rel := ra.val k
        rw [hn] at rel
        have hv : valV kvs k = none := by
          cases hv : valV kvs k with
          | none => rfl
          | some y =>
            rw [hv] at rel
            exact rel.elim
        have there : ∃ q, h'.get? a = some q := by
          obtain ⟨q, _, _, hq, _⟩ := dd
          exact ⟨q, hq⟩
        have rel2 := ra.put k r2
        have hl : (putK kvs k z).length ≤ sizeLine := by
          unfold putK
          split
          · rw [List.length_map]
            exact za
          · rw [List.length_append]
            exact hz
        exact ⟨z, _, d_write (t' := s.toks + 1) I (by rw [ea]; exact True.intro) hs there (dk_new hl ha rel2 dd), r2, h2 hv⟩
end Wt

set_option Elab.async false
set_option linter.all false
set_option maxRecDepth 100000
set_option maxHeartbeats 4000000
namespace Wt
open PySem PySem.Spec PyProof.Rows L2 SX Evl
open C8 (Def Cal cal0 fnScope_by fnScope)
/-! The program's words, by the row's own text. -/
def topS (i : Nat) : Stmt := PySem.Challenge.pw_wholetongue_k92_trees_of_one_e.main.body.getD i (.Pass ⟨0, 0, 0, 0⟩)

/-! ### further readings -/
theorem lit_letters : Str.ofString "abcdefghijklmnopqrstuvwxyz" = S letters := by decide +kernel
theorem lit_figures : Str.ofString "0123456789" = S figures := by decide +kernel
theorem slice_any {a : List Nat} {i j : Nat} (h : i ≤ j) (hi : i ≤ a.length) : Txt.slice (S a) (some (i : Int)) (some (j : Int)) = S ((a.drop i).take (j - i)) := by
  by_cases hj : j ≤ a.length
  · exact slice_mid h hj
  · have e : Txt.slice (S a) (some (i : Int)) (some (j : Int)) = Txt.slice (S a) (some (i : Int)) (some (a.length : Int)) := by
      unfold Txt.slice
      rw [S_len, idx_hi (by omega)]
    rw [e, slice_mid hi (Nat.le_refl _)]
    refine congrArg S ?_
    rw [List.take_of_length_le (by rw [List.length_drop]; omega), List.take_of_length_le (by rw [List.length_drop]; omega)]
theorem inV_S (w : List Nat) : ∀ ws : List (List Nat), inV (.str (S w)) (ws.map fun z => V.str (S z)) = decide (w ∈ ws)
  | [] => (decide_eq_false (by simp)).symm
  | z :: ws => by
    have ih := inV_S w ws
    have e : inV (.str (S w)) ((z :: ws).map fun z => V.str (S z)) = (eqV (.str (S z)) (.str (S w)) || inV (.str (S w)) (ws.map fun z => V.str (S z))) := rfl
    have e2 : eqV (.str (S z)) (.str (S w)) = decide (z = w) := by
      show (S z == S w) = _
      exact S_beq_eq
    rw [e, ih, e2]
    by_cases h : z = w
    · subst h
      simp
    · have h2 : ¬ w = z := fun q => h q.symm
      simp [h, h2]
theorem flat_S : ∀ ws : List (List Nat), (ws.map fun z => V.str (S z)).all flatV = true
  | [] => rfl
  | z :: ws => by
    rw [List.map_cons, List.all_cons, flat_S ws] <;> rfl
theorem strEq {a b : List Nat} : decide ((V.str (S a)) = V.str (S b)) = decide (a = b) := by
  by_cases h : a = b
  · subst h
    simp
  · rw [decide_eq_false h]
    exact decide_eq_false fun e => h (S_inj (V.str.inj e))
section
variable {K : PySem.W.Frag} {σ : L2.St} {H H' : Hp} {ta tb te tx : TE} {t u : TT} {x y z v : V}
theorem ev_slA {te : TE} {tl th : TO} {a : List Nat} {i j : Nat} (h : Ev te σ H (.str (S a))) (h1 : EvO tl σ H (some (i : Int))) (h2 : EvO th σ H (some (j : Int))) (hl : a.length ≤ 100000) (hi : i ≤ j) (hj : i ≤ a.length) :
    Ev (tSl C8.rSlX te tl th) σ H (.str (S ((a.drop i).take (j - i)))) := fun H1 e Q q =>
  h H1 e _ fun H2 e2 => h1 H2 (e.trans e2) _ fun H3 e3 => h2 H3 ((e.trans e2).trans e3) _ fun H4 e4 => by
    refine ⟨S a, rfl, ?_, ?_⟩
    · rw [S_len]
      exact sz_of hl
    · rw [slice_any hi hj]
      exact q H4 ((e2.trans e3).trans e4)
theorem ev_eqS {a b : List Nat} (ha : Ev ta σ H (.str (S a))) (hb : Ev tb σ H (.str (S b))) : Ev (tOp rEq ta tb) σ H (.bl (decide (a = b))) := ev_is (ev_op ha hb (rv_eq rfl)) (congrArg V.bl strEq)
theorem ev_neS {a b : List Nat} (ha : Ev ta σ H (.str (S a))) (hb : Ev tb σ H (.str (S b))) : Ev (tOp rNe ta tb) σ H (.bl (!decide (a = b))) := ev_is (ev_op ha hb (rv_ne rfl)) (congrArg (fun b => V.bl (!b)) strEq)
theorem ev_inSg {c : Nat} {w : List Nat} (ha : Ev ta σ H (.str (S [c]))) (hb : Ev tb σ H (.str (S w))) :
    Ev (tOp (fun x y H Q => ∃ (c : Nat) (z : Str), x = .str ⟨#[c]⟩ ∧ y = .str z ∧ Q (.bl (decide (c ∈ z.cps.toList))) H) ta tb) σ H (.bl (decide (c ∈ w))) := ev_op ha hb rv_inSign
theorem ev_inTs {w : List Nat} {ws : List (List Nat)} {p : Addr} (ha : Ev ta σ H (.str (S w))) (hb : Ev tb σ H (.ref p)) (hp : SqT K H p (ws.map fun z => V.str (S z))) :
    Ev (tOp (rIn K false) ta tb) σ H (.bl (decide (w ∈ ws))) := ev_is (ev_op ha hb (rv_isT hp rfl (flat_S ws))) (congrArg V.bl (inV_S w ws))
/-- x in [..], a list made on the way, of texts -/
theorem ev_inLs {w : List Nat} {ws : List (List Nat)} {xs : List V} (ha : Ev ta σ H (.str (S w))) (hb : EvL tb σ H xs) (e : xs = ws.map fun z => V.str (S z)) : Ev (tOp (rIn K false) ta tb) σ H (.bl (decide (w ∈ ws))) := by
  subst e
  exact ev_is (ev_opL ha hb fun _ _ h _ => rv_isL (sq_of h) rfl (flat_S ws)) (congrArg V.bl (inV_S w ws))
theorem ev_inUs {w : List Nat} {ws : List (List Nat)} {xs : List V} (ha : Ev ta σ H (.str (S w))) (hb : EvU tb σ H xs) (e : xs = ws.map fun z => V.str (S z)) : Ev (tOp (rIn K false) ta tb) σ H (.bl (decide (w ∈ ws))) := by
  subst e
  exact ev_is (ev_inU ha hb rfl (flat_S ws)) (congrArg V.bl (inV_S w ws))
theorem ev_inLv {w : List Nat} {ws : List (List Nat)} {p : Addr} (ha : Ev ta σ H (.str (S w))) (hb : Ev tb σ H (.ref p)) (hp : H p = some (.lst (ws.map fun z => V.str (S z)))) : Ev (tOp (rIn K false) ta tb) σ H (.bl (decide (w ∈ ws))) :=
  ev_is (ev_op ha hb (rv_isL (sq_of hp) rfl (flat_S ws))) (congrArg V.bl (inV_S w ws))
theorem ev_eqI {i j : Int} (ha : Ev ta σ H (.int i)) (hb : Ev tb σ H (.int j)) : Ev (tOp rEq ta tb) σ H (.bl (decide (i = j))) := ev_is (ev_op ha hb (rv_eq rfl)) (by
  by_cases h : i = j
  · subst h
    simp
  · rw [decide_eq_false h, decide_eq_false fun z => h (V.int.inj z)])
end

/-- what the top leaves of the program's words -/
structure ModsW (K : PySem.W.Frag) (mg : Str → Option Value) (aS aO : Addr) : Prop where
  m_len : mg "len" = none
  m_enumerate : mg "enumerate" = none
  g_LETTERS : ∃ u, mg "LETTERS" = some u ∧ RelV (.str (S letters)) u
  g_FIGURES : ∃ u, mg "FIGURES" = some u ∧ RelV (.str (S figures)) u
  g_LONGEST : ∃ u, mg "LONGEST" = some u ∧ RelV (.int 6) u
  g_SIGNS : ∃ u, mg "SIGNS" = some u ∧ RelV (.ref aS) u
  g_OWN_WORDS : ∃ u, mg "OWN_WORDS" = some u ∧ RelV (.ref aO) u
  signs : ∀ H, SqT K H aS (signs.map fun z => V.str (S z))
  owns : ∀ H, SqT K H aO (owns.map fun z => V.str (S z))

section
variable {P : Program} {w : World} {K : PySem.W.Frag} {mg : Str → Option Value} {base : Heap} {aS aO : Addr}
/-! ### run_at -/
abbrev s_run_at : Stmt := topS 28
theorem sc_run_at : FnScope ["row", "at", "characters", "end"] ["row", "at", "characters"] (fnScope s_run_at) := fnScope_by (by decide +kernel)
def spRun : Sp := fun vs H Q _ => ∃ (row : List Nat) (i : Nat) (cs : List Nat), vs = [.str (S row), .int (i : Int), .str (S cs)] ∧ i ≤ row.length ∧ row.length ≤ 100000 ∧
  RetV (.str (S ((row.drop i).takeWhile fun c => decide (c ∈ cs)))) H Q
theorem ok_run_at (T : ModsW K mg aS aO) {f : Addr} {fd : FuncData} (F : Def K mg "run_at" s_run_at f fd) (b : Binds K fd ["row", "at", "characters"] []) : Cal P w K mg base 1 "run_at" spRun [] := by
  refine cal0 F b .nil sc_run_at (fun vs H Q E h => ?_) (fun cdv A outer s H vs Q E hr h => ?_)
  · obtain ⟨_, _, _, rfl, _⟩ := h
    rfl
  · obtain ⟨row, i, cs, rfl, hi, hl, q⟩ := h
    have m_len := T.m_len
    refine ⟨_, (pss_cons (ps_set (i := 3) sc_run_at.nd rfl (.inl rfl) (pv 1))
      (pss_cons (ps_while PassesOwn.never (PW.pt (pw_and (pt_cmpR op_lt (pv 3) (pe_callB call_len_str (by rfl) m_len PySem.boot_len (pa_cons (pv 0) pa_nil)) (nomark _)) (pw_and1 (pt_cmpR op_in_sign (pe_ix ix_str (pv 0) (pv 3) (fun _ _ => rfl)) (pv 2) (by with_unfolding_all rfl))))) (pss_one (ps_aug (i := 3) sc_run_at.nd rfl (.inl rfl) pe_int ip_add)))
      (pss_one (ps_ret (pe_slice C8.sl_txt (pv 0) (po_some (pv 1)) (po_some (pv 3))))))), ?_⟩
    refine q_asg (ev_var rfl) fun H1 e1 => ?_
    refine q_while (fun m σ' H' => ∃ e : Nat, σ' = [some (.str (S row)), some (.int (i : Int)), some (.str (S cs)), some (.int (e : Int))] ∧ Ex H H' ∧ i ≤ e ∧ e + m = row.length ∧
      (row.drop i).takeWhile (fun c => decide (c ∈ cs)) = (row.drop i).take (e - i) ++ (row.drop e).takeWhile (fun c => decide (c ∈ cs))) (row.length - i) ⟨i, rfl, e1, Nat.le_refl _, by omega, ?_⟩ ?_
    · rw [Nat.sub_self, List.take_zero, List.nil_append]
    · rintro m σ' H' ⟨e, rfl, eH, hie, hm, hw⟩
      by_cases hlt : e < row.length
      · have hg : row[e]? = some row[e] := List.getElem?_eq_getElem hlt
        have hd : row.drop e = row[e] :: row.drop (e + 1) := List.drop_eq_getElem_cons hlt
        refine ⟨true && decide (row[e] ∈ cs), et_and (et_is (et_test (ev_op (ev_var rfl) (ev_lenS (ev_var rfl) hl) rv_I0)) (decide_eq_true (by omega))) fun _ => et_test (ev_inSg (ev_op (ev_var rfl) (ev_var rfl) (rv_at hl hg)) (ev_var rfl)), fun hb H1 e1' => ?_, fun hb H1 e1' => ?_⟩
        · have hc : row[e] ∈ cs := of_decide_eq_true (by simpa using hb)
          refine ⟨fun σ2 H2 => σ2 = [some (.str (S row)), some (.int (i : Int)), some (.str (S cs)), some (.int ((e + 1 : Nat) : Int))] ∧ Ex H H2, fun σ2 H2 hN => ⟨m - 1, by omega, e + 1, hN.1, hN.2, by omega, by omega, ?_⟩, ?_⟩
          · rw [hw, hd, List.takeWhile_cons, if_pos (by simpa using hc)]
            have e2 : (row.drop i).take (e + 1 - i) = (row.drop i).take (e - i) ++ [row[e]] := by
              rw [show e + 1 - i = (e - i) + 1 by omega, List.take_add_one]
              congr 1
              rw [List.getElem?_drop, show i + (e - i) = e by omega, hg]
              rfl
            rw [e2, List.append_assoc]
            rfl
          · refine s_aug (a := (e : Int)) (b := 1) rfl ev_c fun H2 e2 => ⟨?_, (eH.trans e1').trans e2⟩
            show [some (V.str (S row)), some (.int (i : Int)), some (.str (S cs)), some (.int ((e : Int) + 1))] = _
            rw [show ((e + 1 : Nat) : Int) = (e : Int) + 1 by omega]
        · have hc : ¬ row[e] ∈ cs := of_decide_eq_false (by simpa using hb)
          rw [hd, List.takeWhile_cons, if_neg (by simpa using hc), List.append_nil] at hw
          refine s_ret (ev_sl (ev_var rfl) (eo_some (ev_var rfl)) (eo_some (ev_var rfl)) hl hie (by omega)) fun H2 e2 => ?_
          rw [← hw]
          exact q.go ((eH.trans e1').trans e2)
      · refine ⟨false && false, et_and (et_is (et_test (ev_op (ev_var rfl) (ev_lenS (ev_var rfl) hl) rv_I0)) (decide_eq_false (by omega))) (fun z => by cases z), (fun z => by cases z), fun _ H1 e1' => ?_⟩
        have hz : row.drop e = [] := List.drop_eq_nil_of_le (by omega)
        rw [hz, List.takeWhile_nil, List.append_nil] at hw
        refine s_ret (ev_sl (ev_var rfl) (eo_some (ev_var rfl)) (eo_some (ev_var rfl)) hl hie (by omega)) fun H2 e2 => ?_
        rw [← hw]
        exact q.go ((eH.trans e1').trans e2)

/-! ### word_at -/
abbrev s_word_at : Stmt := topS 27
theorem sc_word_at : FnScope ["row", "at", "sign"] ["row", "at"] (fnScope s_word_at) := fnScope_by (by decide +kernel)
def spWordAt : Sp := fun vs H Q _ => ∃ (row : List Nat) (i : Nat), vs = [.str (S row), .int (i : Int)] ∧ i < row.length ∧ row.length ≤ 100000 ∧ RetV (.str (S (wordAt (row.drop i)))) H Q
theorem find_at {l : List Nat} : ∀ (ss : List (List Nat)) (j : Nat) (s : List Nat), ss[j]? = some s → l.take s.length = s → (∀ k s', k < j → ss[k]? = some s' → l.take s'.length ≠ s') →
    ss.find? (fun s => decide (l.take s.length = s)) = some s
  | [], _, _, h, _, _ => by simp at h
  | z :: ss, 0, s, h, h1, _ => by
    have e : z = s := Option.some.inj h
    subst e
    rw [List.find?_cons_of_pos (by simpa using h1)]
  | z :: ss, j + 1, s, h, h1, h2 => by
    rw [List.find?_cons_of_neg (by simpa using h2 0 z (Nat.succ_pos _) rfl)]
    exact find_at ss j s h h1 fun k s' hk e => h2 (k + 1) s' (Nat.succ_lt_succ hk) e
theorem find_no {l : List Nat} {ss : List (List Nat)} (h : ∀ k s', k < ss.length → ss[k]? = some s' → l.take s'.length ≠ s') : ss.find? (fun s => decide (l.take s.length = s)) = none := by
  rw [List.find?_eq_none]
  intro s hs
  obtain ⟨k, hk, e⟩ := List.getElem_of_mem hs
  simpa using h k s hk (by rw [List.getElem?_eq_getElem hk, e])
theorem ok_word_at (T : ModsW K mg aS aO) (c_run_at : Cal P w K mg base 1 "run_at" spRun []) {f : Addr} {fd : FuncData} (F : Def K mg "word_at" s_word_at f fd) (b : Binds K fd ["row", "at"] []) : Cal P w K mg base 2 "word_at" spWordAt [] := by
  refine cal0 F b .nil sc_word_at (fun vs H Q E h => ?_) (fun cdv A outer s H vs Q E hr h => ?_)
  · obtain ⟨_, _, rfl, _⟩ := h
    rfl
  · obtain ⟨row, i, rfl, hi, hl, q⟩ := h
    have g_LETTERS := T.g_LETTERS
    have g_FIGURES := T.g_FIGURES
    have g_SIGNS := T.g_SIGNS
    have m_len := T.m_len
    refine ⟨_, (pss_cons (ps_if (pt_cmpR op_in_sign (pe_ix ix_str (pv 0) (pv 1) (fun _ _ => rfl)) (C8.pe_gc (by rfl) g_LETTERS) (by with_unfolding_all rfl)) (pss_one (ps_ret (C8.pe_c c_run_at hr (by first | decide | exact Nat.le_refl _ | omega) (by rfl) (pa_cons (pv 0) (pa_cons (pv 1) (pa_cons (C8.pe_gc (by rfl) g_LETTERS) pa_nil)))))) pss_nil)
      (pss_cons (ps_if (pt_cmpR op_in_sign (pe_ix ix_str (pv 0) (pv 1) (fun _ _ => rfl)) (C8.pe_gc (by rfl) g_FIGURES) (by with_unfolding_all rfl)) (pss_one (ps_ret (C8.pe_c c_run_at hr (by first | decide | exact Nat.le_refl _ | omega) (by rfl) (pa_cons (pv 0) (pa_cons (pv 1) (pa_cons (C8.pe_gc (by rfl) g_FIGURES) pa_nil)))))) pss_nil)
      (pss_cons (ps_for PassesOwn.never rfl (pi_tup (C8.pe_gc (by rfl) g_SIGNS)) (pg_name (i := 2) sc_word_at.nd rfl (.inl rfl)) (pss_one (ps_if (pt_cmpR op_eq (pe_slice C8.sl_txt (pv 0) (po_some (pv 1)) (po_some (pe_op op_add (pv 1) (pe_callB call_len_str (by rfl) m_len PySem.boot_len (pa_cons (pv 2) pa_nil))))) (pv 2) (nomark _)) (pss_one (ps_ret (pv 2))) pss_nil)))
      (pss_one (ps_ret pe_str))))), ?_⟩
    have hg : row[i]? = some row[i] := List.getElem?_eq_getElem hi
    have hd : row.drop i = row[i] :: row.drop (i + 1) := List.drop_eq_getElem_cons hi
    have hw : wordAt (row.drop i) = if isL row[i] = true then (row.drop i).takeWhile isL else if isF row[i] = true then (row.drop i).takeWhile isF else (signs.find? fun s => decide ((row.drop i).take s.length = s)).getD [] := by
      rw [hd, wordAt_cons]
    rw [hw] at q
    have run : ∀ cs : List Nat, SpV spRun [.str (S row), .int (i : Int), .str (S cs)] H (.str (S ((row.drop i).takeWhile fun c => decide (c ∈ cs)))) := fun cs H1 e Q' q' E' =>
      ⟨row, i, cs, rfl, Nat.le_of_lt hi, hl, fun H2 e2 => q' H2 e2⟩
    refine q_when (et_test (ev_inSg (ev_op (ev_var rfl) (ev_var rfl) (rv_at hl hg)) ev_c)) (fun hb H1 e1 => ?_) (fun hb H1 e1 => ?_)
    · rw [if_pos (show isL row[i] = true from hb)] at q
      exact s_ret (ev_call (dvs := []) (ea_cons (ev_var rfl) (ea_cons (ev_var rfl) (ea_cons ev_c ea_nil))) (fun H2 e2 => run letters H2 (e1.trans e2))) fun H2 e2 => q.go (e1.trans e2)
    · rw [if_neg (show ¬ isL row[i] = true from by unfold isL; rw [hb]; exact Bool.false_ne_true)] at q
      refine q_when (et_test (ev_inSg (ev_op (ev_var rfl) (ev_var rfl) (rv_at hl hg)) ev_c)) (fun hb2 H2 e2 => ?_) (fun hb2 H2 e2 => ?_)
      · rw [if_pos (show isF row[i] = true from hb2)] at q
        exact s_ret (ev_call (dvs := []) (ea_cons (ev_var rfl) (ea_cons (ev_var rfl) (ea_cons ev_c ea_nil))) (fun H3 e3 => run figures H3 ((e1.trans e2).trans e3))) fun H3 e3 => q.go ((e1.trans e2).trans e3)
      · rw [if_neg (show ¬ isF row[i] = true from by unfold isF; rw [hb2]; exact Bool.false_ne_true)] at q
        have e12 := e1.trans e2
        refine q_forT ev_c (T.signs H2) (fun j σ' H' => ∃ y, σ' = [some (.str (S row)), some (.int (i : Int)), y] ∧ Ex H H' ∧ ∀ k s', k < j → signs[k]? = some s' → (row.drop i).take s'.length ≠ s')
          (fun H3 e3 => ⟨none, rfl, e12.trans e3, fun k _ hk => absurd hk (Nat.not_lt_zero _)⟩) (fun j σ' H' _ _ => T.signs H') ?_ ?_
        · rintro j x σ' H' hx ⟨y, rfl, eH, hno⟩
          rw [List.getElem?_map] at hx
          cases hs : signs[j]? with
          | none =>
            rw [hs] at hx
            cases hx
          | some sg =>
            rw [hs] at hx
            have ex : x = .str (S sg) := (Option.some.inj hx).symm
            subst ex
            have hsl : sg.length ≤ 100000 := by
              have hm := List.mem_of_getElem? hs
              have hall : ∀ z ∈ signs, z.length ≤ 2 := by decide
              exact Nat.le_trans (hall _ hm) (by decide)
            refine s_when (et_test (ev_eqS (ev_slA (j := i + sg.length) (ev_var rfl) (eo_some (ev_var rfl)) (eo_some (ev_is (ev_op (ev_var rfl) (ev_lenS (ev_var rfl) hsl) rv_I0) (by
              show V.int ((i : Int) + (sg.length : Int)) = V.int ((i + sg.length : Nat) : Int)
              rw [Int.natCast_add]))) hl (Nat.le_add_right _ _) (Nat.le_of_lt hi)) (ev_var rfl))) (fun hb3 H3 e3 => ?_) (fun hb3 H3 e3 => ?_)
            · have hm : (row.drop i).take sg.length = sg := by
                have z := of_decide_eq_true hb3
                rw [Nat.add_sub_cancel_left] at z
                exact z
              rw [find_at signs j sg hs hm hno] at q
              exact s_ret (ev_var rfl) fun H4 e4 => q.go ((eH.trans e3).trans e4)
            · refine ⟨_, rfl, eH.trans e3, fun k s' hk e => ?_⟩
              by_cases hkj : k < j
              · exact hno k s' hkj e
              · have ek : k = j := by omega
                subst ek
                rw [hs] at e
                cases e
                have z := of_decide_eq_false hb3
                rw [Nat.add_sub_cancel_left] at z
                exact z
        · rintro σ' H' ⟨y, rfl, eH, hno⟩
          rw [find_no (fun k s' hk e => hno k s' (by rw [List.length_map]; exact hk) e)] at q
          exact s_ret ev_c fun H3 e3 => q.go (eH.trans e3)

/-! ### kind_of -/
abbrev s_kind_of : Stmt := topS 29
theorem sc_kind_of : FnScope ["word"] ["word"] (fnScope s_kind_of) := fnScope_by (by decide +kernel)
def spKind : Sp := fun vs H Q _ => ∃ w : List Nat, vs = [.str (S w)] ∧ w.length ≤ 100000 ∧ RetV (.str (S (kindOf w))) H Q
theorem lit0 : (Str.ofString "" : Str) = S [] := by decide +kernel
theorem ok_kind_of (T : ModsW K mg aS aO) {f : Addr} {fd : FuncData} (F : Def K mg "kind_of" s_kind_of f fd) (b : Binds K fd ["word"] []) : Cal P w K mg base 1 "kind_of" spKind [] := by
  refine cal0 F b .nil sc_kind_of (fun vs H Q E h => ?_) (fun cdv A outer s H vs Q E hr h => ?_)
  · obtain ⟨_, rfl, _⟩ := h
    rfl
  · obtain ⟨w, rfl, hl, q⟩ := h
    have g_OWN_WORDS := T.g_OWN_WORDS
    have g_SIGNS := T.g_SIGNS
    have m_len := T.m_len
    have g_LONGEST := T.g_LONGEST
    have g_LETTERS := T.g_LETTERS
    refine ⟨_, (pss_cons (ps_if (pt_cmpR op_in_seq (pv 0) (C8.pe_gc (by rfl) g_OWN_WORDS) (by with_unfolding_all rfl)) (pss_one (ps_ret pe_str)) pss_nil)
      (pss_cons (ps_if (pt_cmpR op_in_seq (pv 0) (C8.pe_gc (by rfl) g_SIGNS) (by with_unfolding_all rfl)) (pss_one (ps_ret pe_str)) pss_nil)
      (pss_cons (ps_if (PW.pt (pw_or (pt_cmpR op_eq (pv 0) pe_str (nomark _)) (pw_or1 (pt_cmpR op_gt (pe_callB call_len_str (by rfl) m_len PySem.boot_len (pa_cons (pv 0) pa_nil)) (C8.pe_gc (by rfl) g_LONGEST) (nomark _))))) (pss_one (ps_ret pe_str)) pss_nil)
      (pss_cons (ps_if (pt_cmpR op_in_sign (pe_ix ix_str (pv 0) pe_int (fun _ _ => rfl)) (C8.pe_gc (by rfl) g_LETTERS) (by with_unfolding_all rfl)) (pss_one (ps_ret pe_str)) pss_nil)
      (pss_cons (ps_if (PW.pt (pw_and (pt_cmpR op_eq (pe_ix ix_str (pv 0) pe_int (fun _ _ => rfl)) pe_str (nomark _)) (pw_and1 (pt_cmpR op_gt (pe_callB call_len_str (by rfl) m_len PySem.boot_len (pa_cons (pv 0) pa_nil)) pe_int (nomark _))))) (pss_one (ps_ret pe_str)) pss_nil)
      (pss_one (ps_ret pe_str))))))), ?_⟩
    unfold kindOf at q
    have c0 : ∀ {H : Hp}, Ev (tC (.str (Str.ofString ""))) [some (V.str (S w))] H (.str (S [])) := ev_is ev_c (congrArg V.str lit0)
    refine q_when (et_test (ev_inTs (ev_var rfl) ev_c (T.owns H))) (fun hb H1 e1 => ?_) (fun hb H1 e1 => ?_)
    · rw [if_pos (of_decide_eq_true hb)] at q
      exact s_ret (ev_is ev_c (congrArg V.str (show Str.ofString "own" = S kOwn by decide +kernel))) fun H2 e2 => q.go (e1.trans e2)
    rw [if_neg (of_decide_eq_false hb)] at q
    refine q_when (et_test (ev_inTs (ev_var rfl) ev_c (T.signs H1))) (fun hb2 H2 e2 => ?_) (fun hb2 H2 e2 => ?_)
    · rw [if_pos (of_decide_eq_true hb2)] at q
      exact s_ret (ev_is ev_c (congrArg V.str (show Str.ofString "sign" = S kSign by decide +kernel))) fun H3 e3 => q.go ((e1.trans e2).trans e3)
    rw [if_neg (of_decide_eq_false hb2)] at q
    have e12 := e1.trans e2
    refine q_when (et_or (et_test (ev_eqS (ev_var rfl) c0)) fun _ => et_test (ev_op (ev_lenS (ev_var rfl) hl) ev_c rv_I0)) (fun hb3 H3 e3 => ?_) (fun hb3 H3 e3 => ?_)
    · have h3 : w = [] ∨ 6 < w.length := by
        rw [Bool.or_eq_true] at hb3
        rcases hb3 with z | z
        · exact .inl (of_decide_eq_true z)
        · have z2 := of_decide_eq_true z
          exact .inr (by omega)
      rw [if_pos h3] at q
      exact s_ret c0 fun H4 e4 => q.go ((e12.trans e3).trans e4)
    have h3 : ¬ (w = [] ∨ 6 < w.length) := by
      rw [Bool.or_eq_false_iff] at hb3
      rintro (z | z)
      · exact of_decide_eq_false hb3.1 z
      · have z2 := of_decide_eq_false hb3.2
        omega
    rw [if_neg h3] at q
    have e13 := e12.trans e3
    obtain ⟨c, r, rfl⟩ : ∃ c r, w = c :: r := by
      cases w with
      | nil => exact absurd (.inl rfl) h3
      | cons c r => exact ⟨c, r, rfl⟩
    have at0 : ∀ {H : Hp}, Ev (tOp rIxS (tVar 0) (tC (.int 0))) [some (V.str (S (c :: r)))] H (.str (S [c])) := ev_op (ev_var rfl) ev_c (rv_at (i := 0) hl rfl)
    refine q_when (et_test (ev_inSg at0 ev_c)) (fun hb4 H4 e4 => ?_) (fun hb4 H4 e4 => ?_)
    · rw [if_pos (show isL ((c :: r).headD 0) = true from hb4)] at q
      exact s_ret (ev_is ev_c (congrArg V.str (show Str.ofString "name" = S kName by decide +kernel))) fun H5 e5 => q.go ((e13.trans e4).trans e5)
    rw [if_neg (show ¬ isL ((c :: r).headD 0) = true from by
      show ¬ decide (c ∈ letters) = true
      rw [hb4]
      exact Bool.false_ne_true)] at q
    refine q_when (et_and (et_test (ev_eqS at0 (ev_is ev_c (congrArg V.str (show Str.ofString "0" = S [48] by decide +kernel))))) fun _ => et_test (ev_op (ev_lenS (ev_var rfl) hl) ev_c rv_I0)) (fun hb5 H5 e5 => ?_) (fun hb5 H5 e5 => ?_)
    · have h5 : (c :: r).headD 0 = 48 ∧ 1 < (c :: r).length := by
        rw [Bool.and_eq_true] at hb5
        have z1 := of_decide_eq_true hb5.1
        have z2 := of_decide_eq_true hb5.2
        exact ⟨by simpa using z1, by omega⟩
      rw [if_pos h5] at q
      exact s_ret c0 fun H6 e6 => q.go (((e13.trans e4).trans e5).trans e6)
    · have h5 : ¬ ((c :: r).headD 0 = 48 ∧ 1 < (c :: r).length) := by
        rintro ⟨z1, z2⟩
        have z1' : c = 48 := z1
        rw [Bool.and_eq_false_iff] at hb5
        rcases hb5 with z | z
        · exact of_decide_eq_false z (by rw [z1'])
        · have := of_decide_eq_false z
          omega
      rw [if_neg h5] at q
      exact s_ret (ev_is ev_c (congrArg V.str (show Str.ofString "num" = S kNum by decide +kernel))) fun H6 e6 => q.go (((e13.trans e4).trans e5).trans e6)
end
end Wt

set_option Elab.async false
set_option linter.all false
set_option maxRecDepth 100000
set_option maxHeartbeats 4000000
namespace Wt
open PySem PySem.Spec PyProof.Rows L2 SX Evl
open C8 (Def Cal cal0 fnScope_by fnScope)
/-! words_in, words_of: all words, or a Fault at the first that is none. -/
section
variable {P : Program} {w : World} {K : PySem.W.Frag} {mg : Str → Option Value} {base : Heap} {aS aO : Addr}
/-- a Fault "words" at a place; what it means to be let out -/
def FaultO (H : Hp) (d : Addr) (n c : Nat) : Prop := ∃ p, H d = some (.xd [("why", .str (Str.ofString "word")), ("place", .ref p), ("file", .str (Str.ofString "")), ("stage", .str (Str.ofString "words"))]) ∧ H p = some (.tup [.int (n : Int), .int (c : Int)])
def RaiseF (CF : Addr) (H : Hp) (E : XK) (n c : Nat) : Prop := ∀ d H2, Ex H H2 → FaultO H2 d n c → E (.ref CF) (some d) H2
/-- the first row that has a sign that begins no word, the sign's column -/
def firstBad : Nat → List (List Nat) → Option (Nat × Nat)
  | _, [] => none
  | n, r :: rs => match (lexRow r).2 with
    | some c => some (n, c)
    | none => firstBad (n + 1) rs
/-! ### words_in -/
abbrev s_words_in : Stmt := topS 26
theorem sc_words_in : FnScope ["row", "number", "told", "words", "at", "word", "kind", "place"] ["row", "number"] (fnScope s_words_in) := fnScope_by (by decide +kernel)
def spWordsIn (CF : Addr) : Sp := fun vs H Q E => ∃ (row : List Nat) (n : Nat), vs = [.str (S row), .int (n : Int)] ∧ row.length ≤ 50000 ∧ ((lexRow row).2 = none → RetTd ((lexRow row).1.map (wordD n)) H Q) ∧ ∀ c, (lexRow row).2 = some c → RaiseF CF H E n c
theorem ok_words_in (T : ModsW K mg aS aO) {CF : Addr} (c_Fault : MakF P w K mg base 1 "Fault" CF) (c_word_at : Cal P w K mg base 2 "word_at" spWordAt []) (c_kind_of : Cal P w K mg base 1 "kind_of" spKind [])
    {f : Addr} {fd : FuncData} (F : Def K mg "words_in" s_words_in f fd) (b : Binds K fd ["row", "number"] []) : CalX P w K mg base 3 "words_in" (spWordsIn CF) := by
  refine calX F b sc_words_in (fun vs H Q E h => ?_) (fun cdv A outer s H vs Q E hr h => ?_)
  · obtain ⟨_, _, rfl, _⟩ := h
    rfl
  · obtain ⟨row, n, rfl, hl, q, qx⟩ := h
    have tk := tk_cx (P := P) (w := w) (K := K) (mg := mg) (base := base) (N := ["row", "number", "told", "words", "at", "word", "kind", "place"]) (q := "words_in") (sc := fnScope s_words_in) (f := f) (cdv := cdv) (A := A) (outer := outer) (s := s) (H := H) (E := E)
    have m_len := T.m_len
    refine ⟨_, (pss_cons (ps_set (i := 2) sc_words_in.nd rfl (.inl rfl) (pe_ix ix_tup (pe_partition (pv 0) pe_str) pe_int (fun _ _ => rfl)))
      (pss_cons (ps_set (i := 3) sc_words_in.nd rfl (.inl rfl) (pe_lst pa_nil))
      (pss_cons (ps_set (i := 4) sc_words_in.nd rfl (.inl rfl) pe_int)
      (pss_cons (ps_while (passes_of rfl) (pt_cmpR op_lt (pv 4) (pe_callB call_len_str (by rfl) m_len PySem.boot_len (pa_cons (pv 2) pa_nil)) (nomark _)) (pss_one (ps_if (pt_cmpR op_eq (pe_ix ix_str (pv 2) (pv 4) (fun _ _ => rfl)) pe_str (nomark _)) (pss_one (ps_aug (i := 4) sc_words_in.nd rfl (.inl rfl) pe_int ip_add)) (pss_cons (ps_set (i := 5) sc_words_in.nd rfl (.inl rfl) (C8.pe_c c_word_at hr (by first | decide | exact Nat.le_refl _ | omega) (by rfl) (pa_cons (pv 2) (pa_cons (pv 4) pa_nil))))
      (pss_cons (ps_set (i := 6) sc_words_in.nd rfl (.inl rfl) (C8.pe_c c_kind_of hr (by first | decide | exact Nat.le_refl _ | omega) (by rfl) (pa_cons (pv 5) pa_nil)))
      (pss_cons (ps_set (i := 7) sc_words_in.nd rfl (.inl rfl) (pe_tup (pa_cons (pv 1) (pa_cons (pe_op op_add (pv 4) pe_int) pa_nil))))
      (pss_cons (ps_if (pt_cmpR op_eq (pv 6) pe_str (nomark _)) (pss_one (Wt.ps_fault c_Fault hr (by first | decide | exact Nat.le_refl _ | omega) rfl tk (by rfl) (pa_cons pe_str (pa_cons pe_str (pa_cons (pv 7) (pa_cons pe_str pa_nil)))))) pss_nil)
      (pss_cons (ps_expr (pe_bm PySem.F.plainAttrs_list PySem.F.slot_list_append PySem.F.type_list_append mt_append (pv 3) (pa_cons (pe_tup (pa_cons (pv 6) (pa_cons (pv 5) (pa_cons (pv 7) pa_nil)))) pa_nil)))
      (pss_one (ps_aug (i := 4) sc_words_in.nd rfl (.inl rfl) (pe_callB call_len_str (by rfl) m_len PySem.boot_len (pa_cons (pv 5) pa_nil)) ip_add))))))))))
      (pss_one (ps_ret (pv 3))))))), ?_⟩
    have htl := told_len row
    have ht : (told row).length ≤ 100000 := by omega
    refine q_asg (ev_told (ev_var rfl) (ev_is ev_c (congrArg V.str (show Str.ofString "#" = S [35] by decide +kernel))) (by omega)) fun H1 e1 => ?_
    refine q_asgL (el_lst ea_nil (Nat.zero_le _)) fun l H2 hl1 e2 hl2 => ?_
    have hl0 : H l = none := fresh_back e1 hl1
    refine q_asg ev_c fun H3 e3 => ?_
    refine q_while (fun m σ' H' => ∃ (i : Nat) (ds : List PyData) (us : List V) (y5 y6 y7 : Option V), σ' = [some (.str (S row)), some (.int (n : Int)), some (.str (S (told row))), some (.ref l), some (.int (i : Int)), y5, y6, y7] ∧
      Ex H H' ∧ H' l = some (.lst us) ∧ TdAll H' us ds ∧ us.length ≤ i ∧ i + m = (told row).length ∧ (lexRow row).1.map (wordD n) = ds ++ (lexR i ((told row).drop i)).1.map (wordD n) ∧ (lexRow row).2 = (lexR i ((told row).drop i)).2)
      (told row).length ⟨0, [], [], none, none, none, rfl, (e1.trans e2).trans e3, e3 l _ hl2, .nil, Nat.le_refl _, Nat.zero_add _, by rw [List.drop_zero, List.nil_append, lexRow_R], by rw [List.drop_zero, lexRow_R]⟩ ?_
    rintro m σ' H' ⟨i, ds, us, y5, y6, y7, rfl, eH, hL, hT, hlen, hm, hlex, hok⟩
    by_cases hlt : i < (told row).length
    · have hg : (told row)[i]? = some (told row)[i] := List.getElem?_eq_getElem hlt
      have hd : (told row).drop i = (told row)[i] :: (told row).drop (i + 1) := List.drop_eq_getElem_cons hlt
      refine ⟨true, et_is (et_test (ev_op (ev_var rfl) (ev_lenS (ev_var rfl) ht) rv_I0)) (decide_eq_true (by omega)), fun _ H4 e4 => ?_, fun z => by cases z⟩
      refine ⟨fun σ2 H5 => ∃ (j : Nat) (ds : List PyData) (us : List V) (y5 y6 y7 : Option V), i < j ∧ σ2 = [some (.str (S row)), some (.int (n : Int)), some (.str (S (told row))), some (.ref l), some (.int (j : Int)), y5, y6, y7] ∧
        Ex H H5 ∧ H5 l = some (.lst us) ∧ TdAll H5 us ds ∧ us.length ≤ j ∧ j ≤ (told row).length ∧ (lexRow row).1.map (wordD n) = ds ++ (lexR j ((told row).drop j)).1.map (wordD n) ∧ (lexRow row).2 = (lexR j ((told row).drop j)).2, ?_, ?_⟩
      · rintro σ2 H5 ⟨j, ds', us', z5, z6, z7, hij, rfl, eH5, hL5, hT5, hlen5, hj, hx5, ho5⟩
        exact ⟨(told row).length - j, by omega, j, ds', us', z5, z6, z7, rfl, eH5, hL5, hT5, hlen5, by omega, hx5, ho5⟩
      · have hL4 : H4 l = some (.lst us) := e4 l _ hL
        have hT4 : TdAll H4 us ds := TdAll.tx (Tx.of e4) _ _ hT
        refine s_if (et_test (ev_eqS (ev_op (ev_var rfl) (ev_var rfl) (rv_at ht hg)) (ev_is ev_c (congrArg V.str (show Str.ofString " " = S [32] by decide +kernel))))) (fun hb H5 e5 => ?_) (fun hb H5 e5 => ?_)
        · have hc : (told row)[i] = 32 := by
            have z := of_decide_eq_true hb
            simpa using z
          rw [hd, hc, lexR_blank] at hlex hok
          refine s_aug (a := (i : Int)) (b := 1) rfl ev_c fun H6 e6 => ⟨i + 1, ds, us, y5, y6, y7, Nat.lt_succ_self i, ?_, ((eH.trans e4).trans e5).trans e6, e6 l _ (e5 l _ hL4), TdAll.tx (Tx.of (e5.trans e6)) _ _ hT4, by omega, hlt, hlex, hok⟩
          show [some (V.str (S row)), some (.int (n : Int)), some (.str (S (told row))), some (.ref l), some (.int ((i : Int) + 1)), y5, y6, y7] = _
          rw [show ((i + 1 : Nat) : Int) = (i : Int) + 1 by omega]
        · have hc : (told row)[i] ≠ 32 := by
            have z := of_decide_eq_false hb
            simpa using z
          have hwl := wordAt_len ((told row).drop i)
          have hwl2 : (wordAt ((told row).drop i)).length ≤ 100000 := by
            rw [List.length_drop] at hwl
            omega
          refine q_asg (ev_call (dvs := []) (ea_cons (ev_var rfl) (ea_cons (ev_var rfl) ea_nil)) fun H6 e6 Q6 q6 E6 => ⟨told row, i, rfl, hlt, ht, fun H7 e7 => q6 H7 e7⟩) fun H6 e6 => ?_
          refine q_asg (ev_call (dvs := []) (ea_cons (ev_var rfl) ea_nil) fun H7 e7 Q7 q7 E7 => ⟨wordAt ((told row).drop i), rfl, hwl2, fun H8 e8 => q7 H8 e8⟩) fun H7 e7 => ?_
          refine q_asgU (eu_tup (ea_cons (ev_var rfl) (ea_cons (ev_op (ev_var rfl) ev_c rv_I0) ea_nil)) (show 2 ≤ 100000 by decide)) fun p H8 hp8 e8 hpl => ?_
          by_cases hk : kindOf (wordAt ((told row).drop i)) = []
          · have hbad : (lexRow row).2 = some (i + 1) := by
              rw [hok, hd, lexR_bad hc (by rw [← hd]; exact hk)]
            refine q_when (et_is (et_test (ev_eqS (ev_var rfl) (ev_is ev_c (congrArg V.str lit0)))) (decide_eq_true hk)) (fun _ H9 e9 => ?_) (fun z => by cases z)
            refine mk_fault (ea_cons ev_c (ea_cons ev_c (ea_cons (ev_var rfl) (ea_cons ev_c ea_nil)))) fun d H10 e10 hd10 => ?_
            have e410 := ((((e5.trans e6).trans e7).trans e8).trans e9).trans e10
            refine qx _ hbad d H10 ((eH.trans e4).trans e410) ⟨p, hd10, ?_⟩
            rw [show ((i + 1 : Nat) : Int) = (i : Int) + 1 by omega]
            exact e10 _ _ (e9 _ _ hpl)
          · have hword := lexR_word (i := i) hc (r := (told row).drop (i + 1)) (by rw [← hd]; exact hk)
            rw [← hd] at hword
            have hpos := kind_pos hk
            refine q_when (et_is (et_test (ev_eqS (ev_var rfl) (ev_is ev_c (congrArg V.str lit0)))) (decide_eq_false hk)) (fun z => by cases z) (fun _ H9 e9 => ?_)
            have e49 := (((e5.trans e6).trans e7).trans e8).trans e9
            have hL9 : H9 l = some (.lst us) := e49 l _ hL4
            have hT9 : TdAll H9 us ds := TdAll.tx (Tx.of e49) _ _ hT4
            refine q_appU hL9 (ev_var rfl) (eu_tup (ea_cons (ev_var rfl) (ea_cons (ev_var rfl) (ea_cons (ev_var rfl) ea_nil))) (show 3 ≤ 100000 by decide)) (by omega) fun t2 H10 ht2 e10 ht3 => ?_
            have hL10 : H10 l = some (.lst us) := e10 l _ hL9
            have tx10 : Tx H10 (upd H10 l (.lst (us ++ [.ref t2]))) := Tx.lst hL10
            have hnew : Td (upd H10 l (.lst (us ++ [.ref t2]))) (.ref t2) (wordD n (kindOf (wordAt ((told row).drop i)), wordAt ((told row).drop i), i + 1)) := by
              refine Td.tx tx10 _ _ (.tup ht3 (.cons (.str _) (.cons (.str _) (.cons ?_ .nil))))
              refine .tup (e10 p _ (e9 p _ hpl)) (.cons (.int _) (.cons ?_ .nil))
              have ei : ((i : Int) + 1) = ((i + 1 : Nat) : Int) := by omega
              show Td H10 (.int ((i : Int) + 1)) (.int ((i + 1 : Nat) : Int))
              rw [ei]
              exact .int _
            refine s_aug (a := (i : Int)) (b := ((wordAt ((told row).drop i)).length : Int)) rfl (ev_lenS (ev_var rfl) hwl2) fun H11 e11 => ⟨i + (wordAt ((told row).drop i)).length, ds ++ [wordD n (kindOf (wordAt ((told row).drop i)), wordAt ((told row).drop i), i + 1)], us ++ [.ref t2], some (.str (S (wordAt ((told row).drop i)))), some (.str (S (kindOf (wordAt ((told row).drop i))))), some (.ref p), by omega, ?_, ?_, e11 l _ upd_same, ?_, ?_, ?_, ?_, ?_⟩
            · rw [Int.natCast_add] <;> rfl
            · exact (Ex.mut ((((eH.trans e4).trans e49).trans e10)) hl0).trans e11
            · exact TdAll.tx (Tx.of e11) _ _ ((TdAll.tx (tx10) _ _ (TdAll.tx (Tx.of e10) _ _ hT9)).snoc hnew)
            · rw [List.length_append]
              show us.length + 1 ≤ _
              omega
            · rw [List.length_drop] at hwl
              omega
            · rw [hlex, hword, List.map_cons, List.append_assoc, List.drop_drop] <;> rfl
            · rw [hword, List.drop_drop] at hok
              exact hok
    · refine ⟨false, et_is (et_test (ev_op (ev_var rfl) (ev_lenS (ev_var rfl) ht) rv_I0)) (decide_eq_false (by omega)), (fun z => by cases z), fun _ H4 e4 => ?_⟩
      have hz : (told row).drop i = [] := List.drop_eq_nil_of_le (by omega)
      rw [hz, lexR_nil] at hlex
      have hlex2 : (lexRow row).1.map (wordD n) = ds := by
        rw [hlex]
        exact List.append_nil _
      refine s_ret (ev_var rfl) fun H5 e5 => q (by rw [hok, hz, lexR_nil]) l H5 us hl0 (eH.trans (e4.trans e5)) ((e4.trans e5) l _ hL) ?_
      rw [hlex2]
      exact TdAll.tx (Tx.of (e4.trans e5)) _ _ hT

/-! ### words_of -/
abbrev s_words_of : Stmt := topS 25
theorem sc_words_of : FnScope ["text", "words", "number", "row"] ["text"] (fnScope s_words_of) := fnScope_by (by decide +kernel)
theorem firstBad_app : ∀ (n : Nat) (rs : List (List Nat)) (r : List Nat) (rest : List (List Nat)), (∀ q ∈ rs, (lexRow q).2 = none) → firstBad n (rs ++ r :: rest) = firstBad (n + rs.length) (r :: rest)
  | n, [], r, rest, _ => rfl
  | n, x :: rs, r, rest, h => by
    have hx := h x (List.mem_cons_self ..)
    have e : firstBad n (x :: (rs ++ r :: rest)) = firstBad (n + 1) (rs ++ r :: rest) := by
      show (match (lexRow x).2 with | some c => some (n, c) | none => firstBad (n + 1) (rs ++ r :: rest)) = _
      rw [hx]
    show firstBad n (x :: (rs ++ r :: rest)) = _
    rw [e, firstBad_app (n + 1) rs r rest fun q hq => h q (List.mem_cons_of_mem _ hq), show n + 1 + rs.length = n + (x :: rs).length by rw [List.length_cons]; omega]
theorem firstBad_at {n c : Nat} {r : List Nat} {rest : List (List Nat)} (h : (lexRow r).2 = some c) : firstBad n (r :: rest) = some (n, c) := by
  show (match (lexRow r).2 with | some c => some (n, c) | none => firstBad (n + 1) rest) = _
  rw [h]
theorem firstBad_all : ∀ (n : Nat) (rs : List (List Nat)), firstBad n rs = none → AllWords rs
  | _, [], _ => fun r h => absurd h (by simp)
  | n, x :: rs, h => by
    cases hx : (lexRow x).2 with
    | some c =>
      rw [firstBad_at hx] at h
      cases h
    | none =>
      have e : firstBad n (x :: rs) = firstBad (n + 1) rs := by
        show (match (lexRow x).2 with | some c => some (n, c) | none => firstBad (n + 1) rs) = _
        rw [hx]
      rw [e] at h
      intro r hr
      rcases List.mem_cons.mp hr with z | z
      · rw [z]
        exact hx
      · exact firstBad_all (n + 1) rs h r z
def spWordsOf (CF : Addr) : Sp := fun vs H Q E => ∃ (text : List Nat) (rows : List (List Nat)), vs = [.str (S text)] ∧ text.length ≤ 40000 ∧ rows = TL.spl [10] 0 [] text ∧ rows.length ≤ 1000 ∧ (∀ r ∈ rows, r.length ≤ 1000) ∧
  (firstBad 1 rows = none → RetTd (allD 1 rows) H Q) ∧ ∀ n c, firstBad 1 rows = some (n, c) → RaiseF CF H E n c
theorem ok_words_of (T : ModsW K mg aS aO) {CF : Addr} (c_words_in : CalX P w K mg base 3 "words_in" (spWordsIn CF)) {f : Addr} {fd : FuncData} (F : Def K mg "words_of" s_words_of f fd) (b : Binds K fd ["text"] []) :
    CalX P w K mg base 4 "words_of" (spWordsOf CF) := by
  refine calX F b sc_words_of (fun vs H Q E h => ?_) (fun cdv A outer s H vs Q E hr h => ?_)
  · obtain ⟨_, _, rfl, _⟩ := h
    rfl
  · obtain ⟨text, rows, rfl, hl, hrows, hrl, hrr, q, qx⟩ := h
    have tk := tk_cx (P := P) (w := w) (K := K) (mg := mg) (base := base) (N := ["text", "words", "number", "row"]) (q := "words_of") (sc := fnScope s_words_of) (f := f) (cdv := cdv) (A := A) (outer := outer) (s := s) (H := H) (E := E)
    have m_enumerate := T.m_enumerate
    refine ⟨_, (pss_cons (ps_set (i := 1) sc_words_of.nd rfl (.inl rfl) (pe_lst pa_nil))
      (pss_cons (ps_for (passes_of rfl) rfl (Wt.pi_enumS (by rfl) m_enumerate (pa_cons (pe_split (pv 0) pe_str) pa_nil)) (pg_tup rfl (pgs_cons (pg_name (i := 2) sc_words_of.nd rfl (.inl rfl)) (pgs_cons (pg_name (i := 3) sc_words_of.nd rfl (.inl rfl)) pgs_nil))) (pss_one (ps_expr (pe_bm PySem.F.plainAttrs_list PySem.F.slot_list_extend PySem.F.type_list_extend mt_extend (pv 1) (pa_cons (Wt.pe_cE c_words_in tk hr (by first | decide | exact Nat.le_refl _ | omega) (by rfl) (pa_cons (pv 3) (pa_cons (pv 2) pa_nil))) pa_nil)))))
      (pss_one (ps_ret (pv 1))))), ?_⟩
    refine q_asgL (el_lst ea_nil (Nat.zero_le _)) fun l H1 hl0 e1 hl1 => ?_
    -- text.split("\n")
    refine ⟨.str (S text), rfl, ⟨S text, rfl⟩, S text, Str.ofString "\n", rfl, rfl, by decide +kernel, by rw [S_len]; exact Nat.le_trans (Nat.add_le_add_right hl 2) (by decide), fun c hc => ?_⟩
    have hsp : (Txt.split (S text) (Str.ofString "\n")).map V.str = rows.map fun z => V.str (S z) := by
      rw [show Str.ofString "\n" = S [10] by decide +kernel, split_S (by simp) (by decide), ← hrows, List.map_map] <;> rfl
    rw [hsp]
    have hlc : l ≠ c := ne_of_none hl1 hc
    have e2 : Ex H1 (upd H1 c (.lst (rows.map fun z => V.str (S z)))) := Ex.new hc
    refine ⟨c, _, rfl, sq_of upd_same, for_from (xs := rows.map fun z => V.str (S z)) (fun i σ' H' => ∃ (us : List V) (y2 y3 : Option V), σ' = [some (.str (S text)), some (.ref l), y2, y3] ∧ Ex H H' ∧
      H' c = some (.lst (rows.map fun z => V.str (S z))) ∧ H' l = some (.lst us) ∧ TdAll H' us (allD 1 (rows.take i)) ∧ us.length ≤ 1000 * i ∧ AllWords (rows.take i))
      ⟨[], none, none, rfl, e1.trans e2, upd_same, e2 l _ hl1, .nil, Nat.zero_le _, fun r h => absurd h (by simp)⟩ (fun i σ' H' _ ⟨us, y2, y3, _, _, hc', _⟩ => sq_of hc') ?_ ?_⟩
    · rintro i x T2 σ' H' hx ⟨us, y2, y3, rfl, eH, hc', hL, hT, hlen, haw⟩ hT2
      rw [List.getElem?_map] at hx
      cases hr2 : rows[i]? with
      | none =>
        rw [hr2] at hx
        cases hx
      | some row =>
        rw [hr2] at hx
        have ex : x = .str (S row) := (Option.some.inj hx).symm
        subst ex
        have hmem : row ∈ rows := List.mem_of_getElem? hr2
        have hi : i < rows.length := (List.getElem?_eq_some_iff.mp hr2).1
        have eT : Ex H' (upd H' T2 (.tup [.int ((1 : Int) + (i : Nat)), .str (S row)])) := Ex.new hT2
        -- number, row
        refine ⟨T2, [.int ((1 : Int) + (i : Nat)), .str (S row)], rfl, st_of upd_same, rfl, _, _, rfl, _, _, rfl, rfl, ?_⟩
        -- words.extend(words_in(row, number))
        have hLT := eT l _ hL
        refine ⟨.ref l, rfl, .inl ⟨rfl, us, sq_of hLT⟩, .str (S row), rfl, .int ((1 : Int) + (i : Nat)), rfl, row, i + 1, ?_, Nat.le_trans (hrr row hmem) (by decide), ?_, ?_⟩
        · show [V.str (S row), .int ((1 : Int) + (i : Nat))] ++ [] = _
          rw [List.append_nil, show ((1 : Int) + (i : Nat)) = ((i + 1 : Nat) : Int) by omega]
        · intro hnone p H3 ws hp e3 hp3 hT3
          have hL3 : H3 l = some (.lst us) := e3 l _ hLT
          have hlp : l ≠ p := ne_of_none hLT hp
          have hwl : ws.length ≤ 1000 := by
            rw [hT3.len, List.length_map]
            exact Nat.le_trans (lexRow_count row) (hrr row hmem)
          have hsz : us.length + ws.length ≤ sizeLine := by
            refine Nat.le_trans (show us.length + ws.length ≤ 1001000 from ?_) (by decide)
            have : 1000 * i ≤ 1000 * 1000 := Nat.mul_le_mul_left _ (by omega)
            omega
          refine ⟨l, p, us, ws, rfl, rfl, hL3, hp3, hsz, us ++ ws, _, _, rfl, ?_, ?_, upd_same, ?_, ?_, ?_⟩
          · exact Ex.mut ((eH.trans eT).trans e3) hl0
          · rw [upd_ne hlc.symm]
            exact e3 c _ (eT c _ hc')
          · have tx := Tx.lst (ys := us ++ ws) hL3
            have h1 := TdAll.tx tx _ _ (TdAll.tx (Tx.of (eT.trans e3)) _ _ hT)
            have h2 := TdAll.tx tx _ _ hT3
            have e : rows.take (i + 1) = rows.take i ++ [row] := by
              rw [List.take_add_one, hr2] <;> rfl
            rw [e, allD_snoc, List.length_take, Nat.min_eq_left (Nat.le_of_lt hi), Nat.add_comm 1 i]
            exact h1.app h2
          · rw [List.length_append]
            omega
          · have e : rows.take (i + 1) = rows.take i ++ [row] := by
              rw [List.take_add_one, hr2] <;> rfl
            rw [e]
            intro r hr
            rcases List.mem_append.mp hr with z | z
            · exact haw r z
            · rw [List.mem_singleton.mp z]
              exact hnone
        · intro c hc d H3 e3 hF
          refine qx (i + 1) c ?_ d H3 ((eH.trans eT).trans e3) hF
          have hcut : rows = rows.take i ++ row :: rows.drop (i + 1) := by
            have e := List.getElem?_eq_some_iff.mp hr2
            obtain ⟨h1, h2⟩ := e
            rw [← h2, ← List.drop_eq_getElem_cons h1, List.take_append_drop]
          rw [hcut, firstBad_app 1 _ _ _ haw, List.length_take, Nat.min_eq_left (Nat.le_of_lt hi), firstBad_at hc, Nat.add_comm 1 i]
    · rintro σ' H' ⟨us, y2, y3, rfl, eH, hc', hL, hT, hlen, haw⟩
      rw [List.length_map, List.take_of_length_le (Nat.le_refl _)] at hT haw
      have hnone : firstBad 1 rows = none := by
        cases hb : firstBad 1 rows with
        | none => rfl
        | some z =>
          exfalso
          have : ∀ (n : Nat) (rs : List (List Nat)), AllWords rs → firstBad n rs = none := fun n rs => by
            induction rs generalizing n with
            | nil => intro _; rfl
            | cons x rs ih =>
              intro h
              have hx := h x (List.mem_cons_self ..)
              show (match (lexRow x).2 with | some c => some (n, c) | none => firstBad (n + 1) rs) = _
              rw [hx]
              exact ih (n + 1) fun r hr => h r (List.mem_cons_of_mem _ hr)
          rw [this 1 rows haw] at hb
          cases hb
      refine s_ret (ev_var rfl) fun H3 e3 => q hnone l H3 us hl0 (eH.trans e3) (e3 l _ hL) ?_
      exact TdAll.tx (Tx.of e3) _ _ hT
end
end Wt

set_option Elab.async false
set_option linter.all false
set_option maxRecDepth 100000
set_option maxHeartbeats 4000000
/-! What an expression comes to, told as data; texts as lists of signs. -/
namespace Wt
open PySem PySem.Spec PyProof.Rows L2 SX Evl
def lt (s : String) : List Nat := (Str.ofString s).cps.toList
theorem S_lt (s : String) : Str.ofString s = S (lt s) := by rw [lt, S_tl]
/-- data in tuples -/
def EvD (te : TE) (σ : L2.St) (H : Hp) (d : PyData) : Prop := ∀ H1, Ex H H1 → ∀ Q : VK, (∀ v H2, Ex H1 H2 → Td H2 v d → Q v H2) → te σ H1 Q
def EAD (ta : TA) (σ : L2.St) (H : Hp) (ds : List PyData) : Prop := ∀ H1, Ex H H1 → ∀ Q : List V → Hp → Prop, (∀ vs H2, Ex H1 H2 → TdAll H2 vs ds → Q vs H2) → ta σ H1 Q
/-- a new list of data -/
def EvDL (te : TE) (σ : L2.St) (H : Hp) (ds : List PyData) : Prop := ∀ H1, Ex H H1 → ∀ Q : VK, (∀ p H2 vs, H1 p = none → Ex H1 H2 → H2 p = some (.lst vs) → TdAll H2 vs ds → Q (.ref p) H2) → te σ H1 Q
/-- a new list of texts -/
abbrev EvLT (te : TE) (σ : L2.St) (H : Hp) (ts : List (List Nat)) : Prop := EvL te σ H (ts.map fun z => V.str (S z))
abbrev EvS (te : TE) (σ : L2.St) (H : Hp) (t : List Nat) : Prop := Ev te σ H (.str (S t))
abbrev EAT (ta : TA) (σ : L2.St) (H : Hp) (ts : List (List Nat)) : Prop := EvA ta σ H (ts.map fun z => V.str (S z))
theorem wide_texts (l : List (List Nat)) : (l.map fun z => V.str (S z)).length = l.length := List.length_map ..
section
variable {K : PySem.W.Frag} {σ : L2.St} {H H' : Hp} {ta tb te tx : TE} {tr : TA} {t u : TT} {v w : V} {d : PyData} {ds es : List PyData} {D : Ends} {tu tw tz : TS} {g : TG}
theorem ed_of (h : Ev te σ H v) (hv : Td H v d) : EvD te σ H d := fun H1 e Q q => h H1 e Q fun H2 e2 => q v H2 e2 (Td.tx (Tx.of (e.trans e2)) _ _ hv)
theorem ed_str {x : Str} (h : Ev te σ H (.str x)) : EvD te σ H (.str x) := ed_of h (.str x)
theorem ed_int {i : Int} (h : Ev te σ H (.int i)) : EvD te σ H (.int i) := ed_of h (.int i)
theorem ed_bl {b : Bool} (h : Ev te σ H (.bl b)) : EvD te σ H (.bool b) := ed_of h (.bl b)
theorem ed_non (h : Ev te σ H .non) : EvD te σ H .none := ed_of h .non
theorem EvD.mono (e : Ex H H') (h : EvD te σ H d) : EvD te σ H' d := fun H1 e1 Q q => h H1 (e.trans e1) Q q
theorem EvDL.mono (e : Ex H H') (h : EvDL te σ H ds) : EvDL te σ H' ds := fun H1 e1 Q q => h H1 (e.trans e1) Q q
theorem ed_is {d2 : PyData} (h : EvD te σ H d) (e : d = d2) : EvD te σ H d2 := e ▸ h
theorem ead_nil : EAD tNil σ H [] := fun H1 _ Q q => q [] H1 (Ex.refl _) .nil
theorem ead_cons (h : EvD te σ H d) (hr : EAD tr σ H ds) : EAD (tCons te tr) σ H (d :: ds) := fun H1 e Q q =>
  h H1 e _ fun v H2 e2 hv => hr H2 (e.trans e2) _ fun vs H3 e3 hvs => q (v :: vs) H3 (e2.trans e3) (.cons (Td.tx (Tx.of e3) _ _ hv) hvs)
theorem ed_tup {tr : TA} (h : EAD tr σ H ds) (hl : ds.length ≤ 100000) : EvD (tTup tr) σ H (.tuple ds) := fun H1 e Q q =>
  h H1 e _ fun vs H2 e2 hvs => ⟨sz_of (by rw [hvs.len]; exact hl), fun p hp => q (.ref p) _ (e2.trans (Ex.new hp)) (.tup upd_same (TdAll.tx (Tx.of (Ex.new hp)) _ _ hvs))⟩
theorem edl_lst {tr : TA} (h : EAD tr σ H ds) (hl : ds.length ≤ 100000) : EvDL (tLst tr) σ H ds := fun H1 e Q q =>
  h H1 e _ fun vs H2 e2 hvs => ⟨sz_of (by rw [hvs.len]; exact hl), fun p hp => q p _ vs (fresh_back e2 hp) (e2.trans (Ex.new hp)) upd_same (TdAll.tx (Tx.of (Ex.new hp)) _ _ hvs)⟩
theorem edl_cat {l : Addr} {xs : List V} (ha : Ev ta σ H (.ref l)) (hl : H l = some (.lst xs)) (hx : TdAll H xs ds) (hb : EvDL tb σ H es) (hz : ds.length + es.length ≤ 100000) : EvDL (tOp rCat ta tb) σ H (ds ++ es) := fun H1 e Q q =>
  ha H1 e _ fun H2 e2 => hb H2 (e.trans e2) _ fun p H3 ys hp e3 h3 hy => ⟨l, p, xs, ys, rfl, rfl, e3 l _ (e2 l _ (e l _ hl)), h3, sz_of (by rw [hx.len, hy.len]; exact hz), fun c hc =>
    q c _ _ (fresh_back (e2.trans e3) hc) ((e2.trans e3).trans (Ex.new hc)) upd_same (TdAll.tx (Tx.of (Ex.new hc)) _ _ ((TdAll.tx (Tx.of ((e.trans e2).trans e3)) _ _ hx).app hy))⟩
theorem ed_if {b : Bool} (h : EvT t σ H b) (h1 : b = true → EvD ta σ H d) (h2 : b = false → EvD tb σ H d) : EvD (tIf t ta tb) σ H d := fun H1 e Q q => h H1 e _ fun H2 e2 => by
  cases b with
  | true =>
    show ta σ H2 Q
    exact h1 rfl H2 (e.trans e2) Q fun v H3 e3 => q v H3 (e2.trans e3)
  | false =>
    show tb σ H2 Q
    exact h2 rfl H2 (e.trans e2) Q fun v H3 e3 => q v H3 (e2.trans e3)
theorem q_asgD {i : Nat} (h : EvD te σ H d) (k : ∀ v H1, Ex H H1 → Td H1 v d → tz D (σ.set i (some v)) H1) : tSeq (tAsg te (gName i)) tz D σ H := h H (Ex.refl H) _ k
theorem s_asgD {i : Nat} (h : EvD te σ H d) (k : ∀ v H1, Ex H H1 → Td H1 v d → D.nx (σ.set i (some v)) H1) : tAsg te (gName i) D σ H := h H (Ex.refl H) _ k
theorem q_asgDL {i : Nat} (h : EvDL te σ H ds) (k : ∀ p H1 vs, H p = none → Ex H H1 → H1 p = some (.lst vs) → TdAll H1 vs ds → tz D (σ.set i (some (.ref p))) H1) : tSeq (tAsg te (gName i)) tz D σ H := h H (Ex.refl H) _ k
theorem s_asgDL {i : Nat} (h : EvDL te σ H ds) (k : ∀ p H1 vs, H p = none → Ex H H1 → H1 p = some (.lst vs) → TdAll H1 vs ds → D.nx (σ.set i (some (.ref p))) H1) : tAsg te (gName i) D σ H := h H (Ex.refl H) _ k
/-- texts -/
theorem es_lit {s : String} : EvS (tC (.str (Str.ofString s))) σ H (lt s) := ev_is ev_c (congrArg V.str (S_lt s))
theorem ed_S {x : List Nat} (h : EvS te σ H x) : EvD te σ H (.str (S x)) := ed_str h
theorem es_add {a b : List Nat} (ha : EvS ta σ H a) (hb : EvS tb σ H b) (h : a.length + b.length ≤ 100000) : EvS (tOp (fun x y H Q => ∃ i j, x = .str i ∧ y = .str j ∧ i.length + j.length ≤ sizeLine ∧ Q (.str (i ++ j)) H) ta tb) σ H (a ++ b) := ev_op ha hb (rv_addS h)
theorem es_rep {a : List Nat} {k : Nat} (ha : EvS ta σ H a) (hb : Ev tb σ H (.int (k : Int))) (h : a.length ≤ 16) (hk : k ≤ 100000) : EvS (tOp rRepS ta tb) σ H (List.replicate k a).flatten := ev_op ha hb (rv_repS h hk)
theorem eat_nil : EAT tNil σ H [] := ea_nil
theorem eat_cons {a : List Nat} {ts : List (List Nat)} (h : EvS te σ H a) (hr : EAT tr σ H ts) : EAT (tCons te tr) σ H (a :: ts) := ea_cons h hr
theorem elt_lst {ts : List (List Nat)} (h : EAT tr σ H ts) (hl : ts.length ≤ 100000) : EvLT (tLst tr) σ H ts := el_lst h (by rw [List.length_map]; exact hl)
theorem el_catLL {xs zs : List V} (ha : EvL ta σ H xs) (hb : EvL tb σ H zs) (hz : xs.length + zs.length ≤ 100000) : EvL (tOp rCat ta tb) σ H (xs ++ zs) := fun H1 e Q q =>
  ha H1 e _ fun l H2 hl0 e2 hl => hb H2 (e.trans e2) _ fun p H3 hp e3 h3 => ⟨l, p, xs, zs, rfl, rfl, e3 l _ hl, h3, sz_of hz, fun c hc => q c _ (fresh_back (e2.trans e3) hc) ((e2.trans e3).trans (Ex.new hc)) upd_same⟩
theorem elt_cat {ts us : List (List Nat)} (ha : EvLT ta σ H ts) (hb : EvLT tb σ H us) (hz : ts.length + us.length ≤ 100000) : EvLT (tOp rCat ta tb) σ H (ts ++ us) := by
  have := el_catLL ha hb (by rw [List.length_map, List.length_map]; exact hz)
  rw [← List.map_append] at this
  exact this
theorem elt_catV {l : Addr} {ts us : List (List Nat)} (ha : Ev ta σ H (.ref l)) (hl : H l = some (.lst (ts.map fun z => V.str (S z)))) (hb : EvLT tb σ H us) (hz : ts.length + us.length ≤ 100000) : EvLT (tOp rCat ta tb) σ H (ts ++ us) := by
  have := el_cat ha hl hb (by rw [List.length_map, List.length_map]; exact hz)
  rw [← List.map_append] at this
  exact this
theorem rep_map {α β : Type} (f : α → β) (xs : List α) : ∀ k, (List.replicate k (xs.map f)).flatten = ((List.replicate k xs).flatten).map f
  | 0 => rfl
  | k + 1 => by rw [List.replicate_succ, List.replicate_succ, List.flatten_cons, List.flatten_cons, List.map_append, rep_map f xs k]
theorem elt_rep {ts : List (List Nat)} {i : Int} {k : Nat} (ha : EvLT ta σ H ts) (hb : Ev tb σ H (.int i)) (hi : i = (k : Int)) (hz : ts.length * k ≤ 100000) (hk : k ≤ 100000) : EvLT (tOp rRep ta tb) σ H (List.replicate k ts).flatten := fun H1 e Q q =>
  ha H1 e _ fun l H2 hl0 e2 hl => hb H2 (e.trans e2) _ fun H3 e3 => ⟨l, i, _, rfl, rfl, e3 l _ hl, by subst hi; omega, by subst hi; omega, by
    subst hi
    rw [List.length_map]
    exact sz_of hz, fun c hc => q c _ (fresh_back (e2.trans e3) hc) ((e2.trans e3).trans (Ex.new hc)) (by
      subst hi
      rw [← rep_map]
      exact upd_same)⟩
abbrev rJoin (K : PySem.W.Frag) : V → List V → Hp → VK → Prop := fun x xs H Q => ∃ a p, ∃ ys : List Str, x = .str a ∧ xs = [.ref p] ∧ (SqL K H p (ys.map V.str) ∨ SqT K H p (ys.map V.str)) ∧
      (ys.map (·.length)).sum + ys.length * a.length ≤ 16777216 ∧ Q (.str (Txt.join a ys)) H
def fitsJ (sep : List Nat) (ts : List (List Nat)) : Prop := (ts.map (fun x => x.length)).sum + ts.length * sep.length ≤ 100000
instance (sep : List Nat) (ts : List (List Nat)) : Decidable (fitsJ sep ts) := by unfold fitsJ; infer_instance
theorem join_at {sep : List Nat} {ts : List (List Nat)} {p : Addr} {Q : VK} (hp : H p = some (.lst (ts.map fun z => V.str (S z)))) (hz : fitsJ sep ts) (q : Q (.str (S (TL.joinL sep ts))) H) : rJoin K (.str (S sep)) [.ref p] H Q := by
  refine ⟨S sep, p, ts.map S, rfl, rfl, .inl ?_, ?_, ?_⟩
  · rw [List.map_map]
    exact sq_of hp
  · unfold fitsJ at hz
    rw [lens, List.length_map, S_len]
    omega
  · rw [join_S]
    exact q
theorem es_join {sep : List Nat} {ts : List (List Nat)} (ha : EvS ta σ H sep) (hb : EvLT tb σ H ts) (hz : fitsJ sep ts) : EvS (tM1 (rJoin K) ta tb) σ H (TL.joinL sep ts) := fun H1 e Q q =>
  ha H1 e _ fun H2 e2 => ⟨⟨S sep, rfl⟩, hb H2 (e.trans e2) _ fun p H3 hp e3 h3 => join_at h3 hz (q H3 (e2.trans e3))⟩
theorem es_joinV {sep : List Nat} {ts : List (List Nat)} {l : Addr} (ha : EvS ta σ H sep) (hb : Ev tb σ H (.ref l)) (hl : H l = some (.lst (ts.map fun z => V.str (S z)))) (hz : fitsJ sep ts) : EvS (tM1 (rJoin K) ta tb) σ H (TL.joinL sep ts) := fun H1 e Q q =>
  ha H1 e _ fun H2 e2 => ⟨⟨S sep, rfl⟩, hb H2 (e.trans e2) _ fun H3 e3 => join_at (e3 l _ (e2 l _ (e l _ hl))) hz (q H3 (e2.trans e3))⟩
/-- int(truth) -/
theorem ev_intB {b : Bool} (h : Ev te σ H (.bl b)) {r : List V → Hp → VK → Prop} (hr : ∀ H1 Q, Q (.int (if b = true then 1 else 0)) H1 → r [.bl b] H1 Q) : Ev (tCB r (tCons te tNil)) σ H (.int (if b = true then 1 else 0)) :=
  ev_cb (ea_cons h ea_nil) fun H1 _ Q q => hr H1 Q (q H1 (Ex.refl H1))
/-- [e for k in range(n)], e known by what is true of it: just n of them -/
theorem en_lcRn {j : Nat} {vs : List Nat} {n : Nat} {P : V → Prop} (h : Ev ta σ H (.int (n : Int))) (hN : n ≤ 10000) (hw : ∀ x, wipe ((wipe σ vs).set j (some x)) vs = wipe σ vs)
    (he : ∀ (i : Nat) H1, Ex H H1 → EvN te ((wipe σ vs).set j (some (.int (i : Int)))) H1 P) : EvNL (tLc (iRng1 (tCons ta tNil)) (gName j) tYes te vs) σ H (fun xs => xs.length = n ∧ ∀ x ∈ xs, P x) := fun H0 e Q q =>
  h H0 e _ fun H1 e1 => by
    refine ⟨(n : Int), rfl, by omega, by omega, fun Dl hD => ?_⟩
    refine lc_range (lo := 0) (n := (n : Int).toNat) (fun i H2 => ∃ xs, Ex H1 H2 ∧ H2 Dl = some (.lst xs) ∧ xs.length = i ∧ ∀ x ∈ xs, P x) ⟨[], Ex.new hD, upd_same, rfl, fun _ h => absurd h (by simp)⟩ ?_ ?_
    · rintro i H2 hi ⟨xs, e2, h2, hl, hP⟩
      have e0 : (0 : Int) + (i : Int) = (i : Int) := Int.zero_add _
      show wipe ((wipe σ vs).set j (some (.int ((0 : Int) + (i : Int))))) vs = wipe σ vs ∧ tYes ((wipe σ vs).set j (some (.int ((0 : Int) + (i : Int))))) H2 _
      rw [e0]
      refine ⟨hw _, ?_⟩
      show te ((wipe σ vs).set j (some (.int (i : Int)))) H2 _
      refine he i H2 ((e.trans e1).trans e2) H2 (Ex.refl H2) _ fun y H3 py e3 => ⟨xs, e3 Dl _ h2, sz_lt (by omega), xs ++ [y], ?_, upd_same, by rw [List.length_append, hl] <;> rfl, fun x hx => ?_⟩
      · exact Ex.mut (e2.trans e3) hD
      · rcases List.mem_append.mp hx with h | h
        · exact hP x h
        · rw [List.mem_singleton.mp h]
          exact py
    · rintro H2 ⟨xs, e2, h2, hl, hP⟩
      exact q Dl H2 xs ⟨by omega, hP⟩ (fresh_back e1 hD) (e1.trans e2) h2
end
/-! readings of lists that are known by what is true of them, of loops over new lists -/
section
variable {K : PySem.W.Frag} {σ : L2.St} {H H' : Hp} {ta tb te tx tl : TE} {tr : TA} {t u : TT} {v w : V} {d : PyData} {ds es : List PyData} {D : Ends} {tu tw tz : TS} {g : TG} {L : List V → Prop} {P : V → Prop}
theorem edl_is {es : List PyData} (h : EvDL te σ H ds) (e : ds = es) : EvDL te σ H es := e ▸ h
theorem ed_place {a b : Nat} {i j : Int} (h1 : Ev ta σ H (.int i)) (h2 : Ev tb σ H (.int j)) (e1 : i = (a : Int)) (e2 : j = (b : Int)) : EvD (tTup (tCons ta (tCons tb tNil))) σ H (.tuple [.int (a : Int), .int (b : Int)]) := by
  subst e1 e2
  exact ed_tup (ead_cons (ed_int h1) (ead_cons (ed_int h2) ead_nil)) (by show 2 ≤ 100000; decide)
theorem q_asgNL {i : Nat} (h : EvNL te σ H L) (k : ∀ p H1 xs, L xs → H p = none → Ex H H1 → H1 p = some (.lst xs) → tz D (σ.set i (some (.ref p))) H1) : tSeq (tAsg te (gName i)) tz D σ H := h H (Ex.refl H) _ k
theorem enl_cat {zs : List V} {n : Nat} (ha : EvNL ta σ H L) (hb : EvL tb σ H zs) (hn : ∀ xs, L xs → xs.length ≤ n) (hz : n + zs.length ≤ 100000) : EvNL (tOp rCat ta tb) σ H (fun xs => ∃ ys, L ys ∧ xs = ys ++ zs) := fun H1 e Q q =>
  ha H1 e _ fun l H2 xs hL hl0 e2 hl => hb H2 (e.trans e2) _ fun p H3 hp e3 h3 => ⟨l, p, xs, zs, rfl, rfl, e3 l _ hl, h3, sz_of (by have := hn xs hL; omega), fun c hc => q c _ _ ⟨xs, hL, rfl⟩ (fresh_back (e2.trans e3) hc) ((e2.trans e3).trans (Ex.new hc)) upd_same⟩
theorem enl_rep {ts : List (List Nat)} {B : Nat} (ha : EvLT ta σ H ts) (hb : EvN tb σ H (fun v => ∃ z : Int, v = .int z ∧ 0 ≤ z ∧ z < (B : Int))) (hz : ts.length * B ≤ 100000) (hB : B ≤ 100000) : EvNL (tOp rRep ta tb) σ H (fun xs => ∃ k, k < B ∧ xs = (List.replicate k ts).flatten.map fun z => V.str (S z)) := fun H1 e Q q =>
  ha H1 e _ fun l H2 hl0 e2 hl => hb H2 (e.trans e2) _ fun v H3 hv e3 => by
    obtain ⟨z, rfl, z0, z1⟩ := hv
    obtain ⟨k, rfl⟩ : ∃ k : Nat, z = (k : Int) := ⟨z.toNat, by omega⟩
    have hk : k < B := by omega
    have hm : ts.length * k ≤ ts.length * B := Nat.mul_le_mul_left _ (by omega)
    exact ⟨l, k, _, rfl, rfl, e3 l _ hl, by omega, by omega, by
      rw [List.length_map, Int.toNat_natCast]
      exact sz_of (by omega), fun c hc => q c _ _ ⟨k, hk, rfl⟩ (fresh_back (e2.trans e3) hc) ((e2.trans e3).trans (Ex.new hc)) (by
        rw [← rep_map, Int.toNat_natCast]
        exact upd_same)⟩
theorem qn_par {i j : Nat} {L : List V → Prop} (h : EAN tr σ H L) (k : ∀ vs H1, L vs → Ex H H1 → ∃ v w, vs = [v, w] ∧ tz D ((σ.set i (some v)).set j (some w)) H1) : tSeq (tPar i j tr) tz D σ H := h H (Ex.refl H) _ k
theorem s_appD {l : Addr} {xs : List V} (hl : H l = some (.lst xs)) (ha : Ev ta σ H (.ref l)) (h : EvD te σ H d) (hz : xs.length < 100000) (k : ∀ v H1, Ex H H1 → Td H1 v d → D.nx σ (upd H1 l (.lst (xs ++ [v])))) : tDrop (tBM K "list" rAppend ta (tCons te tNil)) D σ H := ha H (Ex.refl H) _ fun H1 e1 =>
  ⟨Or.inl ⟨rfl, xs, sq_of (e1 l _ hl)⟩, h H1 e1 _ fun v H2 e2 hv => ⟨l, xs, v, rfl, rfl, e2 l _ (e1 l _ hl), sz_lt hz, k v H2 (e1.trans e2) hv⟩⟩
theorem q_appD {l : Addr} {xs : List V} (hl : H l = some (.lst xs)) (ha : Ev ta σ H (.ref l)) (h : EvD te σ H d) (hz : xs.length < 100000) (k : ∀ v H1, Ex H H1 → Td H1 v d → tz D σ (upd H1 l (.lst (xs ++ [v])))) : tSeq (tDrop (tBM K "list" rAppend ta (tCons te tNil))) tz D σ H := s_appD (D := { D with nx := tz D }) hl ha h hz k
theorem q_forDL (h : EvDL tl σ H ds) (k : ∀ p H1 vs, H p = none → Ex H H1 → H1 p = some (.lst vs) → TdAll H1 vs ds → ∃ Pv : Nat → L2.St → Hp → Prop, Pv 0 σ H1 ∧ (∀ i σ' H', i ≤ vs.length → Pv i σ' H' → SqL K H' p vs) ∧
    (∀ i x σ' H', vs[i]? = some x → Pv i σ' H' → g x σ' H' fun σ2 H2 => tu { D with nx := Pv (i + 1), ct := Pv (i + 1), bk := tz D } σ2 H2) ∧ (∀ σ' H', Pv vs.length σ' H' → tz D σ' H')) : tSeq (tFor (iList K tl) g tu) tz D σ H :=
  h H (Ex.refl H) _ fun p H1 vs hp e h1 hT => by
    obtain ⟨Pv, p0, p1, p2, p3⟩ := k p H1 vs hp e h1 hT
    exact ⟨p, rfl, ⟨vs, sq_of h1⟩, for_list (D := { D with nx := tz D }) Pv p0 p1 p2 p3⟩
theorem TdAll.at {vs : List V} {i : Nat} {x : V} (h : TdAll H vs ds) (hx : vs[i]? = some x) : ∃ d, ds[i]? = some d ∧ Td H x d := by
  induction i generalizing vs ds with
  | zero =>
    cases h with
    | nil => cases hx
    | cons a b =>
      cases hx
      exact ⟨_, rfl, a⟩
  | succ i ih =>
    cases h with
    | nil => cases hx
    | cons a b => exact ih b hx
/-- a, b = x where x is a pair -/
theorem g_pair {i j : Nat} {x : V} {d1 d2 : PyData} {Q : L2.St → Hp → Prop} (h : Td H x (.tuple [d1, d2])) (k : ∀ v w, Td H v d1 → Td H w d2 → Q ((σ.set i (some v)).set j (some w)) H) : gTup K 2 (gCons (gName i) (gCons (gName j) gNil)) x σ H Q := by
  cases h with
  | @tup a xs _ h1 h2 =>
    cases h2 with
    | @cons v _ _ _ g1 g2 =>
      cases g2 with
      | @cons w _ _ _ g3 g4 =>
        cases g4
        exact ⟨a, [v, w], rfl, st_of h1, rfl, v, [w], rfl, w, [], rfl, rfl, k v w g1 g3⟩
theorem td_S {x : V} {l : List Nat} (h : Td H x (.str (S l))) : x = .str (S l) := by cases h; rfl
theorem td_int {x : V} {i : Int} (h : Td H x (.int i)) : x = .int i := by cases h; rfl
/-- [e for c in text]: texts -/
theorem elt_lcS {l : List Nat} {j : Nat} {vs : List Nat} {f : Nat → List Nat} (h : EvS tl σ H l) (hz : l.length ≤ 40000) (hw : ∀ x, wipe ((wipe σ vs).set j (some x)) vs = wipe σ vs)
    (he : ∀ (c : Nat) H1, Ex H H1 → EvS te ((wipe σ vs).set j (some (.str (S [c])))) H1 (f c)) : EvLT (tLc (iStr tl) (gName j) tYes te vs) σ H (l.map f) := fun H0 e Q q => h H0 e _ fun H1 e1 => by
  refine ⟨S l, rfl, fun Dl hD => ?_⟩
  have hsz : (S l).cps.size = l.length := by simp [S]
  refine lc_it (walk_str (z := S l)) (fun i H' => Ex H1 H' ∧ H' Dl = some (.lst (((l.take i).map f).map fun z => V.str (S z)))) ⟨Ex.new hD, upd_same⟩ (fun _ _ _ _ => trivial) ?_ ?_
  · rintro i x H2 H3 hi ⟨e2, h2⟩ ⟨rfl, c, hc, rfl⟩
    refine ⟨hw _, ?_⟩
    have hc2 : l[i]? = some c := by
      have : (S l).cps.toList[i]? = some c := by rw [Array.getElem?_toList]; exact hc
      rw [S_list] at this
      exact this
    have hlt : i < l.length := by rw [← hsz]; exact hi
    show te _ H3 _
    refine he c H3 ((e.trans e1).trans e2) H3 (Ex.refl H3) _ fun H4 e4 => ⟨_, e4 _ _ h2, sz_lt (by simp; omega), Ex.mut (e2.trans e4) hD, ?_⟩
    rw [show l.take (i + 1) = l.take i ++ [c] by rw [List.take_succ, hc2]; rfl, List.map_append, List.map_append]
    exact upd_same
  · rintro H2 ⟨e2, h2⟩
    rw [hsz, List.take_length] at h2
    exact q Dl H2 (fresh_back e1 hD) (e1.trans e2) h2
theorem ev_slS {l r : List Nat} {i : Int} {tl2 : TO} {th : TO} (h : EvS te σ H l) (h1 : EvO tl2 σ H none) (h2 : EvO th σ H (some i)) (hl : l.length ≤ 100000) (hr : Txt.slice (S l) none (some i) = S r) : EvS (tSl C8.rSlX te tl2 th) σ H r := fun H1 e Q q =>
  h H1 e _ fun H2 e2 => h1 H2 (e.trans e2) _ fun H3 e3 => h2 H3 ((e.trans e2).trans e3) _ fun H4 e4 => ⟨S l, rfl, by rw [S_len]; exact sz_of hl, by
    rw [hr]
    exact q H4 ((e2.trans e3).trans e4)⟩
end
end Wt

set_option Elab.async false
set_option linter.all false
set_option maxRecDepth 100000
set_option maxHeartbeats 4000000
/-! What an expression comes to, told as data of which something is true. -/
namespace Wt
open PySem PySem.Spec PyProof.Rows L2 SX Evl
def EvR (te : TE) (σ : L2.St) (H : Hp) (R : PyData → Prop) : Prop := ∀ H1, Ex H H1 → ∀ Q : VK, (∀ v H2 d, R d → Ex H1 H2 → Td H2 v d → Q v H2) → te σ H1 Q
def EAR (ta : TA) (σ : L2.St) (H : Hp) (R : List PyData → Prop) : Prop := ∀ H1, Ex H H1 → ∀ Q : List V → Hp → Prop, (∀ vs H2 ds, R ds → Ex H1 H2 → TdAll H2 vs ds → Q vs H2) → ta σ H1 Q
/-- a new list -/
def EvRL (te : TE) (σ : L2.St) (H : Hp) (R : List PyData → Prop) : Prop := ∀ H1, Ex H H1 → ∀ Q : VK, (∀ p H2 vs ds, R ds → H1 p = none → Ex H1 H2 → H2 p = some (.lst vs) → TdAll H2 vs ds → Q (.ref p) H2) → te σ H1 Q
/-- a list of texts that stands there, or a new one -/
def EvLs (te : TE) (σ : L2.St) (H : Hp) (P : List (List Nat) → Prop) : Prop := ∀ H1, Ex H H1 → ∀ Q : VK, (∀ p H2 ts, P ts → Ex H1 H2 → H2 p = some (.lst (ts.map fun z => V.str (S z))) → Q (.ref p) H2) → te σ H1 Q
theorem td_get {H : Hp} : ∀ {us : List V} {ds : List PyData} {i : Nat} {d : PyData}, TdAll H us ds → ds[i]? = some d → ∃ v, us[i]? = some v ∧ Td H v d
  | _, _, _, _, .nil, h => by simp at h
  | _, _, 0, _, .cons a b, h => ⟨_, rfl, by
    cases Option.some.inj h
    exact a⟩
  | _, _, i + 1, _, .cons a b, h => td_get (i := i) b h
theorem td_mem {H : Hp} : ∀ {us : List V} {ds : List PyData} {v : V}, TdAll H us ds → v ∈ us → ∃ d ∈ ds, Td H v d
  | _, _, _, .nil, h => by cases h
  | _, _, v, .cons a b, h => by
    rcases List.mem_cons.mp h with rfl | h
    · exact ⟨_, List.mem_cons_self .., a⟩
    · obtain ⟨d, hd, hT⟩ := td_mem b h
      exact ⟨d, List.mem_cons_of_mem _ hd, hT⟩
theorem cutV_from {xs : List V} {k : Nat} (h : k ≤ xs.length) : cutV xs (some (k : Int)) none = xs.drop k := by
  have h1 : HT.sIx xs.length 0 (some (k : Int)) = k := by
    rw [HT.sIx_nat]
    omega
  have h2 : HT.sIx xs.length xs.length none = xs.length := rfl
  unfold cutV
  rw [h1, h2]
  exact List.take_of_length_le (by rw [List.length_drop]; omega)
theorem td_drop {H : Hp} : ∀ {n : Nat} {us : List V} {ds : List PyData}, TdAll H us ds → TdAll H (us.drop n) (ds.drop n)
  | 0, _, _, h => h
  | _ + 1, _, _, .nil => .nil
  | n + 1, _, _, .cons a b => td_drop (n := n) b
section
variable {K : PySem.W.Frag} {σ : L2.St} {H H' : Hp} {ta tb te tx tl : TE} {tr : TA} {t u : TT} {v w : V} {R R2 : PyData → Prop} {L : List PyData → Prop} {D : Ends} {tu tw tz : TS} {P : V → Prop}
theorem er_of {d : PyData} (h : EvD te σ H d) : EvR te σ H (· = d) := fun H1 e Q q => h H1 e Q fun v H2 e2 hv => q v H2 d rfl e2 hv
theorem EvR.imp (h : EvR te σ H R) (i : ∀ d, R d → R2 d) : EvR te σ H R2 := fun H1 e Q q => h H1 e Q fun v H2 d r => q v H2 d (i d r)
theorem EvR.mono (e : Ex H H') (h : EvR te σ H R) : EvR te σ H' R := fun H1 e1 Q q => h H1 (e.trans e1) Q q
theorem er_N (h : EvN te σ H P) (hP : ∀ v, P v → ∃ d, R d ∧ ∀ H', Td H' v d) : EvR te σ H R := fun H1 e Q q => h H1 e Q fun v H2 p e2 => by
  obtain ⟨d, r, hd⟩ := hP v p
  exact q v H2 d r e2 (hd H2)
theorem ear_nil : EAR tNil σ H (· = []) := fun H1 _ Q q => q [] H1 [] rfl (Ex.refl _) .nil
theorem ear_cons (h : EvR te σ H R) (hr : EAR tr σ H L) : EAR (tCons te tr) σ H (fun l => ∃ d ds, l = d :: ds ∧ R d ∧ L ds) := fun H1 e Q q =>
  h H1 e _ fun v H2 d r e2 hv => hr H2 (e.trans e2) _ fun vs H3 ds rs e3 hvs => q (v :: vs) H3 (d :: ds) ⟨d, ds, rfl, r, rs⟩ (e2.trans e3) (.cons (Td.tx (Tx.of e3) _ _ hv) hvs)
theorem ear_one {d : PyData} (h : EvD te σ H d) (hr : EAR tr σ H L) : EAR (tCons te tr) σ H (fun l => ∃ ds, l = d :: ds ∧ L ds) := fun H1 e Q q =>
  h H1 e _ fun v H2 e2 hv => hr H2 (e.trans e2) _ fun vs H3 ds rs e3 hvs => q (v :: vs) H3 (d :: ds) ⟨ds, rfl, rs⟩ (e2.trans e3) (.cons (Td.tx (Tx.of e3) _ _ hv) hvs)
theorem EAR.imp {L2 : List PyData → Prop} (h : EAR tr σ H L) (i : ∀ d, L d → L2 d) : EAR tr σ H L2 := fun H1 e Q q => h H1 e Q fun v H2 d r => q v H2 d (i d r)
theorem er_tup (h : EAR tr σ H L) (hl : ∀ ds, L ds → ds.length ≤ 100000) : EvR (tTup tr) σ H (fun d => ∃ ds, L ds ∧ d = .tuple ds) := fun H1 e Q q =>
  h H1 e _ fun vs H2 ds r e2 hvs => ⟨sz_of (by rw [hvs.len]; exact hl ds r), fun p hp => q (.ref p) _ (.tuple ds) ⟨ds, r, rfl⟩ (e2.trans (Ex.new hp)) (.tup upd_same (TdAll.tx (Tx.of (Ex.new hp)) _ _ hvs))⟩
theorem erl_lst (h : EAR tr σ H L) (hl : ∀ ds, L ds → ds.length ≤ 100000) : EvRL (tLst tr) σ H L := fun H1 e Q q =>
  h H1 e _ fun vs H2 ds r e2 hvs => ⟨sz_of (by rw [hvs.len]; exact hl ds r), fun p hp => q p _ vs ds r (fresh_back e2 hp) (e2.trans (Ex.new hp)) upd_same (TdAll.tx (Tx.of (Ex.new hp)) _ _ hvs)⟩
theorem er_if {b : Bool} (h : EvT t σ H b) (h1 : b = true → EvR ta σ H R) (h2 : b = false → EvR tb σ H R) : EvR (tIf t ta tb) σ H R := fun H1 e Q q => h H1 e _ fun H2 e2 => by
  cases b with
  | true =>
    show ta σ H2 Q
    exact h1 rfl H2 (e.trans e2) Q fun v H3 d r e3 => q v H3 d r (e2.trans e3)
  | false =>
    show tb σ H2 Q
    exact h2 rfl H2 (e.trans e2) Q fun v H3 d r e3 => q v H3 d r (e2.trans e3)
theorem er_tupleOf (h : EvRL te σ H L) : EvR (tCB (fun xs H Q => ∃ p ys, xs = [.ref p] ∧ ((SqL K H p ys ∧ ∀ l, H l = none → Q (.ref l) (upd H l (.tup ys))) ∨ (SqT K H p ys ∧ Q (.ref p) H))) (tCons te tNil)) σ H (fun d => ∃ ds, L ds ∧ d = .tuple ds) := fun H1 e Q q =>
  h H1 e _ fun l H2 vs ds r hl e2 hl2 hvs => ⟨l, vs, rfl, .inl ⟨sq_of hl2, fun c hc => q _ _ _ ⟨ds, r, rfl⟩ (e2.trans (Ex.new hc)) (.tup upd_same (TdAll.tx (Tx.of (Ex.new hc)) _ _ hvs))⟩⟩
/-- (a, b, ..) + e[k:] -/
theorem er_catSl {k : Nat} {ds1 : List PyData} (h : EAD tr σ H ds1) (he : EvR te σ H R) (hR : ∀ d, R d → ∃ es, d = .tuple es ∧ k < es.length ∧ es.length ≤ 100) (hk : 0 < k) (h1 : ds1 ≠ []) (hl1 : ds1.length ≤ 100) :
    EvR (tOp (rCatA K) (tTup tr) (tSl (rSlA K) te (tPart (tC (.int (k : Int)))) tNoPart)) σ H (fun d => ∃ es, R (.tuple es) ∧ d = .tuple (ds1 ++ es.drop k)) := fun H1 e Q q => h H1 e _ fun vs H2 e2 hvs => ⟨sz_of (by rw [hvs.len]; omega), fun pa hpa => by
  have e3 := Ex.new (o := HO.tup vs) hpa
  refine he _ ((e.trans e2).trans e3) _ fun v H4 d r e4 hv => ?_
  obtain ⟨es, rfl, hkl, hl⟩ := hR d r
  refine ⟨(k : Int), rfl, ?_⟩
  cases hv with
  | @tup ea xs _ hx1 hx2 =>
    have hxl := hx2.len
    have h2 : HT.sIx xs.length 0 (some (k : Int)) = k := by
      rw [HT.sIx_nat]
      omega
    refine ⟨ea, xs, rfl, st_of hx1, fun z => ?_, fun _ pb hpb => ?_⟩
    · exfalso
      have := z.1
      rw [h2] at this
      omega
    · rw [cutV_from (by omega)] at *
      have e5 := Ex.new (o := HO.tup (xs.drop k)) hpb
      have hvs5 := TdAll.tx (Tx.of ((e3.trans e4).trans e5)) _ _ hvs
      have hd5 := td_drop (n := k) (TdAll.tx (Tx.of e5) _ _ hx2)
      have ne1 : vs ≠ [] := fun z => h1 (by
        rw [z] at hvs
        cases hvs
        rfl)
      have ne2 : xs.drop k ≠ [] := fun z => by
        have := congrArg List.length z
        rw [List.length_drop] at this
        simp at this
        omega
      refine ⟨pa, pb, vs, xs.drop k, rfl, rfl, st_of (e5 _ _ (e4 _ _ upd_same)), st_of upd_same, sz_of (by
        rw [List.length_drop, hvs.len]
        omega), fun z => absurd z ne1, fun _ z => absurd z ne2, fun _ _ pc hpc => ?_⟩
      have e6 := Ex.new (o := HO.tup (vs ++ xs.drop k)) hpc
      exact q _ _ _ ⟨es, r, rfl⟩ ((((e2.trans e3).trans e4).trans e5).trans e6) (.tup upd_same (TdAll.tx (Tx.of e6) _ _ (hvs5.app hd5)))⟩
theorem q_asgR {i : Nat} (h : EvR te σ H R) (k : ∀ v H1 d, R d → Ex H H1 → Td H1 v d → tz D (σ.set i (some v)) H1) : tSeq (tAsg te (gName i)) tz D σ H := h H (Ex.refl H) _ k
theorem q_asgRL {i : Nat} (h : EvRL te σ H L) (k : ∀ p H1 vs ds, L ds → H p = none → Ex H H1 → H1 p = some (.lst vs) → TdAll H1 vs ds → tz D (σ.set i (some (.ref p))) H1) : tSeq (tAsg te (gName i)) tz D σ H := h H (Ex.refl H) _ k
theorem s_retR (h : EvR te σ H R) (k : ∀ v H1 d, R d → Ex H H1 → Td H1 v d → D.rt v H1) : tRet te D σ H := h H (Ex.refl H) _ k
/-- lists of texts -/
theorem els_new {ts : List (List Nat)} {Pt : List (List Nat) → Prop} (h : EvLT te σ H ts) (p : Pt ts) : EvLs te σ H Pt := fun H1 e Q q => h H1 e Q fun l H2 _ e2 hl => q l H2 ts p e2 hl
theorem els_at {l : Addr} {ts : List (List Nat)} {Pt : List (List Nat) → Prop} (h : Ev te σ H (.ref l)) (hl : H l = some (.lst (ts.map fun z => V.str (S z)))) (p : Pt ts) : EvLs te σ H Pt := fun H1 e Q q => h H1 e Q fun H2 e2 => q l H2 ts p e2 ((e.trans e2) _ _ hl)
theorem els_if {b : Bool} {Pt : List (List Nat) → Prop} (h : EvT t σ H b) (h1 : b = true → EvLs ta σ H Pt) (h2 : b = false → EvLs tb σ H Pt) : EvLs (tIf t ta tb) σ H Pt := fun H1 e Q q => h H1 e _ fun H2 e2 => by
  cases b with
  | true =>
    show ta σ H2 Q
    exact h1 rfl H2 (e.trans e2) Q fun p H3 ts r e3 => q p H3 ts r (e2.trans e3)
  | false =>
    show tb σ H2 Q
    exact h2 rfl H2 (e.trans e2) Q fun p H3 ts r e3 => q p H3 ts r (e2.trans e3)
/-- [x for x in xs if ..] over a list of data -/
theorem edl_filter {a : Addr} {xs : List V} {ds : List PyData} {j : Nat} {vs : List Nat} (p : PyData → Bool) (h : Ev tl σ H (.ref a)) (hx : H a = some (.lst xs)) (hT : TdAll H xs ds) (hz : ds.length ≤ 40000) (hw : ∀ x, wipe ((wipe σ vs).set j (some x)) vs = wipe σ vs) (hj : ∀ x, ((wipe σ vs).set j (some x))[j]? = some (some x))
    (ht : ∀ (x : V) (d : PyData) H1, Ex H H1 → d ∈ ds → Td H1 x d → EvT t ((wipe σ vs).set j (some x)) H1 (p d)) : EvDL (tLc (iList K tl) (gName j) t (tVar j) vs) σ H (ds.filter p) := fun H0 e Q q => h H0 e _ fun H1 e1 => ⟨a, rfl, ⟨xs, sq_of ((e.trans e1) _ _ hx)⟩, fun Dl hD => by
  have hx1 := (e.trans e1) _ _ hx
  have hT1 := TdAll.tx (Tx.of (e.trans e1)) _ _ hT
  refine lc_it (walk_list (K := K) (a := a) (xs := xs)) (fun i H' => ∃ acc, Ex H1 H' ∧ H' Dl = some (.lst acc) ∧ TdAll H' acc ((ds.take i).filter p)) ⟨[], Ex.new hD, upd_same, .nil⟩ (fun _ H' _ ⟨_, e2, _⟩ => sq_of (e2 _ _ hx1)) ?_ ?_
  · rintro i x H2 H3 hi ⟨acc, e2, hDl, hA⟩ ⟨rfl, hxi⟩
    refine ⟨hw x, ?_⟩
    have hlen := hT1.len
    have hi2 : i < ds.length := by omega
    have hd : ds[i]? = some ds[i] := List.getElem?_eq_getElem hi2
    obtain ⟨v, hv, hTv⟩ := td_get hT1 hd
    rw [hxi] at hv
    cases hv
    have hal : acc.length ≤ ds.length := by
      have := List.length_filter_le p (ds.take i)
      rw [List.length_take] at this
      have := hA.len
      omega
    refine ht x ds[i] H3 ((e.trans e1).trans e2) (List.getElem_mem hi2) (Td.tx (Tx.of e2) _ _ hTv) H3 (Ex.refl _) _ fun H4 e4 => ?_
    have tk : (ds.take (i + 1)).filter p = (ds.take i).filter p ++ if p ds[i] = true then [ds[i]] else [] := by
      rw [List.take_succ, hd, List.filter_append]
      congr 1
      show List.filter p [ds[i]] = _
      rw [List.filter_cons]
      rfl
    cases hp : p ds[i] with
    | false =>
      rw [if_neg (by decide)]
      refine ⟨acc, e2.trans e4, e4 _ _ hDl, ?_⟩
      rw [tk, hp, if_neg (by decide), List.append_nil]
      exact TdAll.tx (Tx.of e4) _ _ hA
    | true =>
      rw [if_pos rfl]
      refine ev_var (hj x) H4 (Ex.refl _) _ fun H5 e5 => ⟨acc, e5 _ _ (e4 _ _ hDl), sz_lt (by omega), acc ++ [x], Ex.mut ((e2.trans e4).trans e5) hD, upd_same, ?_⟩
      rw [tk, hp, if_pos rfl]
      have tx : Tx H5 (upd H5 Dl (.lst (acc ++ [x]))) := Tx.lst (e5 _ _ (e4 _ _ hDl))
      exact (TdAll.tx ((Tx.of (e4.trans e5)).trans tx) _ _ hA).snoc (Td.tx ((Tx.of ((e2.trans e4).trans e5)).trans tx) _ _ hTv)
  · rintro H2 ⟨acc, e2, hDl, hA⟩
    rw [hT1.len, List.take_length] at hA
    exact q Dl H2 acc (fresh_back e1 hD) (e1.trans e2) hDl hA⟩
/-- [e for x in t] over a tuple of data -/
theorem erl_lcT {a : Addr} {xs : List V} {ds : List PyData} {j : Nat} {vs : List Nat} (h : Ev tl σ H (.ref a)) (hx : H a = some (.tup xs)) (hT : TdAll H xs ds) (hz : ds.length ≤ 40000) (hw : ∀ x, wipe ((wipe σ vs).set j (some x)) vs = wipe σ vs)
    (he : ∀ (x : V) (d : PyData) H1, Ex H H1 → d ∈ ds → Td H1 x d → EvR te ((wipe σ vs).set j (some x)) H1 R) : EvRL (tLc (iTup K tl) (gName j) tYes te vs) σ H (fun es => es.length = ds.length ∧ ∀ d ∈ es, R d) := fun H0 e Q q => h H0 e _ fun H1 e1 => ⟨a, rfl, ⟨xs, st_of ((e.trans e1) _ _ hx)⟩, fun Dl hD => by
  have hx1 := (e.trans e1) _ _ hx
  have hT1 := TdAll.tx (Tx.of (e.trans e1)) _ _ hT
  refine lc_it (walk_tup (K := K) (a := a) (xs := xs)) (fun i H' => ∃ acc es, Ex H1 H' ∧ H' Dl = some (.lst acc) ∧ TdAll H' acc es ∧ es.length = i ∧ ∀ d ∈ es, R d) ⟨[], [], Ex.new hD, upd_same, .nil, rfl, fun _ h => by cases h⟩ (fun _ H' _ ⟨_, _, e2, _⟩ => st_of (e2 _ _ hx1)) ?_ ?_
  · rintro i x H2 H3 hi ⟨acc, es, e2, hDl, hA, hes, hR⟩ ⟨rfl, hxi⟩
    refine ⟨hw x, ?_⟩
    have hlen := hT1.len
    have hi2 : i < ds.length := by omega
    have hd : ds[i]? = some ds[i] := List.getElem?_eq_getElem hi2
    obtain ⟨v, hv, hTv⟩ := td_get hT1 hd
    rw [hxi] at hv
    cases hv
    show te ((wipe σ vs).set j (some x)) H3 _
    refine he x ds[i] H3 ((e.trans e1).trans e2) (List.getElem_mem hi2) (Td.tx (Tx.of e2) _ _ hTv) H3 (Ex.refl _) _ fun y H4 d r e4 hy => ?_
    have hal := hA.len
    refine ⟨acc, e4 _ _ hDl, sz_lt (by omega), acc ++ [y], es ++ [d], Ex.mut (e2.trans e4) hD, upd_same, ?_, by rw [List.length_append, hes] <;> rfl, fun d2 hd2 => ?_⟩
    · have tx : Tx H4 (upd H4 Dl (.lst (acc ++ [y]))) := Tx.lst (e4 _ _ hDl)
      exact (TdAll.tx ((Tx.of e4).trans tx) _ _ hA).snoc (Td.tx tx _ _ hy)
    · rcases List.mem_append.mp hd2 with z | z
      · exact hR d2 z
      · rw [List.mem_singleton.mp z]
        exact r
  · rintro H2 ⟨acc, es, e2, hDl, hA, hes, hR⟩
    exact q Dl H2 acc es ⟨by rw [hes, hT1.len], hR⟩ (fresh_back e1 hD) (e1.trans e2) hDl hA⟩
/-- {k1: v1, k2: v2}[k] -/
theorem ev_disp2 {k1 k2 k : Str} {v1 v2 v : V} (hne : k1 ≠ k2) (hb : Ev tb σ H (.str k)) (hv : (k = k1 ∧ v = v1) ∨ (k = k2 ∧ v = v2)) : Ev (tDGet (tDisp [(tC (.str k1), tC v1), (tC (.str k2), tC v2)]) tb) σ H v := fun H1 e Q q => fun p hp => by
  refine ⟨upd_same, [(Sum.inr k1, v1), (Sum.inr k2, v2)], rfl, by show 2 ≤ 15; decide, ?_⟩
  have hne2 : ¬ (Sum.inr k1 : Key) = Sum.inr k2 := fun z => hne (Sum.inr.inj z)
  have hm : mergeK [] [((Sum.inr k1 : Key), v1), (Sum.inr k2, v2)] = [(Sum.inr k1, v1), (Sum.inr k2, v2)] := by
    unfold mergeK
    simp only [List.foldl_cons, List.foldl_nil, putK, List.any_nil, List.any_cons, Bool.or_false, Bool.false_eq_true, if_false, List.nil_append, decide_eq_true_eq, hne2, List.cons_append, Bool.or_self, decide_false]
  have e1 : Ex H1 (upd (upd H1 p (.dK [])) p (.dK (mergeK [] [((Sum.inr k1 : Key), v1), (Sum.inr k2, v2)]))) := Ex.mut (Ex.new hp) hp
  refine hb _ (e.trans e1) _ fun H2 e2 => ⟨p, v, rfl, ?_, q H2 (e1.trans e2)⟩
  have g := DGet.k (k := (Sum.inr k : Key)) (e2 p _ upd_same)
  rw [hm] at g
  rcases hv with ⟨rfl, rfl⟩ | ⟨rfl, rfl⟩
  · rw [valV_pos (p := ((Sum.inr k : Key), v)) rfl] at g
    exact g
  · rw [valV_neg (p := ((Sum.inr k1 : Key), v1)) hne2, valV_pos (p := ((Sum.inr k : Key), v)) rfl] at g
    exact g
end
end Wt

set_option Elab.async false
set_option linter.all false
set_option maxRecDepth 100000
set_option maxHeartbeats 4000000
/-! The reader of rows as plain functions: what is left of a row goes in; what was read and what is left, or the place of the fault, comes out. -/
namespace Wt
open PySem PySem.Spec PyProof.Rows L2 SX Evl

/-- a word: kind, word, row, column -/
abbrev Tk := List Nat × List Nat × Nat × Nat
abbrev Place := Nat × Nat
abbrev RP (α : Type) := List Tk → Except Place (α × List Tk)
def tkP (t : Tk) : Place := (t.2.2.1, t.2.2.2)
def placeD (p : Place) : PyData := .tuple [.int (p.1 : Int), .int (p.2 : Int)]
def tkD (t : Tk) : PyData := .tuple [.str (S t.1), .str (S t.2.1), placeD (tkP t)]
theorem wordD_tk (n : Nat) (w : Word) : wordD n w = tkD (w.1, w.2.1, n, w.2.2) := rfl
def wordH : List Tk → List Nat
  | [] => []
  | t :: _ => t.2.1
def kindH : List Tk → List Nat
  | [] => []
  | t :: _ => t.1
/-- the place behind the last word -/
def endP (ws : List Tk) : Place := match ws.getLast? with
  | none => (0, 0)
  | some t => (t.2.2.1, t.2.2.2 + t.2.1.length)
/-- where what is left begins -/
def spotP (fin : Place) : List Tk → Place
  | [] => fin
  | t :: _ => tkP t
def needP (fin : Place) (w : List Nat) : RP Place
  | [] => .error fin
  | t :: r => if t.2.1 = w then .ok (tkP t, r) else .error (tkP t)
def nameP (fin : Place) : RP (List Nat × Place)
  | [] => .error fin
  | t :: r => if t.1 = kName then .ok ((t.2.1, tkP t), r) else .error (tkP t)
def finishP (fin : Place) : RP Unit
  | [] => .ok ((), [])
  | t :: _ => .error (tkP t)

def oOr : List Nat := [111, 114]
def oAnd : List Nat := [97, 110, 100]
def oNot : List Nat := [110, 111, 116]
def oMod : List Nat := [109, 111, 100]
def oNeg : List Nat := [110, 101, 103]
def oYes : List Nat := [121, 101, 115]
def oNo : List Nat := [110, 111]
def oTruth : List Nat := [116, 114, 117, 116, 104]
def oCall : List Nat := [99, 97, 108, 108]
def sCmp : List (List Nat) := [[61], [60, 62], [60], [60, 61]]
def sSum : List (List Nat) := [[43], [45]]
def sProd : List (List Nat) := [[42], [47], oMod]
def node (k : List Nat) (p : Place) (xs : List PyData) : PyData := .tuple (.str (S k) :: placeD p :: xs)

/-- signs of one degree, from the left -/
def leftGo (signs : List (List Nat)) (p : RP PyData) : Nat → PyData → RP PyData
  | 0, tree, rest => .ok (tree, rest)
  | _ + 1, tree, [] => .ok (tree, [])
  | f + 1, tree, t :: r => if t.2.1 ∈ signs then match p r with
      | .error e => .error e
      | .ok (u, r2) => leftGo signs p f (node t.2.1 (tkP t) [tree, u]) r2
    else .ok (tree, t :: r)
def fromLeft (signs : List (List Nat)) (p : RP PyData) : RP PyData := fun rest => match p rest with
  | .error e => .error e
  | .ok (tree, r) => leftGo signs p r.length tree r
/-- what may stand within one level more -/
structure Lev where
  expr : RP PyData
  den : RP PyData
  neg : RP PyData
def pathP (fin : Place) : RP (Place × List Nat × List Nat) := fun rest => match nameP fin rest with
  | .error e => .error e
  | .ok ((first, place), r) => if wordH r ≠ [46] then .ok ((place, [], first), r) else match needP fin [46] r with
    | .error e => .error e
    | .ok (_, r2) => match nameP fin r2 with
      | .error e => .error e
      | .ok ((name, _), r3) => .ok ((place, first, name), r3)
def moreP (fin : Place) (p : RP PyData) : Nat → List PyData → RP (List PyData)
  | 0, ds, rest => .ok (ds, rest)
  | f + 1, ds, rest => if wordH rest = [44] then match needP fin [44] rest with
      | .error e => .error e
      | .ok (_, r) => match p r with
        | .error e => .error e
        | .ok (d, r2) => moreP fin p f (ds ++ [d]) r2
    else .ok (ds, rest)
def listP (fin : Place) (p : RP PyData) : RP (List PyData) := fun r => if wordH r ≠ [41] then match p r with
    | .error e => .error e
    | .ok (d, r2) => moreP fin p r2.length [d] r2
  else .ok ([], r)
def givenP (fin : Place) (b : Option Lev) : RP PyData := fun rest => match b with
  | none => .error (spotP fin rest)
  | some L => match needP fin [40] rest with
    | .error e => .error e
    | .ok (_, r) => match listP fin L.expr r with
      | .error e => .error e
      | .ok (ds, r3) => match needP fin [41] r3 with
        | .error e => .error e
        | .ok (_, r4) => .ok (.tuple ds, r4)
def namedP (fin : Place) (b : Option Lev) : RP PyData := fun rest => match pathP fin rest with
  | .error e => .error e
  | .ok ((place, file, name), r) => if wordH r ≠ [40] then .ok (node kName place [.str (S file), .str (S name)], r) else match givenP fin b r with
    | .error e => .error e
    | .ok (ds, r2) => .ok (node oCall place [.str (S file), .str (S name), ds], r2)
def bracketP (fin : Place) (b : Option Lev) : RP PyData := fun rest => match b with
  | none => .error (spotP fin rest)
  | some L => match needP fin [40] rest with
    | .error e => .error e
    | .ok (_, r) => match L.expr r with
      | .error e => .error e
      | .ok (d, r2) => match needP fin [41] r2 with
        | .error e => .error e
        | .ok (_, r3) => .ok (d, r3)
def singleP (fin : Place) (b : Option Lev) : RP PyData := fun rest => match rest with
  | [] => bracketP fin b []
  | t :: r => if t.1 = kNum then .ok (node kNum (tkP t) [.int ((NumText.digitsVal t.2.1 : Nat) : Int)], r) else if t.1 = kName then namedP fin b (t :: r) else
    if t.2.1 = oYes ∨ t.2.1 = oNo then .ok (node oTruth (tkP t) [.bool (decide (t.2.1 = oYes))], r) else bracketP fin b (t :: r)
def negP (fin : Place) (b : Option Lev) : RP PyData := fun rest => if wordH rest ≠ [45] then singleP fin b rest else match b with
  | none => .error (spotP fin rest)
  | some L => match needP fin [45] rest with
    | .error e => .error e
    | .ok (pl, r) => match L.neg r with
      | .error e => .error e
      | .ok (d, r2) => .ok (node oNeg pl [d], r2)
def prodP (fin : Place) (b : Option Lev) : RP PyData := fromLeft sProd (negP fin b)
def sumP (fin : Place) (b : Option Lev) : RP PyData := fromLeft sSum (prodP fin b)
def cmpP (fin : Place) (b : Option Lev) : RP PyData := fun rest => match sumP fin b rest with
  | .error e => .error e
  | .ok (d, []) => .ok (d, [])
  | .ok (d, t :: r) => if t.2.1 ∈ sCmp then match sumP fin b r with
      | .error e => .error e
      | .ok (u, r2) => .ok (node t.2.1 (tkP t) [d, u], r2)
    else .ok (d, t :: r)
def denP (fin : Place) (b : Option Lev) : RP PyData := fun rest => if wordH rest ≠ oNot then cmpP fin b rest else match b with
  | none => .error (spotP fin rest)
  | some L => match needP fin oNot rest with
    | .error e => .error e
    | .ok (pl, r) => match L.den r with
      | .error e => .error e
      | .ok (d, r2) => .ok (node oNot pl [d], r2)
def bothP (fin : Place) (b : Option Lev) : RP PyData := fromLeft [oAnd] (denP fin b)
def exprP (fin : Place) (b : Option Lev) : RP PyData := fromLeft [oOr] (bothP fin b)
def levP (fin : Place) : Nat → Lev
  | 0 => ⟨exprP fin none, denP fin none, negP fin none⟩
  | n + 1 => ⟨exprP fin (some (levP fin n)), denP fin (some (levP fin n)), negP fin (some (levP fin n))⟩
def lowP (fin : Place) : Nat → Option Lev
  | 0 => none
  | n + 1 => some (levP fin n)
theorem levP_low (fin : Place) (n : Nat) : levP fin n = ⟨exprP fin (lowP fin n), denP fin (lowP fin n), negP fin (lowP fin n)⟩ := by cases n <;> rfl
end Wt

set_option Elab.async false
set_option linter.all false
set_option maxRecDepth 100000
set_option maxHeartbeats 4000000
/-! Words by their rows: the plain functions. -/
namespace Wt
open PySem PySem.Spec PyProof.Rows L2 SX Evl
def tkOf (n : Nat) (w : Word) : Tk := (w.1, w.2.1, n, w.2.2)
def rowT (n : Nat) (row : List Nat) : List Tk := (lexRow row).1.map (tkOf n)
def allT : Nat → List (List Nat) → List Tk
  | _, [] => []
  | n, r :: rs => rowT n r ++ allT (n + 1) rs
theorem rowT_D (n : Nat) (row : List Nat) : (lexRow row).1.map (wordD n) = (rowT n row).map tkD := by
  unfold rowT
  rw [List.map_map] <;> rfl
theorem allD_T : ∀ (n : Nat) (rows : List (List Nat)), allD n rows = (allT n rows).map tkD
  | _, [] => rfl
  | n, r :: rs => by
    show (lexRow r).1.map (wordD n) ++ allD (n + 1) rs = (rowT n r ++ allT (n + 1) rs).map tkD
    rw [List.map_append, ← rowT_D, allD_T (n + 1) rs]
/-- rows that have words -/
def groups : Nat → List (List Nat) → List (Nat × List Tk)
  | _, [] => []
  | n, r :: rs => if rowT n r = [] then groups (n + 1) rs else (n, rowT n r) :: groups (n + 1) rs
/-- a word into its row -/
def addT (gs : List (Nat × List Tk)) (t : Tk) : List (Nat × List Tk) :=
  if gs.any (fun g => decide (g.1 = t.2.2.1)) = true then gs.map (fun g => if g.1 = t.2.2.1 then (g.1, g.2 ++ [t]) else g) else gs ++ [(t.2.2.1, [t])]
theorem addT_new {gs : List (Nat × List Tk)} {t : Tk} {n : Nat} (hn : t.2.2.1 = n) (h : ∀ g ∈ gs, g.1 < n) : addT gs t = gs ++ [(n, [t])] := by
  unfold addT
  rw [hn, if_neg ?_]
  intro z
  rw [List.any_eq_true] at z
  obtain ⟨g, hg, e⟩ := z
  have := h g hg
  have := of_decide_eq_true e
  omega
theorem addT_last {gs : List (Nat × List Tk)} {t : Tk} {n : Nat} {ts : List Tk} (hn : t.2.2.1 = n) (h : ∀ g ∈ gs, g.1 < n) : addT (gs ++ [(n, ts)]) t = gs ++ [(n, ts ++ [t])] := by
  unfold addT
  rw [hn, if_pos (by rw [List.any_append]; simp), List.map_append]
  have e1 : gs.map (fun g => if g.1 = n then (g.1, g.2 ++ [t]) else g) = gs := (List.map_congr_left fun g hg => by
    have := h g hg
    rw [if_neg (by omega)]
    exact (id_eq g).symm).trans (List.map_id gs)
  rw [e1]
  show gs ++ [if n = n then (n, ts ++ [t]) else (n, ts)] = _
  rw [if_pos rfl]
theorem fold_last {n : Nat} : ∀ (ts : List Tk) (gs : List (Nat × List Tk)) (pre : List Tk), (∀ t ∈ ts, t.2.2.1 = n) → (∀ g ∈ gs, g.1 < n) → ts.foldl addT (gs ++ [(n, pre)]) = gs ++ [(n, pre ++ ts)]
  | [], gs, pre, _, _ => by rw [List.append_nil] <;> rfl
  | t :: ts, gs, pre, h1, h2 => by
    rw [List.foldl_cons, addT_last (h1 t (List.mem_cons_self ..)) h2, fold_last ts gs (pre ++ [t]) (fun x hx => h1 x (List.mem_cons_of_mem _ hx)) h2, List.append_assoc] <;> rfl
theorem rowT_n {n : Nat} {row : List Nat} : ∀ t ∈ rowT n row, t.2.2.1 = n := fun t ht => by
  unfold rowT at ht
  obtain ⟨w, _, rfl⟩ := List.mem_map.mp ht
  rfl
theorem fold_row {n : Nat} {row : List Nat} {gs : List (Nat × List Tk)} (h : ∀ g ∈ gs, g.1 < n) : (rowT n row).foldl addT gs = if rowT n row = [] then gs else gs ++ [(n, rowT n row)] := by
  have hn := rowT_n (n := n) (row := row)
  generalize rowT n row = ts at hn ⊢
  cases ts with
  | nil => rfl
  | cons t ts =>
    rw [if_neg (List.cons_ne_nil _ _), List.foldl_cons, addT_new (hn t (List.mem_cons_self ..)) h, fold_last ts gs [t] (fun x hx => hn x (List.mem_cons_of_mem _ hx)) h] <;> rfl
theorem fold_all : ∀ (n : Nat) (rows : List (List Nat)) (gs : List (Nat × List Tk)), (∀ g ∈ gs, g.1 < n) → (allT n rows).foldl addT gs = gs ++ groups n rows
  | _, [], gs, _ => (List.append_nil gs).symm
  | n, r :: rs, gs, h => by
    show (rowT n r ++ allT (n + 1) rs).foldl addT gs = gs ++ (if rowT n r = [] then groups (n + 1) rs else (n, rowT n r) :: groups (n + 1) rs)
    rw [List.foldl_append, fold_row h]
    by_cases hr : rowT n r = []
    · rw [if_pos hr, if_pos hr, fold_all (n + 1) rs gs fun g hg => Nat.lt_succ_of_lt (h g hg)]
    · rw [if_neg hr, if_neg hr, fold_all (n + 1) rs _ fun g hg => ?_, List.append_assoc]
      · rfl
      · rcases List.mem_append.mp hg with z | z
        · exact Nat.lt_succ_of_lt (h g z)
        · rw [List.mem_singleton.mp z]
          exact Nat.lt_succ_self n
/-- no more than sixty words stand in a row -/
def cutP (ts : List Tk) : List Tk := match ts.drop 60 with
  | [] => ts
  | t :: _ => ts.take 60 ++ [([], [], t.2.2.1, t.2.2.2)]
def pageP (rows : List (List Nat)) : List (List Tk) := (groups 1 rows).map fun g => cutP g.2
end Wt

set_option Elab.async false
set_option linter.all false
set_option maxRecDepth 100000
set_option maxHeartbeats 4000000
/-! The rows of a tree as plain functions. -/
namespace Wt
open PySem PySem.Spec PyProof.Rows L2 SX Evl
abbrev PP (α : Type) := List (List Tk) → Except Place (α × List (List Tk))
def oUse : List Nat := [117, 115, 101]
def oOut : List Nat := [111, 117, 116]
def oDef : List Nat := [100, 101, 102]
def oConst : List Nat := [99, 111, 110, 115, 116]
def oKeep : List Nat := [107, 101, 101, 112]
def oSet : List Nat := [115, 101, 116]
def oLet : List Nat := [108, 101, 116]
def oDo : List Nat := [100, 111]
def oGive : List Nat := [103, 105, 118, 101]
def oSay : List Nat := [115, 97, 121]
def oIf : List Nat := [105, 102]
def oWhile : List Nat := [119, 104, 105, 108, 101]
def oElse : List Nat := [101, 108, 115, 101]
def oEnd : List Nat := [101, 110, 100]
def kinds : List (List Nat) := [kNum, oYes]
def useP (fin : Place) : RP PyData := fun rest => match nameP fin rest with
  | .error e => .error e
  | .ok ((file, place), r) => .ok (.tuple [placeD place, .str (S file)], r)
def worthP (fin : Place) : RP PyData := fun rest => match exprP fin (lowP fin 8) rest with
  | .error e => .error e
  | .ok (d, r) => match finishP fin r with
    | .error e => .error e
    | .ok (_, r2) => .ok (d, r2)
def nworthP (fin : Place) : RP (Place × List Nat × PyData) := fun rest => match nameP fin rest with
  | .error e => .error e
  | .ok ((name, place), r) => match needP fin [61] r with
    | .error e => .error e
    | .ok (_, r2) => match worthP fin r2 with
      | .error e => .error e
      | .ok (d, r3) => .ok ((place, name, d), r3)
def kindP (fin : Place) (place : Place) (name : List Nat) : RP PyData
  | [] => .error fin
  | t :: r => if t.2.1 ∈ kinds then .ok (.tuple [placeD place, .str (S name), .str (S t.2.1)], r) else .error (tkP t)
def partP (fin : Place) : RP PyData := fun rest => match nameP fin rest with
  | .error e => .error e
  | .ok ((name, place), r) => kindP fin place name r
def partsGo (fin : Place) : Nat → List PyData → RP (List PyData)
  | 0, ds, rest => .ok (ds, rest)
  | f + 1, ds, rest => if wordH rest = [44] ∧ ds.length < 6 then match needP fin [44] rest with
      | .error e => .error e
      | .ok (_, r) => match partP fin r with
        | .error e => .error e
        | .ok (d, r2) => partsGo fin f (ds ++ [d]) r2
    else .ok (ds, rest)
def plistP (fin : Place) : RP (List PyData) := fun r => if wordH r ≠ [41] then match partP fin r with
    | .error e => .error e
    | .ok (d, r2) => partsGo fin r2.length [d] r2
  else .ok ([], r)
def partsP (fin : Place) : RP PyData := fun rest => match needP fin [40] rest with
  | .error e => .error e
  | .ok (_, r) => match plistP fin r with
    | .error e => .error e
    | .ok (ds, r2) => match needP fin [41] r2 with
      | .error e => .error e
      | .ok (_, r3) => .ok (.tuple ds, r3)
def callP (fin : Place) : RP PyData := fun rest => match pathP fin rest with
  | .error e => .error e
  | .ok ((place, file, name), r) => match givenP fin (lowP fin 8) r with
    | .error e => .error e
    | .ok (ds, r2) => .ok (node oCall place [.str (S file), .str (S name), ds], r2)
def plainP (wd : List Nat) (place : Place) (fin : Place) : RP PyData := fun rest =>
  if wd = oLet then match nworthP fin rest with
    | .error e => .error e
    | .ok ((pl, name, d), r) => .ok (.tuple [.str (S oLet), placeD pl, .str (S name), d], r)
  else if wd = oDo then match callP fin rest with
    | .error e => .error e
    | .ok (d, r) => match finishP fin r with
      | .error e => .error e
      | .ok (_, r2) => .ok (.tuple [.str (S oDo), placeD place, d], r2)
  else if wd = oGive ∧ rest = [] then .ok (.tuple [.str (S oGive), placeD place, .none], [])
  else match worthP fin rest with
    | .error e => .error e
    | .ok (d, r) => .ok (.tuple [.str (S wd), placeD place, d], r)
/-! ### pages -/
def pwordP : List (List Tk) → List Nat
  | [] => []
  | row :: _ => wordH row
def aloneP (bh : Place) (wd : List Nat) : PP Place
  | [] => .error bh
  | row :: pr => match needP (endP row) wd row with
    | .error e => .error e
    | .ok (pl, r) => match finishP (endP row) r with
      | .error e => .error e
      | .ok _ => .ok (pl, pr)
def rowsGo (p : PP PyData) : Nat → List PyData → PP (List PyData)
  | 0, ds, pg => .ok (ds, pg)
  | f + 1, ds, pg => if pwordP pg ∈ [oEnd, oElse] then .ok (ds, pg) else match p pg with
    | .error e => .error e
    | .ok (d, pg2) => rowsGo p f (ds ++ [d]) pg2
def rowsOf (p : PP PyData) : PP PyData := fun pg => match rowsGo p (pg.length + 1) [] pg with
  | .error e => .error e
  | .ok (ds, pg2) => .ok (.tuple ds, pg2)
def othersP (bh : Place) (inner : PP PyData) : PP PyData := fun pg => if pwordP pg = oElse then match aloneP bh oElse pg with
    | .error e => .error e
    | .ok (_, pg2) => inner pg2
  else .ok (.tuple [], pg)
def blockT (bh : Place) (inner : PP PyData) (fin : Place) : List Tk → PP PyData
  | [], _ => .error fin
  | t :: r, pr => match worthP fin r with
    | .error e => .error e
    | .ok (d, _) => match inner pr with
      | .error e => .error e
      | .ok (rows, pg2) => if t.2.1 = oWhile then match aloneP bh oEnd pg2 with
          | .error e => .error e
          | .ok (_, pg3) => .ok (.tuple [.str (S oWhile), placeD (tkP t), d, rows], pg3)
        else match othersP bh inner pg2 with
          | .error e => .error e
          | .ok (others, pg3) => match aloneP bh oEnd pg3 with
            | .error e => .error e
            | .ok (_, pg4) => .ok (.tuple [.str (S oIf), placeD (tkP t), d, rows, others], pg4)
def blockP (bh : Place) (inner : Option (PP PyData)) (row : List Tk) : PP PyData := fun pr => match inner with
  | none => .error (spotP (endP row) row)
  | some p => blockT bh p (endP row) row pr
def restP (fin : Place) : RP PyData
  | [] => .error fin
  | t :: r => if t.2.1 ∈ [oLet, oGive, oSay, oDo] then plainP t.2.1 (tkP t) fin r else .error (tkP t)
def rowP (bh : Place) (inner : Option (PP PyData)) : PP PyData
  | [] => .error bh
  | row :: pr => if kindH row = kName then match nworthP (endP row) row with
      | .error e => .error e
      | .ok ((pl, name, d), _) => .ok (.tuple [.str (S oSet), placeD pl, .str (S name), d], pr)
    else if wordH row ∈ [oIf, oWhile] then blockP bh inner row pr
    else match restP (endP row) row with
      | .error e => .error e
      | .ok (d, _) => .ok (d, pr)
def rowsL (bh : Place) : Nat → PP PyData
  | 0 => rowsOf (rowP bh none)
  | n + 1 => rowsOf (rowP bh (some (rowsL bh n)))
def kindQ : List Tk → List Nat × List Tk
  | [] => ([], [])
  | t :: r => if t.2.1 ∈ kinds then (t.2.1, r) else ([], t :: r)
def defP (bh : Place) (out : Bool) (fin : Place) (rest : List Tk) : PP PyData := fun pr => match needP fin oDef rest with
  | .error e => .error e
  | .ok (_, r) => match nameP fin r with
    | .error e => .error e
    | .ok ((name, place), r2) => match partsP fin r2 with
      | .error e => .error e
      | .ok (parts, r3) => match finishP fin (kindQ r3).2 with
        | .error e => .error e
        | .ok _ => match rowsL bh 6 pr with
          | .error e => .error e
          | .ok (rows, pg2) => match aloneP bh oEnd pg2 with
            | .error e => .error e
            | .ok (pl, pg3) => .ok (.tuple [.str (S oDef), placeD place, .bool out, .str (S name), parts, .str (S (kindQ r3).1), rows, placeD pl], pg3)
def toldT (out : Bool) (fin : Place) : RP PyData
  | [] => .error fin
  | t :: r => if t.2.1 ∈ [oConst, oKeep] then match nworthP fin r with
      | .error e => .error e
      | .ok ((pl, name, d), r2) => .ok (.tuple [.str (S t.2.1), placeD pl, .bool out, .str (S name), d], r2)
    else .error (tkP t)
def outQ (row : List Tk) : Bool × List Tk := if wordH row = oOut then (true, row.drop 1) else (false, row)
def toldP (bh : Place) : PP PyData
  | [] => .error bh
  | row :: pr => if wordH (outQ row).2 = oDef then defP bh (outQ row).1 (endP row) (outQ row).2 pr else match toldT (outQ row).1 (endP row) (outQ row).2 with
    | .error e => .error e
    | .ok (d, _) => .ok (d, pr)
def useGo (fin : Place) : Nat → List PyData → RP (List PyData)
  | 0, ds, rest => .ok (ds, rest)
  | f + 1, ds, rest => if wordH rest = [44] then match needP fin [44] rest with
      | .error e => .error e
      | .ok (_, r) => match useP fin r with
        | .error e => .error e
        | .ok (d, r2) => useGo fin f (ds ++ [d]) r2
    else .ok (ds, rest)
def useRow (ds : List PyData) (fin : Place) : RP (List PyData) := fun rest => match needP fin oUse rest with
  | .error e => .error e
  | .ok (_, r) => match useP fin r with
    | .error e => .error e
    | .ok (d, r2) => match useGo fin r2.length (ds ++ [d]) r2 with
      | .error e => .error e
      | .ok (ds2, r3) => match finishP fin r3 with
        | .error e => .error e
        | .ok (_, r4) => .ok (ds2, r4)
def usesGo (bh : Place) : Nat → List PyData → PP (List PyData)
  | 0, ds, pg => .ok (ds, pg)
  | f + 1, ds, pg => if pwordP pg = oUse then match pg with
      | [] => .error bh
      | row :: pr => match useRow ds (endP row) row with
        | .error e => .error e
        | .ok (ds2, _) => usesGo bh f ds2 pr
    else .ok (ds, pg)
def toldGo (bh : Place) : Nat → List PyData → PP (List PyData)
  | 0, ds, pg => .ok (ds, pg)
  | f + 1, ds, pg => if pwordP pg ≠ [] then match toldP bh pg with
      | .error e => .error e
      | .ok (d, pg2) => toldGo bh f (ds ++ [d]) pg2
    else .ok (ds, pg)
def treeP (bh : Place) (pg : List (List Tk)) : Except Place PyData := match usesGo bh pg.length [] pg with
  | .error e => .error e
  | .ok (us, pg2) => match toldGo bh pg2.length [] pg2 with
    | .error e => .error e
    | .ok (ds, _) => .ok (.tuple [.tuple us, .tuple ds])
def worthTree (bh : Place) (pg : List (List Tk)) : Except Place PyData := match pg with
  | [] => .error (1, 1)
  | row :: pr => if wordH row = [] then .error (1, 1) else match worthP (endP row) row with
    | .error e => .error e
    | .ok (d, _) => match pr with
      | [] => .ok d
      | row2 :: _ => if wordH row2 = [] then .ok d else .error (spotP (endP row2) row2)
end Wt

set_option Elab.async false
set_option linter.all false
set_option maxRecDepth 100000
set_option maxHeartbeats 4000000
namespace Wt
open PySem PySem.Spec PyProof.Rows L2 SX Evl
open C8 (Def Cal Met cal0 met0 fnScope_by fnScope)
/-! A row that is read word by word. -/
/-- a word that the words tell -/
def TkOk (t : Tk) : Prop := t.2.1.length ≤ 600 ∧ (t.1 = kNum → t.2.1 ≠ [] ∧ t.2.1.all (fun c => decide (48 ≤ c) && decide (c ≤ 57)) = true)
/-- a row's words: the list and what it holds -/
structure Wds where
  wl : Addr
  ts : List Tk
structure WsOk (ws : Wds) : Prop where
  pos : 0 < ws.ts.length
  few : ws.ts.length ≤ 1000
  ok : ∀ t ∈ ws.ts, TkOk t
def rowF (wl : Addr) (i : Nat) : List (Str × V) := [("words", .ref wl), ("at", .int (i : Int))]
structure RowO (H : Hp) (C r : Addr) (ws : Wds) (rest : List Tk) : Prop where
  ex : ∃ (dx wl : Addr) (us : List V) (i : Nat), wl = ws.wl ∧ H r = some (.ins C dx (rowF wl i)) ∧ H wl = some (.lst us) ∧ TdAll H us (ws.ts.map tkD) ∧ i ≤ ws.ts.length ∧ rest = ws.ts.drop i
theorem RowO.go {H H' : Hp} {C r : Addr} {ws : Wds} {rest : List Tk} (h : RowO H C r ws rest) (e : Ex H H') : RowO H' C r ws rest := by
  obtain ⟨dx, wl, us, i, hq, h1, h2, h3, h4, h5⟩ := h
  exact ⟨dx, wl, us, i, hq, e _ _ h1, e _ _ h2, TdAll.tx (Tx.of e) _ _ h3, h4, h5⟩
/-- all but the object at r -/
abbrev Exr (r : Addr) (H H' : Hp) : Prop := ∀ b o, b ≠ r → H b = some o → H' b = some o
theorem Exr.of {r : Addr} {H H' : Hp} (e : Ex H H') : Exr r H H' := fun b o _ h => e b o h
theorem Exr.trans {r : Addr} {H H1 H2 : Hp} (a : Exr r H H1) (b : Exr r H1 H2) : Exr r H H2 := fun x o n h => b x o n (a x o n h)
theorem Exr.tx {r C dx : Addr} {fs : List (Str × V)} {H H' : Hp} (e : Exr r H H') (h : H r = some (.ins C dx fs)) : Tx H H' := fun a xs q => e a _ (ne_of q h (by intro z; cases z)) q
theorem RowO.tx {r C : Addr} {ws : Wds} {rest : List Tk} {H H' : Hp} (h : RowO H C r ws rest) (e : Exr r H H') : Tx H H' := by
  obtain ⟨dx, wl, us, i, hq, h1, _⟩ := h
  exact e.tx h1
theorem lk_words {wl : Addr} {i : Nat} : (rowF wl i).lookup (Str.ofString "words") = some (.ref wl) := by
  unfold rowF
  rw [lookup_put, if_pos rfl]
theorem lk_at {wl : Addr} {i : Nat} : (rowF wl i).lookup (Str.ofString "at") = some (.int (i : Int)) := by
  unfold rowF
  rw [lookup_put, if_neg (by decide +kernel), lookup_put, if_pos rfl]
theorem lk_no {wl : Addr} {i : Nat} {m : Str} (h1 : m ≠ "words") (h2 : m ≠ "at") : (rowF wl i).lookup m = none := by
  unfold rowF
  rw [lookup_put, if_neg h1, lookup_put, if_neg h2] <;> rfl
theorem td_last {H : Hp} {d : PyData} : ∀ {ds : List PyData} {us : List V}, TdAll H us (ds ++ [d]) → ∃ vs v, us = vs ++ [v] ∧ Td H v d
  | [], _, .cons a b => by
    cases b
    exact ⟨[], _, rfl, a⟩
  | _ :: ds, _, .cons a b => by
    obtain ⟨vs, v, rfl, z⟩ := td_last (ds := ds) b
    exact ⟨_ :: vs, v, rfl, z⟩
/-- the word at hand -/
theorem RowO.head {H : Hp} {C r : Addr} {ws : Wds} {r2 : List Tk} {t : Tk} (h : RowO H C r ws (t :: r2)) : ∃ (dx wl : Addr) (us : List V) (i : Nat) (p : Addr) (pv : V), H r = some (.ins C dx (rowF wl i)) ∧ H wl = some (.lst us) ∧ TdAll H us (ws.ts.map tkD) ∧ i < ws.ts.length ∧ us[i]? = some (.ref p) ∧
    H p = some (.tup [.str (S t.1), .str (S t.2.1), pv]) ∧ Td H pv (placeD (tkP t)) ∧ r2 = ws.ts.drop (i + 1) ∧ t ∈ ws.ts ∧ wl = ws.wl := by
  obtain ⟨dx, wl, us, i, hq, h1, h2, h3, h4, h5⟩ := h
  have hi : i < ws.ts.length := by
    have := congrArg List.length h5
    rw [List.length_cons, List.length_drop] at this
    omega
  have hd := List.drop_eq_getElem_cons hi
  rw [← h5] at hd
  obtain ⟨rfl, rfl⟩ := List.cons.inj hd
  obtain ⟨v, g1, g2⟩ := td_get (i := i) h3 (by rw [List.getElem?_map, List.getElem?_eq_getElem hi] <;> rfl)
  unfold tkD at g2
  cases g2 with
  | @tup p xs _ g3 g4 =>
    cases g4 with
    | cons a1 g4 =>
      cases a1
      cases g4 with
      | cons a2 g4 =>
        cases a2
        cases g4 with
        | cons a3 g4 =>
          cases g4
          exact ⟨dx, wl, us, i, p, _, h1, h2, h3, hi, g1, g3, a3, rfl, List.getElem_mem hi, hq⟩
/-- a Fault "tree" at a place -/
def FaultT (H : Hp) (d : Addr) (p : Place) : Prop := ∃ v, H d = some (.xd [("why", .str (Str.ofString "tree")), ("place", v), ("file", .str (Str.ofString "")), ("stage", .str (Str.ofString "tree"))]) ∧ Td H v (placeD p)
def RaiseT (CF r : Addr) (H : Hp) (E : XK) (p : Place) : Prop := ∀ d H2, Exr r H H2 → FaultT H2 d p → E (.ref CF) (some d) H2
theorem RaiseT.go {CF r : Addr} {H H' : Hp} {E : XK} {p : Place} (h : RaiseT CF r H E p) (e : Exr r H H') : RaiseT CF r H' E p := fun d H2 e2 f => h d H2 (e.trans e2) f
/-- what Row has -/
structure ModsR (K : PySem.W.Frag) (mg : Str → Option Value) (C : Addr) : Prop where
  m_len : mg "len" = none
  cls : Cls K C
  nw : NoAttr K C "words"
  na : NoAttr K C "at"
section
variable {K : PySem.W.Frag} {σ : L2.St} {H H' : Hp} {ta tb te tx : TE} {x y z v : V}
theorem ev_words {r C dx wl : Addr} {i : Nat} {mg : Str → Option Value} (T : ModsR K mg C) (ha : Ev ta σ H (.ref r)) (h : H r = some (.ins C dx (rowF wl i))) : Ev (tFld K ta "words") σ H (.ref wl) := ev_fld ha h T.cls T.nw lk_words
theorem ev_at {r C dx wl : Addr} {i : Nat} {mg : Str → Option Value} (T : ModsR K mg C) (ha : Ev ta σ H (.ref r)) (h : H r = some (.ins C dx (rowF wl i))) : Ev (tFld K ta "at") σ H (.int (i : Int)) := ev_fld ha h T.cls T.na lk_at
end
/-- a row's method that only looks -/
def spLook (C : Addr) (g : List Tk → V) : Sp := fun vs H Q _ => ∃ (r : Addr) (ws : Wds) (rest : List Tk), vs = [.ref r] ∧ WsOk ws ∧ RowO H C r ws rest ∧ RetV (g rest) H Q
theorem ev_look {σ : L2.St} {H : Hp} {ta : TE} {C r : Addr} {m : Str} {g : List Tk → V} {E : XK} {ws : Wds} {rest : List Tk} (hw : WsOk ws) (h : RowO H C r ws rest) (ha : Ev ta σ H (.ref r)) (h1 : m ≠ "words") (h2 : m ≠ "at") : Ev (tMeth C m (spLook C g) [] E ta tNil) σ H (g rest) := by
  obtain ⟨dx, wl, us, i, hq, g1, _⟩ := id h
  exact ev_meth ha g1 (lk_no h1 h2) ea_nil fun H1 e Q q => ⟨r, ws, rest, rfl, hw, h.go e, fun H2 e2 => q H2 e2⟩
section
variable {P : Program} {w : World} {K : PySem.W.Frag} {mg : Str → Option Value} {base : Heap} {C : Addr}
/-! ### done, kind, word -/
abbrev s_Row_done : Stmt := (C8.clsBody (topS 32)).getD 3 (.Pass ⟨0, 0, 0, 0⟩)
theorem sc_Row_done : FnScope ["self"] ["self"] (fnScope s_Row_done) := fnScope_by (by decide +kernel)
theorem ok_done (T : ModsR K mg C) {f : Addr} {fd : FuncData} (me : Meth K C "done" f) (F : C8.Fun K "done" "Row.done" s_Row_done f fd) (b : Binds K fd ["self"] []) : Met P w K mg base 1 C "done" (spLook C fun rest => .bl (decide (rest = []))) [] := by
  refine met0 T.cls me F b sc_Row_done (fun vs H Q E h => ?_) (fun cdv A outer s H vs Q E hr h => ?_)
  · obtain ⟨_, _, _, rfl, _⟩ := h
    rfl
  · obtain ⟨r, ws, rest, rfl, hw, hR, q⟩ := h
    have m_len := T.m_len
    refine ⟨_, (pss_one (ps_ret (pe_cmpR op_eq (pe_fld (pv 0) rfl) (pe_callB call_len_seq (by rfl) m_len PySem.boot_len (pa_cons (pe_fld (pv 0) rfl) pa_nil)) (nomark _)))), ?_⟩
    obtain ⟨dx, wl, us, i, hq, h1, h2, h3, h4, rfl⟩ := hR
    have hl := h3.len
    rw [List.length_map] at hl
    refine s_ret (ev_is (ev_op (ev_at T (ev_var rfl) h1) (ev_len (K := K) (ev_words T (ev_var rfl) h1) (sq_of h2)) (rv_eq rfl)) ?_) fun H1 e1 => q.go e1
    refine congrArg V.bl ?_
    by_cases h : ws.ts.drop i = []
    · rw [decide_eq_true h]
      have := List.drop_eq_nil_iff.mp h
      exact decide_eq_true (congrArg V.int (by omega))
    · rw [decide_eq_false h]
      refine decide_eq_false fun z => h (List.drop_eq_nil_of_le ?_)
      have := V.int.inj z
      omega
abbrev s_Row_kind : Stmt := (C8.clsBody (topS 32)).getD 1 (.Pass ⟨0, 0, 0, 0⟩)
theorem sc_Row_kind : FnScope ["self"] ["self"] (fnScope s_Row_kind) := fnScope_by (by decide +kernel)
theorem ok_kind (T : ModsR K mg C) (c_Row_done : Met P w K mg base 1 C "done" (spLook C fun rest => .bl (decide (rest = []))) []) {f : Addr} {fd : FuncData} (me : Meth K C "kind" f) (F : C8.Fun K "kind" "Row.kind" s_Row_kind f fd) (b : Binds K fd ["self"] []) :
    Met P w K mg base 2 C "kind" (spLook C fun rest => .str (S (kindH rest))) [] := by
  refine met0 T.cls me F b sc_Row_kind (fun vs H Q E h => ?_) (fun cdv A outer s H vs Q E hr h => ?_)
  · obtain ⟨_, _, _, rfl, _⟩ := h
    rfl
  · obtain ⟨r, ws, rest, rfl, hw, hR, q⟩ := h
    refine ⟨_, (pss_cons (ps_if (pt_val (C8.pe_mt0 c_Row_done hr (by first | decide | exact Nat.le_refl _ | omega) (pv 0))) (pss_one (ps_ret pe_str)) pss_nil)
      (pss_one (ps_ret (pe_ix ix_tup (pe_ix ix_list (pe_fld (pv 0) rfl) (pe_fld (pv 0) rfl) (fun _ _ => rfl)) pe_int (fun _ _ => rfl))))), ?_⟩
    refine q_when (et_B (ev_look hw hR (ev_var rfl) (by decide +kernel) (by decide +kernel))) (fun hb H1 e1 => ?_) (fun hb H1 e1 => ?_)
    · have hn := of_decide_eq_true hb
      subst hn
      exact s_ret (ev_is ev_c (congrArg V.str lit0)) fun H2 e2 => q.go (e1.trans e2)
    · have hn := of_decide_eq_false hb
      cases rest with
      | nil => exact absurd rfl hn
      | cons t r2 =>
        obtain ⟨dx, wl, us, i, p, pv, h1, h2, h3, h4, h5, h6, h7, h8, _⟩ := (hR.go e1).head
        exact s_ret (ev_op (ev_op (ev_words T (ev_var rfl) h1) (ev_at T (ev_var rfl) h1) (rv_ixL (sq_of h2) (atI_nat h5))) ev_c (rv_ixT (st_of h6) (atI_nat (j := 0) rfl))) fun H2 e2 => q.go (e1.trans e2)
abbrev s_Row_word : Stmt := (C8.clsBody (topS 32)).getD 2 (.Pass ⟨0, 0, 0, 0⟩)
theorem sc_Row_word : FnScope ["self"] ["self"] (fnScope s_Row_word) := fnScope_by (by decide +kernel)
theorem ok_wordM (T : ModsR K mg C) (c_Row_done : Met P w K mg base 1 C "done" (spLook C fun rest => .bl (decide (rest = []))) []) {f : Addr} {fd : FuncData} (me : Meth K C "word" f) (F : C8.Fun K "word" "Row.word" s_Row_word f fd) (b : Binds K fd ["self"] []) :
    Met P w K mg base 2 C "word" (spLook C fun rest => .str (S (wordH rest))) [] := by
  refine met0 T.cls me F b sc_Row_word (fun vs H Q E h => ?_) (fun cdv A outer s H vs Q E hr h => ?_)
  · obtain ⟨_, _, _, rfl, _⟩ := h
    rfl
  · obtain ⟨r, ws, rest, rfl, hw, hR, q⟩ := h
    refine ⟨_, (pss_cons (ps_if (pt_val (C8.pe_mt0 c_Row_done hr (by first | decide | exact Nat.le_refl _ | omega) (pv 0))) (pss_one (ps_ret pe_str)) pss_nil)
      (pss_one (ps_ret (pe_ix ix_tup (pe_ix ix_list (pe_fld (pv 0) rfl) (pe_fld (pv 0) rfl) (fun _ _ => rfl)) pe_int (fun _ _ => rfl))))), ?_⟩
    refine q_when (et_B (ev_look hw hR (ev_var rfl) (by decide +kernel) (by decide +kernel))) (fun hb H1 e1 => ?_) (fun hb H1 e1 => ?_)
    · have hn := of_decide_eq_true hb
      subst hn
      exact s_ret (ev_is ev_c (congrArg V.str lit0)) fun H2 e2 => q.go (e1.trans e2)
    · have hn := of_decide_eq_false hb
      cases rest with
      | nil => exact absurd rfl hn
      | cons t r2 =>
        obtain ⟨dx, wl, us, i, p, pv, h1, h2, h3, h4, h5, h6, h7, h8, _⟩ := (hR.go e1).head
        exact s_ret (ev_op (ev_op (ev_words T (ev_var rfl) h1) (ev_at T (ev_var rfl) h1) (rv_ixL (sq_of h2) (atI_nat h5))) ev_c (rv_ixT (st_of h6) (atI_nat (j := 1) rfl))) fun H2 e2 => q.go (e1.trans e2)
/-! ### spot, refuse, take -/
abbrev s_Row_spot : Stmt := (C8.clsBody (topS 32)).getD 4 (.Pass ⟨0, 0, 0, 0⟩)
theorem sc_Row_spot : FnScope ["self", "_", "word", "number", "column"] ["self"] (fnScope s_Row_spot) := fnScope_by (by decide +kernel)
def spSpot (C : Addr) : Sp := fun vs H Q _ => ∃ (r : Addr) (ws : Wds) (rest : List Tk), vs = [.ref r] ∧ WsOk ws ∧ RowO H C r ws rest ∧ ∀ v H2, Ex H H2 → Td H2 v (placeD (spotP (endP ws.ts) rest)) → Q v H2
theorem ok_spot (T : ModsR K mg C) (c_Row_done : Met P w K mg base 1 C "done" (spLook C fun rest => .bl (decide (rest = []))) []) {f : Addr} {fd : FuncData} (me : Meth K C "spot" f) (F : C8.Fun K "spot" "Row.spot" s_Row_spot f fd) (b : Binds K fd ["self"] []) :
    Met P w K mg base 2 C "spot" (spSpot C) [] := by
  refine met0 T.cls me F b sc_Row_spot (fun vs H Q E h => ?_) (fun cdv A outer s H vs Q E hr h => ?_)
  · obtain ⟨_, _, _, rfl, _⟩ := h
    rfl
  · obtain ⟨r, ws, rest, rfl, hw, hR, q⟩ := h
    have m_len := T.m_len
    refine ⟨_, (pss_cons (ps_if (pt_not (pt_val (C8.pe_mt0 c_Row_done hr (by first | decide | exact Nat.le_refl _ | omega) (pv 0)))) (pss_one (ps_ret (pe_ix ix_tup (pe_ix ix_list (pe_fld (pv 0) rfl) (pe_fld (pv 0) rfl) (fun _ _ => rfl)) pe_int (fun _ _ => rfl)))) pss_nil)
      (pss_cons (ps_asg (pe_ix ix_list (pe_fld (pv 0) rfl) (pe_un un_neg pe_int) (fun _ _ => rfl)) (pg_tup rfl (pgs_cons (pg_name (i := 1) sc_Row_spot.nd rfl (.inl rfl)) (pgs_cons (pg_name (i := 2) sc_Row_spot.nd rfl (.inl rfl)) (pgs_cons (pg_tup rfl (pgs_cons (pg_name (i := 3) sc_Row_spot.nd rfl (.inl rfl)) (pgs_cons (pg_name (i := 4) sc_Row_spot.nd rfl (.inl rfl)) pgs_nil))) pgs_nil)))))
      (pss_one (ps_ret (pe_tup (pa_cons (pv 3) (pa_cons (pe_op op_add (pv 4) (pe_callB call_len_str (by rfl) m_len PySem.boot_len (pa_cons (pv 2) pa_nil))) pa_nil))))))), ?_⟩
    refine q_when (et_not (et_B (ev_look hw hR (ev_var rfl) (by decide +kernel) (by decide +kernel)))) (fun hb H1 e1 => ?_) (fun hb H1 e1 => ?_)
    · have hn : rest ≠ [] := by simpa using hb
      cases rest with
      | nil => exact absurd rfl hn
      | cons t r2 =>
        obtain ⟨dx, wl, us, i, p, pv, h1, h2, h3, h4, h5, h6, h7, h8, _⟩ := (hR.go e1).head
        exact s_ret (ev_op (ev_op (ev_words T (ev_var rfl) h1) (ev_at T (ev_var rfl) h1) (rv_ixL (sq_of h2) (atI_nat h5))) ev_c (rv_ixT (st_of h6) (atI_nat (j := 2) rfl))) fun H2 e2 => q _ H2 (e1.trans e2) (Td.tx (Tx.of e2) _ _ h7)
    · have hn : rest = [] := by simpa using hb
      subst hn
      -- the last word
      obtain ⟨dx, wl, us, i, hq, h1, h2, h3, h4, h5⟩ := hR.go e1
      obtain ⟨t, ht⟩ : ∃ t, ws.ts.getLast? = some t := by
        cases hws : ws.ts with
        | nil =>
          have := hw.pos
          rw [hws] at this
          exact absurd this (Nat.lt_irrefl _)
        | cons x xs => exact ⟨_, List.getLast?_eq_some_getLast (List.cons_ne_nil _ _)⟩
      obtain ⟨ys, hys⟩ := List.getLast?_eq_some_iff.mp ht
      have hend : endP ws.ts = (t.2.2.1, t.2.2.2 + t.2.1.length) := by
        unfold endP
        rw [ht]
      have htok : t.2.1.length ≤ 600 := (hw.ok t (by rw [hys]; simp)).1
      rw [hys, List.map_append] at h3
      obtain ⟨vs2, v0, rfl, hv0⟩ := td_last (ds := ys.map tkD) h3
      unfold tkD at hv0
      cases hv0 with
      | @tup p xs _ g3 g4 =>
        cases g4 with
        | cons a1 g4 =>
          cases a1
          cases g4 with
          | cons a2 g4 =>
            cases a2
            cases g4 with
            | cons a3 g4 =>
              cases g4
              unfold placeD at a3
              cases a3 with
              | @tup p2 xs2 _ g5 g6 =>
                cases g6 with
                | cons b1 g6 =>
                  cases b1
                  cases g6 with
                  | cons b2 g6 =>
                    cases b2
                    cases g6
                    refine ev_op (ev_words T (ev_var rfl) h1) (ev_un ev_c ru_neg) (rv_ixL (sq_of h2) (atI_last _ _)) H1 (Ex.refl H1) _ fun H2 e2 => ?_
                    refine ⟨p, _, rfl, st_of (e2 _ _ g3), rfl, _, _, rfl, _, _, rfl, _, _, rfl, p2, _, rfl, st_of (e2 _ _ g5), rfl, _, _, rfl, _, _, rfl, rfl, rfl, ?_⟩
                    refine s_retU (eu_tup (ea_cons (ev_var rfl) (ea_cons (ev_op (ev_var rfl) (ev_lenS (ev_var rfl) (by omega)) rv_I0) ea_nil)) (by show 2 ≤ 100000; decide)) fun p3 H3 hp3 e3 h3 => q _ H3 (e1.trans (e2.trans e3)) ?_
                    rw [show spotP (endP ws.ts) [] = endP ws.ts from rfl, hend]
                    refine .tup h3 (.cons (.int _) (.cons ?_ .nil))
                    show Td H3 (.int ((t.2.2.2 : Int) + (t.2.1.length : Int))) (.int ((t.2.2.2 + t.2.1.length : Nat) : Int))
                    rw [Int.natCast_add]
                    exact .int _
end
end Wt

set_option Elab.async false
set_option linter.all false
set_option maxRecDepth 100000
set_option maxHeartbeats 4000000
namespace Wt
open PySem PySem.Spec PyProof.Rows L2 SX Evl
open C8 (Def Cal Met cal0 met0 fnScope_by fnScope)
/-! A row that is read: what may be refused. -/
/-- how a reader's promise goes on -/
def GoP {α : Type} (CF C r : Addr) (ws : Wds) (rest : List Tk) (H : Hp) (Q : VK) (E : XK) (res : Except Place (α × List Tk)) (val : α → Hp → V → Prop) : Prop :=
  (∀ e, res = .error e → RaiseT CF r H E e) ∧ ∀ a r2, res = .ok (a, r2) → ∀ v H2, Exr r H H2 → RowO H2 C r ws r2 → r2.length ≤ rest.length → val a H2 v → Q v H2
def spRowP {α : Type} (CF C : Addr) (args : List V) (p : Place → RP α) (val : α → Hp → V → Prop) : Sp := fun vs H Q E => ∃ (r : Addr) (ws : Wds) (rest : List Tk), vs = .ref r :: args ∧ WsOk ws ∧ RowO H C r ws rest ∧ GoP CF C r ws rest H Q E (p (endP ws.ts) rest) val
def vPlace : Place → Hp → V → Prop := fun pl H v => Td H v (placeD pl)
def vName : List Nat × Place → Hp → V → Prop := fun a H v => ∃ p pv, v = .ref p ∧ H p = some (.tup [.str (S a.1), pv]) ∧ Td H pv (placeD a.2)
def vNon : Unit → Hp → V → Prop := fun _ _ v => v = .non
def vData : PyData → Hp → V → Prop := fun d H v => Td H v d
theorem put_at {wl : Addr} {i : Nat} : putF (Str.ofString "at") (.int ((i : Int) + 1)) (rowF wl i) = rowF wl (i + 1) := by
  unfold rowF
  show (if Str.ofString "words" = Str.ofString "at" then _ else _ :: (if Str.ofString "at" = Str.ofString "at" then _ else _)) = _
  rw [if_neg (by decide +kernel), if_pos rfl, Int.natCast_add] <;> rfl
theorem needP_len {fin : Place} {w : List Nat} {rest r2 : List Tk} {pl : Place} (h : needP fin w rest = .ok (pl, r2)) : rest.length = r2.length + 1 := by
  cases rest with
  | nil => cases h
  | cons t r =>
    have h2 : (if t.2.1 = w then Except.ok (tkP t, r) else Except.error (tkP t) : Except Place (Place × List Tk)) = .ok (pl, r2) := h
    by_cases hw : t.2.1 = w
    · rw [if_pos hw] at h2
      cases h2
      rfl
    · rw [if_neg hw] at h2
      cases h2
theorem nameP_len {fin : Place} {rest r2 : List Tk} {a : List Nat × Place} (h : nameP fin rest = .ok (a, r2)) : rest.length = r2.length + 1 := by
  cases rest with
  | nil => cases h
  | cons t r =>
    have h2 : (if t.1 = kName then Except.ok ((t.2.1, tkP t), r) else Except.error (tkP t) : Except Place ((List Nat × Place) × List Tk)) = .ok (a, r2) := h
    by_cases hw : t.1 = kName
    · rw [if_pos hw] at h2
      cases h2
      rfl
    · rw [if_neg hw] at h2
      cases h2
section
variable {P : Program} {w : World} {K : PySem.W.Frag} {mg : Str → Option Value} {base : Heap} {C CF : Addr}
abbrev s_Row_refuse : Stmt := (C8.clsBody (topS 32)).getD 5 (.Pass ⟨0, 0, 0, 0⟩)
theorem sc_Row_refuse : FnScope ["self"] ["self"] (fnScope s_Row_refuse) := fnScope_by (by decide +kernel)
def spRefuse (CF C : Addr) : Sp := fun vs H Q E => ∃ (r : Addr) (ws : Wds) (rest : List Tk), vs = [.ref r] ∧ WsOk ws ∧ RowO H C r ws rest ∧ RaiseT CF r H E (spotP (endP ws.ts) rest)
theorem ok_refuse (T : ModsR K mg C) (c_Fault : MakF P w K mg base 1 "Fault" CF) (c_Row_spot : Met P w K mg base 2 C "spot" (spSpot C) []) {f : Addr} {fd : FuncData} (me : Meth K C "refuse" f) (F : C8.Fun K "refuse" "Row.refuse" s_Row_refuse f fd) (b : Binds K fd ["self"] []) :
    MetX P w K mg base 3 C "refuse" (spRefuse CF C) := by
  refine metX T.cls me F b sc_Row_refuse (fun vs H Q E h => ?_) (fun cdv A outer s H vs Q E hr h => ?_)
  · obtain ⟨_, _, _, rfl, _⟩ := h
    rfl
  · obtain ⟨r, ws, rest, rfl, hw, hR, q⟩ := h
    have tk := tk_cx (P := P) (w := w) (K := K) (mg := mg) (base := base) (N := ["self"]) (q := "Row.refuse") (sc := fnScope s_Row_refuse) (f := f) (cdv := cdv) (A := A) (outer := outer) (s := s) (H := H) (E := E)
    refine ⟨_, (pss_one (Wt.ps_fault c_Fault hr (by first | decide | exact Nat.le_refl _ | omega) rfl tk (by rfl) (pa_cons pe_str (pa_cons pe_str (pa_cons (C8.pe_mt0 c_Row_spot hr (by first | decide | exact Nat.le_refl _ | omega) (pv 0)) (pa_cons pe_str pa_nil)))))), ?_⟩
    obtain ⟨dx, wl, us, i, hq, h1, _⟩ := id hR
    refine ⟨_, rfl, r, dx, _, rfl, h1, lk_no (by decide +kernel) (by decide +kernel), r, ws, rest, rfl, hw, hR, fun v H2 e2 hv => ?_⟩
    exact fault_end fun d H3 e3 h3 => q d H3 (Exr.of (e2.trans e3)) ⟨v, h3, Td.tx (Tx.of e3) _ _ hv⟩
/-- need, as it stands -/
abbrev s_Row_take : Stmt := (C8.clsBody (topS 32)).getD 6 (.Pass ⟨0, 0, 0, 0⟩)
theorem sc_Row_take : FnScope ["self", "_", "word", "place"] ["self"] (fnScope s_Row_take) := fnScope_by (by decide +kernel)
def spTake (C : Addr) : Sp := fun vs H Q _ => ∃ (r : Addr) (ws : Wds) (r2 : List Tk) (t : Tk), vs = [.ref r] ∧ RowO H C r ws (t :: r2) ∧ ∀ p H2 pv, Exr r H H2 → RowO H2 C r ws r2 → H2 p = some (.tup [.str (S t.2.1), pv]) → Td H2 pv (placeD (tkP t)) → Q (.ref p) H2
theorem ok_take (T : ModsR K mg C) {f : Addr} {fd : FuncData} (me : Meth K C "take" f) (F : C8.Fun K "take" "Row.take" s_Row_take f fd) (b : Binds K fd ["self"] []) : Met P w K mg base 1 C "take" (spTake C) [] := by
  refine met0 T.cls me F b sc_Row_take (fun vs H Q E h => ?_) (fun cdv A outer s H vs Q E hr h => ?_)
  · obtain ⟨_, _, _, _, rfl, _⟩ := h
    rfl
  · obtain ⟨r, ws, r2, t, rfl, hR, q⟩ := h
    refine ⟨_, (pss_cons (ps_asg (pe_ix ix_list (pe_fld (pv 0) rfl) (pe_fld (pv 0) rfl) (fun _ _ => rfl)) (pg_tup rfl (pgs_cons (pg_name (i := 1) sc_Row_take.nd rfl (.inl rfl)) (pgs_cons (pg_name (i := 2) sc_Row_take.nd rfl (.inl rfl)) (pgs_cons (pg_name (i := 3) sc_Row_take.nd rfl (.inl rfl)) pgs_nil)))))
      (pss_cons (ps_fldaug (pv 0) pe_int in_add)
      (pss_one (ps_ret (pe_tup (pa_cons (pv 2) (pa_cons (pv 3) pa_nil))))))), ?_⟩
    obtain ⟨dx, wl, us, i, p, pv, h1, h2, h3, h4, h5, h6, h7, h8, h9⟩ := hR.head
    refine ev_op (ev_words T (ev_var rfl) h1) (ev_at T (ev_var rfl) h1) (rv_ixL (sq_of h2) (atI_nat h5)) H (Ex.refl H) _ fun H2 e2 => ?_
    refine ⟨p, _, rfl, st_of (e2 _ _ h6), rfl, _, _, rfl, _, _, rfl, _, _, rfl, rfl, ?_⟩
    have g1 := e2 _ _ h1
    refine ⟨_, rfl, r, C, dx, _, _, rfl, g1, T.cls, T.na, lk_at, ⟨_, _, rfl, rfl, dx, _, g1, by show 2 < 1000; decide, ?_⟩⟩
    rw [put_at]
    have x2 : Exr r H (upd H2 r (.ins C dx (rowF wl (i + 1)))) := fun b o hb ho => by
      rw [upd_ne hb]
      exact e2 b o ho
    have hwl : wl ≠ r := ne_of h2 h1 (by intro z; cases z)
    have tx := x2.tx h1
    have hR2 : RowO (upd H2 r (.ins C dx (rowF wl (i + 1)))) C r ws r2 := ⟨dx, wl, us, i + 1, h9.2, upd_same, x2 _ _ hwl h2, TdAll.tx tx _ _ h3, h4, h8⟩
    refine s_retU (eu_tup (ea_cons (ev_var rfl) (ea_cons (ev_var rfl) ea_nil)) (by show 2 ≤ 100000; decide)) fun p3 H3 hp3 e3 h3' => q p3 H3 pv (x2.trans (Exr.of e3)) (hR2.go e3) h3' (Td.tx (Tx.of e3) _ _ (Td.tx tx _ _ h7))
abbrev s_Row_need : Stmt := (C8.clsBody (topS 32)).getD 7 (.Pass ⟨0, 0, 0, 0⟩)
theorem sc_Row_need : FnScope ["self", "word"] ["self", "word"] (fnScope s_Row_need) := fnScope_by (by decide +kernel)
def spNeed (CF C : Addr) : Sp := fun vs H Q E => ∃ wd : List Nat, wd ≠ [] ∧ spRowP CF C [.str (S wd)] (fun fin => needP fin wd) vPlace vs H Q E
theorem ok_need (T : ModsR K mg C) (c_Row_refuse : MetX P w K mg base 3 C "refuse" (spRefuse CF C)) (c_Row_word : Met P w K mg base 2 C "word" (spLook C fun rest => .str (S (wordH rest))) []) (c_Row_take : Met P w K mg base 1 C "take" (spTake C) [])
    {f : Addr} {fd : FuncData} (me : Meth K C "need" f) (F : C8.Fun K "need" "Row.need" s_Row_need f fd) (b : Binds K fd ["self", "word"] []) : MetX P w K mg base 4 C "need" (spNeed CF C) := by
  refine metX T.cls me F b sc_Row_need (fun vs H Q E h => ?_) (fun cdv A outer s H vs Q E hr h => ?_)
  · obtain ⟨_, _, _, _, _, rfl, _⟩ := h
    rfl
  · obtain ⟨wd, hwd, r, ws, rest, rfl, hw, hR, qe, qo⟩ := h
    have tk := tk_cx (P := P) (w := w) (K := K) (mg := mg) (base := base) (N := ["self", "word"]) (q := "Row.need") (sc := fnScope s_Row_need) (f := f) (cdv := cdv) (A := A) (outer := outer) (s := s) (H := H) (E := E)
    refine ⟨_, (pss_cons (ps_if (pt_cmpR op_ne (C8.pe_mt0 c_Row_word hr (by first | decide | exact Nat.le_refl _ | omega) (pv 0)) (pv 1) (nomark _)) (pss_one (ps_expr (Wt.pe_mtX0 c_Row_refuse tk hr (by first | decide | exact Nat.le_refl _ | omega) (pv 0)))) pss_nil)
      (pss_one (ps_ret (pe_ix ix_tup (C8.pe_mt0 c_Row_take hr (by first | decide | exact Nat.le_refl _ | omega) (pv 0)) pe_int (fun _ _ => rfl))))), ?_⟩
    refine q_when (et_test (ev_neS (ev_look hw hR (ev_var rfl) (by decide +kernel) (by decide +kernel)) (ev_var rfl))) (fun hb H1 e1 => ?_) (fun hb H1 e1 => ?_)
    · have hne : wordH rest ≠ wd := by simpa using hb
      obtain ⟨dx, wl, us, i, hq, h1, _⟩ := id (hR.go e1)
      refine ⟨_, rfl, r, dx, _, rfl, h1, lk_no (by decide +kernel) (by decide +kernel), r, ws, rest, rfl, hw, hR.go e1, ?_⟩
      have he : needP (endP ws.ts) wd rest = .error (spotP (endP ws.ts) rest) := by
        cases rest with
        | nil => rfl
        | cons t r2 => exact if_neg hne
      exact (qe _ he).go (Exr.of e1)
    · have hne : wordH rest = wd := by simpa using hb
      cases rest with
      | nil => exact absurd hne.symm hwd
      | cons t r2 =>
        have he : needP (endP ws.ts) wd (t :: r2) = .ok (tkP t, r2) := if_pos hne
        obtain ⟨dx, wl, us, i, hq, h1, _⟩ := id (hR.go e1)
        refine ⟨_, rfl, r, dx, _, rfl, h1, lk_no (by decide +kernel) (by decide +kernel), r, ws, r2, t, rfl, hR.go e1, fun p H2 pv x2 hR2 hp hpv => ?_⟩
        exact ⟨p, _, 1, pv, rfl, rfl, st_of hp, atI_nat (j := 1) rfl, qo _ _ he pv H2 ((Exr.of e1).trans x2) hR2 (Nat.le_succ _) hpv⟩
abbrev s_Row_need_name : Stmt := (C8.clsBody (topS 32)).getD 8 (.Pass ⟨0, 0, 0, 0⟩)
theorem sc_Row_need_name : FnScope ["self"] ["self"] (fnScope s_Row_need_name) := fnScope_by (by decide +kernel)
theorem ok_need_name (T : ModsR K mg C) (c_Row_refuse : MetX P w K mg base 3 C "refuse" (spRefuse CF C)) (c_Row_kind : Met P w K mg base 2 C "kind" (spLook C fun rest => .str (S (kindH rest))) []) (c_Row_take : Met P w K mg base 1 C "take" (spTake C) [])
    {f : Addr} {fd : FuncData} (me : Meth K C "need_name" f) (F : C8.Fun K "need_name" "Row.need_name" s_Row_need_name f fd) (b : Binds K fd ["self"] []) : MetX P w K mg base 4 C "need_name" (spRowP CF C [] nameP vName) := by
  refine metX T.cls me F b sc_Row_need_name (fun vs H Q E h => ?_) (fun cdv A outer s H vs Q E hr h => ?_)
  · obtain ⟨_, _, _, rfl, _⟩ := h
    rfl
  · obtain ⟨r, ws, rest, rfl, hw, hR, qe, qo⟩ := h
    have tk := tk_cx (P := P) (w := w) (K := K) (mg := mg) (base := base) (N := ["self"]) (q := "Row.need_name") (sc := fnScope s_Row_need_name) (f := f) (cdv := cdv) (A := A) (outer := outer) (s := s) (H := H) (E := E)
    refine ⟨_, (pss_cons (ps_if (pt_cmpR op_ne (C8.pe_mt0 c_Row_kind hr (by first | decide | exact Nat.le_refl _ | omega) (pv 0)) pe_str (nomark _)) (pss_one (ps_expr (Wt.pe_mtX0 c_Row_refuse tk hr (by first | decide | exact Nat.le_refl _ | omega) (pv 0)))) pss_nil)
      (pss_one (ps_ret (C8.pe_mt0 c_Row_take hr (by first | decide | exact Nat.le_refl _ | omega) (pv 0))))), ?_⟩
    refine q_when (et_test (ev_neS (ev_look hw hR (ev_var rfl) (by decide +kernel) (by decide +kernel)) (ev_is ev_c (congrArg V.str (show Str.ofString "name" = S kName by decide +kernel))))) (fun hb H1 e1 => ?_) (fun hb H1 e1 => ?_)
    · have hne : kindH rest ≠ kName := by simpa using hb
      obtain ⟨dx, wl, us, i, hq, h1, _⟩ := id (hR.go e1)
      refine ⟨_, rfl, r, dx, _, rfl, h1, lk_no (by decide +kernel) (by decide +kernel), r, ws, rest, rfl, hw, hR.go e1, ?_⟩
      have he : nameP (endP ws.ts) rest = .error (spotP (endP ws.ts) rest) := by
        cases rest with
        | nil => rfl
        | cons t r2 => exact if_neg hne
      exact (qe _ he).go (Exr.of e1)
    · have hne : kindH rest = kName := by simpa using hb
      cases rest with
      | nil => exact absurd hne.symm (by decide)
      | cons t r2 =>
        have he : nameP (endP ws.ts) (t :: r2) = .ok ((t.2.1, tkP t), r2) := if_pos hne
        obtain ⟨dx, wl, us, i, hq, h1, _⟩ := id (hR.go e1)
        refine ⟨_, rfl, r, dx, _, rfl, h1, lk_no (by decide +kernel) (by decide +kernel), r, ws, r2, t, rfl, hR.go e1, fun p H2 pv x2 hR2 hp hpv => ?_⟩
        exact qo _ _ he _ H2 ((Exr.of e1).trans x2) hR2 (Nat.le_succ _) ⟨p, pv, rfl, hp, hpv⟩
abbrev s_Row_finish : Stmt := (C8.clsBody (topS 32)).getD 9 (.Pass ⟨0, 0, 0, 0⟩)
theorem sc_Row_finish : FnScope ["self"] ["self"] (fnScope s_Row_finish) := fnScope_by (by decide +kernel)
theorem ok_finish (T : ModsR K mg C) (c_Row_refuse : MetX P w K mg base 3 C "refuse" (spRefuse CF C)) (c_Row_done : Met P w K mg base 1 C "done" (spLook C fun rest => .bl (decide (rest = []))) [])
    {f : Addr} {fd : FuncData} (me : Meth K C "finish" f) (F : C8.Fun K "finish" "Row.finish" s_Row_finish f fd) (b : Binds K fd ["self"] []) : MetX P w K mg base 4 C "finish" (spRowP CF C [] finishP vNon) := by
  refine metX T.cls me F b sc_Row_finish (fun vs H Q E h => ?_) (fun cdv A outer s H vs Q E hr h => ?_)
  · obtain ⟨_, _, _, rfl, _⟩ := h
    rfl
  · obtain ⟨r, ws, rest, rfl, hw, hR, qe, qo⟩ := h
    have tk := tk_cx (P := P) (w := w) (K := K) (mg := mg) (base := base) (N := ["self"]) (q := "Row.finish") (sc := fnScope s_Row_finish) (f := f) (cdv := cdv) (A := A) (outer := outer) (s := s) (H := H) (E := E)
    refine ⟨_, (pss_one (ps_if (pt_not (pt_val (C8.pe_mt0 c_Row_done hr (by first | decide | exact Nat.le_refl _ | omega) (pv 0)))) (pss_one (ps_expr (Wt.pe_mtX0 c_Row_refuse tk hr (by first | decide | exact Nat.le_refl _ | omega) (pv 0)))) pss_nil)), ?_⟩
    refine s_when (et_not (et_B (ev_look hw hR (ev_var rfl) (by decide +kernel) (by decide +kernel)))) (fun hb H1 e1 => ?_) (fun hb H1 e1 => ?_)
    · have hne : rest ≠ [] := by simpa using hb
      obtain ⟨dx, wl, us, i, hq, h1, _⟩ := id (hR.go e1)
      refine ⟨_, rfl, r, dx, _, rfl, h1, lk_no (by decide +kernel) (by decide +kernel), r, ws, rest, rfl, hw, hR.go e1, ?_⟩
      cases rest with
      | nil => exact absurd rfl hne
      | cons t r2 => exact (qe _ rfl).go (Exr.of e1)
    · have hne : rest = [] := by simpa using hb
      subst hne
      exact qo () [] rfl _ H1 (Exr.of e1) (hR.go e1) (Nat.le_refl _) rfl
end
end Wt

set_option Elab.async false
set_option linter.all false
set_option maxRecDepth 100000
set_option maxHeartbeats 4000000
namespace Wt
open PySem PySem.Spec PyProof.Rows L2 SX Evl
open C8 (Def Cal Met cal0 met0 fnScope_by fnScope)
/-! Expressions that are read. -/
structure RowM (P : Program) (w : World) (K : PySem.W.Frag) (mg : Str → Option Value) (base : Heap) (C CF : Addr) : Prop where
  done : Met P w K mg base 1 C "done" (spLook C fun rest => .bl (decide (rest = []))) []
  kind : Met P w K mg base 2 C "kind" (spLook C fun rest => .str (S (kindH rest))) []
  word : Met P w K mg base 2 C "word" (spLook C fun rest => .str (S (wordH rest))) []
  take : Met P w K mg base 1 C "take" (spTake C) []
  refuse : MetX P w K mg base 3 C "refuse" (spRefuse CF C)
  need : MetX P w K mg base 4 C "need" (spNeed CF C)
  need_name : MetX P w K mg base 4 C "need_name" (spRowP CF C [] nameP vName)
  finish : MetX P w K mg base 4 C "finish" (spRowP CF C [] finishP vNon)
structure ModsE (mg : Str → Option Value) : Prop where
  m_tuple : mg "tuple" = none
  m_int : mg "int" = none
  g_MOST_WITHIN : ∃ u, mg "MOST_WITHIN" = some u ∧ RelV (.int 8) u
theorem GoP.go {α : Type} {CF C r : Addr} {ws : Wds} {rest : List Tk} {H H' : Hp} {Q : VK} {E : XK} {res : Except Place (α × List Tk)} {val : α → Hp → V → Prop} (h : GoP CF C r ws rest H Q E res val) (e : Exr r H H') : GoP CF C r ws rest H' Q E res val :=
  ⟨fun x hx => (h.1 x hx).go e, fun a r2 hr v H2 x2 => h.2 a r2 hr v H2 (e.trans x2)⟩
section
variable {σ : L2.St} {H : Hp} {ta : TE} {t : TA} {Q : VK} {E : XK} {CF C r : Addr} {ws : Wds} {rest : List Tk} {args : List V}
theorem g_call {α : Type} {p : Place → RP α} {val : α → Hp → V → Prop} (ha : EvA t σ H (.ref r :: args)) (hw : WsOk ws) (hR : RowO H C r ws rest) (hG : GoP CF C r ws rest H Q E (p (endP ws.ts) rest) val) : tCall (spRowP CF C args p val) [] E t σ H Q :=
  ha H (Ex.refl H) _ fun H1 e1 => ⟨r, ws, rest, List.append_nil _, hw, hR.go e1, hG.go (Exr.of e1)⟩
theorem g_meth {α : Type} {p : Place → RP α} {val : α → Hp → V → Prop} {m : Str} (h1 : m ≠ "words") (h2 : m ≠ "at") (ha : Ev ta σ H (.ref r)) (ht : EvA t σ H args) (hw : WsOk ws) (hR : RowO H C r ws rest) (hG : GoP CF C r ws rest H Q E (p (endP ws.ts) rest) val) :
    tMeth C m (spRowP CF C args p val) [] E ta t σ H Q := ha H (Ex.refl H) _ fun H1 e1 => by
  obtain ⟨dx, wl, us, i, hq, g1, _⟩ := id (hR.go e1)
  exact ⟨r, dx, _, rfl, g1, lk_no h1 h2, ht H1 e1 _ fun H2 e2 => ⟨r, ws, rest, by rw [List.append_nil], hw, hR.go (e1.trans e2), hG.go (Exr.of (e1.trans e2))⟩⟩
theorem g_need {wd : List Nat} (hn : wd ≠ []) (ha : Ev ta σ H (.ref r)) (ht : EvA t σ H [.str (S wd)]) (hw : WsOk ws) (hR : RowO H C r ws rest) (hG : GoP CF C r ws rest H Q E (needP (endP ws.ts) wd rest) vPlace) :
    tMeth C "need" (spNeed CF C) [] E ta t σ H Q := ha H (Ex.refl H) _ fun H1 e1 => by
  obtain ⟨dx, wl, us, i, hq, g1, _⟩ := id (hR.go e1)
  exact ⟨r, dx, _, rfl, g1, lk_no (by decide +kernel) (by decide +kernel), ht H1 e1 _ fun H2 e2 => ⟨wd, hn, r, ws, rest, rfl, hw, hR.go (e1.trans e2), hG.go (Exr.of (e1.trans e2))⟩⟩
theorem g_refuse (ha : Ev ta σ H (.ref r)) (hw : WsOk ws) (hR : RowO H C r ws rest) (q : RaiseT CF r H E (spotP (endP ws.ts) rest)) : tMeth C "refuse" (spRefuse CF C) [] E ta tNil σ H Q := ha H (Ex.refl H) _ fun H1 e1 => by
  obtain ⟨dx, wl, us, i, hq, g1, _⟩ := id (hR.go e1)
  exact ⟨r, dx, _, rfl, g1, lk_no (by decide +kernel) (by decide +kernel), r, ws, rest, rfl, hw, hR.go e1, q.go (Exr.of e1)⟩
theorem g_take {tk : Tk} {r2 : List Tk} (ha : Ev ta σ H (.ref r)) (hR : RowO H C r ws (tk :: r2)) (q : ∀ p H2 pv, Exr r H H2 → RowO H2 C r ws r2 → H2 p = some (.tup [.str (S tk.2.1), pv]) → Td H2 pv (placeD (tkP tk)) → Q (.ref p) H2) :
    tMeth C "take" (spTake C) [] E ta tNil σ H Q := ha H (Ex.refl H) _ fun H1 e1 => by
  obtain ⟨dx, wl, us, i, hq, g1, _⟩ := id (hR.go e1)
  exact ⟨r, dx, _, rfl, g1, lk_no (by decide +kernel) (by decide +kernel), r, ws, r2, tk, rfl, hR.go e1, fun p H2 pv x2 => q p H2 pv ((Exr.of e1).trans x2)⟩
end
section
variable {P : Program} {w : World} {K : PySem.W.Frag} {mg : Str → Option Value} {base : Heap} {C CF : Addr}
/-! ### within -/
abbrev depV (n : Nat) : V := .int ((8 - n : Nat) : Int)
abbrev s_within : Stmt := topS 18
theorem sc_within : FnScope ["row", "depth"] ["row", "depth"] (fnScope s_within) := fnScope_by (by decide +kernel)
def spWithin (CF C : Addr) (n : Nat) : Sp := fun vs H Q E => ∃ (r : Addr) (ws : Wds) (rest : List Tk), vs = [.ref r, depV n] ∧ n ≤ 8 ∧ WsOk ws ∧ RowO H C r ws rest ∧ (n = 0 → RaiseT CF r H E (spotP (endP ws.ts) rest)) ∧ ∀ m, n = m + 1 → RetV (depV m) H Q
theorem ok_within (T : ModsE mg) (M : RowM P w K mg base C CF) (n : Nat) {f : Addr} {fd : FuncData} (F : Def K mg "within" s_within f fd) (b : Binds K fd ["row", "depth"] []) : CalX P w K mg base 4 "within" (spWithin CF C n) := by
  refine calX F b sc_within (fun vs H Q E h => ?_) (fun cdv A outer s H vs Q E hr h => ?_)
  · obtain ⟨_, _, _, rfl, _⟩ := h
    rfl
  · obtain ⟨r, ws, rest, rfl, hn, hw, hR, qe, qo⟩ := h
    have tk := tk_cx (P := P) (w := w) (K := K) (mg := mg) (base := base) (N := ["row", "depth"]) (q := "within") (sc := fnScope s_within) (f := f) (cdv := cdv) (A := A) (outer := outer) (s := s) (H := H) (E := E)
    have g_MOST_WITHIN := T.g_MOST_WITHIN
    have c_Row_refuse := M.refuse
    refine ⟨_, (pss_cons (ps_if (pt_cmpR op_eq (pv 1) (C8.pe_gc (by rfl) g_MOST_WITHIN) (nomark _)) (pss_one (ps_expr (Wt.pe_mtX0 c_Row_refuse tk hr (by first | decide | exact Nat.le_refl _ | omega) (pv 0)))) pss_nil)
      (pss_one (ps_ret (pe_op op_add (pv 1) pe_int)))), ?_⟩
    refine q_when (et_test (ev_op (ev_var rfl) ev_c (rv_eq rfl))) (fun hb H1 e1 => ?_) (fun hb H1 e1 => ?_)
    · have h8 : n = 0 := by
        have := V.int.inj (of_decide_eq_true hb)
        omega
      exact g_refuse (ev_var rfl) hw (hR.go e1) ((qe h8).go (Exr.of e1))
    · have h8 : n ≠ 0 := fun z => by
        subst z
        exact of_decide_eq_false hb rfl
      obtain ⟨m, rfl⟩ : ∃ m, n = m + 1 := ⟨n - 1, by omega⟩
      refine s_ret (ev_is (ev_op (ev_var rfl) ev_c rv_I0) ?_) fun H2 e2 => (qo m rfl).go (e1.trans e2)
      show V.int (((8 - (m + 1) : Nat) : Int) + 1) = .int ((8 - m : Nat) : Int)
      rw [show ((8 - (m + 1) : Nat) : Int) + 1 = ((8 - m : Nat) : Int) by omega]
theorem g_within {σ : L2.St} {H : Hp} {t : TA} {Q : VK} {E : XK} {n : Nat} {r : Addr} {ws : Wds} {rest : List Tk} (ha : EvA t σ H [.ref r, depV n]) (hn : n ≤ 8) (hw : WsOk ws) (hR : RowO H C r ws rest) (qe : n = 0 → RaiseT CF r H E (spotP (endP ws.ts) rest)) (qo : ∀ m, n = m + 1 → ∀ H2, Ex H H2 → Q (depV m) H2) :
    tCall (spWithin CF C n) [] E t σ H Q := ha H (Ex.refl H) _ fun H1 e1 => ⟨r, ws, rest, rfl, hn, hw, hR.go e1, fun z => (qe z).go (Exr.of e1), fun m z H2 e2 => qo m z H2 (e1.trans e2)⟩
/-! ### from_left -/
abbrev s_from_left : Stmt := topS 6
theorem sc_from_left : FnScope ["row", "depth", "signs", "read_tighter", "tree", "sign", "place"] ["row", "depth", "signs", "read_tighter"] (fnScope s_from_left) := fnScope_by (by decide +kernel)
def spLeft (CF C : Addr) (p : Place → RP PyData) (sg : List (List Nat)) (ft : Addr) (dep : V) : Sp := fun vs H Q E => ∃ (r st : Addr) (ws : Wds) (rest : List Tk), vs = [.ref r, dep, .ref st, .ref ft] ∧ WsOk ws ∧ RowO H C r ws rest ∧ H st = some (.tup (sg.map fun z => V.str (S z))) ∧
  GoP CF C r ws rest H Q E (fromLeft sg (p (endP ws.ts)) rest) vData
theorem Exr.at {r a : Addr} {H H' : Hp} {C dx : Addr} {fs : List (Str × V)} {xs : List V} (e : Exr r H H') (hr : H r = some (.ins C dx fs)) (h : H a = some (.tup xs)) : H' a = some (.tup xs) := e.tx hr a xs h
theorem ok_from_left (M : RowM P w K mg base C CF) {kt : Nat} (hk : 2 ≤ kt) {p : Place → RP PyData} {sg : List (List Nat)} (hsg : [] ∉ sg) {ft : Addr} {dep : V} {fdt : FuncData} {pst : List Str} (F_t : FnOk P w K mg base (L2.CX P w) kt ft fdt pst (spRowP CF C [dep] p vData)) (kp_t : PySem.W.keepIn K (.ref ft) = true) (b_t : Binds K fdt pst [])
    {f : Addr} {fd : FuncData} (F : Def K mg "from_left" s_from_left f fd) (b : Binds K fd ["row", "depth", "signs", "read_tighter"] []) : CalX P w K mg base (kt + 1) "from_left" (spLeft CF C p sg ft dep) := by
  refine calX F b sc_from_left (fun vs H Q E h => ?_) (fun cdv A outer s H vs Q E hr h => ?_)
  · obtain ⟨_, _, _, _, rfl, _⟩ := h
    rfl
  · obtain ⟨r, st, ws, rest, rfl, hw, hR, hst, qe, qo⟩ := h
    have tk := tk_cx (P := P) (w := w) (K := K) (mg := mg) (base := base) (N := ["row", "depth", "signs", "read_tighter", "tree", "sign", "place"]) (q := "from_left") (sc := fnScope s_from_left) (f := f) (cdv := cdv) (A := A) (outer := outer) (s := s) (H := H) (E := E)
    have c_Row_word := M.word
    have c_Row_take := M.take
    refine ⟨_, (pss_cons (ps_set (i := 4) sc_from_left.nd rfl (.inl rfl) (Wt.pe_clX (i := 3) F_t kp_t b_t tk hr (Nat.le_refl _) rfl (.inl (by rfl)) (pa_cons (pv 0) (pa_cons (pv 1) pa_nil))))
      (pss_cons (ps_while (passes_of rfl) (pt_cmpR op_in_seq (C8.pe_mt0 c_Row_word hr (by first | decide | exact Nat.le_refl _ | omega) (pv 0)) (pv 2) (by with_unfolding_all rfl)) (pss_cons (ps_asg (C8.pe_mt0 c_Row_take hr (by first | decide | exact Nat.le_refl _ | omega) (pv 0)) (pg_tup rfl (pgs_cons (pg_name (i := 5) sc_from_left.nd rfl (.inl rfl)) (pgs_cons (pg_name (i := 6) sc_from_left.nd rfl (.inl rfl)) pgs_nil))))
      (pss_one (ps_set (i := 4) sc_from_left.nd rfl (.inl rfl) (pe_tup (pa_cons (pv 5) (pa_cons (pv 6) (pa_cons (pv 4) (pa_cons (Wt.pe_clX (i := 3) F_t kp_t b_t tk hr (Nat.le_refl _) rfl (.inl (by rfl)) (pa_cons (pv 0) (pa_cons (pv 1) pa_nil))) pa_nil)))))))))
      (pss_one (ps_ret (pv 4))))), ?_⟩
    have tight : ∀ {σ : L2.St} {H1 : Hp} {rest1 : List Tk} {Q1 : VK}, σ[0]? = some (some (.ref r)) → σ[1]? = some (some dep) → σ[3]? = some (some (.ref ft)) → RowO H1 C r ws rest1 → GoP CF C r ws rest1 H1 Q1 E (p (endP ws.ts) rest1) vData →
        tCallL 3 ft (spRowP CF C [dep] p vData) [] E (tCons (tVar 0) (tCons (tVar 1) tNil)) σ H1 Q1 := fun s0 s1 s3 hR1 hG => ⟨s3, _, s0, _, s1, r, ws, _, rfl, hw, hR1, hG⟩
    unfold fromLeft at qe qo
    refine tight rfl rfl rfl hR ⟨fun e he => qe e (by rw [he]), fun d1 r1 hd1 v H1 x1 hR1 hl1 hv => ?_⟩
    rw [hd1] at qe qo
    dsimp only at qe qo
    refine q_while (fun m σ' H' => ∃ (fu : Nat) (d : PyData) (rest' : List Tk) (v : V) (y5 y6 : Option V), σ' = [some (.ref r), some dep, some (.ref st), some (.ref ft), some v, y5, y6] ∧ leftGo sg (p (endP ws.ts)) r1.length d1 r1 = leftGo sg (p (endP ws.ts)) fu d rest' ∧ rest'.length ≤ fu ∧ rest'.length = m ∧
      Td H' v d ∧ RowO H' C r ws rest' ∧ Exr r H H' ∧ rest'.length ≤ rest.length) r1.length ⟨r1.length, d1, r1, v, none, none, rfl, rfl, Nat.le_refl _, rfl, hv, hR1, x1, hl1⟩ ?_
    clear hv hR1 x1 hl1 hd1
    rintro m σ' H' ⟨fu, d, rest', v, y5, y6, rfl, hgo, hfu, rfl, hv, hR', x', hl'⟩
    obtain ⟨dx, wl, us, i, hq, g0, _⟩ := id hR
    have hst' := x'.at g0 hst
    have ends : leftGo sg (p (endP ws.ts)) fu d rest' = .ok (d, rest') → ∀ H2, Ex H' H2 → tRet (tVar 4) { nx := fun _ H' => Q .non H', rt := Q } [some (.ref r), some dep, some (.ref st), some (.ref ft), some v, y5, y6] H2 := fun he H2 e2 =>
      s_ret (ev_var rfl) fun H3 e3 => qo d rest' (hgo.trans he) v H3 (x'.trans (Exr.of (e2.trans e3))) (hR'.go (e2.trans e3)) hl' (Td.tx (Tx.of (e2.trans e3)) _ _ hv)
    refine ⟨_, et_test (ev_inTs (ev_look hw hR' (ev_var rfl) (by decide +kernel) (by decide +kernel)) (ev_var rfl) (st_of hst')), fun hb H1 e1 => ?_, fun hb H1 e1 => ?_⟩
    · have hin := of_decide_eq_true hb
      cases rest' with
      | nil => exact absurd hin hsg
      | cons tk r2 =>
        obtain ⟨fu, rfl⟩ : ∃ fu', fu = fu' + 1 := ⟨fu - 1, by rw [List.length_cons] at hfu; omega⟩
        have hgo2 : leftGo sg (p (endP ws.ts)) (fu + 1) d (tk :: r2) = match p (endP ws.ts) r2 with
          | .error e => .error e
          | .ok (u, r3) => leftGo sg (p (endP ws.ts)) fu (node tk.2.1 (tkP tk) [d, u]) r3 := if_pos hin
        rw [hgo2] at hgo
        refine ⟨fun σ2 H2 => ∃ (d : PyData) (rest2 : List Tk) (v : V) (y5 y6 : Option V), σ2 = [some (.ref r), some dep, some (.ref st), some (.ref ft), some v, y5, y6] ∧ leftGo sg (p (endP ws.ts)) r1.length d1 r1 = leftGo sg (p (endP ws.ts)) fu d rest2 ∧ rest2.length ≤ r2.length ∧
          Td H2 v d ∧ RowO H2 C r ws rest2 ∧ Exr r H H2, fun σ2 H2 ⟨d, rest2, v, y5, y6, h1, h2, h3, h4, h5, h6⟩ => ⟨rest2.length, by rw [List.length_cons]; omega, fu, d, rest2, v, y5, y6, h1, h2, by rw [List.length_cons] at hfu; omega, rfl, h4, h5, h6, by rw [List.length_cons] at hl'; omega⟩, ?_⟩
        refine g_take (ev_var rfl) (hR'.go e1) fun pa H2 pv x2 hR2 hpa hpv => ?_
        refine ⟨pa, _, rfl, st_of hpa, rfl, _, _, rfl, _, _, rfl, rfl, ?_⟩
        have x02 := (x'.trans (Exr.of e1)).trans x2
        refine ⟨_, rfl, _, rfl, _, rfl, ?_⟩
        refine tight rfl rfl rfl hR2 ⟨fun e he => (qe e (by rw [hgo, he])).go x02, fun u r3 hu v3 H3 x3 hR3 hl3 hv3 => ?_⟩
        rw [hu] at hgo
        dsimp only at hgo
        refine ⟨sz_of (by show 4 ≤ 100000; decide), fun pt hpt => ?_⟩
        have en := Ex.new (o := HO.tup [.str (S tk.2.1), pv, v, v3]) hpt
        obtain ⟨dx2, wl2, us2, i2, hq, g2, _⟩ := id hR'
        obtain ⟨dx3, wl3, us3, i3, hq, g3, _⟩ := id hR2
        have txA : Tx H' H3 := ((Tx.of e1).trans (x2.tx (e1 _ _ g2))).trans (x3.tx g3)
        refine ⟨_, r3, _, _, _, rfl, hgo, hl3, ?_, hR3.go en, (x02.trans x3).trans (Exr.of en)⟩
        refine .tup upd_same (.cons (.str _) (.cons (Td.tx ((x3.tx g3).trans (Tx.of en)) _ _ hpv) (.cons (Td.tx (txA.trans (Tx.of en)) _ _ hv) (.cons (Td.tx (Tx.of en) _ _ hv3) .nil))))
    · have hin := of_decide_eq_false hb
      refine ends ?_ H1 e1
      cases fu with
      | zero => rfl
      | succ fu =>
        cases rest' with
        | nil => rfl
        | cons tk r2 => exact if_neg hin
/-- return from_left(row, depth, (..), read_tighter) -/
theorem ret_left {σ : L2.St} {H : Hp} {D : Ends} {E : XK} {t : TA} {p : Place → RP PyData} {sg : List (List Nat)} {xs : List V} {ft r : Addr} {dep : V} {ws : Wds} {rest : List Tk} (s0 : σ[0]? = some (some (.ref r))) (s1 : σ[1]? = some (some dep)) (ha : EvA t σ H xs) (ex : xs = sg.map fun z => V.str (S z)) (hl : xs.length ≤ 100) (hw : WsOk ws) (hR : RowO H C r ws rest)
    (hG : GoP CF C r ws rest H D.rt E (fromLeft sg (p (endP ws.ts)) rest) vData) : tRet (tCall (spLeft CF C p sg ft dep) [] E (tCons (tVar 0) (tCons (tVar 1) (tCons (tTup t) (tCons (tC (.ref ft)) tNil))))) D σ H := by
  subst ex
  refine ⟨_, s0, _, s1, ha H (Ex.refl H) _ fun H1 e1 => ⟨sz_of (by omega), fun st hst => ?_⟩⟩
  have en := e1.trans (Ex.new (o := HO.tup (sg.map fun z => V.str (S z))) hst)
  exact ⟨r, st, ws, rest, rfl, hw, hR.go en, upd_same, hG.go (Exr.of en)⟩
end
end Wt

set_option Elab.async false
set_option linter.all false
set_option maxRecDepth 100000
set_option maxHeartbeats 4000000
namespace Wt
open PySem PySem.Spec PyProof.Rows L2 SX Evl
open C8 (Def Cal Met cal0 met0 fnScope_by fnScope)
/-! Expressions that are read, level by level. -/
theorem RowO.wl_ne {H : Hp} {C r l : Addr} {ws : Wds} {rest : List Tk} (h : RowO H C r ws rest) (hl : H l = none) : l ≠ ws.wl := by
  obtain ⟨dx, wl, us, i, hq, h1, h2, _⟩ := h
  rw [← hq]
  exact (ne_of_none h2 hl).symm
theorem RowO.mut {H : Hp} {C r l : Addr} {ws : Wds} {rest : List Tk} {xs ys : List V} (h : RowO H C r ws rest) (hl : H l = some (.lst xs)) (hn : l ≠ ws.wl) : RowO (upd H l (.lst ys)) C r ws rest := by
  obtain ⟨dx, wl, us, i, hq, h1, h2, h3, h4, h5⟩ := h
  refine ⟨dx, wl, us, i, hq, ?_, ?_, TdAll.tx (Tx.lst hl) _ _ h3, h4, h5⟩
  · rw [upd_ne (ne_of h1 hl (by intro z; cases z))]
    exact h1
  · rw [upd_ne (by rw [hq]; exact hn.symm)]
    exact h2
theorem RowO.r_ne {H : Hp} {C r l : Addr} {ws : Wds} {rest : List Tk} (h : RowO H C r ws rest) (hl : H l = none) : l ≠ r := by
  obtain ⟨dx, wl, us, i, hq, h1, _⟩ := h
  exact (ne_of_none h1 hl).symm
theorem RowO.few {H : Hp} {C r : Addr} {ws : Wds} {rest : List Tk} (h : RowO H C r ws rest) (hw : WsOk ws) : rest.length ≤ 1000 := by
  obtain ⟨dx, wl, us, i, hq, h1, h2, h3, h4, h5⟩ := h
  have := hw.few
  rw [h5, List.length_drop]
  omega
theorem Exr.mut {r l : Addr} {H H' : Hp} {o : HO} (e : Exr r H H') (h : H l = none) : Exr r H (upd H' l o) := fun b u hb hu => by
  rw [upd_ne (ne_of_none hu h)]
  exact e b u hb hu
theorem lit_dot : Str.ofString "." = S [46] := by decide +kernel
theorem lit_open : Str.ofString "(" = S [40] := by decide +kernel
theorem lit_close : Str.ofString ")" = S [41] := by decide +kernel
theorem lit_comma : Str.ofString "," = S [44] := by decide +kernel
theorem lit_minus : Str.ofString "-" = S [45] := by decide +kernel
theorem lit_not : Str.ofString "not" = S oNot := by decide +kernel
theorem lit_kname : Str.ofString "name" = S kName := by decide +kernel
theorem lit_knum : Str.ofString "num" = S kNum := by decide +kernel
theorem lit_call : Str.ofString "call" = S oCall := by decide +kernel
theorem lit_neg : Str.ofString "neg" = S oNeg := by decide +kernel
theorem lit_truth : Str.ofString "truth" = S oTruth := by decide +kernel
theorem lit_yes : Str.ofString "yes" = S oYes := by decide +kernel
theorem calX_imp {P : Program} {w : World} {K : PySem.W.Frag} {mg : Str → Option Value} {base : Heap} {k : Nat} {x : Str} {sp sp' : Sp} (c : CalX P w K mg base k x sp) (h : ∀ vs H Q E, sp' vs H Q E → sp vs H Q E) : CalX P w K mg base k x sp' := by
  obtain ⟨f, fd, ps, F, h1, h2, h3⟩ := c.ex
  exact ⟨f, fd, ps, F.imp h, h1, h2, h3⟩
theorem calX_up {P : Program} {w : World} {K : PySem.W.Frag} {mg : Str → Option Value} {base : Heap} {j k : Nat} {x : Str} {sp : Sp} (c : CalX P w K mg base j x sp) (h : j ≤ k) : CalX P w K mg base k x sp := by
  obtain ⟨f, fd, ps, F, h1, h2, h3⟩ := c.ex
  exact ⟨f, fd, ps, F.mono h, h1, h2, h3⟩
theorem calX_no {P : Program} {w : World} {K : PySem.W.Frag} {mg : Str → Option Value} {base : Heap} {k : Nat} {x : Str} {st : Stmt} {f : Addr} {fd : FuncData} {ps : List Str} {sp : Sp} (F : Def K mg x st f fd) (b : Binds K fd ps []) (h : ∀ vs H Q E, ¬ sp vs H Q E) : CalX P w K mg base k x sp :=
  ⟨f, fd, ps, ⟨fun vs H Q E q => absurd q (h vs H Q E), fun A outer s H args us vs Q E _ _ _ _ q => absurd q (h vs H Q E)⟩, F.mgf, F.kp, b⟩
section
variable {P : Program} {w : World} {K : PySem.W.Frag} {mg : Str → Option Value} {base : Heap} {C CF : Addr}
/-- a reader at a level; one level below -/
abbrev spE (CF C : Addr) (f : Place → Option Lev → RP PyData) (n : Nat) : Sp := spRowP CF C [depV n] (fun fin => f fin (lowP fin n)) vData
def spB (CF C : Addr) (f : Place → Option Lev → RP PyData) (n : Nat) : Sp := fun vs H Q E => ∃ m, n = m + 1 ∧ spE CF C f m vs H Q E
structure Low (P : Program) (w : World) (K : PySem.W.Frag) (mg : Str → Option Value) (base : Heap) (C CF : Addr) (k n : Nat) : Prop where
  expr : CalX P w K mg base k "read_expression" (spB CF C exprP n)
  den : CalX P w K mg base k "read_denied" (spB CF C denP n)
  neg : CalX P w K mg base k "read_negated" (spB CF C negP n)
theorem g_low {σ : L2.St} {H : Hp} {t : TA} {Q : VK} {E : XK} {f : Place → Option Lev → RP PyData} {n m : Nat} {r : Addr} {ws : Wds} {rest : List Tk} (hm : n = m + 1) (ha : EvA t σ H [.ref r, depV m]) (hw : WsOk ws) (hR : RowO H C r ws rest) (hG : GoP CF C r ws rest H Q E (f (endP ws.ts) (lowP (endP ws.ts) m) rest) vData) :
    tCall (spB CF C f n) [] E t σ H Q := ha H (Ex.refl H) _ fun H1 e1 => ⟨m, hm, r, ws, rest, rfl, hw, hR.go e1, hG.go (Exr.of e1)⟩
theorem lowS (fin : Place) (m : Nat) : lowP fin (m + 1) = some ⟨exprP fin (lowP fin m), denP fin (lowP fin m), negP fin (lowP fin m)⟩ := by
  show some (levP fin m) = _
  rw [levP_low]
/-! ### read_path -/
abbrev s_read_path : Stmt := topS 16
theorem sc_read_path : FnScope ["row", "first", "place", "name", "_"] ["row"] (fnScope s_read_path) := fnScope_by (by decide +kernel)
def vPath : Place × List Nat × List Nat → Hp → V → Prop := fun a H v => ∃ p pv, v = .ref p ∧ H p = some (.tup [pv, .str (S a.2.1), .str (S a.2.2)]) ∧ Td H pv (placeD a.1)
theorem ok_read_path (M : RowM P w K mg base C CF) {f : Addr} {fd : FuncData} (F : Def K mg "read_path" s_read_path f fd) (b : Binds K fd ["row"] []) : CalX P w K mg base 5 "read_path" (spRowP CF C [] pathP vPath) := by
  refine calX F b sc_read_path (fun vs H Q E h => ?_) (fun cdv A outer s H vs Q E hr h => ?_)
  · obtain ⟨_, _, _, rfl, _⟩ := h
    rfl
  · obtain ⟨r, ws, rest, rfl, hw, hR, qe, qo⟩ := h
    have tk := tk_cx (P := P) (w := w) (K := K) (mg := mg) (base := base) (N := ["row", "first", "place", "name", "_"]) (q := "read_path") (sc := fnScope s_read_path) (f := f) (cdv := cdv) (A := A) (outer := outer) (s := s) (H := H) (E := E)
    have c_Row_need_name := M.need_name
    have c_Row_word := M.word
    have c_Row_need := M.need
    refine ⟨_, (pss_cons (ps_asg (Wt.pe_mtX0 c_Row_need_name tk hr (by first | decide | exact Nat.le_refl _ | omega) (pv 0)) (pg_tup rfl (pgs_cons (pg_name (i := 1) sc_read_path.nd rfl (.inl rfl)) (pgs_cons (pg_name (i := 2) sc_read_path.nd rfl (.inl rfl)) pgs_nil))))
      (pss_cons (ps_if (pt_cmpR op_ne (C8.pe_mt0 c_Row_word hr (by first | decide | exact Nat.le_refl _ | omega) (pv 0)) pe_str (nomark _)) (pss_one (ps_ret (pe_tup (pa_cons (pv 2) (pa_cons pe_str (pa_cons (pv 1) pa_nil)))))) pss_nil)
      (pss_cons (ps_expr (Wt.pe_mtX c_Row_need tk hr (by first | decide | exact Nat.le_refl _ | omega) (pv 0) (pa_cons pe_str pa_nil)))
      (pss_cons (ps_asg (Wt.pe_mtX0 c_Row_need_name tk hr (by first | decide | exact Nat.le_refl _ | omega) (pv 0)) (pg_tup rfl (pgs_cons (pg_name (i := 3) sc_read_path.nd rfl (.inl rfl)) (pgs_cons (pg_name (i := 4) sc_read_path.nd rfl (.inl rfl)) pgs_nil))))
      (pss_one (ps_ret (pe_tup (pa_cons (pv 2) (pa_cons (pv 1) (pa_cons (pv 3) pa_nil)))))))))), ?_⟩
    unfold pathP at qe qo
    refine g_meth (m := "need_name") (by decide +kernel) (by decide +kernel) (ev_var rfl) ea_nil hw hR ⟨fun e he => qe e (by rw [he]), fun a r1 h1 v1 H1 x1 hR1 l1 hv1 => ?_⟩
    obtain ⟨first, place⟩ := a
    rw [h1] at qe qo
    dsimp only at qe qo
    obtain ⟨p1, pv, rfl, hp1, hpv⟩ := hv1
    refine ⟨p1, _, rfl, st_of hp1, rfl, _, _, rfl, _, _, rfl, rfl, ?_⟩
    dsimp only
    refine q_when (b := !decide (wordH r1 = [46])) ?hh (fun hb H2 e2 => ?_) (fun hb H2 e2 => ?_)
    case hh => exact et_test (ev_neS (ev_look (m := "word") hw hR1 (ev_var rfl) (by decide +kernel) (by decide +kernel)) (ev_is ev_c (congrArg V.str lit_dot)))
    · have hne : wordH r1 ≠ [46] := by simpa using hb
      rw [if_pos hne] at qo
      refine s_retU (eu_tup (ea_cons (ev_var rfl) (ea_cons (ev_is ev_c (congrArg V.str lit0)) (ea_cons (ev_var rfl) ea_nil))) (by show 3 ≤ 100000; decide)) fun p3 H3 hp3 e3 h3 => qo _ r1 rfl _ H3 (x1.trans (Exr.of (e2.trans e3))) (hR1.go (e2.trans e3)) l1 ⟨p3, pv, rfl, h3, Td.tx (Tx.of (e2.trans e3)) _ _ hpv⟩
    · have hne : ¬ wordH r1 ≠ [46] := by simpa using hb
      rw [if_neg hne] at qe qo
      have x2 := x1.trans (Exr.of e2)
      refine g_need (by decide) (ev_var rfl) (ea_cons (ev_is ev_c (congrArg V.str lit_dot)) ea_nil) hw (hR1.go e2) ⟨fun e he => (qe e (by rw [he])).go x2, fun pl r2 h2 v2 H3 x3 hR3 l3 _ => ?_⟩
      rw [h2] at qe qo
      dsimp only at qe qo
      have x3' := x2.trans x3
      refine g_meth (m := "need_name") (by decide +kernel) (by decide +kernel) (ev_var rfl) ea_nil hw hR3 ⟨fun e he => (qe e (by rw [he])).go x3', fun a r3 h3 v3 H4 x4 hR4 l4 hv3 => ?_⟩
      obtain ⟨name, pl2⟩ := a
      rw [h3] at qe qo
      dsimp only at qe qo
      obtain ⟨p2, pv2, rfl, hp2, hpv2⟩ := hv3
      refine ⟨p2, _, rfl, st_of hp2, rfl, _, _, rfl, _, _, rfl, rfl, ?_⟩
      have hpv4 := Td.tx (hR3.tx x4) _ _ (Td.tx ((hR1.go e2).tx x3) _ _ (Td.tx (Tx.of e2) _ _ hpv))
      refine s_retU (eu_tup (ea_cons (ev_var rfl) (ea_cons (ev_var rfl) (ea_cons (ev_var rfl) ea_nil))) (by show 3 ≤ 100000; decide)) fun p3 H5 hp3 e5 h5 => qo _ r3 rfl _ H5 ((x3'.trans x4).trans (Exr.of e5)) (hR4.go e5) (by omega) ⟨p3, pv, rfl, h5, Td.tx (Tx.of e5) _ _ hpv4⟩
/-! ### read_bracket -/
abbrev s_read_bracket : Stmt := topS 14
theorem sc_read_bracket : FnScope ["row", "depth", "inner", "tree"] ["row", "depth"] (fnScope s_read_bracket) := fnScope_by (by decide +kernel)
theorem ok_read_bracket (M : RowM P w K mg base C CF) {n k : Nat} (hn : n ≤ 8) (hk : 10 ≤ k) (L : Low P w K mg base C CF k n) (c_within : CalX P w K mg base 4 "within" (spWithin CF C n)) {f : Addr} {fd : FuncData} (F : Def K mg "read_bracket" s_read_bracket f fd) (b : Binds K fd ["row", "depth"] []) :
    CalX P w K mg base (k + 1) "read_bracket" (spE CF C bracketP n) := by
  refine calX F b sc_read_bracket (fun vs H Q E h => ?_) (fun cdv A outer s H vs Q E hr h => ?_)
  · obtain ⟨_, _, _, rfl, _⟩ := h
    rfl
  · obtain ⟨r, ws, rest, rfl, hw, hR, qe, qo⟩ := h
    have tk := tk_cx (P := P) (w := w) (K := K) (mg := mg) (base := base) (N := ["row", "depth", "inner", "tree"]) (q := "read_bracket") (sc := fnScope s_read_bracket) (f := f) (cdv := cdv) (A := A) (outer := outer) (s := s) (H := H) (E := E)
    have c_Row_need := M.need
    have c_read_expression := L.expr
    refine ⟨_, (pss_cons (ps_set (i := 2) sc_read_bracket.nd rfl (.inl rfl) (Wt.pe_cE c_within tk hr (by first | decide | exact Nat.le_refl _ | omega) (by rfl) (pa_cons (pv 0) (pa_cons (pv 1) pa_nil))))
      (pss_cons (ps_expr (Wt.pe_mtX c_Row_need tk hr (by first | decide | exact Nat.le_refl _ | omega) (pv 0) (pa_cons pe_str pa_nil)))
      (pss_cons (ps_set (i := 3) sc_read_bracket.nd rfl (.inl rfl) (Wt.pe_cE c_read_expression tk hr (by first | decide | exact Nat.le_refl _ | omega) (by rfl) (pa_cons (pv 0) (pa_cons (pv 2) pa_nil))))
      (pss_cons (ps_expr (Wt.pe_mtX c_Row_need tk hr (by first | decide | exact Nat.le_refl _ | omega) (pv 0) (pa_cons pe_str pa_nil)))
      (pss_one (ps_ret (pv 3))))))), ?_⟩
    unfold bracketP at qe qo
    refine g_within (ea_cons (ev_var rfl) (ea_cons (ev_var rfl) ea_nil)) hn hw hR (fun z => by subst z; exact qe _ rfl) (fun m hm H1 e1 => ?_)
    subst hm
    dsimp only at qe qo
    rw [lowS] at qe qo
    dsimp only at qe qo
    have x1 : Exr r H H1 := Exr.of e1
    refine g_need (by decide) (ev_var rfl) (ea_cons (ev_is ev_c (congrArg V.str lit_open)) ea_nil) hw (hR.go e1) ⟨fun e he => (qe e (by rw [he])).go x1, fun pl r1 h1 v1 H2 x2 hR2 l2 _ => ?_⟩
    rw [h1] at qe qo
    dsimp only at qe qo
    have x2' := x1.trans x2
    refine g_low rfl (ea_cons (ev_var rfl) (ea_cons (ev_var rfl) ea_nil)) hw hR2 ⟨fun e he => (qe e (by rw [he])).go x2', fun d r2 h2 v2 H3 x3 hR3 l3 hv2 => ?_⟩
    rw [h2] at qe qo
    dsimp only at qe qo
    have x3' := x2'.trans x3
    refine g_need (by decide) (ev_var rfl) (ea_cons (ev_is ev_c (congrArg V.str lit_close)) ea_nil) hw hR3 ⟨fun e he => (qe e (by rw [he])).go x3', fun pl2 r3 h3 v3 H4 x4 hR4 l4 _ => ?_⟩
    rw [h3] at qe qo
    dsimp only at qe qo
    exact s_ret (ev_var rfl) fun H5 e5 => qo d r3 rfl v2 H5 ((x3'.trans x4).trans (Exr.of e5)) (hR4.go e5) (by omega) (Td.tx ((hR3.tx x4).trans (Tx.of e5)) _ _ hv2)
/-! ### read_given -/
abbrev s_read_given : Stmt := topS 17
theorem sc_read_given : FnScope ["row", "depth", "inner", "given"] ["row", "depth"] (fnScope s_read_given) := fnScope_by (by decide +kernel)
theorem ok_read_given (T : ModsE mg) (M : RowM P w K mg base C CF) {n k : Nat} (hn : n ≤ 8) (hk : 10 ≤ k) (L : Low P w K mg base C CF k n) (c_within : CalX P w K mg base 4 "within" (spWithin CF C n)) {f : Addr} {fd : FuncData} (F : Def K mg "read_given" s_read_given f fd) (b : Binds K fd ["row", "depth"] []) :
    CalX P w K mg base (k + 1) "read_given" (spE CF C givenP n) := by
  refine calX F b sc_read_given (fun vs H Q E h => ?_) (fun cdv A outer s H vs Q E hr h => ?_)
  · obtain ⟨_, _, _, rfl, _⟩ := h
    rfl
  · obtain ⟨r, ws, rest, rfl, hw, hR, qe, qo⟩ := h
    have tk := tk_cx (P := P) (w := w) (K := K) (mg := mg) (base := base) (N := ["row", "depth", "inner", "given"]) (q := "read_given") (sc := fnScope s_read_given) (f := f) (cdv := cdv) (A := A) (outer := outer) (s := s) (H := H) (E := E)
    have m_tuple := T.m_tuple
    have c_Row_need := M.need
    have c_Row_word := M.word
    have c_read_expression := L.expr
    refine ⟨_, (pss_cons (ps_set (i := 2) sc_read_given.nd rfl (.inl rfl) (Wt.pe_cE c_within tk hr (by first | decide | exact Nat.le_refl _ | omega) (by rfl) (pa_cons (pv 0) (pa_cons (pv 1) pa_nil))))
      (pss_cons (ps_expr (Wt.pe_mtX c_Row_need tk hr (by first | decide | exact Nat.le_refl _ | omega) (pv 0) (pa_cons pe_str pa_nil)))
      (pss_cons (ps_set (i := 3) sc_read_given.nd rfl (.inl rfl) (pe_lst pa_nil))
      (pss_cons (ps_if (pt_cmpR op_ne (C8.pe_mt0 c_Row_word hr (by first | decide | exact Nat.le_refl _ | omega) (pv 0)) pe_str (nomark _)) (pss_cons (ps_expr (pe_bm PySem.F.plainAttrs_list PySem.F.slot_list_append PySem.F.type_list_append mt_append (pv 3) (pa_cons (Wt.pe_cE c_read_expression tk hr (by first | decide | exact Nat.le_refl _ | omega) (by rfl) (pa_cons (pv 0) (pa_cons (pv 2) pa_nil))) pa_nil)))
      (pss_one (ps_while (passes_of rfl) (pt_cmpR op_eq (C8.pe_mt0 c_Row_word hr (by first | decide | exact Nat.le_refl _ | omega) (pv 0)) pe_str (nomark _)) (pss_cons (ps_expr (Wt.pe_mtX c_Row_need tk hr (by first | decide | exact Nat.le_refl _ | omega) (pv 0) (pa_cons pe_str pa_nil)))
      (pss_one (ps_expr (pe_bm PySem.F.plainAttrs_list PySem.F.slot_list_append PySem.F.type_list_append mt_append (pv 3) (pa_cons (Wt.pe_cE c_read_expression tk hr (by first | decide | exact Nat.le_refl _ | omega) (by rfl) (pa_cons (pv 0) (pa_cons (pv 2) pa_nil))) pa_nil)))))))) pss_nil)
      (pss_cons (ps_expr (Wt.pe_mtX c_Row_need tk hr (by first | decide | exact Nat.le_refl _ | omega) (pv 0) (pa_cons pe_str pa_nil)))
      (pss_one (ps_ret (pe_callTy call_tuple_of (by rfl) m_tuple Wt.bt_tuple (pa_cons (pv 3) pa_nil))))))))), ?_⟩
    unfold givenP at qe qo
    refine g_within (ea_cons (ev_var rfl) (ea_cons (ev_var rfl) ea_nil)) hn hw hR (fun z => by subst z; exact qe _ rfl) (fun m hm H1 e1 => ?_)
    subst hm
    dsimp only at qe qo
    rw [lowS] at qe qo
    dsimp only at qe qo
    have x1 : Exr r H H1 := Exr.of e1
    refine g_need (by decide) (ev_var rfl) (ea_cons (ev_is ev_c (congrArg V.str lit_open)) ea_nil) hw (hR.go e1) ⟨fun e he => (qe e (by rw [he])).go x1, fun pl r1 h1 v1 H2 x2 hR2 l2 _ => ?_⟩
    rw [h1] at qe qo
    dsimp only at qe qo
    have x2' := x1.trans x2
    -- given = []
    refine q_asgL (el_lst ea_nil (Nat.zero_le _)) fun l H3 hl2 e3 hl3 => ?_
    have hl0 : H l = none := by
      cases hh : H l with
      | none => rfl
      | some o =>
        have := x2' l o (hR2.r_ne hl2) hh
        rw [hl2] at this
        cases this
    have hlw : l ≠ ws.wl := hR2.wl_ne hl2
    have hlr : l ≠ r := hR2.r_ne hl2
    have hf := hR2.few hw
    have x3' := x2'.trans (Exr.of e3)
    -- the end, once the list is whole
    have fin : ∀ (σ4 σ5 : Option V) (ds : List PyData) (us : List V) (r3 : List Tk) (H4 : Hp), listP (endP ws.ts) (exprP (endP ws.ts) (lowP (endP ws.ts) m)) r1 = .ok (ds, r3) → Exr r H H4 → RowO H4 C r ws r3 → r3.length ≤ rest.length → H4 l = some (.lst us) → TdAll H4 us ds →
        (tSeq (tDrop (tMeth C "need" (spNeed CF C) [] E (tVar 0) (tCons (tC (.str (Str.ofString ")"))) tNil))) (tRet (tCB (fun xs H Q => ∃ p ys, xs = [.ref p] ∧ ((SqL K H p ys ∧ ∀ t, H t = none → Q (.ref t) (upd H t (.tup ys))) ∨ (SqT K H p ys ∧ Q (.ref p) H))) (tCons (tVar 3) tNil))))
          { nx := fun _ H' => Q .non H', rt := Q } [some (.ref r), some (depV (m + 1)), some (depV m), some (.ref l)] H4 := fun σ4 σ5 ds us r3 H4 hres x4 hR4 l4 hl4 hT4 => by
      rw [hres] at qe qo
      dsimp only at qe qo
      refine g_need (by decide) (ev_var rfl) (ea_cons (ev_is ev_c (congrArg V.str lit_close)) ea_nil) hw hR4 ⟨fun e he => (qe e (by rw [he])).go x4, fun pl2 r4 h4 v4 H5 x5 hR5 l5 _ => ?_⟩
      rw [h4] at qe qo
      dsimp only at qe qo
      have hl5 := x5 l _ hlr hl4
      refine ⟨_, rfl, l, us, rfl, .inl ⟨sq_of hl5, fun t ht => ?_⟩⟩
      have en := Ex.new (o := HO.tup us) ht
      exact qo _ r4 rfl _ _ ((x4.trans x5).trans (Exr.of en)) (hR5.go en) (by omega) (.tup upd_same (TdAll.tx (Tx.of en) _ _ (TdAll.tx (hR4.tx x5) _ _ hT4)))
    refine q_when (et_test (ev_neS (ev_look (m := "word") hw (hR2.go e3) (ev_var rfl) (by decide +kernel) (by decide +kernel)) (ev_is ev_c (congrArg V.str lit_close)))) (fun hb H4 e4 => ?_) (fun hb H4 e4 => ?_)
    · have hne : wordH r1 ≠ [41] := by simpa using hb
      have hR4 := (hR2.go e3).go e4
      have x4' := x3'.trans (Exr.of e4)
      have hl4 := e4 _ _ hl3
      unfold listP at qe qo fin
      rw [if_pos hne] at qe qo fin
      -- given.append(read_expression(row, inner))
      refine ⟨_, rfl, .inl ⟨rfl, [], sq_of hl4⟩, ?_⟩
      refine g_low rfl (ea_cons (ev_var rfl) (ea_cons (ev_var rfl) ea_nil)) hw hR4 ⟨fun e he => (qe e (by rw [he])).go x4', fun d r2 h2 v2 H5 x5 hR5 l5 hv2 => ?_⟩
      rw [h2] at qe qo fin
      dsimp only at qe qo fin
      have hl5 := x5 l _ hlr hl4
      refine ⟨l, [], v2, rfl, rfl, hl5, sz_lt (by decide), ?_⟩
      have x5' := x4'.trans x5
      -- while row.word() == ",":
      refine s_while (fun mm σ' H' => ∃ (fu : Nat) (ds : List PyData) (us : List V) (rest' : List Tk), σ' = [some (.ref r), some (depV (m + 1)), some (depV m), some (.ref l)] ∧ moreP (endP ws.ts) (exprP (endP ws.ts) (lowP (endP ws.ts) m)) r2.length [d] r2 = moreP (endP ws.ts) (exprP (endP ws.ts) (lowP (endP ws.ts) m)) fu ds rest' ∧ rest'.length ≤ fu ∧ rest'.length = mm ∧
        H' l = some (.lst us) ∧ TdAll H' us ds ∧ us.length + rest'.length ≤ 1001 ∧ RowO H' C r ws rest' ∧ Exr r H H' ∧ rest'.length ≤ rest.length) r2.length ⟨r2.length, [d], [v2], r2, rfl, rfl, Nat.le_refl _, rfl, upd_same, .cons (Td.tx (Tx.lst hl5) _ _ hv2) .nil, by show 1 + r2.length ≤ 1001; omega, hR5.mut hl5 hlw, x5'.mut hl0, by omega⟩ ?_
      rintro mm σ' H6 ⟨fu, ds, us, rest', rfl, hgo, hfu, rfl, hl6, hT6, hlen, hR6, x6', hl'⟩
      refine ⟨_, et_test (ev_eqS (ev_look (m := "word") hw hR6 (ev_var rfl) (by decide +kernel) (by decide +kernel)) (ev_is ev_c (congrArg V.str lit_comma))), fun hb2 H7 e7 => ?_, fun hb2 H7 e7 => ?_⟩
      · have hc : wordH rest' = [44] := of_decide_eq_true hb2
        obtain ⟨fu, rfl⟩ : ∃ fu', fu = fu' + 1 := ⟨fu - 1, by
          cases rest' with
          | nil => cases hc
          | cons t r => rw [List.length_cons] at hfu; omega⟩
        have hgo2 : moreP (endP ws.ts) (exprP (endP ws.ts) (lowP (endP ws.ts) m)) (fu + 1) ds rest' = match needP (endP ws.ts) [44] rest' with
          | .error e => .error e
          | .ok (_, r) => match exprP (endP ws.ts) (lowP (endP ws.ts) m) r with
            | .error e => .error e
            | .ok (d, r2) => moreP (endP ws.ts) (exprP (endP ws.ts) (lowP (endP ws.ts) m)) fu (ds ++ [d]) r2 := if_pos hc
        rw [hgo2] at hgo
        have x7' := x6'.trans (Exr.of e7)
        refine ⟨fun σ2 H8 => ∃ (ds : List PyData) (us : List V) (rest2 : List Tk), σ2 = [some (.ref r), some (depV (m + 1)), some (depV m), some (.ref l)] ∧ moreP (endP ws.ts) (exprP (endP ws.ts) (lowP (endP ws.ts) m)) r2.length [d] r2 = moreP (endP ws.ts) (exprP (endP ws.ts) (lowP (endP ws.ts) m)) fu ds rest2 ∧ rest2.length + 1 ≤ rest'.length ∧
          H8 l = some (.lst us) ∧ TdAll H8 us ds ∧ us.length + rest2.length ≤ 1001 ∧ RowO H8 C r ws rest2 ∧ Exr r H H8, fun σ2 H8 ⟨ds, us, rest2, a1, a2, a3, a4, a5, a6, a7, a8⟩ => ⟨rest2.length, by omega, fu, ds, us, rest2, a1, a2, by omega, rfl, a4, a5, a6, a7, a8, by omega⟩, ?_⟩
        refine g_need (by decide) (ev_var rfl) (ea_cons (ev_is ev_c (congrArg V.str lit_comma)) ea_nil) hw (hR6.go e7) ⟨fun e he => (qe e (by rw [hgo, he])).go x7', fun pl3 r5 h5 v5 H8 x8 hR8 l8 _ => ?_⟩
        have hn5 := needP_len h5
        rw [h5] at hgo
        dsimp only at hgo
        have x8' := x7'.trans x8
        have hl8 := x8 l _ hlr (e7 _ _ hl6)
        refine ⟨_, rfl, .inl ⟨rfl, us, sq_of hl8⟩, ?_⟩
        refine g_low rfl (ea_cons (ev_var rfl) (ea_cons (ev_var rfl) ea_nil)) hw hR8 ⟨fun e he => (qe e (by rw [hgo, he])).go x8', fun d6 r6 h6 v6 H9 x9 hR9 l9 hv6 => ?_⟩
        rw [h6] at hgo
        dsimp only at hgo
        have hl9 := x9 l _ hlr hl8
        have hT9 := TdAll.tx (((Tx.of e7).trans ((hR6.go e7).tx x8)).trans (hR8.tx x9)) _ _ hT6
        refine ⟨l, us, v6, rfl, rfl, hl9, sz_lt (by omega), ds ++ [d6], us ++ [v6], r6, rfl, hgo, by omega, upd_same, ?_, ?_, hR9.mut hl9 hlw, (x8'.trans x9).mut hl0⟩
        · exact (TdAll.tx (Tx.lst hl9) _ _ hT9).snoc (Td.tx (Tx.lst hl9) _ _ hv6)
        · rw [List.length_append]
          show us.length + 1 + r6.length ≤ 1001
          omega
      · have hc : wordH rest' ≠ [44] := of_decide_eq_false hb2
        refine fin none none ds us rest' H7 (hgo.trans ?_) (x6'.trans (Exr.of e7)) (hR6.go e7) hl' (e7 _ _ hl6) (TdAll.tx (Tx.of e7) _ _ hT6)
        cases fu with
        | zero => rfl
        | succ fu => exact if_neg hc
    · have hne : ¬ wordH r1 ≠ [41] := by simpa using hb
      exact fin none none [] [] r1 H4 (if_neg hne) (x3'.trans (Exr.of e4)) ((hR2.go e3).go e4) l2 (e4 _ _ hl3) .nil
end
end Wt

set_option Elab.async false
set_option linter.all false
set_option maxRecDepth 100000
set_option maxHeartbeats 4000000
namespace Wt
open PySem PySem.Spec PyProof.Rows L2 SX Evl
open C8 (Def Cal Met cal0 met0 fnScope_by fnScope)
/-! Expressions that are read: one word, signs ahead, signs between. -/
section
variable {P : Program} {w : World} {K : PySem.W.Frag} {mg : Str → Option Value} {base : Heap} {C CF : Addr}
theorem Td.place_of {H : Hp} {v : V} {p : Place} (h : Td H v (placeD p)) : Td H v (placeD p) := h
/-! ### read_named, read_call -/
abbrev s_read_named : Stmt := topS 15
theorem sc_read_named : FnScope ["row", "depth", "place", "file", "name"] ["row", "depth"] (fnScope s_read_named) := fnScope_by (by decide +kernel)
theorem ok_read_named (M : RowM P w K mg base C CF) {n k : Nat} (hk : 10 ≤ k) (c_read_path : CalX P w K mg base 5 "read_path" (spRowP CF C [] pathP vPath)) (c_read_given : CalX P w K mg base (k + 1) "read_given" (spE CF C givenP n)) {f : Addr} {fd : FuncData} (F : Def K mg "read_named" s_read_named f fd) (b : Binds K fd ["row", "depth"] []) :
    CalX P w K mg base (k + 2) "read_named" (spE CF C namedP n) := by
  refine calX F b sc_read_named (fun vs H Q E h => ?_) (fun cdv A outer s H vs Q E hr h => ?_)
  · obtain ⟨_, _, _, rfl, _⟩ := h
    rfl
  · obtain ⟨r, ws, rest, rfl, hw, hR, qe, qo⟩ := h
    have tk := tk_cx (P := P) (w := w) (K := K) (mg := mg) (base := base) (N := ["row", "depth", "place", "file", "name"]) (q := "read_named") (sc := fnScope s_read_named) (f := f) (cdv := cdv) (A := A) (outer := outer) (s := s) (H := H) (E := E)
    have c_Row_word := M.word
    refine ⟨_, (pss_cons (ps_asg (Wt.pe_cE c_read_path tk hr (by first | decide | exact Nat.le_refl _ | omega) (by rfl) (pa_cons (pv 0) pa_nil)) (pg_tup rfl (pgs_cons (pg_name (i := 2) sc_read_named.nd rfl (.inl rfl)) (pgs_cons (pg_name (i := 3) sc_read_named.nd rfl (.inl rfl)) (pgs_cons (pg_name (i := 4) sc_read_named.nd rfl (.inl rfl)) pgs_nil)))))
      (pss_cons (ps_if (pt_cmpR op_ne (C8.pe_mt0 c_Row_word hr (by first | decide | exact Nat.le_refl _ | omega) (pv 0)) pe_str (nomark _)) (pss_one (ps_ret (pe_tup (pa_cons pe_str (pa_cons (pv 2) (pa_cons (pv 3) (pa_cons (pv 4) pa_nil))))))) pss_nil)
      (pss_one (ps_ret (pe_tup (pa_cons pe_str (pa_cons (pv 2) (pa_cons (pv 3) (pa_cons (pv 4) (pa_cons (Wt.pe_cE c_read_given tk hr (by first | decide | exact Nat.le_refl _ | omega) (by rfl) (pa_cons (pv 0) (pa_cons (pv 1) pa_nil))) pa_nil)))))))))), ?_⟩
    unfold namedP at qe qo
    dsimp only at qe qo
    refine g_call (ea_cons (ev_var rfl) ea_nil) hw hR ⟨fun e he => qe e (by rw [he]), fun a r1 h1 v1 H1 x1 hR1 l1 hv1 => ?_⟩
    obtain ⟨place, file, name⟩ := a
    rw [h1] at qe qo
    dsimp only at qe qo
    obtain ⟨p1, pv, rfl, hp1, hpv⟩ := hv1
    refine ⟨p1, _, rfl, st_of hp1, rfl, _, _, rfl, _, _, rfl, _, _, rfl, rfl, ?_⟩
    dsimp only
    refine q_when (et_test (ev_neS (ev_look (m := "word") hw hR1 (ev_var rfl) (by decide +kernel) (by decide +kernel)) (ev_is ev_c (congrArg V.str lit_open)))) (fun hb H2 e2 => ?_) (fun hb H2 e2 => ?_)
    · have hne : wordH r1 ≠ [40] := by simpa using hb
      rw [if_pos hne] at qo
      refine s_retU (eu_tup (ea_cons (ev_is ev_c (congrArg V.str lit_kname)) (ea_cons (ev_var rfl) (ea_cons (ev_var rfl) (ea_cons (ev_var rfl) ea_nil)))) (by show 4 ≤ 100000; decide)) fun p3 H3 hp3 e3 h3 => qo _ r1 rfl _ H3 (x1.trans (Exr.of (e2.trans e3))) (hR1.go (e2.trans e3)) l1 ?_
      exact .tup h3 (.cons (.str _) (.cons (Td.tx (Tx.of (e2.trans e3)) _ _ hpv) (.cons (.str _) (.cons (.str _) .nil))))
    · have hne : ¬ wordH r1 ≠ [40] := by simpa using hb
      rw [if_neg hne] at qe qo
      have x2 := x1.trans (Exr.of e2)
      refine ⟨_, rfl, _, rfl, _, rfl, ?_⟩
      refine g_call (ea_cons (ev_var rfl) (ea_cons (ev_var rfl) ea_nil)) hw (hR1.go e2) ⟨fun e he => (qe e (by rw [he])).go x2, fun d r2 h2 v2 H3 x3 hR3 l3 hv2 => ?_⟩
      rw [h2] at qe qo
      dsimp only at qe qo
      refine ⟨sz_of (by show 5 ≤ 100000; decide), fun pt hpt => ?_⟩
      have en := Ex.new (o := HO.tup [.str (Str.ofString "call"), pv, .str (S file), .str (S name), v2]) hpt
      refine qo _ r2 rfl _ _ ((x2.trans x3).trans (Exr.of en)) (hR3.go en) (by omega) ?_
      rw [show (Str.ofString "call") = S oCall from lit_call] at en ⊢
      exact .tup upd_same (.cons (.str _) (.cons (Td.tx (((Tx.of e2).trans ((hR1.go e2).tx x3)).trans (Tx.of en)) _ _ hpv) (.cons (.str _) (.cons (.str _) (.cons (Td.tx (Tx.of en) _ _ hv2) .nil)))))
/-! ### read_single -/
abbrev s_read_single : Stmt := topS 13
theorem sc_read_single : FnScope ["row", "depth", "word", "place"] ["row", "depth"] (fnScope s_read_single) := fnScope_by (by decide +kernel)
theorem ok_read_single (T : ModsE mg) (M : RowM P w K mg base C CF) {n k : Nat} (hk : 10 ≤ k) (c_read_named : CalX P w K mg base (k + 2) "read_named" (spE CF C namedP n)) (c_read_bracket : CalX P w K mg base (k + 1) "read_bracket" (spE CF C bracketP n)) {f : Addr} {fd : FuncData} (F : Def K mg "read_single" s_read_single f fd) (b : Binds K fd ["row", "depth"] []) :
    CalX P w K mg base (k + 3) "read_single" (spE CF C singleP n) := by
  refine calX F b sc_read_single (fun vs H Q E h => ?_) (fun cdv A outer s H vs Q E hr h => ?_)
  · obtain ⟨_, _, _, rfl, _⟩ := h
    rfl
  · obtain ⟨r, ws, rest, rfl, hw, hR, qe, qo⟩ := h
    have tk := tk_cx (P := P) (w := w) (K := K) (mg := mg) (base := base) (N := ["row", "depth", "word", "place"]) (q := "read_single") (sc := fnScope s_read_single) (f := f) (cdv := cdv) (A := A) (outer := outer) (s := s) (H := H) (E := E)
    have m_int := T.m_int
    have c_Row_kind := M.kind
    have c_Row_take := M.take
    have c_Row_word := M.word
    refine ⟨_, (pss_cons (ps_if (pt_cmpR op_eq (C8.pe_mt0 c_Row_kind hr (by first | decide | exact Nat.le_refl _ | omega) (pv 0)) pe_str (nomark _)) (pss_cons (ps_asg (C8.pe_mt0 c_Row_take hr (by first | decide | exact Nat.le_refl _ | omega) (pv 0)) (pg_tup rfl (pgs_cons (pg_name (i := 2) sc_read_single.nd rfl (.inl rfl)) (pgs_cons (pg_name (i := 3) sc_read_single.nd rfl (.inl rfl)) pgs_nil))))
      (pss_one (ps_ret (pe_tup (pa_cons pe_str (pa_cons (pv 3) (pa_cons (pe_callTy call_int_str (by rfl) m_int Wt.bt_int (pa_cons (pv 2) pa_nil)) pa_nil))))))) pss_nil)
      (pss_cons (ps_if (pt_cmpR op_eq (C8.pe_mt0 c_Row_kind hr (by first | decide | exact Nat.le_refl _ | omega) (pv 0)) pe_str (nomark _)) (pss_one (ps_ret (Wt.pe_cE c_read_named tk hr (by first | decide | exact Nat.le_refl _ | omega) (by rfl) (pa_cons (pv 0) (pa_cons (pv 1) pa_nil))))) pss_nil)
      (pss_cons (ps_if (pt_cmpR op_in_seq (C8.pe_mt0 c_Row_word hr (by first | decide | exact Nat.le_refl _ | omega) (pv 0)) (pe_tup (pa_cons pe_str (pa_cons pe_str pa_nil))) (by with_unfolding_all rfl)) (pss_cons (ps_asg (C8.pe_mt0 c_Row_take hr (by first | decide | exact Nat.le_refl _ | omega) (pv 0)) (pg_tup rfl (pgs_cons (pg_name (i := 2) sc_read_single.nd rfl (.inl rfl)) (pgs_cons (pg_name (i := 3) sc_read_single.nd rfl (.inl rfl)) pgs_nil))))
      (pss_one (ps_ret (pe_tup (pa_cons pe_str (pa_cons (pv 3) (pa_cons (pe_cmpR op_eq (pv 2) pe_str (nomark _)) pa_nil))))))) pss_nil)
      (pss_one (ps_ret (Wt.pe_cE c_read_bracket tk hr (by first | decide | exact Nat.le_refl _ | omega) (by rfl) (pa_cons (pv 0) (pa_cons (pv 1) pa_nil)))))))), ?_⟩
    unfold singleP at qe qo
    dsimp only at qe qo
    refine q_when (et_test (ev_eqS (ev_look (m := "kind") hw hR (ev_var rfl) (by decide +kernel) (by decide +kernel)) (ev_is ev_c (congrArg V.str lit_knum)))) (fun hb H1 e1 => ?_) (fun hb H1 e1 => ?_)
    · have hk1 : kindH rest = kNum := of_decide_eq_true hb
      cases rest with
      | nil => exact absurd hk1 (by decide)
      | cons t r2 =>
        have hk2 : t.1 = kNum := hk1
        dsimp only at qe qo
        rw [if_pos hk2] at qo
        obtain ⟨_, _, _, _, _, _, _, _, _, _, _, _, _, _, hmem, _⟩ := hR.head
        obtain ⟨hlen, hnum⟩ := hw.ok t hmem
        obtain ⟨hne, hall⟩ := hnum hk2
        refine g_take (ev_var rfl) (hR.go e1) fun p H2 pv x2 hR2 hp hpv => ?_
        refine ⟨p, _, rfl, st_of hp, rfl, _, _, rfl, _, _, rfl, rfl, ?_⟩
        dsimp only
        refine s_retU (eu_tup (vs := [.str (S kNum), pv, .int ((NumText.digitsVal t.2.1 : Nat) : Int)]) (ea_cons (ev_is ev_c (congrArg V.str lit_knum)) (ea_cons (ev_var rfl) (ea_cons (ev_cb (ea_cons (ev_var rfl) ea_nil) fun H1 _ Q q => ⟨S t.2.1, _, rfl, int_S hall hne (by omega), by rw [S_len]; omega, q H1 (Ex.refl H1)⟩) ea_nil))) (by show 3 ≤ 100000; decide)) fun p3 H3 hp3 e3 h3 => qo _ r2 rfl _ H3 (((Exr.of e1).trans x2).trans (Exr.of e3)) (hR2.go e3) (Nat.le_succ _) ?_
        exact .tup h3 (.cons (.str _) (.cons (Td.tx (Tx.of e3) _ _ hpv) (.cons (.int _) .nil)))
    · have hk1 : kindH rest ≠ kNum := of_decide_eq_false hb
      refine q_when (et_test (ev_eqS (ev_look (m := "kind") hw (hR.go e1) (ev_var rfl) (by decide +kernel) (by decide +kernel)) (ev_is ev_c (congrArg V.str lit_kname)))) (fun hb2 H2 e2 => ?_) (fun hb2 H2 e2 => ?_)
      · have hk2 : kindH rest = kName := of_decide_eq_true hb2
        have e12 := e1.trans e2
        refine g_call (ea_cons (ev_var rfl) (ea_cons (ev_var rfl) ea_nil)) hw (hR.go e12) (GoP.go (H := H) ?_ (Exr.of e12))
        cases rest with
        | nil => exact absurd hk2 (by decide)
        | cons t r2 =>
          dsimp only at qe qo
          rw [if_neg (show ¬ t.1 = kNum from hk1), if_pos (show t.1 = kName from hk2)] at qe qo
          exact ⟨qe, qo⟩
      · have hk2 : kindH rest ≠ kName := of_decide_eq_false hb2
        have e12 := e1.trans e2
        refine q_when (et_test (ev_inUs (ws := [oYes, oNo]) (ev_look (m := "word") hw (hR.go e12) (ev_var rfl) (by decide +kernel) (by decide +kernel)) (eu_tup (ea_cons ev_c (ea_cons ev_c ea_nil)) (by show 2 ≤ 100000; decide)) (by decide +kernel))) (fun hb3 H3 e3 => ?_) (fun hb3 H3 e3 => ?_)
        · have hin : wordH rest ∈ [oYes, oNo] := of_decide_eq_true hb3
          cases rest with
          | nil => exact absurd hin (by decide)
          | cons t r2 =>
            have hin0 : t.2.1 ∈ [oYes, oNo] := hin
            have hin2 : t.2.1 = oYes ∨ t.2.1 = oNo := by simpa using hin0
            dsimp only at qe qo
            rw [if_neg (show ¬ t.1 = kNum from hk1), if_neg (show ¬ t.1 = kName from hk2), if_pos hin2] at qo
            have e13 := e12.trans e3
            refine g_take (ev_var rfl) (hR.go e13) fun p H4 pv x4 hR4 hp hpv => ?_
            refine ⟨p, _, rfl, st_of hp, rfl, _, _, rfl, _, _, rfl, rfl, ?_⟩
            dsimp only
            refine s_retU (eu_tup (ea_cons (ev_is ev_c (congrArg V.str lit_truth)) (ea_cons (ev_var rfl) (ea_cons (ev_eqS (ev_var rfl) (ev_is ev_c (congrArg V.str lit_yes))) ea_nil))) (by show 3 ≤ 100000; decide)) fun p3 H5 hp3 e5 h5 => qo _ r2 rfl _ H5 (((Exr.of e13).trans x4).trans (Exr.of e5)) (hR4.go e5) (Nat.le_succ _) ?_
            exact .tup h5 (.cons (.str _) (.cons (Td.tx (Tx.of e5) _ _ hpv) (.cons (.bl _) .nil)))
        · have hin : wordH rest ∉ [oYes, oNo] := of_decide_eq_false hb3
          have e13 := e12.trans e3
          refine g_call (ea_cons (ev_var rfl) (ea_cons (ev_var rfl) ea_nil)) hw (hR.go e13) (GoP.go (H := H) ?_ (Exr.of e13))
          cases rest with
          | nil => exact ⟨qe, qo⟩
          | cons t r2 =>
            have hin0 : t.2.1 ∉ [oYes, oNo] := hin
            have hin2 : ¬ (t.2.1 = oYes ∨ t.2.1 = oNo) := by
              simpa using hin0
            dsimp only at qe qo
            rw [if_neg (show ¬ t.1 = kNum from hk1), if_neg (show ¬ t.1 = kName from hk2), if_neg hin2] at qe qo
            exact ⟨qe, qo⟩
/-! ### read_negated, read_denied -/
abbrev s_read_negated : Stmt := topS 12
theorem sc_read_negated : FnScope ["row", "depth", "inner", "place"] ["row", "depth"] (fnScope s_read_negated) := fnScope_by (by decide +kernel)
theorem ok_read_negated (M : RowM P w K mg base C CF) {n k : Nat} (hn : n ≤ 8) (hk : 10 ≤ k) (L : Low P w K mg base C CF k n) (c_within : CalX P w K mg base 4 "within" (spWithin CF C n)) (c_read_single : CalX P w K mg base (k + 3) "read_single" (spE CF C singleP n))
    {f : Addr} {fd : FuncData} (F : Def K mg "read_negated" s_read_negated f fd) (b : Binds K fd ["row", "depth"] []) : CalX P w K mg base (k + 4) "read_negated" (spE CF C negP n) := by
  refine calX F b sc_read_negated (fun vs H Q E h => ?_) (fun cdv A outer s H vs Q E hr h => ?_)
  · obtain ⟨_, _, _, rfl, _⟩ := h
    rfl
  · obtain ⟨r, ws, rest, rfl, hw, hR, qe, qo⟩ := h
    have tk := tk_cx (P := P) (w := w) (K := K) (mg := mg) (base := base) (N := ["row", "depth", "inner", "place"]) (q := "read_negated") (sc := fnScope s_read_negated) (f := f) (cdv := cdv) (A := A) (outer := outer) (s := s) (H := H) (E := E)
    have c_Row_word := M.word
    have c_Row_need := M.need
    have c_read_negated := L.neg
    refine ⟨_, (pss_cons (ps_if (pt_cmpR op_ne (C8.pe_mt0 c_Row_word hr (by first | decide | exact Nat.le_refl _ | omega) (pv 0)) pe_str (nomark _)) (pss_one (ps_ret (Wt.pe_cE c_read_single tk hr (by first | decide | exact Nat.le_refl _ | omega) (by rfl) (pa_cons (pv 0) (pa_cons (pv 1) pa_nil))))) pss_nil)
      (pss_cons (ps_set (i := 2) sc_read_negated.nd rfl (.inl rfl) (Wt.pe_cE c_within tk hr (by first | decide | exact Nat.le_refl _ | omega) (by rfl) (pa_cons (pv 0) (pa_cons (pv 1) pa_nil))))
      (pss_cons (ps_set (i := 3) sc_read_negated.nd rfl (.inl rfl) (Wt.pe_mtX c_Row_need tk hr (by first | decide | exact Nat.le_refl _ | omega) (pv 0) (pa_cons pe_str pa_nil)))
      (pss_one (ps_ret (pe_tup (pa_cons pe_str (pa_cons (pv 3) (pa_cons (Wt.pe_cE c_read_negated tk hr (by first | decide | exact Nat.le_refl _ | omega) (by rfl) (pa_cons (pv 0) (pa_cons (pv 2) pa_nil))) pa_nil))))))))), ?_⟩
    unfold negP at qe qo
    dsimp only at qe qo
    refine q_when (et_test (ev_neS (ev_look (m := "word") hw hR (ev_var rfl) (by decide +kernel) (by decide +kernel)) (ev_is ev_c (congrArg V.str lit_minus)))) (fun hb H1 e1 => ?_) (fun hb H1 e1 => ?_)
    · have hne : wordH rest ≠ [45] := by simpa using hb
      rw [if_pos hne] at qe qo
      exact g_call (ea_cons (ev_var rfl) (ea_cons (ev_var rfl) ea_nil)) hw (hR.go e1) (GoP.go (H := H) ⟨qe, qo⟩ (Exr.of e1))
    · have hne : ¬ wordH rest ≠ [45] := by simpa using hb
      rw [if_neg hne] at qe qo
      refine g_within (ea_cons (ev_var rfl) (ea_cons (ev_var rfl) ea_nil)) hn hw (hR.go e1) (fun z => by subst z; exact (qe _ rfl).go (Exr.of e1)) (fun m hm H2 e2 => ?_)
      subst hm
      rw [lowS] at qe qo
      dsimp only at qe qo
      have x1 : Exr r H H2 := Exr.of (e1.trans e2)
      refine g_need (by decide) (ev_var rfl) (ea_cons (ev_is ev_c (congrArg V.str lit_minus)) ea_nil) hw (hR.go (e1.trans e2)) ⟨fun e he => (qe e (by rw [he])).go x1, fun pl r1 h1 v1 H3 x3 hR3 l3 hv1 => ?_⟩
      rw [h1] at qe qo
      dsimp only at qe qo
      have x3' := x1.trans x3
      refine ⟨_, rfl, ?_⟩
      refine g_low rfl (ea_cons (ev_var rfl) (ea_cons (ev_var rfl) ea_nil)) hw hR3 ⟨fun e he => (qe e (by rw [he])).go x3', fun d r2 h2 v2 H4 x4 hR4 l4 hv2 => ?_⟩
      rw [h2] at qe qo
      dsimp only at qe qo
      refine ⟨sz_of (by show 3 ≤ 100000; decide), fun pt hpt => ?_⟩
      have en := Ex.new (o := HO.tup [.str (Str.ofString "neg"), v1, v2]) hpt
      refine qo _ r2 rfl _ _ ((x3'.trans x4).trans (Exr.of en)) (hR4.go en) (by omega) ?_
      rw [show (Str.ofString "neg") = S oNeg from lit_neg] at en ⊢
      exact .tup upd_same (.cons (.str _) (.cons (Td.tx ((hR3.tx x4).trans (Tx.of en)) _ _ hv1) (.cons (Td.tx (Tx.of en) _ _ hv2) .nil)))
abbrev s_read_denied : Stmt := topS 8
theorem sc_read_denied : FnScope ["row", "depth", "inner", "place"] ["row", "depth"] (fnScope s_read_denied) := fnScope_by (by decide +kernel)
theorem ok_read_denied (M : RowM P w K mg base C CF) {n k : Nat} (hn : n ≤ 8) (hk : 10 ≤ k) (L : Low P w K mg base C CF k n) (c_within : CalX P w K mg base 4 "within" (spWithin CF C n)) (c_read_compared : CalX P w K mg base (k + 9) "read_compared" (spE CF C cmpP n))
    {f : Addr} {fd : FuncData} (F : Def K mg "read_denied" s_read_denied f fd) (b : Binds K fd ["row", "depth"] []) : CalX P w K mg base (k + 10) "read_denied" (spE CF C denP n) := by
  refine calX F b sc_read_denied (fun vs H Q E h => ?_) (fun cdv A outer s H vs Q E hr h => ?_)
  · obtain ⟨_, _, _, rfl, _⟩ := h
    rfl
  · obtain ⟨r, ws, rest, rfl, hw, hR, qe, qo⟩ := h
    have tk := tk_cx (P := P) (w := w) (K := K) (mg := mg) (base := base) (N := ["row", "depth", "inner", "place"]) (q := "read_denied") (sc := fnScope s_read_denied) (f := f) (cdv := cdv) (A := A) (outer := outer) (s := s) (H := H) (E := E)
    have c_Row_word := M.word
    have c_Row_need := M.need
    have c_read_denied := L.den
    refine ⟨_, (pss_cons (ps_if (pt_cmpR op_ne (C8.pe_mt0 c_Row_word hr (by first | decide | exact Nat.le_refl _ | omega) (pv 0)) pe_str (nomark _)) (pss_one (ps_ret (Wt.pe_cE c_read_compared tk hr (by first | decide | exact Nat.le_refl _ | omega) (by rfl) (pa_cons (pv 0) (pa_cons (pv 1) pa_nil))))) pss_nil)
      (pss_cons (ps_set (i := 2) sc_read_denied.nd rfl (.inl rfl) (Wt.pe_cE c_within tk hr (by first | decide | exact Nat.le_refl _ | omega) (by rfl) (pa_cons (pv 0) (pa_cons (pv 1) pa_nil))))
      (pss_cons (ps_set (i := 3) sc_read_denied.nd rfl (.inl rfl) (Wt.pe_mtX c_Row_need tk hr (by first | decide | exact Nat.le_refl _ | omega) (pv 0) (pa_cons pe_str pa_nil)))
      (pss_one (ps_ret (pe_tup (pa_cons pe_str (pa_cons (pv 3) (pa_cons (Wt.pe_cE c_read_denied tk hr (by first | decide | exact Nat.le_refl _ | omega) (by rfl) (pa_cons (pv 0) (pa_cons (pv 2) pa_nil))) pa_nil))))))))), ?_⟩
    unfold denP at qe qo
    dsimp only at qe qo
    refine q_when (et_test (ev_neS (ev_look (m := "word") hw hR (ev_var rfl) (by decide +kernel) (by decide +kernel)) (ev_is ev_c (congrArg V.str lit_not)))) (fun hb H1 e1 => ?_) (fun hb H1 e1 => ?_)
    · have hne : wordH rest ≠ oNot := by simpa using hb
      rw [if_pos hne] at qe qo
      exact g_call (ea_cons (ev_var rfl) (ea_cons (ev_var rfl) ea_nil)) hw (hR.go e1) (GoP.go (H := H) ⟨qe, qo⟩ (Exr.of e1))
    · have hne : ¬ wordH rest ≠ oNot := by simpa using hb
      rw [if_neg hne] at qe qo
      refine g_within (ea_cons (ev_var rfl) (ea_cons (ev_var rfl) ea_nil)) hn hw (hR.go e1) (fun z => by subst z; exact (qe _ rfl).go (Exr.of e1)) (fun m hm H2 e2 => ?_)
      subst hm
      rw [lowS] at qe qo
      dsimp only at qe qo
      have x1 : Exr r H H2 := Exr.of (e1.trans e2)
      refine g_need (by decide) (ev_var rfl) (ea_cons (ev_is ev_c (congrArg V.str lit_not)) ea_nil) hw (hR.go (e1.trans e2)) ⟨fun e he => (qe e (by rw [he])).go x1, fun pl r1 h1 v1 H3 x3 hR3 l3 hv1 => ?_⟩
      rw [h1] at qe qo
      dsimp only at qe qo
      have x3' := x1.trans x3
      refine ⟨_, rfl, ?_⟩
      refine g_low rfl (ea_cons (ev_var rfl) (ea_cons (ev_var rfl) ea_nil)) hw hR3 ⟨fun e he => (qe e (by rw [he])).go x3', fun d r2 h2 v2 H4 x4 hR4 l4 hv2 => ?_⟩
      rw [h2] at qe qo
      dsimp only at qe qo
      refine ⟨sz_of (by show 3 ≤ 100000; decide), fun pt hpt => ?_⟩
      have en := Ex.new (o := HO.tup [.str (Str.ofString "not"), v1, v2]) hpt
      refine qo _ r2 rfl _ _ ((x3'.trans x4).trans (Exr.of en)) (hR4.go en) (by omega) ?_
      rw [show (Str.ofString "not") = S oNot from lit_not] at en ⊢
      exact .tup upd_same (.cons (.str _) (.cons (Td.tx ((hR3.tx x4).trans (Tx.of en)) _ _ hv1) (.cons (Td.tx (Tx.of en) _ _ hv2) .nil)))
/-! ### read_compared -/
abbrev s_read_compared : Stmt := topS 9
theorem sc_read_compared : FnScope ["row", "depth", "first", "sign", "place"] ["row", "depth"] (fnScope s_read_compared) := fnScope_by (by decide +kernel)
theorem lit_cmp : [V.str (Str.ofString "="), V.str (Str.ofString "<>"), V.str (Str.ofString "<"), V.str (Str.ofString "<=")] = sCmp.map fun z => V.str (S z) := by decide +kernel
theorem ok_read_compared (M : RowM P w K mg base C CF) {n k : Nat} (hk : 10 ≤ k) (c_read_sum : CalX P w K mg base (k + 8) "read_sum" (spE CF C sumP n)) {f : Addr} {fd : FuncData} (F : Def K mg "read_compared" s_read_compared f fd) (b : Binds K fd ["row", "depth"] []) : CalX P w K mg base (k + 9) "read_compared" (spE CF C cmpP n) := by
  refine calX F b sc_read_compared (fun vs H Q E h => ?_) (fun cdv A outer s H vs Q E hr h => ?_)
  · obtain ⟨_, _, _, rfl, _⟩ := h
    rfl
  · obtain ⟨r, ws, rest, rfl, hw, hR, qe, qo⟩ := h
    have tk := tk_cx (P := P) (w := w) (K := K) (mg := mg) (base := base) (N := ["row", "depth", "first", "sign", "place"]) (q := "read_compared") (sc := fnScope s_read_compared) (f := f) (cdv := cdv) (A := A) (outer := outer) (s := s) (H := H) (E := E)
    have c_Row_word := M.word
    have c_Row_take := M.take
    refine ⟨_, (pss_cons (ps_set (i := 2) sc_read_compared.nd rfl (.inl rfl) (Wt.pe_cE c_read_sum tk hr (by first | decide | exact Nat.le_refl _ | omega) (by rfl) (pa_cons (pv 0) (pa_cons (pv 1) pa_nil))))
      (pss_cons (ps_if (pt_cmpR op_notIn_seq (C8.pe_mt0 c_Row_word hr (by first | decide | exact Nat.le_refl _ | omega) (pv 0)) (pe_tup (pa_cons pe_str (pa_cons pe_str (pa_cons pe_str (pa_cons pe_str pa_nil))))) (by with_unfolding_all rfl)) (pss_one (ps_ret (pv 2))) pss_nil)
      (pss_cons (ps_asg (C8.pe_mt0 c_Row_take hr (by first | decide | exact Nat.le_refl _ | omega) (pv 0)) (pg_tup rfl (pgs_cons (pg_name (i := 3) sc_read_compared.nd rfl (.inl rfl)) (pgs_cons (pg_name (i := 4) sc_read_compared.nd rfl (.inl rfl)) pgs_nil))))
      (pss_one (ps_ret (pe_tup (pa_cons (pv 3) (pa_cons (pv 4) (pa_cons (pv 2) (pa_cons (Wt.pe_cE c_read_sum tk hr (by first | decide | exact Nat.le_refl _ | omega) (by rfl) (pa_cons (pv 0) (pa_cons (pv 1) pa_nil))) pa_nil)))))))))), ?_⟩
    unfold cmpP at qe qo
    dsimp only at qe qo
    refine g_call (ea_cons (ev_var rfl) (ea_cons (ev_var rfl) ea_nil)) hw hR ⟨fun e he => qe e (by rw [he]), fun d r1 h1 v1 H1 x1 hR1 l1 hv1 => ?_⟩
    rw [h1] at qe qo
    dsimp only [gName]
    refine q_when (b := !decide (wordH r1 ∈ sCmp)) ?hh (fun hb H2 e2 => ?_) (fun hb H2 e2 => ?_)
    case hh =>
      refine et_test (ev_is (ev_opU (ev_look (m := "word") hw hR1 (ev_var rfl) (by decide +kernel) (by decide +kernel)) (eu_tup (ea_cons ev_c (ea_cons ev_c (ea_cons ev_c (ea_cons ev_c ea_nil)))) (by show 4 ≤ 100000; decide)) fun p H1 h _ => rv_niT (st_of h) rfl (by rw [lit_cmp]; exact flat_S sCmp)) ?_)
      rw [lit_cmp, inV_S]
    · have hne : wordH r1 ∉ sCmp := by simpa using hb
      refine s_ret (ev_var rfl) fun H3 e3 => ?_
      refine qo d r1 ?_ v1 H3 (x1.trans (Exr.of (e2.trans e3))) (hR1.go (e2.trans e3)) l1 (Td.tx (Tx.of (e2.trans e3)) _ _ hv1)
      cases r1 with
      | nil => rfl
      | cons t r2 => exact if_neg hne
    · have hin : wordH r1 ∈ sCmp := by simpa using hb
      cases r1 with
      | nil => exact absurd hin (by decide)
      | cons t r2 =>
        dsimp only at qe qo
        rw [if_pos (show t.2.1 ∈ sCmp from hin)] at qe qo
        have x2 := x1.trans (Exr.of e2)
        refine g_take (ev_var rfl) (hR1.go e2) fun p H3 pv x3 hR3 hp hpv => ?_
        refine ⟨p, _, rfl, st_of hp, rfl, _, _, rfl, _, _, rfl, rfl, ?_⟩
        have x3' := x2.trans x3
        have hv3 := Td.tx ((hR1.go e2).tx x3) _ _ (Td.tx (Tx.of e2) _ _ hv1)
        refine ⟨_, rfl, _, rfl, _, rfl, ?_⟩
        refine g_call (ea_cons (ev_var rfl) (ea_cons (ev_var rfl) ea_nil)) hw hR3 ⟨fun e he => (qe e (by rw [he])).go x3', fun u r3 h3 v3 H4 x4 hR4 l4 hv4 => ?_⟩
        rw [h3] at qe qo
        dsimp only at qe qo
        refine ⟨sz_of (by show 4 ≤ 100000; decide), fun pt hpt => ?_⟩
        have en := Ex.new (o := HO.tup [.str (S t.2.1), pv, v1, v3]) hpt
        refine qo _ r3 rfl _ _ ((x3'.trans x4).trans (Exr.of en)) (hR4.go en) (by rw [List.length_cons] at l1; omega) ?_
        have tx := (hR3.tx x4).trans (Tx.of en)
        exact .tup upd_same (.cons (.str _) (.cons (Td.tx tx _ _ hpv) (.cons (Td.tx tx _ _ hv3) (.cons (Td.tx (Tx.of en) _ _ hv4) .nil))))
end
end Wt

set_option Elab.async false
set_option linter.all false
set_option maxRecDepth 100000
set_option maxHeartbeats 4000000
namespace Wt
open PySem PySem.Spec PyProof.Rows L2 SX Evl
open C8 (Def Cal Met cal0 met0 fnScope_by fnScope)
/-! Expressions that are read: all levels. -/
theorem lit_sum : [V.str (Str.ofString "+"), V.str (Str.ofString "-")] = sSum.map fun z => V.str (S z) := by decide +kernel
theorem lit_prod : [V.str (Str.ofString "*"), V.str (Str.ofString "/"), V.str (Str.ofString "mod")] = sProd.map fun z => V.str (S z) := by decide +kernel
theorem lit_and : [V.str (Str.ofString "and")] = [oAnd].map fun z => V.str (S z) := by decide +kernel
theorem lit_or : [V.str (Str.ofString "or")] = [oOr].map fun z => V.str (S z) := by decide +kernel
section
variable {P : Program} {w : World} {K : PySem.W.Frag} {mg : Str → Option Value} {base : Heap} {C CF : Addr}
abbrev s_read_product : Stmt := topS 11
theorem sc_read_product : FnScope ["row", "depth"] ["row", "depth"] (fnScope s_read_product) := fnScope_by (by decide +kernel)
theorem ok_read_product (M : RowM P w K mg base C CF) {n k : Nat} (hk : 10 ≤ k) (ct : CalX P w K mg base (k + 4) "read_negated" (spE CF C negP n)) {fl : Addr} {fdl : FuncData} (Dl : Def K mg "from_left" s_from_left fl fdl) (bl : Binds K fdl ["row", "depth", "signs", "read_tighter"] [])
    {f : Addr} {fd : FuncData} (F : Def K mg "read_product" s_read_product f fd) (b : Binds K fd ["row", "depth"] []) : CalX P w K mg base (k + 6) "read_product" (spE CF C prodP n) := by
  obtain ⟨ft, fdt, pst, Ft, hm, kp, bt⟩ := ct.ex
  have c_from_left := ok_from_left M (kt := k + 4) (by omega) (sg := sProd) (by decide) (dep := depV n) Ft kp bt Dl bl
  have g_read_negated : ∃ u, mg "read_negated" = some u ∧ RelV (.ref ft) u := ⟨_, hm, rfl⟩
  refine calX F b sc_read_product (fun vs H Q E h => ?_) (fun cdv A outer s H vs Q E hr h => ?_)
  · obtain ⟨_, _, _, rfl, _⟩ := h
    rfl
  · obtain ⟨r, ws, rest, rfl, hw, hR, qe, qo⟩ := h
    have tk := tk_cx (P := P) (w := w) (K := K) (mg := mg) (base := base) (N := ["row", "depth"]) (q := "read_product") (sc := fnScope s_read_product) (f := f) (cdv := cdv) (A := A) (outer := outer) (s := s) (H := H) (E := E)
    refine ⟨_, (pss_one (ps_ret (Wt.pe_cE c_from_left tk hr (by first | decide | exact Nat.le_refl _ | omega) (by rfl) (pa_cons (pv 0) (pa_cons (pv 1) (pa_cons (pe_tup (pa_cons pe_str (pa_cons pe_str (pa_cons pe_str pa_nil)))) (pa_cons (C8.pe_gc (by rfl) g_read_negated) pa_nil))))))), ?_⟩
    unfold prodP at qe qo
    exact ret_left rfl rfl (ea_cons ev_c (ea_cons ev_c (ea_cons ev_c (ea_nil)))) lit_prod (by show 3 ≤ 100; decide) hw hR ⟨qe, qo⟩
abbrev s_read_sum : Stmt := topS 10
theorem sc_read_sum : FnScope ["row", "depth"] ["row", "depth"] (fnScope s_read_sum) := fnScope_by (by decide +kernel)
theorem ok_read_sum (M : RowM P w K mg base C CF) {n k : Nat} (hk : 10 ≤ k) (ct : CalX P w K mg base (k + 6) "read_product" (spE CF C prodP n)) {fl : Addr} {fdl : FuncData} (Dl : Def K mg "from_left" s_from_left fl fdl) (bl : Binds K fdl ["row", "depth", "signs", "read_tighter"] [])
    {f : Addr} {fd : FuncData} (F : Def K mg "read_sum" s_read_sum f fd) (b : Binds K fd ["row", "depth"] []) : CalX P w K mg base (k + 8) "read_sum" (spE CF C sumP n) := by
  obtain ⟨ft, fdt, pst, Ft, hm, kp, bt⟩ := ct.ex
  have c_from_left := ok_from_left M (kt := k + 6) (by omega) (sg := sSum) (by decide) (dep := depV n) Ft kp bt Dl bl
  have g_read_product : ∃ u, mg "read_product" = some u ∧ RelV (.ref ft) u := ⟨_, hm, rfl⟩
  refine calX F b sc_read_sum (fun vs H Q E h => ?_) (fun cdv A outer s H vs Q E hr h => ?_)
  · obtain ⟨_, _, _, rfl, _⟩ := h
    rfl
  · obtain ⟨r, ws, rest, rfl, hw, hR, qe, qo⟩ := h
    have tk := tk_cx (P := P) (w := w) (K := K) (mg := mg) (base := base) (N := ["row", "depth"]) (q := "read_sum") (sc := fnScope s_read_sum) (f := f) (cdv := cdv) (A := A) (outer := outer) (s := s) (H := H) (E := E)
    refine ⟨_, (pss_one (ps_ret (Wt.pe_cE c_from_left tk hr (by first | decide | exact Nat.le_refl _ | omega) (by rfl) (pa_cons (pv 0) (pa_cons (pv 1) (pa_cons (pe_tup (pa_cons pe_str (pa_cons pe_str pa_nil))) (pa_cons (C8.pe_gc (by rfl) g_read_product) pa_nil))))))), ?_⟩
    unfold sumP at qe qo
    exact ret_left rfl rfl (ea_cons ev_c (ea_cons ev_c (ea_nil))) lit_sum (by show 2 ≤ 100; decide) hw hR ⟨qe, qo⟩
abbrev s_read_both : Stmt := topS 7
theorem sc_read_both : FnScope ["row", "depth"] ["row", "depth"] (fnScope s_read_both) := fnScope_by (by decide +kernel)
theorem ok_read_both (M : RowM P w K mg base C CF) {n k : Nat} (hk : 10 ≤ k) (ct : CalX P w K mg base (k + 10) "read_denied" (spE CF C denP n)) {fl : Addr} {fdl : FuncData} (Dl : Def K mg "from_left" s_from_left fl fdl) (bl : Binds K fdl ["row", "depth", "signs", "read_tighter"] [])
    {f : Addr} {fd : FuncData} (F : Def K mg "read_both" s_read_both f fd) (b : Binds K fd ["row", "depth"] []) : CalX P w K mg base (k + 12) "read_both" (spE CF C bothP n) := by
  obtain ⟨ft, fdt, pst, Ft, hm, kp, bt⟩ := ct.ex
  have c_from_left := ok_from_left M (kt := k + 10) (by omega) (sg := [oAnd]) (by decide) (dep := depV n) Ft kp bt Dl bl
  have g_read_denied : ∃ u, mg "read_denied" = some u ∧ RelV (.ref ft) u := ⟨_, hm, rfl⟩
  refine calX F b sc_read_both (fun vs H Q E h => ?_) (fun cdv A outer s H vs Q E hr h => ?_)
  · obtain ⟨_, _, _, rfl, _⟩ := h
    rfl
  · obtain ⟨r, ws, rest, rfl, hw, hR, qe, qo⟩ := h
    have tk := tk_cx (P := P) (w := w) (K := K) (mg := mg) (base := base) (N := ["row", "depth"]) (q := "read_both") (sc := fnScope s_read_both) (f := f) (cdv := cdv) (A := A) (outer := outer) (s := s) (H := H) (E := E)
    refine ⟨_, (pss_one (ps_ret (Wt.pe_cE c_from_left tk hr (by first | decide | exact Nat.le_refl _ | omega) (by rfl) (pa_cons (pv 0) (pa_cons (pv 1) (pa_cons (pe_tup (pa_cons pe_str pa_nil)) (pa_cons (C8.pe_gc (by rfl) g_read_denied) pa_nil))))))), ?_⟩
    unfold bothP at qe qo
    exact ret_left rfl rfl (ea_cons ev_c (ea_nil)) lit_and (by show 1 ≤ 100; decide) hw hR ⟨qe, qo⟩
abbrev s_read_expression : Stmt := topS 5
theorem sc_read_expression : FnScope ["row", "depth"] ["row", "depth"] (fnScope s_read_expression) := fnScope_by (by decide +kernel)
theorem ok_read_expression (M : RowM P w K mg base C CF) {n k : Nat} (hk : 10 ≤ k) (ct : CalX P w K mg base (k + 12) "read_both" (spE CF C bothP n)) {fl : Addr} {fdl : FuncData} (Dl : Def K mg "from_left" s_from_left fl fdl) (bl : Binds K fdl ["row", "depth", "signs", "read_tighter"] [])
    {f : Addr} {fd : FuncData} (F : Def K mg "read_expression" s_read_expression f fd) (b : Binds K fd ["row", "depth"] []) : CalX P w K mg base (k + 14) "read_expression" (spE CF C exprP n) := by
  obtain ⟨ft, fdt, pst, Ft, hm, kp, bt⟩ := ct.ex
  have c_from_left := ok_from_left M (kt := k + 12) (by omega) (sg := [oOr]) (by decide) (dep := depV n) Ft kp bt Dl bl
  have g_read_both : ∃ u, mg "read_both" = some u ∧ RelV (.ref ft) u := ⟨_, hm, rfl⟩
  refine calX F b sc_read_expression (fun vs H Q E h => ?_) (fun cdv A outer s H vs Q E hr h => ?_)
  · obtain ⟨_, _, _, rfl, _⟩ := h
    rfl
  · obtain ⟨r, ws, rest, rfl, hw, hR, qe, qo⟩ := h
    have tk := tk_cx (P := P) (w := w) (K := K) (mg := mg) (base := base) (N := ["row", "depth"]) (q := "read_expression") (sc := fnScope s_read_expression) (f := f) (cdv := cdv) (A := A) (outer := outer) (s := s) (H := H) (E := E)
    refine ⟨_, (pss_one (ps_ret (Wt.pe_cE c_from_left tk hr (by first | decide | exact Nat.le_refl _ | omega) (by rfl) (pa_cons (pv 0) (pa_cons (pv 1) (pa_cons (pe_tup (pa_cons pe_str pa_nil)) (pa_cons (C8.pe_gc (by rfl) g_read_both) pa_nil))))))), ?_⟩
    unfold exprP at qe qo
    exact ret_left rfl rfl (ea_cons ev_c (ea_nil)) lit_or (by show 1 ≤ 100; decide) hw hR ⟨qe, qo⟩
/-- the defs that read expressions, as they stand -/
structure ExpD (K : PySem.W.Frag) (mg : Str → Option Value) : Prop where
  within : ∃ f fd, Def K mg "within" s_within f fd ∧ Binds K fd ["row", "depth"] []
  from_left : ∃ f fd, Def K mg "from_left" s_from_left f fd ∧ Binds K fd ["row", "depth", "signs", "read_tighter"] []
  read_path : ∃ f fd, Def K mg "read_path" s_read_path f fd ∧ Binds K fd ["row"] []
  read_given : ∃ f fd, Def K mg "read_given" s_read_given f fd ∧ Binds K fd ["row", "depth"] []
  read_bracket : ∃ f fd, Def K mg "read_bracket" s_read_bracket f fd ∧ Binds K fd ["row", "depth"] []
  read_named : ∃ f fd, Def K mg "read_named" s_read_named f fd ∧ Binds K fd ["row", "depth"] []
  read_single : ∃ f fd, Def K mg "read_single" s_read_single f fd ∧ Binds K fd ["row", "depth"] []
  read_negated : ∃ f fd, Def K mg "read_negated" s_read_negated f fd ∧ Binds K fd ["row", "depth"] []
  read_product : ∃ f fd, Def K mg "read_product" s_read_product f fd ∧ Binds K fd ["row", "depth"] []
  read_sum : ∃ f fd, Def K mg "read_sum" s_read_sum f fd ∧ Binds K fd ["row", "depth"] []
  read_compared : ∃ f fd, Def K mg "read_compared" s_read_compared f fd ∧ Binds K fd ["row", "depth"] []
  read_denied : ∃ f fd, Def K mg "read_denied" s_read_denied f fd ∧ Binds K fd ["row", "depth"] []
  read_both : ∃ f fd, Def K mg "read_both" s_read_both f fd ∧ Binds K fd ["row", "depth"] []
  read_expression : ∃ f fd, Def K mg "read_expression" s_read_expression f fd ∧ Binds K fd ["row", "depth"] []
structure Lvl (P : Program) (w : World) (K : PySem.W.Frag) (mg : Str → Option Value) (base : Heap) (C CF : Addr) (k n : Nat) : Prop where
  expr : CalX P w K mg base k "read_expression" (spE CF C exprP n)
  den : CalX P w K mg base k "read_denied" (spE CF C denP n)
  neg : CalX P w K mg base k "read_negated" (spE CF C negP n)
  given : CalX P w K mg base k "read_given" (spE CF C givenP n)
theorem lvl_one (T : ModsE mg) (M : RowM P w K mg base C CF) (D : ExpD K mg) {n k : Nat} (hn : n ≤ 8) (hk : 10 ≤ k) (L : Low P w K mg base C CF k n) : Lvl P w K mg base C CF (k + 14) n := by
  obtain ⟨_, _, d1, b1⟩ := D.within
  obtain ⟨_, _, d2, b2⟩ := D.from_left
  obtain ⟨_, _, d3, b3⟩ := D.read_path
  obtain ⟨_, _, d4, b4⟩ := D.read_given
  obtain ⟨_, _, d5, b5⟩ := D.read_bracket
  obtain ⟨_, _, d6, b6⟩ := D.read_named
  obtain ⟨_, _, d7, b7⟩ := D.read_single
  obtain ⟨_, _, d8, b8⟩ := D.read_negated
  obtain ⟨_, _, d9, b9⟩ := D.read_product
  obtain ⟨_, _, d10, b10⟩ := D.read_sum
  obtain ⟨_, _, d11, b11⟩ := D.read_compared
  obtain ⟨_, _, d12, b12⟩ := D.read_denied
  obtain ⟨_, _, d13, b13⟩ := D.read_both
  obtain ⟨_, _, d14, b14⟩ := D.read_expression
  have c1 := ok_within T M n d1 b1
  have c3 := ok_read_path M d3 b3
  have c4 := ok_read_given T M hn hk L c1 d4 b4
  have c5 := ok_read_bracket M hn hk L c1 d5 b5
  have c6 := ok_read_named M hk c3 c4 d6 b6
  have c7 := ok_read_single T M hk c6 c5 d7 b7
  have c8 := ok_read_negated M hn hk L c1 c7 d8 b8
  have c9 := ok_read_product M hk c8 d2 b2 d9 b9
  have c10 := ok_read_sum M hk c9 d2 b2 d10 b10
  have c11 := ok_read_compared M hk c10 d11 b11
  have c12 := ok_read_denied M hn hk L c1 c11 d12 b12
  have c13 := ok_read_both M hk c12 d2 b2 d13 b13
  have c14 := ok_read_expression M hk c13 d2 b2 d14 b14
  exact ⟨c14, calX_up c12 (by omega), calX_up c8 (by omega), calX_up c4 (by omega)⟩
theorem lvl_all (T : ModsE mg) (M : RowM P w K mg base C CF) (D : ExpD K mg) : ∀ n, n ≤ 8 → Lvl P w K mg base C CF (10 + 14 * (n + 1)) n
  | 0, h => by
    obtain ⟨_, _, d12, b12⟩ := D.read_denied
    obtain ⟨_, _, d8, b8⟩ := D.read_negated
    obtain ⟨_, _, d14, b14⟩ := D.read_expression
    have no : ∀ (g : Place → Option Lev → RP PyData) vs H Q E, ¬ spB CF C g 0 vs H Q E := fun g vs H Q E ⟨m, hm, _⟩ => absurd hm.symm (Nat.succ_ne_zero m)
    exact lvl_one T M D h (k := 10) (Nat.le_refl _) ⟨calX_no d14 b14 (no exprP), calX_no d12 b12 (no denP), calX_no d8 b8 (no negP)⟩
  | n + 1, h => by
    have ih := lvl_all T M D n (by omega)
    have dn : ∀ (g : Place → Option Lev → RP PyData) vs H Q E, spB CF C g (n + 1) vs H Q E → spE CF C g n vs H Q E := fun g vs H Q E ⟨m, hm, q⟩ => by
      have e : n = m := Nat.succ.inj hm
      subst e
      exact q
    have := lvl_one T M D h (k := 10 + 14 * (n + 1)) (by omega) ⟨calX_imp ih.expr (dn exprP), calX_imp ih.den (dn denP), calX_imp ih.neg (dn negP)⟩
    rw [show 10 + 14 * (n + 1 + 1) = 10 + 14 * (n + 1) + 14 by omega]
    exact this
end
end Wt

set_option Elab.async false
set_option linter.all false
set_option maxRecDepth 100000
set_option maxHeartbeats 4000000
namespace Wt
open PySem PySem.Spec PyProof.Rows L2 SX Evl
open C8 (Def Cal Met Mak cal0 met0 mak0 fnScope_by fnScope)
section
variable {P : Program} {w : World} {K : PySem.W.Frag} {mg : Str → Option Value} {base : Heap} {C CF aK : Addr}
abbrev s_read_worth : Stmt := topS 38
theorem sc_read_worth : FnScope ["row", "worth"] ["row"] (fnScope s_read_worth) := fnScope_by (by decide +kernel)
theorem ok_read_worth (M : RowM P w K mg base C CF) {k : Nat} (hk : 10 ≤ k) (c_read_expression : CalX P w K mg base k "read_expression" (spE CF C exprP 8)) {f : Addr} {fd : FuncData} (F : Def K mg "read_worth" s_read_worth f fd) (b : Binds K fd ["row"] []) : CalX P w K mg base (k + 1) "read_worth" (spRowP CF C [] worthP vData) := by
  refine calX F b sc_read_worth (fun vs H Q E h => ?_) (fun cdv A outer s H vs Q E hr h => ?_)
  · obtain ⟨_, _, _, rfl, _⟩ := h
    rfl
  · obtain ⟨r, ws, rest, rfl, hw, hR, qe, qo⟩ := h
    have tk := tk_cx (P := P) (w := w) (K := K) (mg := mg) (base := base) (N := ["row", "worth"]) (q := "read_worth") (sc := fnScope s_read_worth) (f := f) (cdv := cdv) (A := A) (outer := outer) (s := s) (H := H) (E := E)
    have c_Row_finish := M.finish
    refine ⟨_, (pss_cons (ps_set (i := 1) sc_read_worth.nd rfl (.inl rfl) (Wt.pe_cE c_read_expression tk hr (by first | decide | exact Nat.le_refl _ | omega) (by rfl) (pa_cons (pv 0) (pa_cons pe_int pa_nil))))
      (pss_cons (ps_expr (Wt.pe_mtX0 c_Row_finish tk hr (by first | decide | exact Nat.le_refl _ | omega) (pv 0)))
      (pss_one (ps_ret (pv 1))))), ?_⟩
    unfold worthP at qe qo
    refine g_call (ea_cons (ev_var rfl) (ea_cons ev_c ea_nil)) hw hR ⟨fun e he => qe e (by rw [he]), fun d r1 h1 v1 H1 x1 hR1 l1 hv1 => ?_⟩
    rw [h1] at qe qo
    dsimp only at qe qo
    refine g_meth (m := "finish") (by decide +kernel) (by decide +kernel) (ev_var rfl) ea_nil hw hR1 ⟨fun e he => (qe e (by rw [he])).go x1, fun u r2 h2 v2 H2 x2 hR2 l2 hv2 => ?_⟩
    rw [h2] at qe qo
    dsimp only at qe qo
    exact s_ret (ev_var rfl) fun H3 e3 => qo d r2 rfl v1 H3 ((x1.trans x2).trans (Exr.of e3)) (hR2.go e3) (by omega) (Td.tx ((hR1.tx x2).trans (Tx.of e3)) _ _ hv1)
end
end Wt

set_option Elab.async false
set_option linter.all false
set_option maxRecDepth 100000
set_option maxHeartbeats 4000000
namespace Wt
open PySem PySem.Spec PyProof.Rows L2 SX Evl
open C8 (Def Cal Met Mak cal0 met0 mak0 fnScope_by fnScope)
/-! Rows out of a text. -/
structure ModsP (mg : Str → Option Value) : Prop where
  m_len : mg "len" = none
  g_MOST_WORDS : ∃ u, mg "MOST_WORDS" = some u ∧ RelV (.int 60) u
section
variable {P : Program} {w : World} {K : PySem.W.Frag} {mg : Str → Option Value} {base : Heap} {C CF : Addr}
/-! ### cut -/
abbrev s_cut : Stmt := topS 35
theorem sc_cut : FnScope ["words", "place"] ["words"] (fnScope s_cut) := fnScope_by (by decide +kernel)
/-- the list that stands, or a new one -/
def spCut : Sp := fun vs H Q _ => ∃ (l : Addr) (us : List V) (ts : List Tk), vs = [.ref l] ∧ H l = some (.lst us) ∧ TdAll H us (ts.map tkD) ∧ ts.length ≤ 40000 ∧
  ∀ p H2 us2, Ex H H2 → H2 p = some (.lst us2) → TdAll H2 us2 ((cutP ts).map tkD) → (p = l ∨ H p = none) → Q (.ref p) H2
theorem td_take {H : Hp} : ∀ {n : Nat} {us : List V} {ds : List PyData}, TdAll H us ds → TdAll H (us.take n) (ds.take n)
  | 0, _, _, _ => .nil
  | _ + 1, _, _, .nil => .nil
  | n + 1, _, _, .cons a b => .cons a (td_take (n := n) b)
theorem cutV_to60 {us : List V} (h : 60 ≤ us.length) : cutV us none (some ((60 : Nat) : Int)) = us.take 60 := by
  have h1 : HT.sIx us.length 0 none = 0 := rfl
  have h2 : HT.sIx us.length us.length (some ((60 : Nat) : Int)) = 60 := by
    unfold HT.sIx
    simp
    omega
  unfold cutV
  rw [h1, h2] <;> rfl
theorem ok_cut (T : ModsP mg) {f : Addr} {fd : FuncData} (F : Def K mg "cut" s_cut f fd) (b : Binds K fd ["words"] []) : Cal P w K mg base 1 "cut" spCut [] := by
  refine cal0 F b .nil sc_cut (fun vs H Q E h => ?_) (fun cdv A outer s H vs Q E hr h => ?_)
  · obtain ⟨_, _, _, rfl, _⟩ := h
    rfl
  · obtain ⟨l, us, ts, rfl, hl, hT, hlen, q⟩ := h
    have m_len := T.m_len
    have g_MOST_WORDS := T.g_MOST_WORDS
    refine ⟨_, (pss_cons (ps_if (pt_cmpR op_le (pe_callB call_len_seq (by rfl) m_len PySem.boot_len (pa_cons (pv 0) pa_nil)) (C8.pe_gc (by rfl) g_MOST_WORDS) (nomark _)) (pss_one (ps_ret (pv 0))) pss_nil)
      (pss_cons (ps_set (i := 1) sc_cut.nd rfl (.inl rfl) (pe_ix ix_tup (pe_ix ix_list (pv 0) (C8.pe_gc (by rfl) g_MOST_WORDS) (fun _ _ => rfl)) pe_int (fun _ _ => rfl)))
      (pss_one (ps_ret (pe_op op_cat (pe_slice sl_list (pv 0) po_none (po_some (C8.pe_gc (by rfl) g_MOST_WORDS))) (pe_lst (pa_cons (pe_tup (pa_cons pe_str (pa_cons pe_str (pa_cons (pv 1) pa_nil)))) pa_nil))))))), ?_⟩
    have hul := hT.len
    rw [List.length_map] at hul
    refine q_when (et_test (ev_op (ev_len (K := K) (ev_var rfl) (sq_of hl)) ev_c rv_I0)) (fun hb H1 e1 => ?_) (fun hb H1 e1 => ?_)
    · have h60 : ts.length ≤ 60 := by
        have := of_decide_eq_true hb
        omega
      have hc : cutP ts = ts := by
        unfold cutP
        rw [List.drop_eq_nil_of_le h60]
      refine s_ret (ev_var rfl) fun H2 e2 => q l H2 us (e1.trans e2) ((e1.trans e2) _ _ hl) ?_ (.inl rfl)
      rw [hc]
      exact TdAll.tx (Tx.of (e1.trans e2)) _ _ hT
    · have h60 : 60 < ts.length := by
        have := of_decide_eq_false hb
        omega
      have hd := List.drop_eq_getElem_cons h60
      have hc : cutP ts = ts.take 60 ++ [([], [], ts[60].2.2.1, ts[60].2.2.2)] := by
        unfold cutP
        rw [hd]
      have hl1 := e1 _ _ hl
      have hT1 := TdAll.tx (Tx.of e1) _ _ hT
      obtain ⟨v, g1, g2⟩ := td_get (i := 60) hT1 (by rw [List.getElem?_map, List.getElem?_eq_getElem h60] <;> rfl)
      unfold tkD at g2
      cases g2 with
      | @tup p xs _ g3 g4 =>
        cases g4 with
        | cons a1 g4 =>
          cases a1
          cases g4 with
          | cons a2 g4 =>
            cases a2
            cases g4 with
            | @cons pv _ _ _ a3 g4 =>
              cases g4
              refine q_asg (ev_op (ev_op (ev_var rfl) ev_c (rv_ixL (sq_of hl1) (atI_nat (j := 60) g1))) ev_c (rv_ixT (st_of g3) (atI_nat (j := 2) rfl))) fun H2 e2 => ?_
              have hl2 := e2 _ _ hl1
              -- words[:60] + [("", "", place)]
              refine el_sl (K := K) (ev_var rfl) eo_none (eo_some ev_c) (sq_of hl2) H2 (Ex.refl H2) _ fun pa H3 hpa e3 h3 => ?_
              have hcv : cutV us none (some ((60 : Nat) : Int)) = us.take 60 := cutV_to60 (by omega)
              rw [show (60 : Int) = ((60 : Nat) : Int) from rfl, hcv] at h3
              refine ⟨_, rfl, sz_of (by show 3 ≤ 100000; decide), fun t2 ht2 => ⟨sz_of (by show 1 ≤ 100000; decide), fun l2 hl2 => ?_⟩⟩
              have e35 := (Ex.new (o := HO.tup [.str (Str.ofString ""), .str (Str.ofString ""), pv]) ht2).trans (Ex.new (o := HO.lst [.ref t2]) hl2)
              refine ⟨pa, l2, _, _, rfl, rfl, e35 _ _ h3, upd_same, sz_of ?_, fun p6 hp6 => ?_⟩
              · rw [List.length_take]
                show _ + 1 ≤ 100000
                omega
              · have en := Ex.new (o := HO.lst (us.take 60 ++ [.ref t2])) hp6
                have eAll : Ex H1 (upd (upd (upd H3 t2 (.tup [.str (Str.ofString ""), .str (Str.ofString ""), pv])) l2 (.lst [.ref t2])) p6 (.lst (us.take 60 ++ [.ref t2]))) := ((e2.trans e3).trans e35).trans en
                refine q p6 _ _ (e1.trans eAll) upd_same ?_ (.inr ?_)
                · rw [hc, List.map_append, List.map_take]
                  refine (td_take (TdAll.tx (Tx.of eAll) _ _ hT1)).snoc ?_
                  unfold tkD
                  refine .tup (en _ _ ((Ex.new hl2) _ _ upd_same)) (.cons ?_ (.cons ?_ (.cons (Td.tx (Tx.of eAll) _ _ a3) .nil)))
                  · rw [lit0]
                    exact .str _
                  · rw [lit0]
                    exact .str _
                · exact fresh_back ((e1.trans (e2.trans e3)).trans e35) hp6
/-! ### Row(words) -/
abbrev s_Row_init : Stmt := (C8.clsBody (topS 32)).getD 0 (.Pass ⟨0, 0, 0, 0⟩)
theorem sc_Row_init : FnScope ["self", "words"] ["self", "words"] (fnScope s_Row_init) := fnScope_by (by decide +kernel)
def spRowI (C : Addr) : Sp := fun vs H Q _ => ∃ (r wl dx : Addr), vs = [.ref r, .ref wl] ∧ H r = some (.ins C dx []) ∧ Q .non (upd H r (.ins C dx (rowF wl 0)))
theorem ok_Row_init (T : ModsR K mg C) (M : Mk K C f) (hm : mg "Row" = some (.ref C)) {fd : FuncData} (F : C8.Fun K "__init__" "Row.__init__" s_Row_init f fd) (b : Binds K fd ["self", "words"] []) : Mak P w K mg base 1 "Row" C (spRowI C) [] := by
  refine mak0 M hm F b .nil sc_Row_init (fun vs H Q E h => ?_) (fun cdv A outer s H vs Q E hr h => ?_)
  · obtain ⟨_, _, _, rfl, _⟩ := h
    rfl
  · obtain ⟨r, wl, dx, rfl, hr0, q⟩ := h
    refine ⟨_, pss_cons (ps_fld (pv 0) (pv 1) rfl) (pss_one (ps_fld (pv 0) pe_int rfl)), ?_⟩
    refine ⟨_, rfl, _, rfl, r, C, dx, _, rfl, hr0, T.cls, T.nw, by decide, ?_⟩
    refine ⟨_, rfl, r, C, dx, _, rfl, upd_same, T.cls, T.na, by show 1 < 1000; decide, ?_⟩
    have e : upd (upd H r (.ins C dx (putF (Str.ofString "words") (.ref wl) []))) r (.ins C dx (putF (Str.ofString "at") (.int 0) (putF (Str.ofString "words") (.ref wl) []))) = upd H r (.ins C dx (rowF wl 0)) := by
      funext b
      by_cases hb : b = r
      · rw [hb, upd_same, upd_same]
        refine congrArg (fun z => some (HO.ins C dx z)) ?_
        show (if Str.ofString "words" = Str.ofString "at" then _ else _) = _
        rw [if_neg (by decide +kernel)] <;> rfl
      · rw [upd_ne hb, upd_ne hb, upd_ne hb]
    rw [e]
    exact q
end
end Wt

set_option Elab.async false
set_option linter.all false
set_option maxRecDepth 100000
set_option maxHeartbeats 4000000
namespace Wt
open PySem PySem.Spec PyProof.Rows L2 SX Evl
open C8 (Def Cal Met Mak cal0 met0 mak0 fnScope_by fnScope)
/-! Words by their rows. -/
theorem own_len {w : List Nat} (h : w ∈ owns ∨ w ∈ signs) : w.length ≤ 6 := by
  have a : ∀ x ∈ owns ++ signs, x.length ≤ 6 := by decide +kernel
  exact a w (List.mem_append.mpr h)
theorem kind_six {w : List Nat} (h : kindOf w ≠ []) : w.length ≤ 6 := by
  unfold kindOf at h
  by_cases h1 : w ∈ owns
  · exact own_len (.inl h1)
  · rw [if_neg h1] at h
    by_cases h2 : w ∈ signs
    · exact own_len (.inr h2)
    · rw [if_neg h2] at h
      by_cases h3 : w = [] ∨ 6 < w.length
      · rw [if_pos h3] at h
        exact absurd rfl h
      · have : ¬ 6 < w.length := fun z => h3 (.inr z)
        omega
theorem take_all {p : Nat → Bool} : ∀ l : List Nat, (l.takeWhile p).all p = true
  | [] => rfl
  | c :: r => by
    rw [List.takeWhile_cons]
    by_cases h : p c = true
    · rw [if_pos h, List.all_cons, h, take_all r] <;> rfl
    · rw [if_neg h] <;> rfl
theorem fig_is {c : Nat} (h : isF c = true) : (decide (48 ≤ c) && decide (c ≤ 57)) = true := by
  have a : ∀ x ∈ figures, (decide (48 ≤ x) && decide (x ≤ 57)) = true := by decide +kernel
  exact a c (of_decide_eq_true h)
theorem kind_num {c : Nat} {r : List Nat} (h : kindOf (wordAt (c :: r)) = kNum) : wordAt (c :: r) ≠ [] ∧ (wordAt (c :: r)).all (fun c => decide (48 ≤ c) && decide (c ≤ 57)) = true := by
  have hne : kindOf (wordAt (c :: r)) ≠ [] := by
    rw [h]
    decide
  refine ⟨kind_ne hne, ?_⟩
  unfold kindOf at h
  by_cases h1 : wordAt (c :: r) ∈ owns
  · rw [if_pos h1] at h
    exact absurd h (by decide)
  · rw [if_neg h1] at h
    by_cases h2 : wordAt (c :: r) ∈ signs
    · rw [if_pos h2] at h
      exact absurd h (by decide)
    · rw [if_neg h2] at h
      by_cases h3 : wordAt (c :: r) = [] ∨ 6 < (wordAt (c :: r)).length
      · rw [if_pos h3] at h
        exact absurd h (by decide)
      · rw [if_neg h3] at h
        by_cases h4 : isL ((wordAt (c :: r)).headD 0) = true
        · rw [if_pos h4] at h
          exact absurd h (by decide)
        · have hw := wordAt_cons c r
          by_cases a1 : isL c = true
          · rw [if_pos a1, List.takeWhile_cons, if_pos a1] at hw
            rw [hw] at h4
            exact absurd a1 h4
          · rw [if_neg a1] at hw
            by_cases a2 : isF c = true
            · rw [if_pos a2] at hw
              rw [hw]
              have z := take_all (p := isF) (c :: r)
              rw [List.all_eq_true] at z ⊢
              exact fun x hx => fig_is (z x hx)
            · rw [if_neg a2] at hw
              exfalso
              cases hs : signs.find? (fun s => decide ((c :: r).take s.length = s)) with
              | none =>
                rw [hs] at hw
                exact h3 (.inl hw)
              | some s =>
                rw [hs] at hw
                have := List.mem_of_find?_eq_some hs
                exact h2 (by rw [hw]; exact this)
theorem lexAt_ok : ∀ (f i : Nat) (l : List Nat), ∀ w ∈ (lexAt f i l).1, w.2.1.length ≤ 600 ∧ (w.1 = kNum → w.2.1 ≠ [] ∧ w.2.1.all (fun c => decide (48 ≤ c) && decide (c ≤ 57)) = true)
  | 0, _, _ => fun w h => absurd h (by simp [lexAt])
  | _ + 1, _, [] => fun w h => absurd h (by simp [lexAt])
  | f + 1, i, c :: r => by
    rw [lexAt_cons]
    by_cases h1 : c = 32
    · rw [if_pos h1]
      exact lexAt_ok f _ r
    · rw [if_neg h1]
      by_cases h2 : kindOf (wordAt (c :: r)) = []
      · rw [if_pos h2]
        exact fun w h => absurd h (by simp)
      · rw [if_neg h2]
        intro w h
        rcases List.mem_cons.mp h with z | z
        · rw [z]
          exact ⟨Nat.le_trans (kind_six h2) (by decide), fun k => kind_num k⟩
        · exact lexAt_ok f _ _ w z
theorem rowT_ok {n : Nat} {row : List Nat} : ∀ t ∈ rowT n row, TkOk t := fun t ht => by
  unfold rowT at ht
  obtain ⟨w, hw, rfl⟩ := List.mem_map.mp ht
  exact lexAt_ok _ _ _ w hw
theorem cutP_ok {ts : List Tk} (h0 : ts ≠ []) (h1 : ts.length ≤ 1000) (h2 : ∀ t ∈ ts, TkOk t) (wl : Addr) : WsOk ⟨wl, cutP ts⟩ := by
  have key : 0 < (cutP ts).length ∧ (cutP ts).length ≤ 1000 ∧ ∀ t ∈ cutP ts, TkOk t := by
    unfold cutP
    cases h : ts.drop 60 with
    | nil => exact ⟨List.length_pos_iff.mpr h0, h1, h2⟩
    | cons t r =>
      refine ⟨by rw [List.length_append]; exact Nat.succ_pos _, ?_, fun x hx => ?_⟩
      · rw [List.length_append, List.length_take]
        show min 60 ts.length + 1 ≤ 1000
        omega
      · rcases List.mem_append.mp hx with z | z
        · exact h2 x (List.mem_of_mem_take z)
        · rw [List.mem_singleton.mp z]
          exact ⟨Nat.zero_le _, fun k => absurd (show ([] : List Nat) = kNum from k) (by decide)⟩
  exact ⟨key.1, key.2.1, key.2.2⟩
theorem groups_mem : ∀ (n : Nat) (rows : List (List Nat)), ∀ g ∈ groups n rows, ∃ (m : Nat) (row : List Nat), row ∈ rows ∧ g = (m, rowT m row) ∧ rowT m row ≠ []
  | _, [] => fun g h => absurd h (by simp [groups])
  | n, r :: rs => fun g h => by
    have h : g ∈ (if rowT n r = [] then groups (n + 1) rs else (n, rowT n r) :: groups (n + 1) rs) := h
    by_cases hr : rowT n r = []
    · rw [if_pos hr] at h
      obtain ⟨m, row, a, b⟩ := groups_mem (n + 1) rs g h
      exact ⟨m, row, List.mem_cons_of_mem _ a, b⟩
    · rw [if_neg hr] at h
      rcases List.mem_cons.mp h with z | z
      · exact ⟨n, r, List.mem_cons_self .., z, hr⟩
      · obtain ⟨m, row, a, b⟩ := groups_mem (n + 1) rs g z
        exact ⟨m, row, List.mem_cons_of_mem _ a, b⟩
theorem allT_len : ∀ (n : Nat) (rows : List (List Nat)), (∀ r ∈ rows, r.length ≤ 1000) → (allT n rows).length ≤ 1000 * rows.length
  | _, [], _ => Nat.zero_le _
  | n, r :: rs, h => by
    show (rowT n r ++ allT (n + 1) rs).length ≤ 1000 * (rs.length + 1)
    have ih := allT_len (n + 1) rs fun q hq => h q (List.mem_cons_of_mem _ hq)
    have h1 := h r (List.mem_cons_self ..)
    have h2 : (rowT n r).length ≤ r.length := by
      unfold rowT
      rw [List.length_map]
      exact lexRow_count r
    rw [List.length_append]
    omega
theorem addT_yes {gs : List (Nat × List Tk)} {t : Tk} {ts : List Tk} (h : (t.2.2.1, ts) ∈ gs) : addT gs t = gs.map (fun g => if g.1 = t.2.2.1 then (g.1, g.2 ++ [t]) else g) := by
  unfold addT
  rw [if_pos (List.any_eq_true.mpr ⟨_, h, decide_eq_true rfl⟩)]
theorem addT_no {gs : List (Nat × List Tk)} {t : Tk} (h : ∀ g ∈ gs, g.1 ≠ t.2.2.1) : addT gs t = gs ++ [(t.2.2.1, [t])] := by
  unfold addT
  rw [if_neg fun z => ?_]
  obtain ⟨g, hg, e⟩ := List.any_eq_true.mp z
  exact h g hg (of_decide_eq_true e)
theorem addT_few {gs : List (Nat × List Tk)} {t : Tk} {i : Nat} (h : ∀ g ∈ gs, g.2.length ≤ i) : ∀ g ∈ addT gs t, g.2.length ≤ i + 1 := fun g hg => by
  unfold addT at hg
  by_cases c : gs.any (fun g => decide (g.1 = t.2.2.1)) = true
  · rw [if_pos c] at hg
    obtain ⟨g0, h0, rfl⟩ := List.mem_map.mp hg
    have := h g0 h0
    by_cases e : g0.1 = t.2.2.1
    · rw [if_pos e]
      show (g0.2 ++ [t]).length ≤ _
      rw [List.length_append]
      exact Nat.succ_le_succ this
    · rw [if_neg e]
      omega
  · rw [if_neg c] at hg
    rcases List.mem_append.mp hg with z | z
    · have := h g z
      omega
    · rw [List.mem_singleton.mp z]
      exact Nat.succ_le_succ (Nat.zero_le _)
/-- rows by number: the dict, each row's list -/
inductive Gs (H : Hp) : List (Key × V) → List (Nat × List Tk) → List Addr → Prop
  | nil : Gs H [] [] []
  | cons {a : Addr} {us : List V} {n : Nat} {ts : List Tk} {kvs : List (Key × V)} {gs : List (Nat × List Tk)} {as : List Addr} : H a = some (.lst us) → TdAll H us (ts.map tkD) → a ∉ as → (∀ g ∈ gs, g.1 ≠ n) → Gs H kvs gs as → Gs H ((.inl (n : Int), .ref a) :: kvs) ((n, ts) :: gs) (a :: as)
theorem Gs.go {H H' : Hp} {kvs : List (Key × V)} {gs : List (Nat × List Tk)} {as : List Addr} (h : Gs H kvs gs as) (tx : Tx H H') (e : ∀ a ∈ as, ∀ us, H a = some (.lst us) → H' a = some (.lst us)) : Gs H' kvs gs as := by
  induction h with
  | nil => exact .nil
  | cons h1 h2 h3 h4 _ ih => exact .cons (e _ (List.mem_cons_self ..) _ h1) (TdAll.tx tx _ _ h2) h3 h4 (ih fun a ha => e a (List.mem_cons_of_mem _ ha))
theorem Gs.ex {H H' : Hp} {kvs : List (Key × V)} {gs : List (Nat × List Tk)} {as : List Addr} (h : Gs H kvs gs as) (e : Ex H H') : Gs H' kvs gs as := h.go (Tx.of e) fun a _ _ q => e _ _ q
theorem Gs.len {H : Hp} {kvs : List (Key × V)} {gs : List (Nat × List Tk)} {as : List Addr} (h : Gs H kvs gs as) : kvs.length = gs.length := by
  induction h with
  | nil => rfl
  | cons _ _ _ _ _ ih => exact congrArg (· + 1) ih
theorem Gs.lst {H : Hp} {kvs : List (Key × V)} {gs : List (Nat × List Tk)} {as : List Addr} (h : Gs H kvs gs as) : ∀ a ∈ as, ∃ us, H a = some (.lst us) := by
  induction h with
  | nil => exact fun a ha => absurd ha (by simp)
  | cons h1 _ _ _ _ ih =>
    intro b hb
    rcases List.mem_cons.mp hb with z | z
    · exact ⟨_, by rw [z]; exact h1⟩
    · exact ih b z
theorem Gs.none {H : Hp} {kvs : List (Key × V)} {gs : List (Nat × List Tk)} {as : List Addr} {n : Nat} (h : Gs H kvs gs as) : valV kvs (.inl (n : Int)) = none → ∀ g ∈ gs, g.1 ≠ n := by
  induction h with
  | nil => exact fun _ g hg => absurd hg (by simp)
  | @cons a us m ts kvs gs as h1 _ _ _ _ ih =>
    intro hv g hg
    by_cases e : m = n
    · subst e
      rw [valV_pos (p := (Sum.inl (m : Int), V.ref a)) rfl] at hv
      cases hv
    · rw [valV_neg (p := (Sum.inl (m : Int), V.ref a)) (fun z => e (by have := Sum.inl.inj z; omega))] at hv
      rcases List.mem_cons.mp hg with z | z
      · rw [z]
        exact e
      · exact ih hv g z
theorem Gs.snoc {H : Hp} {kvs : List (Key × V)} {gs : List (Nat × List Tk)} {as : List Addr} {n : Nat} {a : Addr} {us : List V} {ts : List Tk} (h : Gs H kvs gs as) (h1 : H a = some (.lst us)) (h2 : TdAll H us (ts.map tkD)) : a ∉ as → (∀ g ∈ gs, g.1 ≠ n) → Gs H (kvs ++ [(.inl (n : Int), .ref a)]) (gs ++ [(n, ts)]) (as ++ [a]) := by
  induction h with
  | nil => exact fun h3 h4 => .cons h1 h2 (by simp) (fun g hg => absurd hg (by simp)) .nil
  | @cons b us m ts kvs gs as g1 g2 g3 g4 _ ih =>
    intro h3 h4
    refine .cons g1 g2 (fun z => ?_) (fun g hg => ?_) (ih (fun z => h3 (List.mem_cons_of_mem _ z)) fun g hg => h4 g (List.mem_cons_of_mem _ hg))
    · rcases List.mem_append.mp z with z | z
      · exact g3 z
      · exact h3 (by rw [List.mem_singleton.mp z]; exact List.mem_cons_self ..)
    · rcases List.mem_append.mp hg with z | z
      · exact g4 g z
      · rw [List.mem_singleton.mp z]
        exact fun e => h4 (m, _) (List.mem_cons_self ..) e.symm
theorem Gs.upd {H : Hp} {kvs : List (Key × V)} {gs : List (Nat × List Tk)} {as : List Addr} {n : Nat} (h : Gs H kvs gs as) : ∀ {v : V}, valV kvs (.inl (n : Int)) = some v → ∃ (a : Addr) (us : List V) (ts : List Tk), v = .ref a ∧ a ∈ as ∧ H a = some (.lst us) ∧ us.length = ts.length ∧ (n, ts) ∈ gs ∧
    ∀ (H' : Hp) (x : V) (t : Tk), Td H' x (tkD t) → H' a = some (.lst (us ++ [x])) → Tx H H' → (∀ b ∈ as, b ≠ a → ∀ o, H b = some (.lst o) → H' b = some (.lst o)) → Gs H' kvs (gs.map fun g => if g.1 = n then (g.1, g.2 ++ [t]) else g) as := by
  induction h with
  | nil => exact fun hv => by cases hv
  | @cons a us m ts kvs gs as h1 h2 h3 h4 hr ih =>
    intro v hv
    by_cases e : m = n
    · subst e
      rw [valV_pos (p := (Sum.inl (m : Int), V.ref a)) rfl] at hv
      cases hv
      refine ⟨a, us, ts, rfl, List.mem_cons_self .., h1, by rw [h2.len, List.length_map], List.mem_cons_self .., fun H' x t hx ha tx hb => ?_⟩
      have eid : gs.map (fun g => if g.1 = m then (g.1, g.2 ++ [t]) else g) = gs := (List.map_congr_left fun g hg => by
        rw [if_neg (h4 g hg)]
        exact (id_eq g).symm).trans (List.map_id gs)
      rw [List.map_cons, eid]
      show Gs H' _ ((if m = m then (m, ts ++ [t]) else (m, ts)) :: gs) _
      rw [if_pos rfl]
      refine .cons ha ?_ h3 h4 (hr.go tx fun b hb2 o ho => hb b (List.mem_cons_of_mem _ hb2) (fun z => h3 (by rw [← z]; exact hb2)) o ho)
      rw [List.map_append]
      exact (TdAll.tx tx _ _ h2).snoc hx
    · rw [valV_neg (p := (Sum.inl (m : Int), V.ref a)) (fun z => e (by have := Sum.inl.inj z; omega))] at hv
      obtain ⟨a2, us2, ts2, rfl, g1, g2, g3, g4, g5⟩ := ih hv
      refine ⟨a2, us2, ts2, rfl, List.mem_cons_of_mem _ g1, g2, g3, List.mem_cons_of_mem _ g4, fun H' x t hx ha tx hb => ?_⟩
      rw [List.map_cons]
      show Gs H' _ ((if m = n then (m, ts ++ [t]) else (m, ts)) :: _) _
      rw [if_neg e]
      refine .cons (hb a (List.mem_cons_self ..) (fun z => h3 (by rw [z]; exact g1)) _ h1) (TdAll.tx tx _ _ h2) h3 (fun g hg => ?_) (g5 H' x t hx ha tx fun b hb2 => hb b (List.mem_cons_of_mem _ hb2))
      obtain ⟨g0, hg0, rfl⟩ := List.mem_map.mp hg
      have := h4 g0 hg0
      by_cases e2 : g0.1 = n
      · rw [if_pos e2]
        exact this
      · rw [if_neg e2]
        exact this
theorem Gs.at {H : Hp} {kvs : List (Key × V)} {gs : List (Nat × List Tk)} {as : List Addr} (h : Gs H kvs gs as) : ∀ {i : Nat} {k : Key} {v : V}, kvs[i]? = some (k, v) → ∃ (a : Addr) (us : List V) (g : Nat × List Tk), v = .ref a ∧ a ∈ as ∧ H a = some (.lst us) ∧ gs[i]? = some g ∧ TdAll H us (g.2.map tkD) := by
  induction h with
  | nil => exact fun hv => by simp at hv
  | @cons a us m ts kvs gs as h1 h2 h3 h4 hr ih =>
    intro i k v hv
    cases i with
    | zero =>
      cases Option.some.inj hv
      exact ⟨a, us, _, rfl, List.mem_cons_self .., h1, rfl, h2⟩
    | succ i =>
      obtain ⟨a2, us2, g, g1, g2, g3⟩ := ih (i := i) hv
      exact ⟨a2, us2, g, g1, List.mem_cons_of_mem _ g2, g3⟩
/-! ### rows made -/
theorem RowO.exr {H H' : Hp} {C r D : Addr} {ws : Wds} {rest : List Tk} (h : RowO H C r ws rest) (e : Exr D H H') (tx : Tx H H') (h1 : r ≠ D) (h2 : ws.wl ≠ D) : RowO H' C r ws rest := by
  obtain ⟨dx, wl, us, i, hq, g1, g2, g3, g4, g5⟩ := h
  exact ⟨dx, wl, us, i, hq, e _ _ h1 g1, e _ _ (by rw [hq]; exact h2) g2, TdAll.tx tx _ _ g3, g4, g5⟩
/-- rows none of whose words is read -/
inductive Rws (H : Hp) (C : Addr) : List Addr → List Wds → Prop
  | nil : Rws H C [] []
  | cons {r : Addr} {ws : Wds} {rs : List Addr} {wss : List Wds} : RowO H C r ws ws.ts → WsOk ws → r ∉ rs → Rws H C rs wss → Rws H C (r :: rs) (ws :: wss)
theorem Rws.exr {H H' : Hp} {C D : Addr} {rs : List Addr} {wss : List Wds} (h : Rws H C rs wss) (e : Exr D H H') (tx : Tx H H') : D ∉ rs → (∀ ws ∈ wss, ws.wl ≠ D) → Rws H' C rs wss := by
  induction h with
  | nil => exact fun _ _ => .nil
  | cons h1 h2 h3 _ ih => exact fun g1 g2 => .cons (h1.exr e tx (fun z => g1 (by rw [z]; exact List.mem_cons_self ..)) (g2 _ (List.mem_cons_self ..))) h2 h3 (ih (fun z => g1 (List.mem_cons_of_mem _ z)) fun ws hw => g2 ws (List.mem_cons_of_mem _ hw))
theorem Rws.go {H H' : Hp} {C : Addr} {rs : List Addr} {wss : List Wds} (h : Rws H C rs wss) (e : Ex H H') : Rws H' C rs wss := by
  induction h with
  | nil => exact .nil
  | cons h1 h2 h3 _ ih => exact .cons (h1.go e) h2 h3 ih
theorem Rws.ins {H : Hp} {C : Addr} {rs : List Addr} {wss : List Wds} (h : Rws H C rs wss) : (∀ r ∈ rs, ∃ dx fs, H r = some (.ins C dx fs)) ∧ ∀ ws ∈ wss, ∃ us, H ws.wl = some (.lst us) := by
  induction h with
  | nil => exact ⟨fun r hr => absurd hr (by simp), fun r hr => absurd hr (by simp)⟩
  | cons h1 _ _ _ ih =>
    obtain ⟨dx, wl, us, i, hq, g1, g2, _⟩ := h1
    refine ⟨fun r hr => ?_, fun w hw => ?_⟩
    · rcases List.mem_cons.mp hr with z | z
      · exact ⟨dx, _, by rw [z]; exact g1⟩
      · exact ih.1 r z
    · rcases List.mem_cons.mp hw with z | z
      · exact ⟨us, by rw [z, ← hq]; exact g2⟩
      · exact ih.2 w z
theorem Rws.snoc {H : Hp} {C r : Addr} {ws : Wds} {rs : List Addr} {wss : List Wds} (h : Rws H C rs wss) (h1 : RowO H C r ws ws.ts) (h2 : WsOk ws) : r ∉ rs → Rws H C (rs ++ [r]) (wss ++ [ws]) := by
  induction h with
  | nil => exact fun _ => .cons h1 h2 (by simp) .nil
  | cons g1 g2 g3 _ ih =>
    intro h3
    refine .cons g1 g2 (fun z => ?_) (ih fun z => h3 (List.mem_cons_of_mem _ z))
    rcases List.mem_append.mp z with z | z
    · exact g3 z
    · exact h3 (by rw [List.mem_singleton.mp z]; exact List.mem_cons_self ..)
end Wt

set_option Elab.async false
set_option linter.all false
set_option maxRecDepth 100000
set_option maxHeartbeats 4000000
namespace Wt
open PySem PySem.Spec PyProof.Rows L2 SX Evl
open C8 (Def Cal Met Mak cal0 met0 mak0 fnScope_by fnScope)
section
variable {P : Program} {w : World} {K : PySem.W.Frag} {mg : Str → Option Value} {base : Heap} {C CF : Addr}
/-! ### rows_of -/
abbrev s_rows_of : Stmt := topS 34
theorem sc_rows_of : FnScope ["text", "words_by_row", "word", "words"] ["text"] (fnScope s_rows_of) := fnScope_by (by decide +kernel)
/-- the text's rows, each of no more than a thousand signs -/
structure TextOk (text : List Nat) (rows : List (List Nat)) : Prop where
  few : text.length ≤ 40000
  eq : rows = TL.spl [10] 0 [] text
  rws : rows.length ≤ 1000
  len : ∀ r ∈ rows, r.length ≤ 1000
def spRowsOf (CF C : Addr) : Sp := fun vs H Q E => ∃ (text : List Nat) (rows : List (List Nat)), vs = [.str (S text)] ∧ TextOk text rows ∧
  (firstBad 1 rows = none → ∀ (l : Addr) (H2 : Hp) (rs : List Addr) (wss : List Wds), Ex H H2 → H l = none → H2 l = some (.lst (rs.map V.ref)) → Rws H2 C rs wss → wss.map (·.ts) = pageP rows → Q (.ref l) H2) ∧ ∀ n c, firstBad 1 rows = some (n, c) → RaiseF CF H E n c
theorem ok_rows_of (c_words_of : CalX P w K mg base 4 "words_of" (spWordsOf CF)) (c_cut : Cal P w K mg base 1 "cut" spCut []) (c_Row : Mak P w K mg base 1 "Row" C (spRowI C) []) {f : Addr} {fd : FuncData} (F : Def K mg "rows_of" s_rows_of f fd) (b : Binds K fd ["text"] []) :
    CalX P w K mg base 5 "rows_of" (spRowsOf CF C) := by
  refine calX F b sc_rows_of (fun vs H Q E h => ?_) (fun cdv A outer s H vs Q E hr h => ?_)
  · obtain ⟨_, _, rfl, _⟩ := h
    rfl
  · obtain ⟨text, rows, rfl, hT, q, qx⟩ := h
    have tk := tk_cx (P := P) (w := w) (K := K) (mg := mg) (base := base) (N := ["text", "words_by_row", "word", "words"]) (q := "rows_of") (sc := fnScope s_rows_of) (f := f) (cdv := cdv) (A := A) (outer := outer) (s := s) (H := H) (E := E)

    refine ⟨_, (pss_cons (ps_set (i := 1) sc_rows_of.nd rfl (.inl rfl) pe_dnewK)
      (pss_cons (ps_for (passes_of rfl) rfl (pi_list (Wt.pe_cE c_words_of tk hr (by first | decide | exact Nat.le_refl _ | omega) (by rfl) (pa_cons (pv 0) pa_nil))) (pg_name (i := 2) sc_rows_of.nd rfl (.inl rfl)) (pss_one (ps_expr (pe_bm PySem.F.plainAttrs_list PySem.F.slot_list_append PySem.F.type_list_append mt_append (pe_bm PySem.F.plainAttrs_dict PySem.F.slot_dict_setdefault PySem.F.type_dict_setdefault Wt.mt_setdef (pv 1) (pa_cons (pe_ix ix_tup (pe_ix ix_tup (pv 2) pe_int (fun _ _ => rfl)) pe_int (fun _ _ => rfl)) (pa_cons (pe_lst pa_nil) pa_nil))) (pa_cons (pv 2) pa_nil)))))
      (pss_one (ps_ret (pe_lock (pe_lc (own := [("words", 3)]) (g := (gName 3)) (tt := tYes) rfl sc_rows_of.nd (pi_values (pv 1)) (blkOk_by (N := ["text", "words_by_row", "word", "words"]) (sc := C8.fnScope s_rows_of) (by decide +kernel)) (fun _ _ _ _ _ => pg_name (i := 3) sc_rows_of.nd rfl (Or.inl rfl)) (fun _ _ _ _ _ => pts_nil) (fun _ _ _ _ _ => (C8.pe_mk c_Row hr (by first | decide | exact Nat.le_refl _ | omega) (by rfl) (pa_cons (C8.pe_c c_cut hr (by first | decide | exact Nat.le_refl _ | omega) (by rfl) (pa_cons (pv 3) pa_nil)) pa_nil))))))))), ?_⟩
    -- words_by_row = {}
    intro d hd
    have e1 : Ex H (upd H d (.dK [])) := Ex.new hd
    -- for word in words_of(text)
    refine ⟨_, rfl, text, rows, rfl, hT.few, hT.eq, hT.rws, hT.len, fun hnone p H2 us hp e2 hp2 hTd => ?_, fun n c hc d2 H2 e2 hF => qx n c hc d2 H2 (e1.trans e2) hF⟩
    rw [allD_T] at hTd
    have htl : (allT 1 rows).length ≤ 1000000 := Nat.le_trans (allT_len 1 rows hT.len) (Nat.mul_le_mul_left 1000 hT.rws)
    have hul := hTd.len
    rw [List.length_map] at hul
    have hdp : d ≠ p := fun z => by
      rw [z, upd_same] at hp
      cases hp
    refine ⟨p, rfl, ⟨us, sq_of hp2⟩, for_list (xs := us) (fun i σ' H' => ∃ (kvs : List (Key × V)) (as : List Addr) (y2 y3 : Option V), σ' = [some (.str (S text)), some (.ref d), y2, y3] ∧ Ex H H' ∧ H' p = some (.lst us) ∧ H' d = some (.dK kvs) ∧ TdAll H' us ((allT 1 rows).map tkD) ∧
      Gs H' kvs (((allT 1 rows).take i).foldl addT []) as ∧ (∀ a ∈ as, H a = none) ∧ p ∉ as ∧ kvs.length ≤ i ∧ ∀ g ∈ ((allT 1 rows).take i).foldl addT [], g.2.length ≤ i)
      ⟨[], [], none, none, rfl, e1.trans e2, hp2, e2 d _ upd_same, hTd, .nil, (fun a ha => absurd ha (by simp)), (by simp), Nat.le_refl _, fun g hg => absurd hg (by simp)⟩ (fun i σ' H' _ ⟨_, _, _, _, _, _, hp', _⟩ => sq_of hp') ?_ ?_⟩
    · rintro i x σ' H' hx ⟨kvs, as, y2, y3, rfl, eH, hp', hd', hTd', hG, hfr, hpa, hkl, hgl⟩
      have hi : i < (allT 1 rows).length := by
        rw [← hul]
        exact (List.getElem?_eq_some_iff.mp hx).1
      obtain ⟨v, g1, g2⟩ := td_get (i := i) hTd' (by rw [List.getElem?_map, List.getElem?_eq_getElem hi] <;> rfl)
      have ev : v = x := Option.some.inj (g1.symm.trans hx)
      subst ev
      have htake : (allT 1 rows).take (i + 1) = (allT 1 rows).take i ++ [(allT 1 rows)[i]] := by
        rw [List.take_add_one, List.getElem?_eq_getElem hi] <;> rfl
      rw [htake, List.foldl_append]
      show tDrop _ _ _ _
      generalize (allT 1 rows)[i] = t at g2 ⊢
      generalize ((allT 1 rows).take i).foldl addT [] = gs at hG hgl ⊢
      have g2' := g2
      unfold tkD at g2'
      cases g2' with
      | @tup tp xs _ g3 g4 =>
        cases g4 with
        | cons a1 g4 =>
          cases a1
          cases g4 with
          | cons a2 g4 =>
            cases a2
            cases g4 with
            | @cons pv _ _ _ a3 g4 =>
              cases g4
              unfold placeD at a3
              cases a3 with
              | @tup pp ps _ b1 b2 =>
                cases b2 with
                | cons c1 b2 =>
                  cases c1
                  refine ⟨_, rfl, .inr (.inr (.inl ⟨rfl, .inl ⟨kvs, hd'⟩⟩)), ?_⟩
                  refine ev_op (ev_op (ev_var rfl) ev_c (rv_ixT (st_of g3) (atI_nat (j := 2) rfl))) ev_c (rv_ixT (st_of b1) (atI_nat (j := 0) rfl)) H' (Ex.refl H') _ fun H3 e3 => ?_
                  refine el_lst ea_nil (Nat.zero_le _) H3 (Ex.refl H3) _ fun z H4 hz e4 hz4 => ?_
                  have e34 := e3.trans e4
                  have hd4 := e34 _ _ hd'
                  have hp4 := e34 _ _ hp'
                  have hG4 := hG.ex e34
                  have hT4 := TdAll.tx (Tx.of e34) _ _ hTd'
                  have hx4 := Td.tx (Tx.of e34) _ _ g2
                  have hzH' : H' z = none := fresh_back e3 hz
                  have hzH : H z = none := fresh_back eH hzH'
                  refine ⟨d, kvs, .inl ((tkP t).1 : Int), .ref z, rfl, rfl, hd4, Nat.lt_of_le_of_lt hkl (Nat.lt_of_lt_of_le hi (Nat.le_trans htl (by decide))), fun v hv => ?_, fun hv => ?_⟩
                  · obtain ⟨a, us2, ts2, rfl, ha, ha4, hal, hag, hup⟩ := hG4.upd (n := (tkP t).1) hv
                    have hne : ∀ b o, H4 b = some o → (∀ ys, o ≠ .lst ys) → b ≠ a := fun b o hb ho z => by
                      rw [z, ha4] at hb
                      cases hb
                      exact ho _ rfl
                    have hda : d ≠ a := hne d _ hd4 fun _ z => nomatch z
                    have hpne : p ≠ a := fun z => hpa (by rw [z]; exact ha)
                    have hlt := hgl _ hag
                    refine ⟨.inl ⟨rfl, us2, sq_of ha4⟩, _, rfl, a, us2, _, rfl, rfl, ha4, Nat.lt_of_le_of_lt (show us2.length ≤ 1000000 from ?_) (by decide), ?_⟩
                    · rw [hal]
                      have : ts2.length ≤ i := hlt
                      omega
                    · have tx : Tx H4 (upd H4 a (.lst (us2 ++ [.ref tp]))) := Tx.lst ha4
                      refine ⟨kvs, as, some (.ref tp), y3, rfl, Ex.mut (eH.trans e34) (hfr a ha), ?_, ?_, TdAll.tx tx _ _ hT4, ?_, hfr, hpa, Nat.le_succ_of_le hkl, addT_few hgl⟩
                      · rw [upd_ne hpne]
                        exact hp4
                      · rw [upd_ne hda]
                        exact hd4
                      · rw [List.foldl_cons, List.foldl_nil, addT_yes (ts := ts2) hag]
                        refine hup _ _ t (Td.tx tx _ _ hx4) upd_same tx fun b hb hba o ho => ?_
                        rw [upd_ne hba]
                        exact ho
                  · have hno := hG4.none hv
                    have hdz : d ≠ z := ne_of_none hd' hzH'
                    have hpz : p ≠ z := ne_of_none hp' hzH'
                    have hput : putK kvs (.inl ((tkP t).1 : Int)) (.ref z) = kvs ++ [(.inl ((tkP t).1 : Int), .ref z)] := by
                      unfold putK
                      rw [if_neg]
                      rw [valV_any, hv]
                      simp
                    rw [hput]
                    have tx1 : Tx H4 (upd H4 d (.dK (kvs ++ [(.inl ((tkP t).1 : Int), .ref z)]))) := Tx.dK hd4
                    have hz5 : (upd H4 d (.dK (kvs ++ [(.inl ((tkP t).1 : Int), .ref z)]))) z = some (.lst []) := by
                      rw [upd_ne hdz.symm]
                      exact hz4
                    refine ⟨.inl ⟨rfl, [], sq_of hz5⟩, _, rfl, z, [], _, rfl, rfl, hz5, by show 0 < sizeLine; decide, ?_⟩
                    have tx2 : Tx (upd H4 d (.dK (kvs ++ [(.inl ((tkP t).1 : Int), .ref z)]))) (upd (upd H4 d (.dK (kvs ++ [(.inl ((tkP t).1 : Int), .ref z)]))) z (.lst ([] ++ [.ref tp]))) := Tx.lst hz5
                    have tx := tx1.trans tx2
                    have hza : z ∉ as := fun m => by
                      obtain ⟨u, hu⟩ := hG.lst z m
                      rw [hzH'] at hu
                      cases hu
                    refine ⟨kvs ++ [(.inl ((tkP t).1 : Int), .ref z)], as ++ [z], some (.ref tp), y3, rfl, Ex.mut (Ex.mut (eH.trans e34) hd) hzH, ?_, ?_, TdAll.tx tx _ _ hT4, ?_, fun a ha => ?_, fun m => ?_, ?_, addT_few hgl⟩
                    · rw [upd_ne hpz, upd_ne hdp.symm]
                      exact hp4
                    · rw [upd_ne hdz, upd_same]
                    · rw [List.foldl_cons, List.foldl_nil, addT_no hno]
                      refine Gs.snoc (hG4.go tx fun a ha u hu => ?_) (us := [.ref tp]) upd_same (.cons (Td.tx tx _ _ hx4) .nil) hza hno
                      have : a ≠ z := fun m => hza (by rw [← m]; exact ha)
                      rw [upd_ne this, upd_ne]
                      · exact hu
                      · intro m
                        rw [m, hd4] at hu
                        cases hu
                    · rcases List.mem_append.mp ha with m | m
                      · exact hfr a m
                      · rw [List.mem_singleton.mp m]
                        exact hzH
                    · rcases List.mem_append.mp m with m | m
                      · exact hpa m
                      · exact hpz (List.mem_singleton.mp m)
                    · rw [List.length_append]
                      exact Nat.succ_le_succ hkl
    · rintro σ' H' ⟨kvs, as, y2, y3, rfl, eH, hp', hd', hTd', hG, hfr, hpa, hkl, hgl⟩
      rw [hul, List.take_of_length_le (Nat.le_refl _), fold_all 1 rows [] (fun g hg => absurd hg (by simp)), List.nil_append] at hG
      have hkn := hG.len
      -- [Row(cut(words)) for words in words_by_row.values()]
      refine ⟨d, _, hd', True.intro, fun od => ⟨_, rfl, d, od, kvs, rfl, upd_same, fun D hD => ?_⟩⟩
      have hdD : d ≠ D := fun z => by
        rw [z, upd_same] at hD
        cases hD
      have frzE : ∀ b o, b ≠ d → H' b = some o → (upd H' d (.frz od (.dK kvs))) b = some o := fun b o hb ho => by
        rw [upd_ne hb]
        exact ho
      have nd : ∀ b us, H' b = some (.lst us) → b ≠ d := fun b us hb z => by
        rw [z, hd'] at hb
        cases hb
      have eHf : Ex H (upd H' d (.frz od (.dK kvs))) := Ex.mut eH hd
      have txf : Tx H' (upd H' d (.frz od (.dK kvs))) := fun a xs ha => frzE a _ (fun z => by
        rw [z, hd'] at ha
        cases ha) ha
      have hGf : Gs (upd H' d (.frz od (.dK kvs))) kvs (groups 1 rows) as := hG.go txf fun a ha us hu => frzE a _ (nd a us hu) hu
      have hdf : (upd H' d (.frz od (.dK kvs))) d = some (.frz od (.dK kvs)) := upd_same
      generalize hHf : upd H' d (.frz od (.dK kvs)) = Hf at hD hGf hdf frzE txf eHf
      refine lc_it walk_values (fun i H5 => ∃ (rs : List Addr) (wss : List Wds), Ex Hf H5 ∧ H5 D = some (.lst (rs.map V.ref)) ∧ Rws H5 C rs wss ∧ (∀ ws ∈ wss, ws.wl ≠ D) ∧ rs.length = i ∧ wss.map (·.ts) = ((groups 1 rows).take i).map fun g => cutP g.2)
        ⟨[], [], Ex.new hD, upd_same, .nil, (fun ws h => absurd h (by simp)), rfl, rfl⟩ (fun i H5 _ ⟨_, _, e5, _⟩ => e5 _ _ hdf) ?_ ?_
      · rintro i x H5 H6 hi ⟨rs, wss, e5, hD5, hR5, hwD, hrl, hws⟩ ⟨rfl, k, hk⟩
        obtain ⟨a, us2, g, rfl, ha, ha5, hg, hTg⟩ := (hGf.ex e5).at hk
        obtain ⟨m, row, hrow, hge, hne⟩ := groups_mem 1 rows g (List.mem_of_getElem? hg)
        have hgl2 : g.2.length ≤ 1000 := by
          rw [hge]
          show (rowT m row).length ≤ 1000
          unfold rowT
          rw [List.length_map]
          exact Nat.le_trans (lexRow_count row) (hT.len row hrow)
        refine ⟨rfl, _, rfl, a, us2, g.2, rfl, ha5, hTg, by omega, fun wl H7 us7 e7 hw7 hT7 hwl => fun r dx hr7 hdx7 hrdx => ?_⟩
        refine ⟨r, wl, dx, rfl, upd_same, rfl, rs.map V.ref, ?_⟩
        have eA : Ex H7 (upd (upd (upd H7 dx (.own r)) r (.ins C dx [])) r (.ins C dx (rowF wl 0))) := Ex.mut (Ex.mut (Ex.new hdx7) hr7) hr7
        have hsame : (upd (upd (upd H7 dx (.own r)) r (.ins C dx [])) r (.ins C dx (rowF wl 0))) r = some (.ins C dx (rowF wl 0)) := upd_same
        generalize upd (upd (upd H7 dx (.own r)) r (.ins C dx [])) r (.ins C dx (rowF wl 0)) = H8 at eA hsame ⊢
        have hD8 := eA _ _ (e7 _ _ hD5)
        have hnr : r ∉ rs := fun z => by
          obtain ⟨_, _, hz⟩ := hR5.ins.1 r z
          have := e7 _ _ hz
          rw [hr7] at this
          cases this
        have hwlD : wl ≠ D := by
          rcases hwl with z | z
          · rw [z]
            intro z2
            obtain ⟨u, hu⟩ := hGf.lst a ha
            rw [z2, hD] at hu
            cases hu
          · exact (ne_of_none hD5 z).symm
        have hR8 : Rws H8 C (rs ++ [r]) (wss ++ [⟨wl, cutP g.2⟩]) := (hR5.go (e7.trans eA)).snoc ⟨dx, wl, us7, 0, rfl, hsame, eA _ _ hw7, TdAll.tx (Tx.of eA) _ _ hT7, Nat.zero_le _, rfl⟩
          (cutP_ok (by rw [hge]; exact hne) hgl2 (by rw [hge]; exact rowT_ok) wl) hnr
        have hw8 : ∀ ws ∈ wss ++ [(⟨wl, cutP g.2⟩ : Wds)], ws.wl ≠ D := fun ws hw => by
          rcases List.mem_append.mp hw with z | z
          · exact hwD ws z
          · rw [List.mem_singleton.mp z]
            exact hwlD
        refine ⟨hD8, ?_, rs ++ [r], wss ++ [⟨wl, cutP g.2⟩], Ex.mut ((e5.trans e7).trans eA) hD, ?_, hR8.exr (D := D) (fun b o hb ho => by rw [upd_ne hb]; exact ho) (Tx.lst hD8) (fun z => ?_) hw8, hw8, ?_, ?_⟩
        · rw [List.length_map, hrl]
          refine Nat.lt_of_lt_of_le hi (Nat.le_trans hkl ?_)
          rw [hul]
          exact Nat.le_trans htl (by decide)
        · rw [List.map_append]
          exact upd_same
        · obtain ⟨_, _, hz⟩ := hR8.ins.1 D z
          rw [hD8] at hz
          cases hz
        · rw [List.length_append, hrl] <;> rfl
        · rw [List.map_append, hws, List.take_add_one, hg, List.map_append] <;> rfl
      · rintro H5 ⟨rs, wss, e5, hD5, hR5, hwD, hrl, hws⟩
        have hd5 := e5 _ _ hdf
        refine ⟨hd5, q hnone D _ rs wss (Ex.mut (eHf.trans e5) hd) (fresh_back eHf hD) ?_ (hR5.exr (D := d) (fun b o hb ho => by rw [upd_ne hb]; exact ho) (fun a xs ha => ?_) (fun z => ?_) (fun ws hw z => ?_)) ?_⟩
        · rw [upd_ne hdD.symm]
          exact hD5
        · rw [upd_ne]
          · exact ha
          · intro z
            rw [z, hd5] at ha
            cases ha
        · obtain ⟨_, _, hz⟩ := hR5.ins.1 d z
          rw [hd5] at hz
          cases hz
        · obtain ⟨_, hz⟩ := hR5.ins.2 ws hw
          rw [z, hd5] at hz
          cases hz
        · rw [hws, List.take_of_length_le (by omega)] <;> rfl
end
end Wt

set_option Elab.async false
set_option linter.all false
set_option maxRecDepth 100000
set_option maxHeartbeats 4000000
namespace Wt
open PySem PySem.Spec PyProof.Rows L2 SX Evl
open C8 (Def Cal Met Mak cal0 met0 mak0 fnScope_by fnScope)
/-! A page: rows still to take. -/
def bhOf (text : List Nat) : Place := ((Txt.count (S text) (Str.ofString "\n")).toNat + 2, 1)
def pageF (l : Addr) (i : Nat) (bp : V) : List (Str × V) := [("rows", .ref l), ("next_row", .int (i : Int)), ("behind", bp)]
structure PageO (H : Hp) (CP C pg lp : Addr) (bh : Place) (rest : List Wds) : Prop where
  ex : ∃ (dx l : Addr) (bp : V) (i : Nat) (rs : List Addr), H pg = some (.ins CP dx (pageF l i bp)) ∧ H l = some (.lst (rs.map V.ref)) ∧ (i ≤ rs.length ∧ rs.length ≤ 1000) ∧ Rws H C (rs.drop i) rest ∧ Td H bp (placeD bh) ∧ pg ∉ rs.drop i ∧ l = lp
/-- all but objects -/
abbrev Ei (H H' : Hp) : Prop := ∀ b o, (∀ C dx fs, o ≠ .ins C dx fs) → H b = some o → H' b = some o
theorem Ei.of {H H' : Hp} (e : Ex H H') : Ei H H' := fun b o _ h => e b o h
theorem Ei.trans {H H1 H2 : Hp} (a : Ei H H1) (b : Ei H1 H2) : Ei H H2 := fun x o n h => b x o n (a x o n h)
theorem Ei.tx {H H' : Hp} (e : Ei H H') : Tx H H' := fun a xs h => e a _ (fun _ _ _ z => nomatch z) h
theorem Ei.exr {H H' : Hp} {r C dx : Addr} {fs : List (Str × V)} (e : Exr r H H') (h : H r = some (.ins C dx fs)) : Ei H H' := fun b o n hb => e b o (fun z => by
  rw [z, h] at hb
  cases hb
  exact n _ _ _ rfl) hb
theorem RowO.ei {H H' : Hp} {C r : Addr} {ws : Wds} {rest : List Tk} (h : RowO H C r ws rest) (e : Exr r H H') : Ei H H' := by
  obtain ⟨dx, wl, us, i, hq, h1, _⟩ := h
  exact Ei.exr e h1
theorem PageO.go {H H' : Hp} {CP C pg lp : Addr} {bh : Place} {rest : List Wds} (h : PageO H CP C pg lp bh rest) (e : Ex H H') : PageO H' CP C pg lp bh rest := by
  obtain ⟨dx, l, bp, i, rs, h1, h2, h3, h4, h5, h6, hl0⟩ := h
  exact ⟨dx, l, bp, i, rs, e _ _ h1, e _ _ h2, h3, h4.go e, Td.tx (Tx.of e) _ _ h5, h6, hl0⟩
/-- a row that is no longer the page's, and the page -/
structure Row1 (H : Hp) (CP C pg lp r : Addr) (bh : Place) (ws : Wds) (rest : List Tk) (wss : List Wds) : Prop where
  row : RowO H C r ws rest
  page : PageO H CP C pg lp bh wss
  ne : r ≠ pg
  ok : WsOk ws
  away : ∀ (dx l : Addr) (bp : V) (i : Nat) (rs : List Addr), H pg = some (.ins CP dx (pageF l i bp)) → H l = some (.lst (rs.map V.ref)) → r ∉ rs.drop i
theorem map_ref {rs rs2 : List Addr} (h : rs.map V.ref = rs2.map V.ref) : rs = rs2 := by
  induction rs generalizing rs2 with
  | nil =>
    cases rs2 with
    | nil => rfl
    | cons a b => cases h
  | cons a rs ih =>
    cases rs2 with
    | nil => cases h
    | cons b rs2 =>
      rw [List.map_cons, List.map_cons] at h
      obtain ⟨h1, h2⟩ := List.cons.inj h
      rw [V.ref.inj h1, ih h2]
theorem pageF_inj {l l2 : Addr} {i i2 : Nat} {bp bp2 : V} (h : pageF l i bp = pageF l2 i2 bp2) : l = l2 ∧ i = i2 ∧ bp = bp2 := by
  unfold pageF at h
  simp only [List.cons.injEq, Prod.mk.injEq, V.ref.injEq, V.int.injEq, true_and, and_true] at h
  refine ⟨h.1, ?_, h.2.2⟩
  have := h.2.1
  omega
theorem Row1.go {H H' : Hp} {CP C pg lp r : Addr} {bh : Place} {ws : Wds} {rest r2 : List Tk} {wss : List Wds} (h : Row1 H CP C pg lp r bh ws rest wss) (e : Exr r H H') (hR : RowO H' C r ws r2) : Row1 H' CP C pg lp r bh ws r2 wss := by
  obtain ⟨dx, l, bp, i, rs, h1, h2, h3, h4, h5, h6, hl0⟩ := h.page
  have haw := h.away dx l bp i rs h1 h2
  have tx := h.row.tx e
  obtain ⟨dr, wl, us, ir, hq, k1, k2, _⟩ := id h.row
  have hlr : l ≠ r := ne_of h2 k1 (by intro z; cases z)
  have hp' := e _ _ h.ne.symm h1
  have hl' := e _ _ hlr h2
  have hwd : ∀ w ∈ wss, w.wl ≠ r := fun w hw z => by
    obtain ⟨u, hu⟩ := h4.ins.2 w hw
    rw [z, k1] at hu
    cases hu
  refine ⟨hR, ⟨dx, l, bp, i, rs, hp', hl', h3, h4.exr e tx haw hwd, Td.tx tx _ _ h5, h6, hl0⟩, h.ne, h.ok, fun dx2 l2 bp2 i2 rs2 g1 g2 => ?_⟩
  rw [hp'] at g1
  cases g1
  rw [hl'] at g2
  have hm := map_ref (HO.lst.inj (Option.some.inj g2))
  subst hm
  exact haw
theorem Row1.ex {H H' : Hp} {CP C pg lp r : Addr} {bh : Place} {ws : Wds} {rest : List Tk} {wss : List Wds} (h : Row1 H CP C pg lp r bh ws rest wss) (e : Ex H H') : Row1 H' CP C pg lp r bh ws rest wss := h.go (Exr.of e) (h.row.go e)
/-- what Page has -/
structure ModsG (K : PySem.W.Frag) (mg : Str → Option Value) (CP : Addr) : Prop where
  m_len : mg "len" = none
  cls : Cls K CP
  nr : NoAttr K CP "rows"
  nn : NoAttr K CP "next_row"
  nb : NoAttr K CP "behind"
theorem lkp_rows {l : Addr} {i : Nat} {bp : V} : (pageF l i bp).lookup (Str.ofString "rows") = some (.ref l) := by
  unfold pageF
  rw [lookup_put, if_pos rfl]
theorem lkp_next {l : Addr} {i : Nat} {bp : V} : (pageF l i bp).lookup (Str.ofString "next_row") = some (.int (i : Int)) := by
  unfold pageF
  rw [lookup_put, if_neg (by decide +kernel), lookup_put, if_pos rfl]
theorem lkp_beh {l : Addr} {i : Nat} {bp : V} : (pageF l i bp).lookup (Str.ofString "behind") = some bp := by
  unfold pageF
  rw [lookup_put, if_neg (by decide +kernel), lookup_put, if_neg (by decide +kernel), lookup_put, if_pos rfl]
theorem lkp_no {l : Addr} {i : Nat} {bp : V} {m : Str} (h1 : m ≠ "rows") (h2 : m ≠ "next_row") (h3 : m ≠ "behind") : (pageF l i bp).lookup m = none := by
  unfold pageF
  rw [lookup_put, if_neg h1, lookup_put, if_neg h2, lookup_put, if_neg h3] <;> rfl
theorem putp_next {l : Addr} {i : Nat} {bp : V} : putF (Str.ofString "next_row") (.int ((i : Int) + 1)) (pageF l i bp) = pageF l (i + 1) bp := by
  unfold pageF
  show (if Str.ofString "rows" = Str.ofString "next_row" then _ else _ :: (if Str.ofString "next_row" = Str.ofString "next_row" then _ else _)) = _
  rw [if_neg (by decide +kernel), if_pos rfl, Int.natCast_add] <;> rfl
theorem Rws.len {H : Hp} {C : Addr} {rs : List Addr} {wss : List Wds} (h : Rws H C rs wss) : rs.length = wss.length := by
  induction h with
  | nil => rfl
  | cons _ _ _ _ ih => exact congrArg (· + 1) ih
theorem groups_len : ∀ (n : Nat) (rows : List (List Nat)), (groups n rows).length ≤ rows.length
  | _, [] => Nat.le_refl _
  | n, r :: rs => by
    show (if rowT n r = [] then groups (n + 1) rs else (n, rowT n r) :: groups (n + 1) rs).length ≤ rs.length + 1
    have ih := groups_len (n + 1) rs
    by_cases hr : rowT n r = []
    · rw [if_pos hr]
      omega
    · rw [if_neg hr, List.length_cons]
      omega
theorem PageO.few {H : Hp} {CP C pg lp : Addr} {bh : Place} {wss : List Wds} (h : PageO H CP C pg lp bh wss) : wss.length ≤ 1000 := by
  obtain ⟨dx, l2, bp, i, rs, h1, h2, h3, h4, h5, h6, rfl⟩ := h
  have := h4.len
  rw [List.length_drop] at this
  omega
section
variable {P : Program} {w : World} {K : PySem.W.Frag} {mg : Str → Option Value} {base : Heap} {C CF CP : Addr}
/-! ### Page(text) -/
abbrev s_Page_init : Stmt := (C8.clsBody (topS 33)).getD 0 (.Pass ⟨0, 0, 0, 0⟩)
theorem sc_Page_init : FnScope ["self", "text"] ["self", "text"] (fnScope s_Page_init) := fnScope_by (by decide +kernel)
def spPageI (CF CP C : Addr) : Sp := fun vs H Q E => ∃ (pg dx : Addr) (text : List Nat) (rows : List (List Nat)), vs = [.ref pg, .str (S text)] ∧ H pg = some (.ins CP dx []) ∧ TextOk text rows ∧ 0 ≤ Txt.count (S text) (Str.ofString "\n") ∧
  (firstBad 1 rows = none → ∀ (H2 : Hp) (wss : List Wds), Exr pg H H2 → (∃ lp, PageO H2 CP C pg lp (bhOf text) wss) → wss.map (·.ts) = pageP rows → Q .non H2) ∧ ∀ n c, firstBad 1 rows = some (n, c) → RaiseF CF H E n c
theorem ok_Page_init (T : ModsG K mg CP) (M : Mk K CP f) (hm : mg "Page" = some (.ref CP)) (c_rows_of : CalX P w K mg base 5 "rows_of" (spRowsOf CF C)) {fd : FuncData} (F : C8.Fun K "__init__" "Page.__init__" s_Page_init f fd) (b : Binds K fd ["self", "text"] []) : MakX P w K mg base 6 "Page" CP (spPageI CF CP C) := by
  refine makX M hm F b sc_Page_init (fun vs H Q E h => ?_) (fun cdv A outer s H vs Q E hr h => ?_)
  · obtain ⟨_, _, _, _, rfl, _⟩ := h
    rfl
  · obtain ⟨pg, dx, text, rows, rfl, hpg, hT, hcn, q, qx⟩ := h
    have tk : Lets _ E := tk_cx (P := P) (w := w) (K := K) (mg := mg) (base := base) (N := ["self", "text"]) (q := "Page.__init__") (sc := fnScope s_Page_init) (f := f) (cdv := cdv) (A := A) (outer := outer) (s := s) (H := H) (E := E)
    refine ⟨_, (pss_cons (ps_fld (pv 0) (Wt.pe_cE c_rows_of tk hr (by first | decide | exact Nat.le_refl _ | omega) (by rfl) (pa_cons (pv 1) pa_nil)) rfl)
      (pss_cons (ps_fld (pv 0) pe_int rfl)
      (pss_one (ps_fld (pv 0) (pe_tup (pa_cons (pe_op op_add (pe_m1 PySem.F.slot_str_count PySem.F.type_str_count mt_count (pv 1) pe_str) pe_int) (pa_cons pe_int pa_nil))) rfl)))), ?_⟩
    refine ⟨_, rfl, text, rows, rfl, hT, fun hnone l H2 rs wss e2 hl hl2 hR hws => ?_, fun n c hc => qx n c hc⟩
    have hpg2 := e2 _ _ hpg
    have hrs : rs.length ≤ 1000 := by
      rw [hR.len, ← List.length_map (f := fun x : Wds => x.ts) (as := wss), hws]
      unfold pageP
      rw [List.length_map]
      exact Nat.le_trans (groups_len 1 rows) hT.rws
    have hpr : pg ∉ rs := fun z => by
      have : ∀ {rs : List Addr} {wss : List Wds}, Rws H2 C rs wss → pg ∉ rs := fun {rs wss} h => by
        induction h with
        | nil => simp
        | cons k1 _ _ _ ih =>
          intro z
          rcases List.mem_cons.mp z with z | z
          · obtain ⟨_, _, _, _, _, k2, _⟩ := k1
            rw [← z, hpg2] at k2
            cases k2
          · exact ih z
      exact this hR z
    have hlp : l ≠ pg := ne_of hl2 hpg2 (by intro z; cases z)
    refine ⟨_, rfl, pg, CP, dx, _, rfl, hpg2, T.cls, T.nr, by decide, ?_⟩
    refine ⟨_, rfl, pg, CP, dx, _, rfl, upd_same, T.cls, T.nn, by show 1 < 1000; decide, ?_⟩
    -- self.behind
    refine ⟨_, rfl, ⟨_, rfl⟩, _, _, rfl, rfl, ?_⟩
    refine ⟨_, _, rfl, rfl, ?_⟩
    refine ⟨sz_of (by show 2 ≤ 100000; decide), fun bp hbp => ?_⟩
    have hbp2 : bp ≠ pg := fun z => by
      rw [z, upd_same] at hbp
      cases hbp
    have h5 := Ex.new (o := HO.tup [.int (Txt.count (S text) (Str.ofString "\n") + 2), .int 1]) hbp
    refine ⟨_, rfl, pg, CP, dx, _, rfl, h5 _ _ upd_same, T.cls, T.nb, by show 2 < 1000; decide, ?_⟩
    have eF : putF (Str.ofString "behind") (.ref bp) (putF (Str.ofString "next_row") (.int 0) (putF (Str.ofString "rows") (.ref l) [])) = pageF l 0 (.ref bp) := by
      have a1 : putF (Str.ofString "next_row") (.int 0) (putF (Str.ofString "rows") (.ref l) []) = [(Str.ofString "rows", .ref l), (Str.ofString "next_row", .int 0)] := by
        show (if Str.ofString "rows" = Str.ofString "next_row" then _ else _ :: _) = _
        rw [if_neg (by decide +kernel)] <;> rfl
      rw [a1]
      show (if Str.ofString "rows" = Str.ofString "behind" then _ else _ :: (if Str.ofString "next_row" = Str.ofString "behind" then _ else _)) = _
      rw [if_neg (by decide +kernel), if_neg (by decide +kernel)] <;> rfl
    have x26 : Exr pg H2 (upd (upd (upd (upd H2 pg (.ins CP dx (putF (Str.ofString "rows") (.ref l) []))) pg (.ins CP dx (putF (Str.ofString "next_row") (.int 0) (putF (Str.ofString "rows") (.ref l) [])))) bp (.tup [.int (Txt.count (S text) (Str.ofString "\n") + 2), .int 1])) pg (.ins CP dx (putF (Str.ofString "behind") (.ref bp) (putF (Str.ofString "next_row") (.int 0) (putF (Str.ofString "rows") (.ref l) []))))) := fun b o hb ho => by
      rw [upd_ne hb]
      refine h5 _ _ ?_
      rw [upd_ne hb, upd_ne hb]
      exact ho
    have hpgs : (upd (upd (upd (upd H2 pg (.ins CP dx (putF (Str.ofString "rows") (.ref l) []))) pg (.ins CP dx (putF (Str.ofString "next_row") (.int 0) (putF (Str.ofString "rows") (.ref l) [])))) bp (.tup [.int (Txt.count (S text) (Str.ofString "\n") + 2), .int 1])) pg (.ins CP dx (putF (Str.ofString "behind") (.ref bp) (putF (Str.ofString "next_row") (.int 0) (putF (Str.ofString "rows") (.ref l) []))))) pg = some (.ins CP dx (pageF l 0 (.ref bp))) := by
      rw [upd_same, eF]
    have hbps : (upd (upd (upd (upd H2 pg (.ins CP dx (putF (Str.ofString "rows") (.ref l) []))) pg (.ins CP dx (putF (Str.ofString "next_row") (.int 0) (putF (Str.ofString "rows") (.ref l) [])))) bp (.tup [.int (Txt.count (S text) (Str.ofString "\n") + 2), .int 1])) pg (.ins CP dx (putF (Str.ofString "behind") (.ref bp) (putF (Str.ofString "next_row") (.int 0) (putF (Str.ofString "rows") (.ref l) []))))) bp = some (.tup [.int (Txt.count (S text) (Str.ofString "\n") + 2), .int 1]) := by
      rw [upd_ne hbp2, upd_same]
    refine q hnone _ wss ((Exr.of e2).trans x26) ⟨l, dx, l, .ref bp, 0, rs, hpgs, x26 _ _ hlp hl2, ⟨Nat.zero_le _, hrs⟩, ?_, ?_, hpr, rfl⟩ hws
    · refine hR.exr x26 (x26.tx hpg2) hpr fun ws hw z => ?_
      obtain ⟨u, hu⟩ := hR.ins.2 ws hw
      rw [z, hpg2] at hu
      cases hu
    · refine .tup hbps (.cons ?_ (.cons (.int 1) .nil))
      have : ((bhOf text).1 : Int) = Txt.count (S text) (Str.ofString "\n") + 2 := by
        show (((Txt.count (S text) (Str.ofString "\n")).toNat + 2 : Nat) : Int) = _
        omega
      show Td _ (.int (Txt.count (S text) (Str.ofString "\n") + 2)) (.int ((bhOf text).1 : Int))
      rw [this]
      exact .int _
/-! ### word, take_row -/
abbrev s_Page_word : Stmt := (C8.clsBody (topS 33)).getD 1 (.Pass ⟨0, 0, 0, 0⟩)
theorem sc_Page_word : FnScope ["self"] ["self"] (fnScope s_Page_word) := fnScope_by (by decide +kernel)
def spPWord (CP C : Addr) : Sp := fun vs H Q _ => ∃ (pg lp : Addr) (bh : Place) (wss : List Wds), vs = [.ref pg] ∧ PageO H CP C pg lp bh wss ∧ RetV (.str (S (pwordP (wss.map (·.ts))))) H Q
theorem Rws.head {H : Hp} {C : Addr} {rs : List Addr} {ws : Wds} {wss : List Wds} (h : Rws H C rs (ws :: wss)) : ∃ r rs2, rs = r :: rs2 ∧ RowO H C r ws ws.ts ∧ WsOk ws ∧ r ∉ rs2 ∧ Rws H C rs2 wss := by
  cases h with
  | cons a b c d => exact ⟨_, _, rfl, a, b, c, d⟩
theorem ok_Page_word (T : ModsG K mg CP) (c_Row_word : Met P w K mg base 2 C "word" (spLook C fun rest => .str (S (wordH rest))) []) {f : Addr} {fd : FuncData} (me : Meth K CP "word" f) (F : C8.Fun K "word" "Page.word" s_Page_word f fd) (b : Binds K fd ["self"] []) :
    Met P w K mg base 3 CP "word" (spPWord CP C) [] := by
  refine met0 T.cls me F b sc_Page_word (fun vs H Q E h => ?_) (fun cdv A outer s H vs Q E hr h => ?_)
  · obtain ⟨_, _, _, _, rfl, _⟩ := h
    rfl
  · obtain ⟨pg, lp, bh, wss, rfl, hP, q⟩ := h
    have m_len := T.m_len
    obtain ⟨dx, l, bp, i, rs, h1, h2, h3, h4, h5, h6, hl0⟩ := hP
    refine ⟨_, (pss_cons (ps_if (pt_cmpR op_eq (pe_fld (pv 0) rfl) (pe_callB call_len_seq (by rfl) m_len PySem.boot_len (pa_cons (pe_fld (pv 0) rfl) pa_nil)) (nomark _)) (pss_one (ps_ret pe_str)) pss_nil)
      (pss_one (ps_ret (C8.pe_mt0 c_Row_word hr (by first | decide | exact Nat.le_refl _ | omega) (pe_ix ix_list (pe_fld (pv 0) rfl) (pe_fld (pv 0) rfl) (fun _ _ => rfl)))))), ?_⟩
    have hlen := h4.len
    rw [List.length_drop] at hlen
    refine q_when (et_test (ev_op (ev_fld (ev_var rfl) h1 T.cls T.nn lkp_next) (ev_len (K := K) (ev_fld (ev_var rfl) h1 T.cls T.nr lkp_rows) (sq_of h2)) (rv_eq rfl))) (fun hb H1 e1 => ?_) (fun hb H1 e1 => ?_)
    · have hn := V.int.inj (of_decide_eq_true hb)
      rw [List.length_map] at hn
      have : wss = [] := List.eq_nil_of_length_eq_zero (by omega)
      subst this
      exact s_ret (ev_is ev_c (congrArg V.str lit0)) fun H2 e2 => q.go (e1.trans e2)
    · have hn : ¬ (i : Int) = ((rs.map V.ref).length : Int) := fun z => of_decide_eq_false hb (congrArg V.int z)
      rw [List.length_map] at hn
      cases wss with
      | nil =>
        exfalso
        rw [List.length_nil] at hlen
        omega
      | cons ws wss =>
        obtain ⟨r, rs2, hd, k1, k2, k3, k4⟩ := h4.head
        have hi : i < rs.length := by omega
        have hg : rs[i]? = some r := by
          rw [List.drop_eq_getElem_cons hi] at hd
          rw [List.getElem?_eq_getElem hi, (List.cons.inj hd).1]
        have hg2 : (rs.map V.ref)[i]? = some (.ref r) := by
          rw [List.getElem?_map, hg] <;> rfl
        refine s_ret (ev_look (m := "word") k2 (k1.go e1) (ev_op (ev_fld (ev_var rfl) (e1 _ _ h1) T.cls T.nr lkp_rows) (ev_fld (ev_var rfl) (e1 _ _ h1) T.cls T.nn lkp_next) (rv_ixL (sq_of (e1 _ _ h2)) (atI_nat hg2))) (by decide +kernel) (by decide +kernel)) fun H2 e2 => q.go (e1.trans e2)
abbrev s_Page_take_row : Stmt := (C8.clsBody (topS 33)).getD 2 (.Pass ⟨0, 0, 0, 0⟩)
theorem sc_Page_take_row : FnScope ["self", "row"] ["self"] (fnScope s_Page_take_row) := fnScope_by (by decide +kernel)
/-- a fault of the tree, whatever objects have become -/
def RaiseG (CF : Addr) (H : Hp) (E : XK) (p : Place) : Prop := ∀ d H2, Ei H H2 → FaultT H2 d p → E (.ref CF) (some d) H2
theorem RaiseG.go {CF : Addr} {H H' : Hp} {E : XK} {p : Place} (h : RaiseG CF H E p) (e : Ei H H') : RaiseG CF H' E p := fun d H2 e2 f => h d H2 (e.trans e2) f
def spPTake (CF CP C : Addr) : Sp := fun vs H Q E => ∃ (pg lp : Addr) (bh : Place) (wss : List Wds), vs = [.ref pg] ∧ PageO H CP C pg lp bh wss ∧ (wss = [] → RaiseG CF H E bh) ∧
  ∀ ws wr, wss = ws :: wr → ∀ r H2, Ei H H2 → Row1 H2 CP C pg lp r bh ws ws.ts wr → Q (.ref r) H2
theorem ok_Page_take (T : ModsG K mg CP) (c_Fault : MakF P w K mg base 1 "Fault" CF) {f : Addr} {fd : FuncData} (me : Meth K CP "take_row" f) (F : C8.Fun K "take_row" "Page.take_row" s_Page_take_row f fd) (b : Binds K fd ["self"] []) :
    MetX P w K mg base 3 CP "take_row" (spPTake CF CP C) := by
  refine metX T.cls me F b sc_Page_take_row (fun vs H Q E h => ?_) (fun cdv A outer s H vs Q E hr h => ?_)
  · obtain ⟨_, _, _, _, rfl, _⟩ := h
    rfl
  · obtain ⟨pg, lp, bh, wss, rfl, hP, qe, qo⟩ := h
    have m_len := T.m_len
    obtain ⟨dx, l, bp, i, rs, h1, h2, h3, h4, h5, h6, hl0⟩ := hP
    have tk := tk_cx (P := P) (w := w) (K := K) (mg := mg) (base := base) (N := ["self", "row"]) (q := "Page.take_row") (sc := fnScope s_Page_take_row) (f := f) (cdv := cdv) (A := A) (outer := outer) (s := s) (H := H) (E := E)
    refine ⟨_, (pss_cons (ps_if (pt_cmpR op_eq (pe_fld (pv 0) rfl) (pe_callB call_len_seq (by rfl) m_len PySem.boot_len (pa_cons (pe_fld (pv 0) rfl) pa_nil)) (nomark _)) (pss_one (Wt.ps_fault c_Fault hr (by first | decide | exact Nat.le_refl _ | omega) rfl tk (by rfl) (pa_cons pe_str (pa_cons pe_str (pa_cons (pe_fld (pv 0) rfl) (pa_cons pe_str pa_nil)))))) pss_nil)
      (pss_cons (ps_set (i := 1) sc_Page_take_row.nd rfl (.inl rfl) (pe_ix ix_list (pe_fld (pv 0) rfl) (pe_fld (pv 0) rfl) (fun _ _ => rfl)))
      (pss_cons (ps_fldaug (pv 0) pe_int in_add)
      (pss_one (ps_ret (pv 1)))))), ?_⟩
    have hlen := h4.len
    rw [List.length_drop] at hlen
    refine q_when (et_test (ev_op (ev_fld (ev_var rfl) h1 T.cls T.nn lkp_next) (ev_len (K := K) (ev_fld (ev_var rfl) h1 T.cls T.nr lkp_rows) (sq_of h2)) (rv_eq rfl))) (fun hb H1 e1 => ?_) (fun hb H1 e1 => ?_)
    · have hn := V.int.inj (of_decide_eq_true hb)
      rw [List.length_map] at hn
      have : wss = [] := List.eq_nil_of_length_eq_zero (by omega)
      refine mk_fault (ea_cons ev_c (ea_cons ev_c (ea_cons (ev_fld (ev_var rfl) (e1 _ _ h1) T.cls T.nb lkp_beh) (ea_cons ev_c ea_nil)))) fun d H3 e3 h3' => ?_
      exact qe this d H3 (Ei.of (e1.trans e3)) ⟨bp, h3', Td.tx (Tx.of (e1.trans e3)) _ _ h5⟩
    · have hn : ¬ (i : Int) = ((rs.map V.ref).length : Int) := fun z => of_decide_eq_false hb (congrArg V.int z)
      rw [List.length_map] at hn
      cases wss with
      | nil =>
        exfalso
        rw [List.length_nil] at hlen
        omega
      | cons ws wss =>
        obtain ⟨r, rs2, hd, k1, k2, k3, k4⟩ := h4.head
        have hi : i < rs.length := by omega
        have hd0 := hd
        rw [List.drop_eq_getElem_cons hi] at hd0
        obtain ⟨hd1, hd2⟩ := List.cons.inj hd0
        have hg : rs[i]? = some r := by
          rw [List.getElem?_eq_getElem hi, hd1]
        have hg2 : (rs.map V.ref)[i]? = some (.ref r) := by
          rw [List.getElem?_map, hg] <;> rfl
        refine q_asg (ev_op (ev_fld (ev_var rfl) (e1 _ _ h1) T.cls T.nr lkp_rows) (ev_fld (ev_var rfl) (e1 _ _ h1) T.cls T.nn lkp_next) (rv_ixL (sq_of (e1 _ _ h2)) (atI_nat hg2))) fun H2 e2 => ?_
        have e02 := e1.trans e2
        have g1 := e02 _ _ h1
        refine ⟨_, rfl, pg, CP, dx, _, _, rfl, g1, T.cls, T.nn, lkp_next, ⟨_, _, rfl, rfl, dx, _, g1, by show 3 < 1000; decide, ?_⟩⟩
        rw [putp_next]
        have x2 : Exr pg H2 (upd H2 pg (.ins CP dx (pageF l (i + 1) bp))) := fun b o hb ho => by rw [upd_ne hb]; exact ho
        have tx := x2.tx g1
        have hlp : l ≠ pg := ne_of h2 h1 (by intro z; cases z)
        have hrp : r ≠ pg := fun z => h6 (by rw [hd, z]; exact List.mem_cons_self ..)
        have hp2 : pg ∉ rs2 := fun z => h6 (by rw [hd]; exact List.mem_cons_of_mem _ z)
        have k42 := k4.go e02
        have k12 := k1.go e02
        have hwn : ∀ w ∈ wss, w.wl ≠ pg := fun w hw z => by
          obtain ⟨u, hu⟩ := k4.ins.2 w hw
          rw [z, h1] at hu
          cases hu
        have hwn1 : ws.wl ≠ pg := fun z => by
          obtain ⟨_, wl, u, _, hq, _, hu, _⟩ := id k1
          rw [hq, z, h1] at hu
          cases hu
        refine s_ret (ev_var rfl) fun H3 e3 => qo ws wss rfl r H3 (((Ei.of e02).trans (Ei.exr x2 g1)).trans (Ei.of e3)) (Row1.ex ⟨k12.exr x2 tx hrp hwn1, ⟨dx, l, bp, i + 1, rs, upd_same, x2 _ _ hlp (e02 _ _ h2), ⟨hi, h3.2⟩, ?_, Td.tx tx _ _ (Td.tx (Tx.of e02) _ _ h5), ?_, hl0⟩, hrp, k2, fun dx3 l3 bp3 i3 rs3 m1 m2 => ?_⟩ e3)
        · rw [hd2]
          exact k42.exr x2 tx hp2 hwn
        · rw [hd2]
          exact hp2
        · rw [upd_same] at m1
          have m3 := HO.ins.inj (Option.some.inj m1)
          obtain ⟨rfl, rfl, rfl⟩ := pageF_inj m3.2.2
          rw [x2 _ _ hlp (e02 _ _ h2)] at m2
          have hm := map_ref (HO.lst.inj (Option.some.inj m2))
          subst hm
          rw [hd2]
          exact k3
end
end Wt

set_option Elab.async false
set_option linter.all false
set_option maxRecDepth 100000
set_option maxHeartbeats 4000000
namespace Wt
open PySem PySem.Spec PyProof.Rows L2 SX Evl
open C8 (Def Cal Met Mak cal0 met0 mak0 fnScope_by fnScope)
/-! What reads a page; a page made out of a text. -/
structure PageM (P : Program) (w : World) (K : PySem.W.Frag) (mg : Str → Option Value) (base : Heap) (CP C CF : Addr) : Prop where
  word : Met P w K mg base 3 CP "word" (spPWord CP C) []
  take_row : MetX P w K mg base 3 CP "take_row" (spPTake CF CP C)
def GoG {α : Type} (CF CP C pg lp : Addr) (bh : Place) (wss : List Wds) (c : Nat) (H : Hp) (Q : VK) (E : XK) (res : Except Place (α × List (List Tk))) (val : α → Hp → V → Prop) : Prop :=
  (∀ e, res = .error e → RaiseG CF H E e) ∧ ∀ a pg2, res = .ok (a, pg2) → ∀ v H2 n, Ei H H2 → PageO H2 CP C pg lp bh (wss.drop n) → (wss.drop n).map (·.ts) = pg2 → c ≤ n → n ≤ wss.length → val a H2 v → Q v H2
def spPage {α : Type} (CF CP C : Addr) (args : List V) (c : Nat) (p : Place → PP α) (val : α → Hp → V → Prop) : Sp := fun vs H Q E => ∃ (pg lp : Addr) (bh : Place) (wss : List Wds), vs = .ref pg :: args ∧ PageO H CP C pg lp bh wss ∧ GoG CF CP C pg lp bh wss c H Q E (p bh (wss.map (·.ts))) val
theorem GoG.go {α : Type} {CF CP C pg lp : Addr} {bh : Place} {wss : List Wds} {c : Nat} {H H' : Hp} {Q : VK} {E : XK} {res : Except Place (α × List (List Tk))} {val : α → Hp → V → Prop} (h : GoG CF CP C pg lp bh wss c H Q E res val) (e : Ei H H') : GoG CF CP C pg lp bh wss c H' Q E res val :=
  ⟨fun x hx => (h.1 x hx).go e, fun a r2 hr v H2 n x2 => h.2 a r2 hr v H2 n (e.trans x2)⟩
theorem Ei.lst {H H' : Hp} {a : Addr} {us : List V} (e : Ei H H') (h : H a = some (.lst us)) : H' a = some (.lst us) := e a _ (fun _ _ _ z => by cases z) h
theorem Ei.mut {l : Addr} {H H' : Hp} {o : HO} (e : Ei H H') (h : H l = none) : Ei H (upd H' l o) := fun b u n hu => by
  rw [upd_ne (ne_of_none hu h)]
  exact e b u n hu
theorem RaiseG.row {CF C r : Addr} {H : Hp} {E : XK} {p : Place} {ws : Wds} {rest : List Tk} (h : RaiseG CF H E p) (hR : RowO H C r ws rest) : RaiseT CF r H E p := fun d H2 e2 f => h d H2 (hR.ei e2) f
/-- a new list apart from the page -/
structure Apart (l : Addr) (lp : Addr) (wss : List Wds) : Prop where
  a : l ≠ lp
  b : ∀ ws ∈ wss, ws.wl ≠ l
theorem PageO.apart {H : Hp} {CP C pg lp l : Addr} {bh : Place} {wss : List Wds} (h : PageO H CP C pg lp bh wss) (hl : H l = none) : Apart l lp wss := by
  obtain ⟨dx, l2, bp, i, rs, h1, h2, h3, h4, h5, h6, rfl⟩ := h
  refine ⟨(ne_of_none h2 hl).symm, fun ws hw => ?_⟩
  obtain ⟨u, hu⟩ := h4.ins.2 ws hw
  exact ne_of_none hu hl
theorem Apart.drop {l lp : Addr} {wss : List Wds} (h : Apart l lp wss) (n : Nat) : Apart l lp (wss.drop n) := ⟨h.a, fun ws hw => h.b ws (List.mem_of_mem_drop hw)⟩
theorem PageO.mut {H : Hp} {CP C pg lp l : Addr} {bh : Place} {wss : List Wds} {xs ys : List V} (h : PageO H CP C pg lp bh wss) (ap : Apart l lp wss) (hl : H l = some (.lst xs)) : PageO (upd H l (.lst ys)) CP C pg lp bh wss := by
  obtain ⟨dx, l2, bp, i, rs, h1, h2, h3, h4, h5, h6, rfl⟩ := h
  have e : Exr l H (upd H l (.lst ys)) := fun b o hb ho => by rw [upd_ne hb]; exact ho
  have nins : ∀ r C dx fs, H r = some (.ins C dx fs) → r ≠ l := fun r C dx fs hr z => by
    rw [z, hl] at hr
    cases hr
  refine ⟨dx, l2, bp, i, rs, e _ _ (nins _ _ _ _ h1) h1, e _ _ ap.a.symm h2, h3, h4.exr e (Tx.lst hl) (fun z => ?_) ap.b, Td.tx (Tx.lst hl) _ _ h5, h6, rfl⟩
  obtain ⟨dx2, fs2, hz⟩ := h4.ins.1 l z
  exact nins _ _ _ _ hz rfl
section
variable {σ : L2.St} {H : Hp} {ta : TE} {t : TA} {Q : VK} {E : XK} {CF CP C pg lp r : Addr} {bh : Place} {ws : Wds} {rest : List Tk} {wss : List Wds} {args : List V}
theorem p_call {α : Type} {c : Nat} {p : Place → PP α} {val : α → Hp → V → Prop} (ha : EvA t σ H (.ref pg :: args)) (hP : PageO H CP C pg lp bh wss) (hG : GoG CF CP C pg lp bh wss c H Q E (p bh (wss.map (·.ts))) val) : tCall (spPage CF CP C args c p val) [] E t σ H Q :=
  ha H (Ex.refl H) _ fun H1 e1 => ⟨pg, lp, bh, wss, List.append_nil _, hP.go e1, hG.go (Ei.of e1)⟩
theorem p_take (ha : Ev ta σ H (.ref pg)) (hP : PageO H CP C pg lp bh wss) (qe : wss = [] → RaiseG CF H E bh) (qo : ∀ ws wr, wss = ws :: wr → ∀ r H2, Ei H H2 → Row1 H2 CP C pg lp r bh ws ws.ts wr → Q (.ref r) H2) : tMeth CP "take_row" (spPTake CF CP C) [] E ta tNil σ H Q :=
  ha H (Ex.refl H) _ fun H1 e1 => by
    obtain ⟨dx, l2, bp, i, rs, h1, _⟩ := id (hP.go e1)
    exact ⟨pg, dx, _, rfl, h1, lkp_no (by decide +kernel) (by decide +kernel) (by decide +kernel), pg, lp, bh, wss, rfl, hP.go e1, fun z => (qe z).go (Ei.of e1), fun ws wr hw r H2 x2 => qo ws wr hw r H2 ((Ei.of e1).trans x2)⟩
theorem ev_pword (hP : PageO H CP C pg lp bh wss) (ha : Ev ta σ H (.ref pg)) : Ev (tMeth CP "word" (spPWord CP C) [] E ta tNil) σ H (.str (S (pwordP (wss.map (·.ts))))) := by
  obtain ⟨dx, l2, bp, i, rs, h1, _⟩ := id hP
  exact ev_meth ha h1 (lkp_no (by decide +kernel) (by decide +kernel) (by decide +kernel)) ea_nil fun H1 e Q q => ⟨pg, lp, bh, wss, rfl, hP.go e, fun H2 e2 => q H2 e2⟩
end
section
variable {P : Program} {w : World} {K : PySem.W.Frag} {mg : Str → Option Value} {base : Heap} {C CF CP aK : Addr}
/-- what comes of a text whose rows are read to data -/
def spText (CF : Addr) (g : Place → List (List Tk) → Except Place PyData) : Sp := fun vs H Q E => ∃ (text : List Nat) (rows : List (List Nat)), vs = [.str (S text)] ∧ TextOk text rows ∧ 0 ≤ Txt.count (S text) (Str.ofString "\n") ∧
  (firstBad 1 rows = none → (∀ e, g (bhOf text) (pageP rows) = .error e → RaiseG CF H E e) ∧ ∀ d, g (bhOf text) (pageP rows) = .ok d → ∀ v H2, Ei H H2 → Td H2 v d → Q v H2) ∧ ∀ n c, firstBad 1 rows = some (n, c) → RaiseF CF H E n c
theorem RaiseF.go {CF : Addr} {H H' : Hp} {E : XK} {n c : Nat} (h : RaiseF CF H E n c) (e : Ex H H') : RaiseF CF H' E n c := fun d H2 e2 f => h d H2 (e.trans e2) f
/-- Page(text), as it stands -/
theorem g_page {σ : L2.St} {H : Hp} {t : TA} {Q : VK} {E : XK} {text : List Nat} {rows : List (List Nat)} (ha : EvA t σ H [.str (S text)]) (hT : TextOk text rows) (hc : 0 ≤ Txt.count (S text) (Str.ofString "\n")) (qo : firstBad 1 rows = none → ∀ (pg lp : Addr) (H2 : Hp) (wss : List Wds), Ei H H2 → PageO H2 CP C pg lp (bhOf text) wss → wss.map (·.ts) = pageP rows → Q (.ref pg) H2)
    (qx : ∀ n c, firstBad 1 rows = some (n, c) → RaiseF CF H E n c) : tMake CP (spPageI CF CP C) [] E t σ H Q := ha H (Ex.refl H) _ fun H1 e1 x dx hx hdx hne => by
  have e2 : Ex H1 (upd (upd H1 dx (.own x)) x (.ins CP dx [])) := Ex.mut (Ex.new hdx) hx
  refine ⟨x, dx, text, rows, rfl, upd_same, hT, hc, fun hn H2 wss x2 ⟨lp, hP⟩ hws => ⟨rfl, ?_⟩, fun n c h => (qx n c h).go (e1.trans e2)⟩
  exact qo hn x lp H2 wss ((Ei.of (e1.trans e2)).trans (Ei.exr x2 upd_same)) hP hws
theorem q_page {σ : L2.St} {H : Hp} {t : TA} {D : Ends} {tz : TS} {i : Nat} {E : XK} {text : List Nat} {rows : List (List Nat)} (ha : EvA t σ H [.str (S text)]) (hT : TextOk text rows) (hc : 0 ≤ Txt.count (S text) (Str.ofString "\n")) (qo : firstBad 1 rows = none → ∀ (pg lp : Addr) (H2 : Hp) (wss : List Wds), Ei H H2 → PageO H2 CP C pg lp (bhOf text) wss → wss.map (·.ts) = pageP rows → tz D (σ.set i (some (.ref pg))) H2)
    (qx : ∀ n c, firstBad 1 rows = some (n, c) → RaiseF CF H E n c) : tSeq (tAsg (tMake CP (spPageI CF CP C) [] E t) (gName i)) tz D σ H := by
  have := g_page (CP := CP) (C := C) (Q := fun x H1 => tz D (σ.set i (some x)) H1) ha hT hc qo qx
  exact this
end
end Wt

set_option Elab.async false
set_option linter.all false
set_option maxRecDepth 100000
set_option maxHeartbeats 4000000
namespace Wt
open PySem PySem.Spec PyProof.Rows L2 SX Evl
open C8 (Def Cal Met Mak cal0 met0 mak0 fnScope_by fnScope)
/-! The tree of a text that is one E. -/
theorem mk_faultD {C : Addr} {ta : TA} {σ : L2.St} {H : Hp} {Q : XK} {d1 d2 d3 d4 : PyData} (h : EAD ta σ H [d1, d2, d3, d4]) (q : ∀ d v1 v2 v3 v4 H2, Ex H H2 → Td H2 v1 d1 → Td H2 v2 d2 → Td H2 v3 d3 → Td H2 v4 d4 → H2 d = some (.xd [("why", v4), ("place", v3), ("file", v2), ("stage", v1)]) → Q (.ref C) (some d) H2) :
    tMkO C (spFault C) [] ta σ H Q := h H (Ex.refl H) _ fun vs H1 e1 hvs => by
  cases hvs with
  | @cons v1 _ _ _ h1 hvs =>
    cases hvs with
    | @cons v2 _ _ _ h2 hvs =>
      cases hvs with
      | @cons v3 _ _ _ h3 hvs =>
        cases hvs with
        | @cons v4 _ _ _ h4 hvs =>
          cases hvs
          exact fault_end fun d H2 e2 h => q d v1 v2 v3 v4 H2 (e1.trans e2) (Td.tx (Tx.of e2) _ _ h1) (Td.tx (Tx.of e2) _ _ h2) (Td.tx (Tx.of e2) _ _ h3) (Td.tx (Tx.of e2) _ _ h4) h
section
variable {P : Program} {w : World} {K : PySem.W.Frag} {mg : Str → Option Value} {base : Heap} {C CF CP aK : Addr}
abbrev s_worth_tree : Stmt := topS 37
theorem sc_worth_tree : FnScope ["text", "page", "worth"] ["text"] (fnScope s_worth_tree) := fnScope_by (by decide +kernel)
theorem ok_worth_tree (M : RowM P w K mg base C CF) (N : PageM P w K mg base CP C CF) {k : Nat} (hk : 10 ≤ k) (c_Fault : MakF P w K mg base 1 "Fault" CF) (c_Page : MakX P w K mg base 6 "Page" CP (spPageI CF CP C)) (c_read_worth : CalX P w K mg base k "read_worth" (spRowP CF C [] worthP vData))
    {f : Addr} {fd : FuncData} (F : Def K mg "worth_tree" s_worth_tree f fd) (b : Binds K fd ["text"] []) : CalX P w K mg base (k + 1) "worth_tree" (spText CF worthTree) := by
  refine calX F b sc_worth_tree (fun vs H Q E h => ?_) (fun cdv A outer s H vs Q E hr h => ?_)
  · obtain ⟨_, _, rfl, _⟩ := h
    rfl
  · obtain ⟨text, rows, rfl, hT, hc, q, qx⟩ := h
    have tk := tk_cx (P := P) (w := w) (K := K) (mg := mg) (base := base) (N := ["text", "page", "worth"]) (q := "worth_tree") (sc := fnScope s_worth_tree) (f := f) (cdv := cdv) (A := A) (outer := outer) (s := s) (H := H) (E := E)
    have c_Page_word := N.word
    have c_Page_take_row := N.take_row
    have c_Row_refuse := M.refuse
    refine ⟨_, (pss_cons (ps_set (i := 1) sc_worth_tree.nd rfl (.inl rfl) (Wt.pe_mkX c_Page tk hr (by first | decide | exact Nat.le_refl _ | omega) (by rfl) (pa_cons (pv 0) pa_nil)))
      (pss_cons (ps_if (pt_cmpR op_eq (C8.pe_mt0 c_Page_word hr (by first | decide | exact Nat.le_refl _ | omega) (pv 1)) pe_str (nomark _)) (pss_one (Wt.ps_fault c_Fault hr (by first | decide | exact Nat.le_refl _ | omega) rfl tk (by rfl) (pa_cons pe_str (pa_cons pe_str (pa_cons (pe_tup (pa_cons pe_int (pa_cons pe_int pa_nil))) (pa_cons pe_str pa_nil)))))) pss_nil)
      (pss_cons (ps_set (i := 2) sc_worth_tree.nd rfl (.inl rfl) (Wt.pe_cE c_read_worth tk hr (by first | decide | exact Nat.le_refl _ | omega) (by rfl) (pa_cons (Wt.pe_mtX0 c_Page_take_row tk hr (by first | decide | exact Nat.le_refl _ | omega) (pv 1)) pa_nil)))
      (pss_cons (ps_if (pt_cmpR op_ne (C8.pe_mt0 c_Page_word hr (by first | decide | exact Nat.le_refl _ | omega) (pv 1)) pe_str (nomark _)) (pss_one (ps_expr (Wt.pe_mtX0 c_Row_refuse tk hr (by first | decide | exact Nat.le_refl _ | omega) (Wt.pe_mtX0 c_Page_take_row tk hr (by first | decide | exact Nat.le_refl _ | omega) (pv 1))))) pss_nil)
      (pss_one (ps_ret (pv 2))))))), ?_⟩
    refine q_page (ea_cons (ev_var rfl) ea_nil) hT hc (fun hn pg lp H1 wss x1 hP hws => ?_) qx
    obtain ⟨qe, qo⟩ := q hn
    generalize bhOf text = bh at qe qo hP
    rw [← hws] at qe qo
    refine q_when (et_test (ev_eqS (ev_pword hP (ev_var rfl)) (ev_is ev_c (congrArg V.str lit0)))) (fun hb H2 e2 => ?_) (fun hb H2 e2 => ?_)
    · have h0 : pwordP (wss.map (·.ts)) = [] := of_decide_eq_true hb
      refine mk_faultD (ead_cons (ed_str ev_c) (ead_cons (ed_str ev_c) (ead_cons (ed_tup (ead_cons (ed_int ev_c) (ead_cons (ed_int ev_c) ead_nil)) (by show 2 ≤ 100000; decide)) (ead_cons (ed_str ev_c) ead_nil)))) fun d v1 v2 v3 v4 H3 e3 g1 g2 g3 g4 h3 => ?_
      cases g1
      cases g2
      cases g4
      have herr : worthTree bh (wss.map (·.ts)) = .error (1, 1) := by
        unfold worthTree
        cases hw : wss.map (·.ts) with
        | nil => rfl
        | cons row pr =>
          rw [hw] at h0
          exact if_pos h0
      exact qe _ herr d H3 (x1.trans (Ei.of (e2.trans e3))) ⟨v3, h3, g3⟩
    · have h0 : pwordP (wss.map (·.ts)) ≠ [] := of_decide_eq_false hb
      have hP2 := hP.go e2
      have x2 := x1.trans (Ei.of e2)
      cases wss with
      | nil => exact absurd rfl h0
      | cons ws wr =>
        have hq : worthTree bh ((ws :: wr).map (·.ts)) = match worthP (endP ws.ts) ws.ts with
            | .error e => .error e
            | .ok (d, _) => match wr.map (·.ts) with
              | [] => .ok d
              | row2 :: _ => if wordH row2 = [] then .ok d else .error (spotP (endP row2) row2) := if_neg h0
        rw [hq] at qe qo
        refine p_take (ev_var rfl) hP2 (fun z => by cases z) fun ws' wr' hwe r H3 x3 h1 => ?_
        cases hwe
        refine ea_nil H3 (Ex.refl H3) _ fun H4 e4 => ?_
        refine ⟨r, ws, ws.ts, rfl, h1.ok, h1.row.go e4, fun e he => ?_, fun d r2 hd v H5 x5 hR5 hl5 hv => ?_⟩
        · exact RaiseG.row ((qe e (by rw [he])).go (x2.trans (x3.trans (Ei.of e4)))) (h1.row.go e4)
        · have hd' : worthP (endP ws.ts) ws.ts = .ok (d, r2) := hd
          rw [hd'] at qe qo
          dsimp only at qe qo
          have h5 := (h1.ex e4).go x5 hR5
          have x25 := (x2.trans (x3.trans (Ei.of e4))).trans ((h1.row.go e4).ei x5)
          have hP5 := h5.page
          refine q_when (et_test (ev_neS (ev_pword hP5 (ev_var rfl)) (ev_is ev_c (congrArg V.str lit0)))) (fun hb6 H6 e6 => ?_) (fun hb6 H6 e6 => ?_)
          · have h6 : pwordP (wr.map (·.ts)) ≠ [] := by
              have := hb6
              rw [Bool.not_eq_true'] at this
              exact of_decide_eq_false this
            cases wr with
            | nil => exact absurd rfl h6
            | cons ws2 wr2 =>
              have hq2 : (match (ws2 :: wr2).map (·.ts) with
                | [] => .ok d
                | row2 :: _ => if wordH row2 = [] then .ok d else .error (spotP (endP row2) row2) : Except Place PyData) = .error (spotP (endP ws2.ts) ws2.ts) := if_neg h6
              rw [hq2] at qe
              refine p_take (ev_var rfl) (hP5.go e6) (fun z => by cases z) fun ws' wr' hwe r2 H7 x7 h7 => ?_
              cases hwe
              have hq7 := RaiseG.row ((qe _ rfl).go (x25.trans ((Ei.of e6).trans x7))) h7.row
              obtain ⟨dx, wl, us, i, hq8, g1, _⟩ := id h7.row
              exact ⟨r2, dx, _, rfl, g1, lk_no (by decide +kernel) (by decide +kernel), r2, ws2, ws2.ts, rfl, h7.ok, h7.row, hq7⟩
          · have h6 : pwordP (wr.map (·.ts)) = [] := by
              have := hb6
              rw [Bool.not_eq_false'] at this
              exact of_decide_eq_true this
            have hok : (match wr.map (·.ts) with
                | [] => .ok d
                | row2 :: _ => if wordH row2 = [] then .ok d else .error (spotP (endP row2) row2) : Except Place PyData) = .ok d := by
              cases hw : wr.map (·.ts) with
              | nil => rfl
              | cons row2 pr =>
                rw [hw] at h6
                exact if_pos h6
            refine s_ret (v := v) (ev_var rfl) fun H7 e7 => ?_
            exact qo d hok v H7 (x25.trans (Ei.of (e6.trans e7))) (Td.tx (Tx.of (e6.trans e7)) _ _ hv)
end
end Wt

set_option Elab.async false
set_option linter.all false
set_option maxRecDepth 100000
set_option maxHeartbeats 4000000
namespace Wt
open PySem PySem.Spec PyProof.Rows L2 SX Evl
open C8 (Def Cal cal0 fnScope_by fnScope)
/-! Fault's own __init__; the script however it stands. -/
abbrev s_init : Stmt := (C8.clsBody (topS 2)).getD 0 (.Pass ⟨0, 0, 0, 0⟩)
theorem sc_init : FnScope ["self", "stage", "file", "place", "why"] ["self", "stage", "file", "place", "why"] (fnScope s_init) := fnScope_by (by decide +kernel)
section
variable {P : Program} {w : World} {K : PySem.W.Frag} {mg : Str → Option Value} {base : Heap}
theorem ok_init {CF fI : Addr} {fd : FuncData} (T : OexC K CF) (N : FltC K CF (Str.ofString "stage") (Str.ofString "file") (Str.ofString "place") (Str.ofString "why")) (F : C8.Fun K "__init__" "Fault.__init__" s_init fI fd) :
    FnOk P w K mg base C8.CX0 1 fI fd ["self", "stage", "file", "place", "why"] (spFault CF) := by
  refine C8.fn0 F sc_init (fun vs H Q E h => ?_) (fun cdv A outer s H vs Q E hr h => ?_)
  · obtain ⟨_, _, _, _, _, rfl, _⟩ := h
    rfl
  · obtain ⟨a, v1, v2, v3, v4, rfl, ha, q⟩ := h
    exact ⟨_, pss_cons (ps_ost (pv 0) (pv 1)) (pss_cons (ps_ost (pv 0) (pv 2)) (pss_cons (ps_ost (pv 0) (pv 3)) (pss_one (ps_ost (pv 0) (pv 4))))), init4 T N.n1 N.n2 N.n3 N.n4 rfl rfl rfl rfl rfl ha q⟩
theorem mak_fault {CF fI : Addr} {fd : FuncData} (T : OexC K CF) (N : FltC K CF (Str.ofString "stage") (Str.ofString "file") (Str.ofString "place") (Str.ofString "why")) (iC : PySem.W.findIn K (.ref CF) "__init__" = some (some (.ref fI))) (tI : PySem.W.typeIn K (.ref fI) = some (.type "function"))
    (F : C8.Fun K "__init__" "Fault.__init__" s_init fI fd) (b : Binds K fd ["self", "stage", "file", "place", "why"] []) (hF : mg "Fault" = some (.ref CF)) : MakF P w K mg base 1 "Fault" CF := ⟨fI, fd, _, T, iC, tI, ok_init T N F, b, hF⟩
/-- a list that is known as it stands is one that is locked -/
theorem lock_list {H : Hp} {hp : Heap} {a : Addr} {xs : List V} (ok : HOk P w H hp) (h : H a = some (.lst xs)) : ∃ ob, Alike H (upd H a (.frz ob (.lst xs))) ∧ HOk P w (upd H a (.frz ob (.lst xs))) hp := by
  obtain ⟨hz, its, n, rv, e⟩ := (show ObjOk P w H hp a (.lst xs) from ok a _ h)
  refine ⟨_, ⟨fun b z => ?_, fun b ys z => ?_, fun b o u z => ?_, fun b ps z => ?_⟩, hok_at ok h True.intro ⟨e, hz, its, n, rv, e⟩⟩
  · rw [upd_ne (ne_of_none h z).symm]
    exact z
  · rw [upd_ne (ne_of z h (by intro q; cases q))]
    exact z
  · rw [upd_ne (ne_of z h (by intro q; cases q))]
    exact z
  · rw [upd_ne (ne_of z h (by intro q; cases q))]
    exact z
end
end Wt

set_option Elab.async false
set_option linter.all false
set_option maxRecDepth 100000
set_option maxHeartbeats 4000000
/-! What the top leaves, as it is looked at. -/
namespace Wt
open PySem PySem.Spec PyProof.Rows L2 SX Evl
def absS : Value → Option (List Nat)
  | .str x _ => some x.cps.toList
  | _ => none
theorem vals_abs : ∀ (us : List Value) (ws : List (List Nat)), us.map absS = ws.map some → Vals (ws.map fun z => V.str (S z)) us
  | [], [], _ => .nil
  | [], _ :: _, h => by cases h
  | _ :: _, [], h => by cases h
  | u :: us, w :: ws, h => by
    rw [List.map_cons, List.map_cons] at h
    injection h with h1 h2
    refine .cons ?_ (vals_abs us ws h2)
    cases u with
    | str x t =>
      have e : x.cps.toList = w := Option.some.inj h1
      subst e
      exact ⟨t, by rw [S_tl]⟩
    | _ => cases h1
theorem tup_written {K : PySem.W.Frag} {a : Addr} {od : Option Addr} {its : Array Value} {n : Nat} {sl : Array (Option Value)} {ws : List (List Nat)} (l : K.lookup a = some ⟨.type "tuple", od, .seq its n, sl⟩) (v : its.toList.map absS = ws.map some) (hl : ws.length ≤ 1000) (H : Hp) :
    SqT K H a (ws.map fun z => V.str (S z)) := by
  have r := vals_abs _ _ v
  refine .inr ⟨_, its, n, l, rfl, rfl, ?_, r⟩
  have e := r.length
  rw [List.length_map] at e
  rw [← Array.length_toList, ← e]
  exact Nat.le_of_lt (small1000 hl)
theorem str_written {mg : Str → Option Value} {x y : Str} {t : Tok} {l : List Nat} (h : mg x = some (.str y t)) (e : y = S l) : ∃ u, mg x = some u ∧ RelV (.str (S l)) u := ⟨_, h, t, by rw [e]⟩
/-- a code object's table -/
def ptOf (K : PySem.W.Frag) (c : Addr) : Addr := match K.lookup c with
  | some ⟨_, _, .fields vs, _⟩ => match (vs[11]? : Option Value) with
    | some (.ref p) => p
    | _ => 0
  | _ => 0
theorem mem_elem {a : Addr} {l : List Addr} (h : l.elem a = true) : a ∈ l := List.elem_iff.mp h
end Wt

set_option Elab.async false
set_option linter.all false
set_option maxRecDepth 100000
set_option maxHeartbeats 4000000
namespace Wt
open PySem PySem.Spec PyProof.Rows L2 SX Evl
open C8 (Def Cal Met Mak cal0 met0 mak0 fnScope_by fnScope)
/-! Out of what the top has written: Fault. -/
/-- what stands there of Fault -/
structure FaultsW (K : PySem.W.Frag) (mg : Str → Option Value) (CF : Addr) : Prop where
  ox : OexC K CF
  fl : FltC K CF (Str.ofString "stage") (Str.ofString "file") (Str.ofString "place") (Str.ofString "why")
  hm : mg "Fault" = some (.ref CF)
  made : ∀ (P : Program) (w : World) (base : Heap), MakF P w K mg base 1 "Fault" CF
theorem faults_mk {K : PySem.W.Frag} {h : Heap} {mg : Str → Option Value} (X : K.In h) (G : h.Ns mainGlobals mg)
    {CF : Addr} (gX : PySem.W.nsIn K mainGlobals "Fault" = some (some (.ref CF)))
    {nmX qX : Str} {NX : Addr} {bsX bmX : List Value} {snX : List Str} {subX : List Value} {abX : Bool} {colX : Option Bool} {ddX : Option Addr} {k0X k1X k2X k3X k5X : Option Value} (lX : K.lookup CF = some (excClassObj nmX qX CF NX bsX bmX true snX subX abX colX ddX k0X k1X k2X k3X k5X "ValueError.__new__")) (rX : PySem.HandSPX.refsVE bmX = true)
    (saX : PySem.W.findIn K (.ref CF) "__setattr__" = some (some (.builtin "object.__setattr__"))) (exX : PySem.W.subIn K (.ref CF) (.type "BaseException") = some true) (tyX : PySem.W.typeIn K (.ref CF) = some (.type "type")) (kX : PySem.W.keepIn K (.ref CF) = true)
    (xfX : xfB K CF = true) (hitX : PySem.W.exmOne K (.ref CF) (.ref CF) = some true)
    (n1X : PySem.W.findIn K (.ref CF) (Str.ofString "stage") = some none) (n2X : PySem.W.findIn K (.ref CF) (Str.ofString "file") = some none) (n3X : PySem.W.findIn K (.ref CF) (Str.ofString "place") = some none) (n4X : PySem.W.findIn K (.ref CF) (Str.ofString "why") = some none)
    {fI : Addr} (iX : PySem.W.findIn K (.ref CF) "__init__" = some (some (.ref fI))) (tI : PySem.W.typeIn K (.ref fI) = some (.type "function"))
    {od_I an_I : Option Addr} {sl_I : Array (Option Value)} {oc_I kV_I dc_I pm_I cd_I ct_I : Value} (l_I : K.lookup fI = some ⟨oc_I, od_I, .func (PySem.W.fnOf "__init__" "Fault.__init__" (C8.fnArgs s_init) (C8.fnBody s_init) (C8.fnScope s_init) .none kV_I dc_I pm_I an_I cd_I ct_I), sl_I⟩) (c_I : PySem.W.codeIn K cd_I "Fault.__init__" = true) : FaultsW K mg CF := by
  have TX : OexC K CF := ⟨⟨_, _, _, _, _, _, _, _, _, _, _, _, _, _, _, lX, rX⟩, saX, exX, tyX, kX⟩
  have TF : FltC K CF (Str.ofString "stage") (Str.ofString "file") (Str.ofString "place") (Str.ofString "why") := ⟨xfB_ok xfX, hitX, n1X, n2X, n3X, n4X⟩
  have hFm : mg "Fault" = some (.ref CF) := PySem.W.mg_of X G gX
  have FI : C8.Fun K "__init__" "Fault.__init__" s_init fI _ := ⟨_, _, _, _, _, _, _, _, _, _, rfl, l_I, c_I⟩
  have bI := C8.Fun.binds FI rfl (ps := ["self", "stage", "file", "place", "why"]) fun _ _ _ _ _ _ us hl => match us, hl with | [_, _, _, _, _], _ => rfl
  exact ⟨TX, TF, hFm, fun P w base => mak_fault (P := P) (w := w) (base := base) TX TF iX tI FI bI hFm⟩
end Wt

set_option Elab.async false
set_option linter.all false
set_option maxRecDepth 100000
set_option maxHeartbeats 4000000
namespace Wt
open PySem PySem.Spec PyProof.Rows L2 SX Evl
open C8 (Def Cal Met Mak cal0 met0 mak0 fnScope_by fnScope)
/-! Out of what the top has written: words, rows, E. -/
/-- what the readers of E come to -/
structure ExpW (K : PySem.W.Frag) (mg : Str → Option Value) (CF C CP : Addr) (P : Program) (w : World) (base : Heap) : Prop where
  words_of : CalX P w K mg base 4 "words_of" (spWordsOf CF)
  page : MakX P w K mg base 6 "Page" CP (spPageI CF CP C)
  rowM : RowM P w K mg base C CF
  pageM : PageM P w K mg base CP C CF
  lvl : Lvl P w K mg base C CF 136 8
  path : CalX P w K mg base 5 "read_path" (spRowP CF C [] pathP vPath)
  worth : CalX P w K mg base 137 "read_worth" (spRowP CF C [] worthP vData)
theorem exp_mk {K : PySem.W.Frag} {h : Heap} {mg : Str → Option Value} (X : K.In h) (G : h.Ns mainGlobals mg) {CF : Addr}
    {od_run_at an_run_at : Option Addr} {sl_run_at : Array (Option Value)} {oc_run_at kV_run_at dc_run_at pm_run_at cd_run_at ct_run_at : Value} {f_run_at : Addr}
    (a_run_at : PySem.W.nsIn K mainGlobals "run_at" = some (some (.ref f_run_at))) (l_run_at : K.lookup f_run_at = some ⟨oc_run_at, od_run_at, .func (PySem.W.fnOf "run_at" "run_at" (C8.fnArgs s_run_at) (C8.fnBody s_run_at) (C8.fnScope s_run_at) .none kV_run_at dc_run_at pm_run_at an_run_at cd_run_at ct_run_at), sl_run_at⟩)
    (c_run_at : PySem.W.codeIn K cd_run_at "run_at" = true) (k_run_at : PySem.W.keepIn K (.ref f_run_at) = true)
    {od_kind_of an_kind_of : Option Addr} {sl_kind_of : Array (Option Value)} {oc_kind_of kV_kind_of dc_kind_of pm_kind_of cd_kind_of ct_kind_of : Value} {f_kind_of : Addr}
    (a_kind_of : PySem.W.nsIn K mainGlobals "kind_of" = some (some (.ref f_kind_of))) (l_kind_of : K.lookup f_kind_of = some ⟨oc_kind_of, od_kind_of, .func (PySem.W.fnOf "kind_of" "kind_of" (C8.fnArgs s_kind_of) (C8.fnBody s_kind_of) (C8.fnScope s_kind_of) .none kV_kind_of dc_kind_of pm_kind_of an_kind_of cd_kind_of ct_kind_of), sl_kind_of⟩)
    (c_kind_of : PySem.W.codeIn K cd_kind_of "kind_of" = true) (k_kind_of : PySem.W.keepIn K (.ref f_kind_of) = true)
    {od_word_at an_word_at : Option Addr} {sl_word_at : Array (Option Value)} {oc_word_at kV_word_at dc_word_at pm_word_at cd_word_at ct_word_at : Value} {f_word_at : Addr}
    (a_word_at : PySem.W.nsIn K mainGlobals "word_at" = some (some (.ref f_word_at))) (l_word_at : K.lookup f_word_at = some ⟨oc_word_at, od_word_at, .func (PySem.W.fnOf "word_at" "word_at" (C8.fnArgs s_word_at) (C8.fnBody s_word_at) (C8.fnScope s_word_at) .none kV_word_at dc_word_at pm_word_at an_word_at cd_word_at ct_word_at), sl_word_at⟩)
    (c_word_at : PySem.W.codeIn K cd_word_at "word_at" = true) (k_word_at : PySem.W.keepIn K (.ref f_word_at) = true)
    {od_words_in an_words_in : Option Addr} {sl_words_in : Array (Option Value)} {oc_words_in kV_words_in dc_words_in pm_words_in cd_words_in ct_words_in : Value} {f_words_in : Addr}
    (a_words_in : PySem.W.nsIn K mainGlobals "words_in" = some (some (.ref f_words_in))) (l_words_in : K.lookup f_words_in = some ⟨oc_words_in, od_words_in, .func (PySem.W.fnOf "words_in" "words_in" (C8.fnArgs s_words_in) (C8.fnBody s_words_in) (C8.fnScope s_words_in) .none kV_words_in dc_words_in pm_words_in an_words_in cd_words_in ct_words_in), sl_words_in⟩)
    (c_words_in : PySem.W.codeIn K cd_words_in "words_in" = true) (k_words_in : PySem.W.keepIn K (.ref f_words_in) = true)
    {od_words_of an_words_of : Option Addr} {sl_words_of : Array (Option Value)} {oc_words_of kV_words_of dc_words_of pm_words_of cd_words_of ct_words_of : Value} {f_words_of : Addr}
    (a_words_of : PySem.W.nsIn K mainGlobals "words_of" = some (some (.ref f_words_of))) (l_words_of : K.lookup f_words_of = some ⟨oc_words_of, od_words_of, .func (PySem.W.fnOf "words_of" "words_of" (C8.fnArgs s_words_of) (C8.fnBody s_words_of) (C8.fnScope s_words_of) .none kV_words_of dc_words_of pm_words_of an_words_of cd_words_of ct_words_of), sl_words_of⟩)
    (c_words_of : PySem.W.codeIn K cd_words_of "words_of" = true) (k_words_of : PySem.W.keepIn K (.ref f_words_of) = true)
    {od_within an_within : Option Addr} {sl_within : Array (Option Value)} {oc_within kV_within dc_within pm_within cd_within ct_within : Value} {f_within : Addr}
    (a_within : PySem.W.nsIn K mainGlobals "within" = some (some (.ref f_within))) (l_within : K.lookup f_within = some ⟨oc_within, od_within, .func (PySem.W.fnOf "within" "within" (C8.fnArgs s_within) (C8.fnBody s_within) (C8.fnScope s_within) .none kV_within dc_within pm_within an_within cd_within ct_within), sl_within⟩)
    (c_within : PySem.W.codeIn K cd_within "within" = true) (k_within : PySem.W.keepIn K (.ref f_within) = true)
    {od_from_left an_from_left : Option Addr} {sl_from_left : Array (Option Value)} {oc_from_left kV_from_left dc_from_left pm_from_left cd_from_left ct_from_left : Value} {f_from_left : Addr}
    (a_from_left : PySem.W.nsIn K mainGlobals "from_left" = some (some (.ref f_from_left))) (l_from_left : K.lookup f_from_left = some ⟨oc_from_left, od_from_left, .func (PySem.W.fnOf "from_left" "from_left" (C8.fnArgs s_from_left) (C8.fnBody s_from_left) (C8.fnScope s_from_left) .none kV_from_left dc_from_left pm_from_left an_from_left cd_from_left ct_from_left), sl_from_left⟩)
    (c_from_left : PySem.W.codeIn K cd_from_left "from_left" = true) (k_from_left : PySem.W.keepIn K (.ref f_from_left) = true)
    {od_read_path an_read_path : Option Addr} {sl_read_path : Array (Option Value)} {oc_read_path kV_read_path dc_read_path pm_read_path cd_read_path ct_read_path : Value} {f_read_path : Addr}
    (a_read_path : PySem.W.nsIn K mainGlobals "read_path" = some (some (.ref f_read_path))) (l_read_path : K.lookup f_read_path = some ⟨oc_read_path, od_read_path, .func (PySem.W.fnOf "read_path" "read_path" (C8.fnArgs s_read_path) (C8.fnBody s_read_path) (C8.fnScope s_read_path) .none kV_read_path dc_read_path pm_read_path an_read_path cd_read_path ct_read_path), sl_read_path⟩)
    (c_read_path : PySem.W.codeIn K cd_read_path "read_path" = true) (k_read_path : PySem.W.keepIn K (.ref f_read_path) = true)
    {od_read_given an_read_given : Option Addr} {sl_read_given : Array (Option Value)} {oc_read_given kV_read_given dc_read_given pm_read_given cd_read_given ct_read_given : Value} {f_read_given : Addr}
    (a_read_given : PySem.W.nsIn K mainGlobals "read_given" = some (some (.ref f_read_given))) (l_read_given : K.lookup f_read_given = some ⟨oc_read_given, od_read_given, .func (PySem.W.fnOf "read_given" "read_given" (C8.fnArgs s_read_given) (C8.fnBody s_read_given) (C8.fnScope s_read_given) .none kV_read_given dc_read_given pm_read_given an_read_given cd_read_given ct_read_given), sl_read_given⟩)
    (c_read_given : PySem.W.codeIn K cd_read_given "read_given" = true) (k_read_given : PySem.W.keepIn K (.ref f_read_given) = true)
    {od_read_bracket an_read_bracket : Option Addr} {sl_read_bracket : Array (Option Value)} {oc_read_bracket kV_read_bracket dc_read_bracket pm_read_bracket cd_read_bracket ct_read_bracket : Value} {f_read_bracket : Addr}
    (a_read_bracket : PySem.W.nsIn K mainGlobals "read_bracket" = some (some (.ref f_read_bracket))) (l_read_bracket : K.lookup f_read_bracket = some ⟨oc_read_bracket, od_read_bracket, .func (PySem.W.fnOf "read_bracket" "read_bracket" (C8.fnArgs s_read_bracket) (C8.fnBody s_read_bracket) (C8.fnScope s_read_bracket) .none kV_read_bracket dc_read_bracket pm_read_bracket an_read_bracket cd_read_bracket ct_read_bracket), sl_read_bracket⟩)
    (c_read_bracket : PySem.W.codeIn K cd_read_bracket "read_bracket" = true) (k_read_bracket : PySem.W.keepIn K (.ref f_read_bracket) = true)
    {od_read_named an_read_named : Option Addr} {sl_read_named : Array (Option Value)} {oc_read_named kV_read_named dc_read_named pm_read_named cd_read_named ct_read_named : Value} {f_read_named : Addr}
    (a_read_named : PySem.W.nsIn K mainGlobals "read_named" = some (some (.ref f_read_named))) (l_read_named : K.lookup f_read_named = some ⟨oc_read_named, od_read_named, .func (PySem.W.fnOf "read_named" "read_named" (C8.fnArgs s_read_named) (C8.fnBody s_read_named) (C8.fnScope s_read_named) .none kV_read_named dc_read_named pm_read_named an_read_named cd_read_named ct_read_named), sl_read_named⟩)
    (c_read_named : PySem.W.codeIn K cd_read_named "read_named" = true) (k_read_named : PySem.W.keepIn K (.ref f_read_named) = true)
    {od_read_single an_read_single : Option Addr} {sl_read_single : Array (Option Value)} {oc_read_single kV_read_single dc_read_single pm_read_single cd_read_single ct_read_single : Value} {f_read_single : Addr}
    (a_read_single : PySem.W.nsIn K mainGlobals "read_single" = some (some (.ref f_read_single))) (l_read_single : K.lookup f_read_single = some ⟨oc_read_single, od_read_single, .func (PySem.W.fnOf "read_single" "read_single" (C8.fnArgs s_read_single) (C8.fnBody s_read_single) (C8.fnScope s_read_single) .none kV_read_single dc_read_single pm_read_single an_read_single cd_read_single ct_read_single), sl_read_single⟩)
    (c_read_single : PySem.W.codeIn K cd_read_single "read_single" = true) (k_read_single : PySem.W.keepIn K (.ref f_read_single) = true)
    {od_read_negated an_read_negated : Option Addr} {sl_read_negated : Array (Option Value)} {oc_read_negated kV_read_negated dc_read_negated pm_read_negated cd_read_negated ct_read_negated : Value} {f_read_negated : Addr}
    (a_read_negated : PySem.W.nsIn K mainGlobals "read_negated" = some (some (.ref f_read_negated))) (l_read_negated : K.lookup f_read_negated = some ⟨oc_read_negated, od_read_negated, .func (PySem.W.fnOf "read_negated" "read_negated" (C8.fnArgs s_read_negated) (C8.fnBody s_read_negated) (C8.fnScope s_read_negated) .none kV_read_negated dc_read_negated pm_read_negated an_read_negated cd_read_negated ct_read_negated), sl_read_negated⟩)
    (c_read_negated : PySem.W.codeIn K cd_read_negated "read_negated" = true) (k_read_negated : PySem.W.keepIn K (.ref f_read_negated) = true)
    {od_read_product an_read_product : Option Addr} {sl_read_product : Array (Option Value)} {oc_read_product kV_read_product dc_read_product pm_read_product cd_read_product ct_read_product : Value} {f_read_product : Addr}
    (a_read_product : PySem.W.nsIn K mainGlobals "read_product" = some (some (.ref f_read_product))) (l_read_product : K.lookup f_read_product = some ⟨oc_read_product, od_read_product, .func (PySem.W.fnOf "read_product" "read_product" (C8.fnArgs s_read_product) (C8.fnBody s_read_product) (C8.fnScope s_read_product) .none kV_read_product dc_read_product pm_read_product an_read_product cd_read_product ct_read_product), sl_read_product⟩)
    (c_read_product : PySem.W.codeIn K cd_read_product "read_product" = true) (k_read_product : PySem.W.keepIn K (.ref f_read_product) = true)
    {od_read_sum an_read_sum : Option Addr} {sl_read_sum : Array (Option Value)} {oc_read_sum kV_read_sum dc_read_sum pm_read_sum cd_read_sum ct_read_sum : Value} {f_read_sum : Addr}
    (a_read_sum : PySem.W.nsIn K mainGlobals "read_sum" = some (some (.ref f_read_sum))) (l_read_sum : K.lookup f_read_sum = some ⟨oc_read_sum, od_read_sum, .func (PySem.W.fnOf "read_sum" "read_sum" (C8.fnArgs s_read_sum) (C8.fnBody s_read_sum) (C8.fnScope s_read_sum) .none kV_read_sum dc_read_sum pm_read_sum an_read_sum cd_read_sum ct_read_sum), sl_read_sum⟩)
    (c_read_sum : PySem.W.codeIn K cd_read_sum "read_sum" = true) (k_read_sum : PySem.W.keepIn K (.ref f_read_sum) = true)
    {od_read_compared an_read_compared : Option Addr} {sl_read_compared : Array (Option Value)} {oc_read_compared kV_read_compared dc_read_compared pm_read_compared cd_read_compared ct_read_compared : Value} {f_read_compared : Addr}
    (a_read_compared : PySem.W.nsIn K mainGlobals "read_compared" = some (some (.ref f_read_compared))) (l_read_compared : K.lookup f_read_compared = some ⟨oc_read_compared, od_read_compared, .func (PySem.W.fnOf "read_compared" "read_compared" (C8.fnArgs s_read_compared) (C8.fnBody s_read_compared) (C8.fnScope s_read_compared) .none kV_read_compared dc_read_compared pm_read_compared an_read_compared cd_read_compared ct_read_compared), sl_read_compared⟩)
    (c_read_compared : PySem.W.codeIn K cd_read_compared "read_compared" = true) (k_read_compared : PySem.W.keepIn K (.ref f_read_compared) = true)
    {od_read_denied an_read_denied : Option Addr} {sl_read_denied : Array (Option Value)} {oc_read_denied kV_read_denied dc_read_denied pm_read_denied cd_read_denied ct_read_denied : Value} {f_read_denied : Addr}
    (a_read_denied : PySem.W.nsIn K mainGlobals "read_denied" = some (some (.ref f_read_denied))) (l_read_denied : K.lookup f_read_denied = some ⟨oc_read_denied, od_read_denied, .func (PySem.W.fnOf "read_denied" "read_denied" (C8.fnArgs s_read_denied) (C8.fnBody s_read_denied) (C8.fnScope s_read_denied) .none kV_read_denied dc_read_denied pm_read_denied an_read_denied cd_read_denied ct_read_denied), sl_read_denied⟩)
    (c_read_denied : PySem.W.codeIn K cd_read_denied "read_denied" = true) (k_read_denied : PySem.W.keepIn K (.ref f_read_denied) = true)
    {od_read_both an_read_both : Option Addr} {sl_read_both : Array (Option Value)} {oc_read_both kV_read_both dc_read_both pm_read_both cd_read_both ct_read_both : Value} {f_read_both : Addr}
    (a_read_both : PySem.W.nsIn K mainGlobals "read_both" = some (some (.ref f_read_both))) (l_read_both : K.lookup f_read_both = some ⟨oc_read_both, od_read_both, .func (PySem.W.fnOf "read_both" "read_both" (C8.fnArgs s_read_both) (C8.fnBody s_read_both) (C8.fnScope s_read_both) .none kV_read_both dc_read_both pm_read_both an_read_both cd_read_both ct_read_both), sl_read_both⟩)
    (c_read_both : PySem.W.codeIn K cd_read_both "read_both" = true) (k_read_both : PySem.W.keepIn K (.ref f_read_both) = true)
    {od_read_expression an_read_expression : Option Addr} {sl_read_expression : Array (Option Value)} {oc_read_expression kV_read_expression dc_read_expression pm_read_expression cd_read_expression ct_read_expression : Value} {f_read_expression : Addr}
    (a_read_expression : PySem.W.nsIn K mainGlobals "read_expression" = some (some (.ref f_read_expression))) (l_read_expression : K.lookup f_read_expression = some ⟨oc_read_expression, od_read_expression, .func (PySem.W.fnOf "read_expression" "read_expression" (C8.fnArgs s_read_expression) (C8.fnBody s_read_expression) (C8.fnScope s_read_expression) .none kV_read_expression dc_read_expression pm_read_expression an_read_expression cd_read_expression ct_read_expression), sl_read_expression⟩)
    (c_read_expression : PySem.W.codeIn K cd_read_expression "read_expression" = true) (k_read_expression : PySem.W.keepIn K (.ref f_read_expression) = true)
    {od_cut an_cut : Option Addr} {sl_cut : Array (Option Value)} {oc_cut kV_cut dc_cut pm_cut cd_cut ct_cut : Value} {f_cut : Addr}
    (a_cut : PySem.W.nsIn K mainGlobals "cut" = some (some (.ref f_cut))) (l_cut : K.lookup f_cut = some ⟨oc_cut, od_cut, .func (PySem.W.fnOf "cut" "cut" (C8.fnArgs s_cut) (C8.fnBody s_cut) (C8.fnScope s_cut) .none kV_cut dc_cut pm_cut an_cut cd_cut ct_cut), sl_cut⟩)
    (c_cut : PySem.W.codeIn K cd_cut "cut" = true) (k_cut : PySem.W.keepIn K (.ref f_cut) = true)
    {od_rows_of an_rows_of : Option Addr} {sl_rows_of : Array (Option Value)} {oc_rows_of kV_rows_of dc_rows_of pm_rows_of cd_rows_of ct_rows_of : Value} {f_rows_of : Addr}
    (a_rows_of : PySem.W.nsIn K mainGlobals "rows_of" = some (some (.ref f_rows_of))) (l_rows_of : K.lookup f_rows_of = some ⟨oc_rows_of, od_rows_of, .func (PySem.W.fnOf "rows_of" "rows_of" (C8.fnArgs s_rows_of) (C8.fnBody s_rows_of) (C8.fnScope s_rows_of) .none kV_rows_of dc_rows_of pm_rows_of an_rows_of cd_rows_of ct_rows_of), sl_rows_of⟩)
    (c_rows_of : PySem.W.codeIn K cd_rows_of "rows_of" = true) (k_rows_of : PySem.W.keepIn K (.ref f_rows_of) = true)
    {od_read_worth an_read_worth : Option Addr} {sl_read_worth : Array (Option Value)} {oc_read_worth kV_read_worth dc_read_worth pm_read_worth cd_read_worth ct_read_worth : Value} {f_read_worth : Addr}
    (a_read_worth : PySem.W.nsIn K mainGlobals "read_worth" = some (some (.ref f_read_worth))) (l_read_worth : K.lookup f_read_worth = some ⟨oc_read_worth, od_read_worth, .func (PySem.W.fnOf "read_worth" "read_worth" (C8.fnArgs s_read_worth) (C8.fnBody s_read_worth) (C8.fnScope s_read_worth) .none kV_read_worth dc_read_worth pm_read_worth an_read_worth cd_read_worth ct_read_worth), sl_read_worth⟩)
    (c_read_worth : PySem.W.codeIn K cd_read_worth "read_worth" = true) (k_read_worth : PySem.W.keepIn K (.ref f_read_worth) = true)
    {C_Row : Addr} (g_Row : PySem.W.nsIn K mainGlobals "Row" = some (some (.ref C_Row))) (pg_Row : PySem.W.plainGet K C_Row Str.empty = true) (hd_Row : PySem.W.hasDictIn K C_Row = true) (po_Row : PySem.W.plainOver K C_Row = true) (sa_Row : PySem.W.findIn K (.ref C_Row) "__setattr__" = some (some (.builtin "object.__setattr__"))) (mk_Row : PySem.W.makesIn K C_Row = true) (kp_Row : PySem.W.keepIn K (.ref C_Row) = true) (na_Row_words : PySem.W.findIn K (.ref C_Row) (Str.ofString "words") = some none) (na_Row_at : PySem.W.findIn K (.ref C_Row) (Str.ofString "at") = some none)
    {od_Row_done an_Row_done : Option Addr} {sl_Row_done : Array (Option Value)} {oc_Row_done kV_Row_done dc_Row_done pm_Row_done cd_Row_done ct_Row_done : Value} {f_Row_done : Addr}
    (m_Row_done : PySem.W.findIn K (.ref C_Row) "done" = some (some (.ref f_Row_done))) (i_Row_done : PySem.W.isFn K (.ref f_Row_done) = true) (l_Row_done : K.lookup f_Row_done = some ⟨oc_Row_done, od_Row_done, .func (PySem.W.fnOf "done" "Row.done" (C8.fnArgs s_Row_done) (C8.fnBody s_Row_done) (C8.fnScope s_Row_done) .none kV_Row_done dc_Row_done pm_Row_done an_Row_done cd_Row_done ct_Row_done), sl_Row_done⟩)
    (c_Row_done : PySem.W.codeIn K cd_Row_done "Row.done" = true) (k_Row_done : PySem.W.keepIn K (.ref f_Row_done) = true)
    {od_Row_kind an_Row_kind : Option Addr} {sl_Row_kind : Array (Option Value)} {oc_Row_kind kV_Row_kind dc_Row_kind pm_Row_kind cd_Row_kind ct_Row_kind : Value} {f_Row_kind : Addr}
    (m_Row_kind : PySem.W.findIn K (.ref C_Row) "kind" = some (some (.ref f_Row_kind))) (i_Row_kind : PySem.W.isFn K (.ref f_Row_kind) = true) (l_Row_kind : K.lookup f_Row_kind = some ⟨oc_Row_kind, od_Row_kind, .func (PySem.W.fnOf "kind" "Row.kind" (C8.fnArgs s_Row_kind) (C8.fnBody s_Row_kind) (C8.fnScope s_Row_kind) .none kV_Row_kind dc_Row_kind pm_Row_kind an_Row_kind cd_Row_kind ct_Row_kind), sl_Row_kind⟩)
    (c_Row_kind : PySem.W.codeIn K cd_Row_kind "Row.kind" = true) (k_Row_kind : PySem.W.keepIn K (.ref f_Row_kind) = true)
    {od_Row_word an_Row_word : Option Addr} {sl_Row_word : Array (Option Value)} {oc_Row_word kV_Row_word dc_Row_word pm_Row_word cd_Row_word ct_Row_word : Value} {f_Row_word : Addr}
    (m_Row_word : PySem.W.findIn K (.ref C_Row) "word" = some (some (.ref f_Row_word))) (i_Row_word : PySem.W.isFn K (.ref f_Row_word) = true) (l_Row_word : K.lookup f_Row_word = some ⟨oc_Row_word, od_Row_word, .func (PySem.W.fnOf "word" "Row.word" (C8.fnArgs s_Row_word) (C8.fnBody s_Row_word) (C8.fnScope s_Row_word) .none kV_Row_word dc_Row_word pm_Row_word an_Row_word cd_Row_word ct_Row_word), sl_Row_word⟩)
    (c_Row_word : PySem.W.codeIn K cd_Row_word "Row.word" = true) (k_Row_word : PySem.W.keepIn K (.ref f_Row_word) = true)
    {od_Row_spot an_Row_spot : Option Addr} {sl_Row_spot : Array (Option Value)} {oc_Row_spot kV_Row_spot dc_Row_spot pm_Row_spot cd_Row_spot ct_Row_spot : Value} {f_Row_spot : Addr}
    (m_Row_spot : PySem.W.findIn K (.ref C_Row) "spot" = some (some (.ref f_Row_spot))) (i_Row_spot : PySem.W.isFn K (.ref f_Row_spot) = true) (l_Row_spot : K.lookup f_Row_spot = some ⟨oc_Row_spot, od_Row_spot, .func (PySem.W.fnOf "spot" "Row.spot" (C8.fnArgs s_Row_spot) (C8.fnBody s_Row_spot) (C8.fnScope s_Row_spot) .none kV_Row_spot dc_Row_spot pm_Row_spot an_Row_spot cd_Row_spot ct_Row_spot), sl_Row_spot⟩)
    (c_Row_spot : PySem.W.codeIn K cd_Row_spot "Row.spot" = true) (k_Row_spot : PySem.W.keepIn K (.ref f_Row_spot) = true)
    {od_Row_refuse an_Row_refuse : Option Addr} {sl_Row_refuse : Array (Option Value)} {oc_Row_refuse kV_Row_refuse dc_Row_refuse pm_Row_refuse cd_Row_refuse ct_Row_refuse : Value} {f_Row_refuse : Addr}
    (m_Row_refuse : PySem.W.findIn K (.ref C_Row) "refuse" = some (some (.ref f_Row_refuse))) (i_Row_refuse : PySem.W.isFn K (.ref f_Row_refuse) = true) (l_Row_refuse : K.lookup f_Row_refuse = some ⟨oc_Row_refuse, od_Row_refuse, .func (PySem.W.fnOf "refuse" "Row.refuse" (C8.fnArgs s_Row_refuse) (C8.fnBody s_Row_refuse) (C8.fnScope s_Row_refuse) .none kV_Row_refuse dc_Row_refuse pm_Row_refuse an_Row_refuse cd_Row_refuse ct_Row_refuse), sl_Row_refuse⟩)
    (c_Row_refuse : PySem.W.codeIn K cd_Row_refuse "Row.refuse" = true) (k_Row_refuse : PySem.W.keepIn K (.ref f_Row_refuse) = true)
    {od_Row_take an_Row_take : Option Addr} {sl_Row_take : Array (Option Value)} {oc_Row_take kV_Row_take dc_Row_take pm_Row_take cd_Row_take ct_Row_take : Value} {f_Row_take : Addr}
    (m_Row_take : PySem.W.findIn K (.ref C_Row) "take" = some (some (.ref f_Row_take))) (i_Row_take : PySem.W.isFn K (.ref f_Row_take) = true) (l_Row_take : K.lookup f_Row_take = some ⟨oc_Row_take, od_Row_take, .func (PySem.W.fnOf "take" "Row.take" (C8.fnArgs s_Row_take) (C8.fnBody s_Row_take) (C8.fnScope s_Row_take) .none kV_Row_take dc_Row_take pm_Row_take an_Row_take cd_Row_take ct_Row_take), sl_Row_take⟩)
    (c_Row_take : PySem.W.codeIn K cd_Row_take "Row.take" = true) (k_Row_take : PySem.W.keepIn K (.ref f_Row_take) = true)
    {od_Row_need an_Row_need : Option Addr} {sl_Row_need : Array (Option Value)} {oc_Row_need kV_Row_need dc_Row_need pm_Row_need cd_Row_need ct_Row_need : Value} {f_Row_need : Addr}
    (m_Row_need : PySem.W.findIn K (.ref C_Row) "need" = some (some (.ref f_Row_need))) (i_Row_need : PySem.W.isFn K (.ref f_Row_need) = true) (l_Row_need : K.lookup f_Row_need = some ⟨oc_Row_need, od_Row_need, .func (PySem.W.fnOf "need" "Row.need" (C8.fnArgs s_Row_need) (C8.fnBody s_Row_need) (C8.fnScope s_Row_need) .none kV_Row_need dc_Row_need pm_Row_need an_Row_need cd_Row_need ct_Row_need), sl_Row_need⟩)
    (c_Row_need : PySem.W.codeIn K cd_Row_need "Row.need" = true) (k_Row_need : PySem.W.keepIn K (.ref f_Row_need) = true)
    {od_Row_need_name an_Row_need_name : Option Addr} {sl_Row_need_name : Array (Option Value)} {oc_Row_need_name kV_Row_need_name dc_Row_need_name pm_Row_need_name cd_Row_need_name ct_Row_need_name : Value} {f_Row_need_name : Addr}
    (m_Row_need_name : PySem.W.findIn K (.ref C_Row) "need_name" = some (some (.ref f_Row_need_name))) (i_Row_need_name : PySem.W.isFn K (.ref f_Row_need_name) = true) (l_Row_need_name : K.lookup f_Row_need_name = some ⟨oc_Row_need_name, od_Row_need_name, .func (PySem.W.fnOf "need_name" "Row.need_name" (C8.fnArgs s_Row_need_name) (C8.fnBody s_Row_need_name) (C8.fnScope s_Row_need_name) .none kV_Row_need_name dc_Row_need_name pm_Row_need_name an_Row_need_name cd_Row_need_name ct_Row_need_name), sl_Row_need_name⟩)
    (c_Row_need_name : PySem.W.codeIn K cd_Row_need_name "Row.need_name" = true) (k_Row_need_name : PySem.W.keepIn K (.ref f_Row_need_name) = true)
    {od_Row_finish an_Row_finish : Option Addr} {sl_Row_finish : Array (Option Value)} {oc_Row_finish kV_Row_finish dc_Row_finish pm_Row_finish cd_Row_finish ct_Row_finish : Value} {f_Row_finish : Addr}
    (m_Row_finish : PySem.W.findIn K (.ref C_Row) "finish" = some (some (.ref f_Row_finish))) (i_Row_finish : PySem.W.isFn K (.ref f_Row_finish) = true) (l_Row_finish : K.lookup f_Row_finish = some ⟨oc_Row_finish, od_Row_finish, .func (PySem.W.fnOf "finish" "Row.finish" (C8.fnArgs s_Row_finish) (C8.fnBody s_Row_finish) (C8.fnScope s_Row_finish) .none kV_Row_finish dc_Row_finish pm_Row_finish an_Row_finish cd_Row_finish ct_Row_finish), sl_Row_finish⟩)
    (c_Row_finish : PySem.W.codeIn K cd_Row_finish "Row.finish" = true) (k_Row_finish : PySem.W.keepIn K (.ref f_Row_finish) = true)
    {od_Row_init an_Row_init : Option Addr} {sl_Row_init : Array (Option Value)} {oc_Row_init kV_Row_init dc_Row_init pm_Row_init cd_Row_init ct_Row_init : Value} {f_Row_init : Addr}
    (m_Row_init : PySem.W.findIn K (.ref C_Row) "__init__" = some (some (.ref f_Row_init))) (i_Row_init : PySem.W.isFn K (.ref f_Row_init) = true) (l_Row_init : K.lookup f_Row_init = some ⟨oc_Row_init, od_Row_init, .func (PySem.W.fnOf "__init__" "Row.__init__" (C8.fnArgs s_Row_init) (C8.fnBody s_Row_init) (C8.fnScope s_Row_init) .none kV_Row_init dc_Row_init pm_Row_init an_Row_init cd_Row_init ct_Row_init), sl_Row_init⟩)
    (c_Row_init : PySem.W.codeIn K cd_Row_init "Row.__init__" = true) (k_Row_init : PySem.W.keepIn K (.ref f_Row_init) = true)
    {C_Page : Addr} (g_Page : PySem.W.nsIn K mainGlobals "Page" = some (some (.ref C_Page))) (pg_Page : PySem.W.plainGet K C_Page Str.empty = true) (hd_Page : PySem.W.hasDictIn K C_Page = true) (po_Page : PySem.W.plainOver K C_Page = true) (sa_Page : PySem.W.findIn K (.ref C_Page) "__setattr__" = some (some (.builtin "object.__setattr__"))) (mk_Page : PySem.W.makesIn K C_Page = true) (kp_Page : PySem.W.keepIn K (.ref C_Page) = true) (na_Page_rows : PySem.W.findIn K (.ref C_Page) (Str.ofString "rows") = some none) (na_Page_next_row : PySem.W.findIn K (.ref C_Page) (Str.ofString "next_row") = some none) (na_Page_behind : PySem.W.findIn K (.ref C_Page) (Str.ofString "behind") = some none)
    {od_Page_word an_Page_word : Option Addr} {sl_Page_word : Array (Option Value)} {oc_Page_word kV_Page_word dc_Page_word pm_Page_word cd_Page_word ct_Page_word : Value} {f_Page_word : Addr}
    (m_Page_word : PySem.W.findIn K (.ref C_Page) "word" = some (some (.ref f_Page_word))) (i_Page_word : PySem.W.isFn K (.ref f_Page_word) = true) (l_Page_word : K.lookup f_Page_word = some ⟨oc_Page_word, od_Page_word, .func (PySem.W.fnOf "word" "Page.word" (C8.fnArgs s_Page_word) (C8.fnBody s_Page_word) (C8.fnScope s_Page_word) .none kV_Page_word dc_Page_word pm_Page_word an_Page_word cd_Page_word ct_Page_word), sl_Page_word⟩)
    (c_Page_word : PySem.W.codeIn K cd_Page_word "Page.word" = true) (k_Page_word : PySem.W.keepIn K (.ref f_Page_word) = true)
    {od_Page_take_row an_Page_take_row : Option Addr} {sl_Page_take_row : Array (Option Value)} {oc_Page_take_row kV_Page_take_row dc_Page_take_row pm_Page_take_row cd_Page_take_row ct_Page_take_row : Value} {f_Page_take_row : Addr}
    (m_Page_take_row : PySem.W.findIn K (.ref C_Page) "take_row" = some (some (.ref f_Page_take_row))) (i_Page_take_row : PySem.W.isFn K (.ref f_Page_take_row) = true) (l_Page_take_row : K.lookup f_Page_take_row = some ⟨oc_Page_take_row, od_Page_take_row, .func (PySem.W.fnOf "take_row" "Page.take_row" (C8.fnArgs s_Page_take_row) (C8.fnBody s_Page_take_row) (C8.fnScope s_Page_take_row) .none kV_Page_take_row dc_Page_take_row pm_Page_take_row an_Page_take_row cd_Page_take_row ct_Page_take_row), sl_Page_take_row⟩)
    (c_Page_take_row : PySem.W.codeIn K cd_Page_take_row "Page.take_row" = true) (k_Page_take_row : PySem.W.keepIn K (.ref f_Page_take_row) = true)
    {od_Page_init an_Page_init : Option Addr} {sl_Page_init : Array (Option Value)} {oc_Page_init kV_Page_init dc_Page_init pm_Page_init cd_Page_init ct_Page_init : Value} {f_Page_init : Addr}
    (m_Page_init : PySem.W.findIn K (.ref C_Page) "__init__" = some (some (.ref f_Page_init))) (i_Page_init : PySem.W.isFn K (.ref f_Page_init) = true) (l_Page_init : K.lookup f_Page_init = some ⟨oc_Page_init, od_Page_init, .func (PySem.W.fnOf "__init__" "Page.__init__" (C8.fnArgs s_Page_init) (C8.fnBody s_Page_init) (C8.fnScope s_Page_init) .none kV_Page_init dc_Page_init pm_Page_init an_Page_init cd_Page_init ct_Page_init), sl_Page_init⟩)
    (c_Page_init : PySem.W.codeIn K cd_Page_init "Page.__init__" = true) (k_Page_init : PySem.W.keepIn K (.ref f_Page_init) = true)
    (z_len : PySem.W.nsIn K mainGlobals "len" = some none)
    (z_enumerate : PySem.W.nsIn K mainGlobals "enumerate" = some none)
    (z_int : PySem.W.nsIn K mainGlobals "int" = some none)
    (z_tuple : PySem.W.nsIn K mainGlobals "tuple" = some none)
    {aS aO : Addr} {odS odO : Option Addr} {itS itO : Array Value} {nS nO : Nat} {slS slO : Array (Option Value)} {tL tF tN t1 t2 : Tok}
    (gL : PySem.W.nsIn K mainGlobals "LETTERS" = some (some (.str (Str.ofString "abcdefghijklmnopqrstuvwxyz") tL))) (gF : PySem.W.nsIn K mainGlobals "FIGURES" = some (some (.str (Str.ofString "0123456789") tF)))
    (gN : PySem.W.nsIn K mainGlobals "LONGEST" = some (some (.int 6 tN))) (gS : PySem.W.nsIn K mainGlobals "SIGNS" = some (some (.ref aS))) (gO : PySem.W.nsIn K mainGlobals "OWN_WORDS" = some (some (.ref aO)))
    (lS : K.lookup aS = some ⟨.type "tuple", odS, .seq itS nS, slS⟩) (lO : K.lookup aO = some ⟨.type "tuple", odO, .seq itO nO, slO⟩) (vS : itS.toList.map absS = signs.map some) (vO : itO.toList.map absS = owns.map some)
    (gI : PySem.W.nsIn K mainGlobals "MOST_WITHIN" = some (some (.int 8 t1))) (gM : PySem.W.nsIn K mainGlobals "MOST_WORDS" = some (some (.int 60 t2))) (FW : FaultsW K mg CF) (P : Program) (w : World) (base : Heap) : ExpW K mg CF C_Row C_Page P w base := by
  have D_run_at : Def K mg "run_at" s_run_at f_run_at _ := ⟨⟨_, _, _, _, _, _, _, _, _, _, rfl, l_run_at, c_run_at⟩, PySem.W.mg_of X G a_run_at, k_run_at⟩
  have b_run_at := C8.Fun.binds D_run_at.fn rfl (ps := ["row", "at", "characters"]) fun _ _ _ _ _ _ us hl => match us, hl with | [_, _, _], _ => rfl
  have D_kind_of : Def K mg "kind_of" s_kind_of f_kind_of _ := ⟨⟨_, _, _, _, _, _, _, _, _, _, rfl, l_kind_of, c_kind_of⟩, PySem.W.mg_of X G a_kind_of, k_kind_of⟩
  have b_kind_of := C8.Fun.binds D_kind_of.fn rfl (ps := ["word"]) fun _ _ _ _ _ _ us hl => match us, hl with | [_], _ => rfl
  have D_word_at : Def K mg "word_at" s_word_at f_word_at _ := ⟨⟨_, _, _, _, _, _, _, _, _, _, rfl, l_word_at, c_word_at⟩, PySem.W.mg_of X G a_word_at, k_word_at⟩
  have b_word_at := C8.Fun.binds D_word_at.fn rfl (ps := ["row", "at"]) fun _ _ _ _ _ _ us hl => match us, hl with | [_, _], _ => rfl
  have D_words_in : Def K mg "words_in" s_words_in f_words_in _ := ⟨⟨_, _, _, _, _, _, _, _, _, _, rfl, l_words_in, c_words_in⟩, PySem.W.mg_of X G a_words_in, k_words_in⟩
  have b_words_in := C8.Fun.binds D_words_in.fn rfl (ps := ["row", "number"]) fun _ _ _ _ _ _ us hl => match us, hl with | [_, _], _ => rfl
  have D_words_of : Def K mg "words_of" s_words_of f_words_of _ := ⟨⟨_, _, _, _, _, _, _, _, _, _, rfl, l_words_of, c_words_of⟩, PySem.W.mg_of X G a_words_of, k_words_of⟩
  have b_words_of := C8.Fun.binds D_words_of.fn rfl (ps := ["text"]) fun _ _ _ _ _ _ us hl => match us, hl with | [_], _ => rfl
  have D_within : Def K mg "within" s_within f_within _ := ⟨⟨_, _, _, _, _, _, _, _, _, _, rfl, l_within, c_within⟩, PySem.W.mg_of X G a_within, k_within⟩
  have b_within := C8.Fun.binds D_within.fn rfl (ps := ["row", "depth"]) fun _ _ _ _ _ _ us hl => match us, hl with | [_, _], _ => rfl
  have D_from_left : Def K mg "from_left" s_from_left f_from_left _ := ⟨⟨_, _, _, _, _, _, _, _, _, _, rfl, l_from_left, c_from_left⟩, PySem.W.mg_of X G a_from_left, k_from_left⟩
  have b_from_left := C8.Fun.binds D_from_left.fn rfl (ps := ["row", "depth", "signs", "read_tighter"]) fun _ _ _ _ _ _ us hl => match us, hl with | [_, _, _, _], _ => rfl
  have D_read_path : Def K mg "read_path" s_read_path f_read_path _ := ⟨⟨_, _, _, _, _, _, _, _, _, _, rfl, l_read_path, c_read_path⟩, PySem.W.mg_of X G a_read_path, k_read_path⟩
  have b_read_path := C8.Fun.binds D_read_path.fn rfl (ps := ["row"]) fun _ _ _ _ _ _ us hl => match us, hl with | [_], _ => rfl
  have D_read_given : Def K mg "read_given" s_read_given f_read_given _ := ⟨⟨_, _, _, _, _, _, _, _, _, _, rfl, l_read_given, c_read_given⟩, PySem.W.mg_of X G a_read_given, k_read_given⟩
  have b_read_given := C8.Fun.binds D_read_given.fn rfl (ps := ["row", "depth"]) fun _ _ _ _ _ _ us hl => match us, hl with | [_, _], _ => rfl
  have D_read_bracket : Def K mg "read_bracket" s_read_bracket f_read_bracket _ := ⟨⟨_, _, _, _, _, _, _, _, _, _, rfl, l_read_bracket, c_read_bracket⟩, PySem.W.mg_of X G a_read_bracket, k_read_bracket⟩
  have b_read_bracket := C8.Fun.binds D_read_bracket.fn rfl (ps := ["row", "depth"]) fun _ _ _ _ _ _ us hl => match us, hl with | [_, _], _ => rfl
  have D_read_named : Def K mg "read_named" s_read_named f_read_named _ := ⟨⟨_, _, _, _, _, _, _, _, _, _, rfl, l_read_named, c_read_named⟩, PySem.W.mg_of X G a_read_named, k_read_named⟩
  have b_read_named := C8.Fun.binds D_read_named.fn rfl (ps := ["row", "depth"]) fun _ _ _ _ _ _ us hl => match us, hl with | [_, _], _ => rfl
  have D_read_single : Def K mg "read_single" s_read_single f_read_single _ := ⟨⟨_, _, _, _, _, _, _, _, _, _, rfl, l_read_single, c_read_single⟩, PySem.W.mg_of X G a_read_single, k_read_single⟩
  have b_read_single := C8.Fun.binds D_read_single.fn rfl (ps := ["row", "depth"]) fun _ _ _ _ _ _ us hl => match us, hl with | [_, _], _ => rfl
  have D_read_negated : Def K mg "read_negated" s_read_negated f_read_negated _ := ⟨⟨_, _, _, _, _, _, _, _, _, _, rfl, l_read_negated, c_read_negated⟩, PySem.W.mg_of X G a_read_negated, k_read_negated⟩
  have b_read_negated := C8.Fun.binds D_read_negated.fn rfl (ps := ["row", "depth"]) fun _ _ _ _ _ _ us hl => match us, hl with | [_, _], _ => rfl
  have D_read_product : Def K mg "read_product" s_read_product f_read_product _ := ⟨⟨_, _, _, _, _, _, _, _, _, _, rfl, l_read_product, c_read_product⟩, PySem.W.mg_of X G a_read_product, k_read_product⟩
  have b_read_product := C8.Fun.binds D_read_product.fn rfl (ps := ["row", "depth"]) fun _ _ _ _ _ _ us hl => match us, hl with | [_, _], _ => rfl
  have D_read_sum : Def K mg "read_sum" s_read_sum f_read_sum _ := ⟨⟨_, _, _, _, _, _, _, _, _, _, rfl, l_read_sum, c_read_sum⟩, PySem.W.mg_of X G a_read_sum, k_read_sum⟩
  have b_read_sum := C8.Fun.binds D_read_sum.fn rfl (ps := ["row", "depth"]) fun _ _ _ _ _ _ us hl => match us, hl with | [_, _], _ => rfl
  have D_read_compared : Def K mg "read_compared" s_read_compared f_read_compared _ := ⟨⟨_, _, _, _, _, _, _, _, _, _, rfl, l_read_compared, c_read_compared⟩, PySem.W.mg_of X G a_read_compared, k_read_compared⟩
  have b_read_compared := C8.Fun.binds D_read_compared.fn rfl (ps := ["row", "depth"]) fun _ _ _ _ _ _ us hl => match us, hl with | [_, _], _ => rfl
  have D_read_denied : Def K mg "read_denied" s_read_denied f_read_denied _ := ⟨⟨_, _, _, _, _, _, _, _, _, _, rfl, l_read_denied, c_read_denied⟩, PySem.W.mg_of X G a_read_denied, k_read_denied⟩
  have b_read_denied := C8.Fun.binds D_read_denied.fn rfl (ps := ["row", "depth"]) fun _ _ _ _ _ _ us hl => match us, hl with | [_, _], _ => rfl
  have D_read_both : Def K mg "read_both" s_read_both f_read_both _ := ⟨⟨_, _, _, _, _, _, _, _, _, _, rfl, l_read_both, c_read_both⟩, PySem.W.mg_of X G a_read_both, k_read_both⟩
  have b_read_both := C8.Fun.binds D_read_both.fn rfl (ps := ["row", "depth"]) fun _ _ _ _ _ _ us hl => match us, hl with | [_, _], _ => rfl
  have D_read_expression : Def K mg "read_expression" s_read_expression f_read_expression _ := ⟨⟨_, _, _, _, _, _, _, _, _, _, rfl, l_read_expression, c_read_expression⟩, PySem.W.mg_of X G a_read_expression, k_read_expression⟩
  have b_read_expression := C8.Fun.binds D_read_expression.fn rfl (ps := ["row", "depth"]) fun _ _ _ _ _ _ us hl => match us, hl with | [_, _], _ => rfl
  have D_cut : Def K mg "cut" s_cut f_cut _ := ⟨⟨_, _, _, _, _, _, _, _, _, _, rfl, l_cut, c_cut⟩, PySem.W.mg_of X G a_cut, k_cut⟩
  have b_cut := C8.Fun.binds D_cut.fn rfl (ps := ["words"]) fun _ _ _ _ _ _ us hl => match us, hl with | [_], _ => rfl
  have D_rows_of : Def K mg "rows_of" s_rows_of f_rows_of _ := ⟨⟨_, _, _, _, _, _, _, _, _, _, rfl, l_rows_of, c_rows_of⟩, PySem.W.mg_of X G a_rows_of, k_rows_of⟩
  have b_rows_of := C8.Fun.binds D_rows_of.fn rfl (ps := ["text"]) fun _ _ _ _ _ _ us hl => match us, hl with | [_], _ => rfl
  have D_read_worth : Def K mg "read_worth" s_read_worth f_read_worth _ := ⟨⟨_, _, _, _, _, _, _, _, _, _, rfl, l_read_worth, c_read_worth⟩, PySem.W.mg_of X G a_read_worth, k_read_worth⟩
  have b_read_worth := C8.Fun.binds D_read_worth.fn rfl (ps := ["row"]) fun _ _ _ _ _ _ us hl => match us, hl with | [_], _ => rfl
  have CL_Row : Cls K C_Row := ⟨pg_Row, hd_Row, po_Row, sa_Row⟩
  have hm_Row : mg "Row" = some (.ref C_Row) := PySem.W.mg_of X G g_Row
  have D_Row_done : C8.Fun K "done" "Row.done" s_Row_done f_Row_done _ := ⟨_, _, _, _, _, _, _, _, _, _, rfl, l_Row_done, c_Row_done⟩
  have b_Row_done := C8.Fun.binds D_Row_done rfl (ps := ["self"]) fun _ _ _ _ _ _ us hl => match us, hl with | [_], _ => rfl
  have e_Row_done : Meth K C_Row "done" f_Row_done := ⟨m_Row_done, i_Row_done, k_Row_done⟩
  have D_Row_kind : C8.Fun K "kind" "Row.kind" s_Row_kind f_Row_kind _ := ⟨_, _, _, _, _, _, _, _, _, _, rfl, l_Row_kind, c_Row_kind⟩
  have b_Row_kind := C8.Fun.binds D_Row_kind rfl (ps := ["self"]) fun _ _ _ _ _ _ us hl => match us, hl with | [_], _ => rfl
  have e_Row_kind : Meth K C_Row "kind" f_Row_kind := ⟨m_Row_kind, i_Row_kind, k_Row_kind⟩
  have D_Row_word : C8.Fun K "word" "Row.word" s_Row_word f_Row_word _ := ⟨_, _, _, _, _, _, _, _, _, _, rfl, l_Row_word, c_Row_word⟩
  have b_Row_word := C8.Fun.binds D_Row_word rfl (ps := ["self"]) fun _ _ _ _ _ _ us hl => match us, hl with | [_], _ => rfl
  have e_Row_word : Meth K C_Row "word" f_Row_word := ⟨m_Row_word, i_Row_word, k_Row_word⟩
  have D_Row_spot : C8.Fun K "spot" "Row.spot" s_Row_spot f_Row_spot _ := ⟨_, _, _, _, _, _, _, _, _, _, rfl, l_Row_spot, c_Row_spot⟩
  have b_Row_spot := C8.Fun.binds D_Row_spot rfl (ps := ["self"]) fun _ _ _ _ _ _ us hl => match us, hl with | [_], _ => rfl
  have e_Row_spot : Meth K C_Row "spot" f_Row_spot := ⟨m_Row_spot, i_Row_spot, k_Row_spot⟩
  have D_Row_refuse : C8.Fun K "refuse" "Row.refuse" s_Row_refuse f_Row_refuse _ := ⟨_, _, _, _, _, _, _, _, _, _, rfl, l_Row_refuse, c_Row_refuse⟩
  have b_Row_refuse := C8.Fun.binds D_Row_refuse rfl (ps := ["self"]) fun _ _ _ _ _ _ us hl => match us, hl with | [_], _ => rfl
  have e_Row_refuse : Meth K C_Row "refuse" f_Row_refuse := ⟨m_Row_refuse, i_Row_refuse, k_Row_refuse⟩
  have D_Row_take : C8.Fun K "take" "Row.take" s_Row_take f_Row_take _ := ⟨_, _, _, _, _, _, _, _, _, _, rfl, l_Row_take, c_Row_take⟩
  have b_Row_take := C8.Fun.binds D_Row_take rfl (ps := ["self"]) fun _ _ _ _ _ _ us hl => match us, hl with | [_], _ => rfl
  have e_Row_take : Meth K C_Row "take" f_Row_take := ⟨m_Row_take, i_Row_take, k_Row_take⟩
  have D_Row_need : C8.Fun K "need" "Row.need" s_Row_need f_Row_need _ := ⟨_, _, _, _, _, _, _, _, _, _, rfl, l_Row_need, c_Row_need⟩
  have b_Row_need := C8.Fun.binds D_Row_need rfl (ps := ["self", "word"]) fun _ _ _ _ _ _ us hl => match us, hl with | [_, _], _ => rfl
  have e_Row_need : Meth K C_Row "need" f_Row_need := ⟨m_Row_need, i_Row_need, k_Row_need⟩
  have D_Row_need_name : C8.Fun K "need_name" "Row.need_name" s_Row_need_name f_Row_need_name _ := ⟨_, _, _, _, _, _, _, _, _, _, rfl, l_Row_need_name, c_Row_need_name⟩
  have b_Row_need_name := C8.Fun.binds D_Row_need_name rfl (ps := ["self"]) fun _ _ _ _ _ _ us hl => match us, hl with | [_], _ => rfl
  have e_Row_need_name : Meth K C_Row "need_name" f_Row_need_name := ⟨m_Row_need_name, i_Row_need_name, k_Row_need_name⟩
  have D_Row_finish : C8.Fun K "finish" "Row.finish" s_Row_finish f_Row_finish _ := ⟨_, _, _, _, _, _, _, _, _, _, rfl, l_Row_finish, c_Row_finish⟩
  have b_Row_finish := C8.Fun.binds D_Row_finish rfl (ps := ["self"]) fun _ _ _ _ _ _ us hl => match us, hl with | [_], _ => rfl
  have e_Row_finish : Meth K C_Row "finish" f_Row_finish := ⟨m_Row_finish, i_Row_finish, k_Row_finish⟩
  have D_Row_init : C8.Fun K "__init__" "Row.__init__" s_Row_init f_Row_init _ := ⟨_, _, _, _, _, _, _, _, _, _, rfl, l_Row_init, c_Row_init⟩
  have b_Row_init := C8.Fun.binds D_Row_init rfl (ps := ["self", "words"]) fun _ _ _ _ _ _ us hl => match us, hl with | [_, _], _ => rfl
  have e_Row_init : Meth K C_Row "__init__" f_Row_init := ⟨m_Row_init, i_Row_init, k_Row_init⟩
  have CL_Page : Cls K C_Page := ⟨pg_Page, hd_Page, po_Page, sa_Page⟩
  have hm_Page : mg "Page" = some (.ref C_Page) := PySem.W.mg_of X G g_Page
  have D_Page_word : C8.Fun K "word" "Page.word" s_Page_word f_Page_word _ := ⟨_, _, _, _, _, _, _, _, _, _, rfl, l_Page_word, c_Page_word⟩
  have b_Page_word := C8.Fun.binds D_Page_word rfl (ps := ["self"]) fun _ _ _ _ _ _ us hl => match us, hl with | [_], _ => rfl
  have e_Page_word : Meth K C_Page "word" f_Page_word := ⟨m_Page_word, i_Page_word, k_Page_word⟩
  have D_Page_take_row : C8.Fun K "take_row" "Page.take_row" s_Page_take_row f_Page_take_row _ := ⟨_, _, _, _, _, _, _, _, _, _, rfl, l_Page_take_row, c_Page_take_row⟩
  have b_Page_take_row := C8.Fun.binds D_Page_take_row rfl (ps := ["self"]) fun _ _ _ _ _ _ us hl => match us, hl with | [_], _ => rfl
  have e_Page_take_row : Meth K C_Page "take_row" f_Page_take_row := ⟨m_Page_take_row, i_Page_take_row, k_Page_take_row⟩
  have D_Page_init : C8.Fun K "__init__" "Page.__init__" s_Page_init f_Page_init _ := ⟨_, _, _, _, _, _, _, _, _, _, rfl, l_Page_init, c_Page_init⟩
  have b_Page_init := C8.Fun.binds D_Page_init rfl (ps := ["self", "text"]) fun _ _ _ _ _ _ us hl => match us, hl with | [_, _], _ => rfl
  have e_Page_init : Meth K C_Page "__init__" f_Page_init := ⟨m_Page_init, i_Page_init, k_Page_init⟩
  have TW : ModsW K mg aS aO := ⟨PySem.W.mg_none_of X G z_len, PySem.W.mg_none_of X G z_enumerate, str_written (PySem.W.mg_of X G gL) lit_letters, str_written (PySem.W.mg_of X G gF) lit_figures, ⟨_, PySem.W.mg_of X G gN, _, rfl⟩,
    ⟨_, PySem.W.mg_of X G gS, rfl⟩, ⟨_, PySem.W.mg_of X G gO, rfl⟩, tup_written lS vS (by decide), tup_written lO vO (by decide)⟩
  have cF := FW.made P w base
  have cr := ok_run_at (P := P) (w := w) (base := base) TW D_run_at b_run_at
  have ck := ok_kind_of (P := P) (w := w) (base := base) TW D_kind_of b_kind_of
  have cw := ok_word_at TW cr D_word_at b_word_at
  have ci := ok_words_in TW cF cw ck D_words_in b_words_in
  have co := ok_words_of TW ci D_words_of b_words_of
  -- Row
  have TR : ModsR K mg C_Row := ⟨PySem.W.mg_none_of X G z_len, CL_Row, na_Row_words, na_Row_at⟩
  have m1 := ok_done (P := P) (w := w) (base := base) TR e_Row_done D_Row_done b_Row_done
  have m2 := ok_kind TR m1 e_Row_kind D_Row_kind b_Row_kind
  have m3 := ok_wordM TR m1 e_Row_word D_Row_word b_Row_word
  have m4 := ok_spot TR m1 e_Row_spot D_Row_spot b_Row_spot
  have m5 := ok_refuse TR cF m4 e_Row_refuse D_Row_refuse b_Row_refuse
  have m6 := ok_take (P := P) (w := w) (base := base) TR e_Row_take D_Row_take b_Row_take
  have m7 := ok_need TR m5 m3 m6 e_Row_need D_Row_need b_Row_need
  have m8 := ok_need_name TR m5 m2 m6 e_Row_need_name D_Row_need_name b_Row_need_name
  have m9 := ok_finish TR m5 m1 e_Row_finish D_Row_finish b_Row_finish
  have M : RowM P w K mg base C_Row CF := ⟨m1, m2, m3, m6, m5, m7, m8, m9⟩
  have TE : ModsE mg := ⟨PySem.W.mg_none_of X G z_tuple, PySem.W.mg_none_of X G z_int, ⟨_, PySem.W.mg_of X G gI, _, rfl⟩⟩
  have D : ExpD K mg := ⟨⟨_, _, D_within, b_within⟩, ⟨_, _, D_from_left, b_from_left⟩, ⟨_, _, D_read_path, b_read_path⟩, ⟨_, _, D_read_given, b_read_given⟩, ⟨_, _, D_read_bracket, b_read_bracket⟩, ⟨_, _, D_read_named, b_read_named⟩, ⟨_, _, D_read_single, b_read_single⟩, ⟨_, _, D_read_negated, b_read_negated⟩,
    ⟨_, _, D_read_product, b_read_product⟩, ⟨_, _, D_read_sum, b_read_sum⟩, ⟨_, _, D_read_compared, b_read_compared⟩, ⟨_, _, D_read_denied, b_read_denied⟩, ⟨_, _, D_read_both, b_read_both⟩, ⟨_, _, D_read_expression, b_read_expression⟩⟩
  have L : Lvl P w K mg base C_Row CF 136 8 := lvl_all TE M D 8 (Nat.le_refl _)
  -- Page
  have TP : ModsP mg := ⟨PySem.W.mg_none_of X G z_len, ⟨_, PySem.W.mg_of X G gM, _, rfl⟩⟩
  have ccut := ok_cut (P := P) (w := w) (K := K) (base := base) TP D_cut b_cut
  have cRow := ok_Row_init (P := P) (w := w) (base := base) TR ⟨mk_Row, m_Row_init, i_Row_init, kp_Row⟩ hm_Row D_Row_init b_Row_init
  have crows := ok_rows_of co ccut cRow D_rows_of b_rows_of
  have TG : ModsG K mg C_Page := ⟨PySem.W.mg_none_of X G z_len, CL_Page, na_Page_rows, na_Page_next_row, na_Page_behind⟩
  have cPage := ok_Page_init TG ⟨mk_Page, m_Page_init, i_Page_init, kp_Page⟩ hm_Page crows D_Page_init b_Page_init
  have n1 := ok_Page_word TG m3 e_Page_word D_Page_word b_Page_word
  have n2 := ok_Page_take (C := C_Row) TG cF e_Page_take_row D_Page_take_row b_Page_take_row
  have N : PageM P w K mg base C_Page C_Row CF := ⟨n1, n2⟩
  have c2 := ok_read_worth M (k := 136) (by decide) L.expr D_read_worth b_read_worth
  have c6 := ok_read_path M D_read_path b_read_path
  exact ⟨co, cPage, M, N, L, c6, c2⟩
end Wt

set_option Elab.async false
set_option linter.all false
set_option maxRecDepth 100000
set_option maxHeartbeats 4000000
namespace Wt
open PySem PySem.Spec PyProof.Rows L2 SX Evl
open C8 (Def Cal cal0 fnScope_by fnScope)
/-! The dice, likeness, a pick. -/
structure ModsL (K : PySem.W.Frag) (mg : Str → Option Value) : Prop where
  m_len : mg "len" = none
  m_int : mg "int" = none
  m_str : mg "str" = none
  m_bool : mg "bool" = none
  m_tuple : mg "tuple" = none
  m_list : mg "list" = none
  m_range : mg "range" = none
  m_isinstance : mg "isinstance" = none
/-- what is locked stays -/
def Fx (H H' : Hp) : Prop := ∀ b o u, H b = some (.frz o u) → H' b = some (.frz o u)
theorem Fx.of {H H' : Hp} (e : Ex H H') : Fx H H' := fun b o u h => e b _ h
theorem Fx.trans {H H1 H2 : Hp} (a : Fx H H1) (b : Fx H1 H2) : Fx H H2 := fun x o u h => b x o u (a x o u h)
theorem Fx.mut {H : Hp} {d : Addr} {o o2 : HO} (h : H d = some o) (m : Mut (some o)) : Fx H (upd H d o2) := fun b ob u q => by
  rw [upd_ne (ne_of q h (by intro z; subst z; exact m))]
  exact q
/-- the script: locked, or of the written part -/
def Scr (K : PySem.W.Frag) (H : Hp) (a : Addr) (ns : List Int) : Prop := ns.length ≤ 63 ∧ ∀ H', Fx H H' → SqL K H' a (ns.map V.int)
theorem Scr.fx {K : PySem.W.Frag} {H H' : Hp} {a : Addr} {ns : List Int} (f : Fx H H') (h : Scr K H a ns) : Scr K H' a ns := ⟨h.1, fun H2 f2 => h.2 H2 (f.trans f2)⟩
theorem Scr.ex {K : PySem.W.Frag} {H H' : Hp} {a : Addr} {ns : List Int} (e : Ex H H') (h : Scr K H a ns) : Scr K H' a ns := h.fx (Fx.of e)
theorem Scr.sq {K : PySem.W.Frag} {H : Hp} {a : Addr} {ns : List Int} (h : Scr K H a ns) : SqL K H a (ns.map V.int) := h.2 H fun _ _ _ q => q
def Exd (d : Addr) (H H' : Hp) : Prop := ∀ b o, b ≠ d → H b = some o → H' b = some o

section
variable {P : Program} {w : World} {K : PySem.W.Frag} {mg : Str → Option Value} {base : Heap}
/-! ### _law_dice -/
abbrev s__law_dice : Stmt := topS 40
theorem sc__law_dice : FnScope ["_law_script", "_law_mixed", "_law_cell"] ["_law_script"] (fnScope s__law_dice) := fnScope_by (by decide +kernel)
def spDice0 (K : PySem.W.Frag) : Sp := fun vs H Q _ => ∃ (a : Addr) (ns : List Int), vs = [.ref a] ∧ Scr K H a ns ∧ ∀ p H2 m, H p = none → Ex H H2 → 0 ≤ m → m < 2147483647 → H2 p = some (.lst [.ref a, .int 0, .int m, .int 0]) → Q (.ref p) H2
theorem ok_dice0 (T : ModsL K mg) {f : Addr} {fd : FuncData} (F : Def K mg "_law_dice" s__law_dice f fd) (b : Binds K fd ["_law_script"] []) : Cal P w K mg base 1 "_law_dice" (spDice0 K) [] := by
  refine cal0 F b .nil sc__law_dice (fun vs H Q E h => ?_) (fun cdv A outer s H vs Q E hr h => ?_)
  · obtain ⟨_, _, rfl, _⟩ := h
    rfl
  · obtain ⟨a, ns, rfl, hS, q⟩ := h
    have m_int := T.m_int
    have m_len := T.m_len
    refine ⟨_, (pss_cons (ps_set (i := 1) sc__law_dice.nd rfl (.inl rfl) pe_int)
      (pss_cons (ps_for PassesOwn.never rfl (pi_list (pv 0)) (pg_name (i := 2) sc__law_dice.nd rfl (.inl rfl)) (pss_one (ps_set (i := 1) sc__law_dice.nd rfl (.inl rfl) (pe_op op_mod (pe_op op_add (pe_op op_add (pe_op op_mul (pv 1) pe_int) (pe_op op_mul (pe_op op_mod (pv 2) pe_int) pe_int)) pe_int) pe_int))))
      (pss_one (ps_ret (pe_lst (pa_cons (pv 0) (pa_cons pe_int (pa_cons (pe_op op_mul (pv 1) (pe_callTy call_int1 (by rfl) m_int Wt.bt_int (pa_cons (pe_cmpR op_gt (pe_callB call_len_seq (by rfl) m_len PySem.boot_len (pa_cons (pv 0) pa_nil)) pe_int (nomark _)) pa_nil))) (pa_cons pe_int pa_nil))))))))), ?_⟩
    refine q_asg ev_c fun H1 e1 => ?_
    refine q_forLn (ev_var rfl) (hS.ex e1).sq (fun i σ' H' => ∃ (m : Int) (y : Option V), σ' = [some (.ref a), some (.int m), y] ∧ 0 ≤ m ∧ m < 2147483647 ∧ Ex H H')
      (fun H2 e2 => ⟨0, none, rfl, by decide, by decide, e1.trans e2⟩) (fun i σ' H' _ ⟨_, _, _, _, _, e⟩ => (hS.ex e).sq) ?_ ?_
    · rintro i x σ' H' hx ⟨m, y, rfl, h0, h1, eH⟩
      rw [List.getElem?_map] at hx
      obtain ⟨c, rfl⟩ : ∃ c, x = V.int c := by
        cases hc : ns[i]? with
        | none =>
          rw [hc] at hx
          cases hx
        | some c =>
          rw [hc] at hx
          exact ⟨c, (Option.some.inj hx).symm⟩
      have b1 := Int.emod_nonneg c (show (2147483647 : Int) ≠ 0 by decide)
      have b2 := Int.emod_lt_of_pos c (show (0 : Int) < 2147483647 by decide)
      refine s_asg (ev_op (ev_op (ev_op (ev_op (ev_var rfl) ev_c (rv_I (.inl ⟨by omega, by omega⟩))) (ev_op (ev_op (ev_var rfl) ev_c (rv_I (show (0 : Int) < 2147483647 by decide))) ev_c (rv_I (.inl ⟨by omega, by omega⟩))) rv_I0) ev_c rv_I0) ev_c (rv_I (show (0 : Int) < 2147483647 by decide))) fun H2 e2 => ?_
      exact ⟨_, _, rfl, Int.emod_nonneg _ (by decide), Int.emod_lt_of_pos _ (by decide), eH.trans e2⟩
    · rintro σ' H' ⟨m, y, rfl, h0, h1, eH⟩
      have hq := hS.ex eH
      refine s_retL (xs := [.ref a, .int 0, .int (m * (if decide ((2 : Int) < ((ns.map V.int).length : Int)) = true then 1 else 0)), .int 0])
        (el_lst (ea_cons (ev_var rfl) (ea_cons ev_c (ea_cons (ev_op (ev_var rfl) (ev_cb (ea_cons (ev_op (ev_len (K := K) (ev_var rfl) hq.sq) ev_c rv_I0) ea_nil) (fun H1 _ Q q => .inr ⟨_, rfl, q H1 (Ex.refl H1)⟩)) (rv_I (.inl ⟨by omega, by omega⟩))) (ea_cons ev_c ea_nil)))) (by show 4 ≤ 100000; decide))
        fun p H2 hp e2 h2 => q p H2 _ (fresh_back eH hp) (eH.trans e2) ?_ ?_ h2
      · split <;> omega
      · split <;> omega
/-- .. as a dice -/
def spDice (K : PySem.W.Frag) : Sp := fun vs H Q _ => ∃ (a : Addr) (ns : List Int), vs = [.ref a] ∧ Scr K H a ns ∧ ∀ p H2, H p = none → Ex H H2 → H2 p = some (DiceO p a) → Q (.ref p) H2
theorem ok_dice (c : Cal P w K mg base 1 "_law_dice" (spDice0 K) []) : Cal P w K mg base 1 "_law_dice" (spDice K) [] := by
  obtain ⟨f, fd, ps, ds, F, h1, h2, h3, h4⟩ := c.ex
  cases h4
  refine ⟨f, fd, ps, [], fn_seen F (fun vs H Q E h => ?_) (fun vs H Q E h hp ok => ?_), h1, h2, h3, .nil⟩
  · obtain ⟨a, ns, rfl, hS, q⟩ := h
    exact F.len [.ref a] H (fun v H' => True) E ⟨a, ns, rfl, hS, fun _ _ _ _ _ _ _ _ => trivial⟩
  · obtain ⟨a, ns, rfl, hS, q⟩ := h
    refine ⟨H, fun v H2 => ∃ p m, v = .ref p ∧ H p = none ∧ Ex H H2 ∧ 0 ≤ m ∧ m < 2147483647 ∧ H2 p = some (.lst [.ref a, .int 0, .int m, .int 0]), ⟨fun _ h => h, fun _ _ h => h, fun _ _ _ h => h, fun _ _ h => h⟩, ok,
      ⟨a, ns, rfl, hS, fun p H2 m hp2 e h0 h1 h2 => ⟨p, m, rfl, hp2, e, h0, h1, h2⟩⟩, ?_⟩
    rintro v H2 hp2 ok2 ⟨p, m, rfl, hn, e, h0, h1, h2⟩
    obtain ⟨al, ok3⟩ := dice_in ok2 h2 (Int.le_refl 0) h0 h1
    exact ⟨_, al, ok3, q p _ hn (Ex.mut e hn) upd_same⟩

/-! ### _law_next -/
abbrev s__law_next : Stmt := topS 41
theorem sc__law_next : FnScope ["_law_dice_here", "_law_many", "_law_found", "_law_cell"] ["_law_dice_here", "_law_many"] (fnScope s__law_next) := fnScope_by (by decide +kernel)
def spNext0 (K : PySem.W.Frag) : Sp := fun vs H Q _ => ∃ (d a : Addr) (ns : List Int) (many i m r : Int), vs = [.ref d, .int many] ∧ 0 < many ∧ many < 1073741824 ∧ H d = some (.lst [.ref a, .int i, .int m, .int r]) ∧ 0 ≤ i ∧ 0 ≤ m ∧ m < 2147483647 ∧ Scr K H a ns ∧
  ∀ z H2 i' m' r', 0 ≤ z → z < many → 0 ≤ i' → 0 ≤ m' → m' < 2147483647 → H2 d = some (.lst [.ref a, .int i', .int m', .int r']) → Exd d H H2 → Q (.int z) H2
theorem ok_next0 (T : ModsL K mg) {f : Addr} {fd : FuncData} (F : Def K mg "_law_next" s__law_next f fd) (b : Binds K fd ["_law_dice_here", "_law_many"] []) : Cal P w K mg base 1 "_law_next" (spNext0 K) [] := by
  refine cal0 F b .nil sc__law_next (fun vs H Q E h => ?_) (fun cdv A outer s H vs Q E hr h => ?_)
  · obtain ⟨_, _, _, _, _, _, _, rfl, _⟩ := h
    rfl
  · obtain ⟨d, a, ns, many, i, m, r, rfl, hm0, hm1, hd, hi, h0, h1, hS, q⟩ := h
    have m_len := T.m_len
    refine ⟨_, (pss_cons (ps_if (pt_cmpR op_gt (pe_ix ix_list (pv 0) pe_int (fun _ _ => rfl)) pe_int (nomark _)) (pss_cons (ps_set (i := 2) sc__law_next.nd rfl (.inl rfl) (pe_op op_mod (pe_ix ix_list (pv 0) pe_int (fun _ _ => rfl)) (pv 1)))
      (pss_cons (ps_asg (pe_op op_fdiv (pe_ix ix_list (pv 0) pe_int (fun _ _ => rfl)) (pv 1)) (pg_sub (pv 0) pe_int set_list))
      (pss_one (ps_ret (pv 2))))) pss_nil)
      (pss_cons (ps_asg (pe_op op_add (pe_ix ix_list (pv 0) pe_int (fun _ _ => rfl)) pe_int) (pg_sub (pv 0) pe_int set_list))
      (pss_cons (ps_if (pt_cmpR op_le (pe_ix ix_list (pv 0) pe_int (fun _ _ => rfl)) (pe_callB call_len_seq (by rfl) m_len PySem.boot_len (pa_cons (pe_ix ix_list (pv 0) pe_int (fun _ _ => rfl)) pa_nil)) (nomark _)) (pss_cons (ps_set (i := 3) sc__law_next.nd rfl (.inl rfl) (pe_ix ix_list (pe_ix ix_list (pv 0) pe_int (fun _ _ => rfl)) (pe_op op_sub (pe_ix ix_list (pv 0) pe_int (fun _ _ => rfl)) pe_int) (fun _ _ => rfl)))
      (pss_cons (ps_asg (pe_ifExp (pt_cmpR op_ge (pv 3) (pe_op op_pow pe_int pe_int) (nomark _)) (pe_op op_fdiv (pv 3) (pv 1)) pe_int) (pg_sub (pv 0) pe_int set_list))
      (pss_one (ps_ret (pe_op op_mod (pv 3) (pv 1)))))) pss_nil)
      (pss_cons (ps_asg (pe_op op_mod (pe_op op_mul (pe_ix ix_list (pv 0) pe_int (fun _ _ => rfl)) pe_int) pe_int) (pg_sub (pv 0) pe_int set_list))
      (pss_one (ps_ret (pe_op op_mod (pe_op op_fdiv (pe_ix ix_list (pv 0) pe_int (fun _ _ => rfl)) pe_int) (pv 1)))))))), ?_⟩
    have ix : ∀ {H' : Hp} {σ : L2.St} {ta tb : TE} {xs : List V} {j : Nat} {v : V}, Ev ta σ H' (.ref d) → Ev tb σ H' (.int (j : Int)) → H' d = some (.lst xs) → xs[j]? = some v → Ev (tOp (rIxL K) ta tb) σ H' v :=
      fun ha hb h1 h2 => ev_op ha hb (rv_ixL (sq_of h1) (atI_nat h2))
    have c0 : ∀ {H' : Hp} {σ : L2.St}, Ev (tC (.int 0)) σ H' (.int ((0 : Nat) : Int)) := ev_c
    have c1 : ∀ {H' : Hp} {σ : L2.St}, Ev (tC (.int 1)) σ H' (.int ((1 : Nat) : Int)) := ev_c
    have c2 : ∀ {H' : Hp} {σ : L2.St}, Ev (tC (.int 2)) σ H' (.int ((2 : Nat) : Int)) := ev_c
    have c3 : ∀ {H' : Hp} {σ : L2.St}, Ev (tC (.int 3)) σ H' (.int ((3 : Nat) : Int)) := ev_c
    have hdiv : ∀ x : Int, CDiv x many := fun x => ⟨hm0, hm1⟩
    have rz : ∀ x : Int, 0 ≤ x % many ∧ x % many < many := fun x => ⟨Int.emod_nonneg x (by omega), Int.emod_lt_of_pos x hm0⟩
    refine q_when (et_test (ev_op (ix (ev_var rfl) c3 hd rfl) ev_c rv_I0)) (fun hb H1 e1 => ?_) (fun hb H1 e1 => ?_)
    · have hd1 := e1 d _ hd
      refine q_asg (ev_op (ix (ev_var rfl) c3 hd1 rfl) (ev_var rfl) (rv_I hm0)) fun H2 e2 => ?_
      have hd2 := e2 d _ hd1
      refine q_setL (xs := [.ref a, .int i, .int m, .int r]) (j := 3) hd2 (ev_op (ix (ev_var rfl) c3 hd2 rfl) (ev_var rfl) (rv_I (hdiv r))) (ev_var rfl) c3 (by show 3 < 4; decide) fun H3 e3 => ?_
      have x3 : Exd d H (upd H3 d (.lst ([V.ref a, .int i, .int m, .int r].set 3 (.int (r / many))))) := fun b o hb2 ho => by
        rw [upd_ne hb2]
        exact e3 b o (e2 b o (e1 b o ho))
      refine s_ret (ev_var rfl) fun H4 e4 => q _ H4 i m (r / many) (rz r).1 (rz r).2 hi h0 h1 (e4 d _ upd_same) fun b o hb2 ho => e4 b o (x3 b o hb2 ho)
    · have hd1 := e1 d _ hd
      refine q_setL (xs := [.ref a, .int i, .int m, .int r]) (j := 1) hd1 (ev_op (ix (ev_var rfl) c1 hd1 rfl) ev_c rv_I0) (ev_var rfl) c1 (by show 1 < 4; decide) fun H2 e2 => ?_
      have hd2 := e2 d _ hd1
      have hd3 : (upd H2 d (.lst ([V.ref a, .int i, .int m, .int r].set 1 (.int (i + 1))))) d = some (.lst [.ref a, .int (i + 1), .int m, .int r]) := upd_same
      have x3 : Exd d H (upd H2 d (.lst ([V.ref a, .int i, .int m, .int r].set 1 (.int (i + 1))))) := fun b o hb2 ho => by
        rw [upd_ne hb2]
        exact e2 b o (e1 b o ho)
      have hS3 : Scr K (upd H2 d (.lst ([V.ref a, .int i, .int m, .int r].set 1 (.int (i + 1))))) a ns := (hS.ex (e1.trans e2)).fx (Fx.mut hd2 True.intro)
      generalize upd H2 d (.lst ([V.ref a, .int i, .int m, .int r].set 1 (.int (i + 1)))) = H3 at hd3 x3 hS3 ⊢
      refine q_when (et_test (ev_op (ix (ev_var rfl) c1 hd3 rfl) (ev_len (K := K) (ix (ev_var rfl) c0 hd3 rfl) hS3.sq) rv_I0)) (fun hb2 H4 e4 => ?_) (fun hb2 H4 e4 => ?_)
      · have hle := of_decide_eq_true hb2
        rw [List.length_map] at hle
        have hd4 := e4 d _ hd3
        have hlt : i.toNat < ns.length := by omega
        have hg : (ns.map V.int)[i.toNat]? = some (.int ns[i.toNat]) := by
          rw [List.getElem?_map, List.getElem?_eq_getElem hlt] <;> rfl
        refine q_asg (ev_op (ix (ev_var rfl) c0 hd4 rfl) (ev_is (ev_op (ix (ev_var rfl) c1 hd4 rfl) ev_c rv_I0) (show V.int (i + 1 - 1) = V.int ((i.toNat : Nat) : Int) by rw [show i + 1 - 1 = ((i.toNat : Nat) : Int) by omega])) (rv_ixL (hS3.ex e4).sq (atI_nat hg))) fun H5 e5 => ?_
        have hd5 := e5 d _ hd4
        refine q_setL (xs := [.ref a, .int (i + 1), .int m, .int r]) (j := 3) (v := .int (if decide ((10 : Int) ^ (18 : Int).toNat ≤ ns[i.toNat]) = true then ns[i.toNat] / many else 0)) hd5
          (ev_if (et_test (ev_op (ev_var rfl) (ev_op ev_c ev_c (rv_I ⟨by decide, by decide, by decide⟩)) rv_I0)) (fun z => ?_) (fun z => ?_)) (ev_var rfl) c3 (by show 3 < 4; decide) fun H6 e6 => ?_
        · rw [if_pos z]
          exact ev_op (ev_var rfl) (ev_var rfl) (rv_I (hdiv _))
        · rw [if_neg (by rw [z]; exact Bool.false_ne_true)]
          exact ev_c
        · have x6 : Exd d H (upd H6 d (.lst ([V.ref a, .int (i + 1), .int m, .int r].set 3 (.int (if decide ((10 : Int) ^ (18 : Int).toNat ≤ ns[i.toNat]) = true then ns[i.toNat] / many else 0))))) := fun b o hb2 ho => by
            rw [upd_ne hb2]
            exact e6 b o (e5 b o (e4 b o (x3 b o hb2 ho)))
          refine s_ret (ev_op (ev_var rfl) (ev_var rfl) (rv_I hm0)) fun H7 e7 => q _ H7 (i + 1) m _ (rz _).1 (rz _).2 (by omega) h0 h1 (e7 d _ upd_same) fun b o hb2 ho => e7 b o (x6 b o hb2 ho)
      · have hd4 := e4 d _ hd3
        refine q_setL (xs := [.ref a, .int (i + 1), .int m, .int r]) (j := 2) hd4 (ev_op (ev_op (ix (ev_var rfl) c2 hd4 rfl) ev_c (rv_I (.inl ⟨by omega, by omega⟩))) ev_c (rv_I (show (0 : Int) < 2147483647 by decide))) (ev_var rfl) c2 (by show 2 < 4; decide) fun H5 e5 => ?_
        have hd6 : (upd H5 d (.lst ([V.ref a, .int (i + 1), .int m, .int r].set 2 (.int (m * 48271 % 2147483647))))) d = some (.lst [.ref a, .int (i + 1), .int (m * 48271 % 2147483647), .int r]) := upd_same
        have x6 : Exd d H (upd H5 d (.lst ([V.ref a, .int (i + 1), .int m, .int r].set 2 (.int (m * 48271 % 2147483647))))) := fun b o hb2 ho => by
          rw [upd_ne hb2]
          exact e5 b o (e4 b o (x3 b o hb2 ho))
        generalize upd H5 d (.lst ([V.ref a, .int (i + 1), .int m, .int r].set 2 (.int (m * 48271 % 2147483647)))) = H6 at hd6 x6 ⊢
        refine s_ret (ev_op (ev_op (ix (ev_var rfl) c2 hd6 rfl) ev_c (rv_I ⟨by decide, by decide⟩)) (ev_var rfl) (rv_I hm0)) fun H7 e7 => q _ H7 (i + 1) _ r (rz _).1 (rz _).2 (by omega) (Int.emod_nonneg _ (by decide)) (Int.emod_lt_of_pos _ (by decide)) (e7 d _ hd6) fun b o hb2 ho => e7 b o (x6 b o hb2 ho)
/-- .. over a dice: some number below what is handed in, nothing else is told -/
def spNext (K : PySem.W.Frag) : Sp := fun vs H Q _ => ∃ (d a : Addr) (ns : List Int) (many : Int), vs = [.ref d, .int many] ∧ 0 < many ∧ many < 1073741824 ∧ H d = some (DiceO d a) ∧ Scr K H a ns ∧
  ∀ z H2, 0 ≤ z → z < many → Ex H H2 → Q (.int z) H2
theorem ok_next (c : Cal P w K mg base 1 "_law_next" (spNext0 K) []) : Cal P w K mg base 1 "_law_next" (spNext K) [] := by
  obtain ⟨f, fd, ps, ds, F, h1, h2, h3, h4⟩ := c.ex
  cases h4
  refine ⟨f, fd, ps, [], fn_seen F (fun vs H Q E h => ?_) (fun vs H Q E h hp ok => ?_), h1, h2, h3, .nil⟩
  · obtain ⟨d, a, ns, many, rfl, m0, m1, hd, hS, q⟩ := h
    have hS2 : Scr K (upd H d (.lst [.ref a, .int 0, .int 0, .int 0])) a ns := hS.fx (Fx.mut hd True.intro)
    exact F.len [.ref d, .int many] _ (fun v H' => True) E ⟨d, a, ns, many, 0, 0, 0, rfl, m0, m1, upd_same, by decide, by decide, by decide, hS2, fun _ _ _ _ _ _ _ _ _ _ _ _ => trivial⟩
  · obtain ⟨d, a, ns, many, rfl, m0, m1, hd, hS, q⟩ := h
    obtain ⟨i, m, r, b0, b1, b2, al, ok1⟩ := dice_out ok hd
    refine ⟨_, fun v H2 => ∃ z i' m' r', v = .int z ∧ 0 ≤ z ∧ z < many ∧ 0 ≤ i' ∧ 0 ≤ m' ∧ m' < 2147483647 ∧ H2 d = some (.lst [.ref a, .int i', .int m', .int r']) ∧ Exd d (upd H d (.lst [.ref a, .int i, .int m, .int r])) H2, al, ok1,
      ⟨d, a, ns, many, i, m, r, rfl, m0, m1, upd_same, b0, b1, b2, hS.fx (Fx.mut hd True.intro), fun z H2 i' m' r' z0 z1 z2 z3 z4 z5 z6 => ⟨z, i', m', r', rfl, z0, z1, z2, z3, z4, z5, z6⟩⟩, ?_⟩
    rintro v H2 hp2 ok2 ⟨z, i', m', r', rfl, z0, z1, z2, z3, z4, z5, z6⟩
    obtain ⟨al2, ok3⟩ := dice_in ok2 z5 z2 z3 z4
    refine ⟨_, al2, ok3, q z _ z0 z1 fun b o ho => ?_⟩
    by_cases hb : b = d
    · subst hb
      rw [hd] at ho
      cases ho
      exact upd_same
    · rw [upd_ne hb]
      exact z6 b o hb (by rw [upd_ne hb]; exact ho)

/-! ### _law_pick -/
abbrev s__law_pick : Stmt := topS 43
theorem sc__law_pick : FnScope ["_law_d", "_law_some"] ["_law_d", "_law_some"] (fnScope s__law_pick) := fnScope_by (by decide +kernel)
/-- the dice at d over the script at a -/
structure Dc (K : PySem.W.Frag) (H : Hp) (d a : Addr) (ns : List Int) : Prop where
  o : H d = some (DiceO d a)
  s : Scr K H a ns
theorem Dc.ex {H H' : Hp} {d a : Addr} {ns : List Int} (h : Dc K H d a ns) (e : Ex H H') : Dc K H' d a ns := ⟨e d _ h.o, h.s.ex e⟩
theorem sn_next {H : Hp} {d a : Addr} {ns : List Int} {many : Int} (h : Dc K H d a ns) (m0 : 0 < many) (m1 : many < 1073741824) : SpN (spNext K) [.ref d, .int many] H (fun v => ∃ z : Int, v = .int z ∧ 0 ≤ z ∧ z < many) :=
  fun H1 e Q q E => ⟨d, a, ns, many, rfl, m0, m1, e d _ h.o, h.s.ex e, fun z H2 z0 z1 e2 => q _ H2 ⟨z, rfl, z0, z1⟩ e2⟩
theorem en_next {H : Hp} {σ : L2.St} {E : XK} {ta tb : TE} {d a : Addr} {ns : List Int} {many : Int} (h : Dc K H d a ns) (ha : Ev ta σ H (.ref d)) (hb : Ev tb σ H (.int many)) (m0 : 0 < many := by decide) (m1 : many < 1073741824 := by decide) :
    EvN (tCall (spNext K) [] E (tCons ta (tCons tb tNil))) σ H (fun v => ∃ z : Int, v = .int z ∧ 0 ≤ z ∧ z < many) := en_call (ea_cons ha (ea_cons hb ea_nil)) (sn_next h m0 m1)
def spPick (K : PySem.W.Frag) : Sp := fun vs H Q _ => ∃ (d a s : Addr) (ns : List Int) (xs : List V), vs = [.ref d, .ref s] ∧ Dc K H d a ns ∧ SqL K H s xs ∧ 0 < xs.length ∧ xs.length ≤ 1000 ∧ ∀ x H2, x ∈ xs → Ex H H2 → Q x H2
theorem ok_pick (T : ModsL K mg) (c__law_next : Cal P w K mg base 1 "_law_next" (spNext K) []) {f : Addr} {fd : FuncData} (F : Def K mg "_law_pick" s__law_pick f fd) (b : Binds K fd ["_law_d", "_law_some"] []) : Cal P w K mg base 2 "_law_pick" (spPick K) [] := by
  refine cal0 F b .nil sc__law_pick (fun vs H Q E h => ?_) (fun cdv A outer s H vs Q E hr h => ?_)
  · obtain ⟨_, _, _, _, _, rfl, _⟩ := h
    rfl
  · obtain ⟨d, a, sa, ns, xs, rfl, hD, hS, hl0, hl1, q⟩ := h
    have m_len := T.m_len
    refine ⟨_, (pss_one (ps_ret (pe_ix ix_list (pv 1) (C8.pe_c c__law_next hr (by first | decide | exact Nat.le_refl _ | omega) (by rfl) (pa_cons (pv 0) (pa_cons (pe_callB call_len_seq (by rfl) m_len PySem.boot_len (pa_cons (pv 1) pa_nil)) pa_nil))) (fun _ _ => rfl)))), ?_⟩
    refine sn_ret (P := fun x => x ∈ xs) (en_opV (EvN.of (ev_var rfl)) (fun x hx => en_next hD (ev_var rfl) (ev_len (K := K) (ev_var rfl) hS) (by omega) (by omega)) ?_) fun v H1 hv e1 => q v H1 hv e1
    rintro x y rfl ⟨z, rfl, z0, z1⟩
    obtain ⟨k, rfl⟩ : ∃ k : Nat, z = (k : Int) := ⟨z.toNat, by omega⟩
    have hlt : k < xs.length := by omega
    refine ⟨xs[k], List.getElem_mem hlt, ?_⟩
    exact rv_ixL hS (atI_nat (List.getElem?_eq_getElem hlt))
theorem sn_pick {H : Hp} {d a s : Addr} {ns : List Int} {xs : List V} (h : Dc K H d a ns) (hs : SqL K H s xs) (l0 : 0 < xs.length) (l1 : xs.length ≤ 1000) : SpN (spPick K) [.ref d, .ref s] H (fun v => v ∈ xs) :=
  fun H1 e Q q E => ⟨d, a, s, ns, xs, rfl, h.ex e, ex_l e hs, l0, l1, fun x H2 hx e2 => q x H2 hx e2⟩
/-- a pick out of a list made on the way -/
theorem en_pickL {H : Hp} {σ : L2.St} {E : XK} {ta tb : TE} {d a : Addr} {ns : List Int} {xs : List V} (h : Dc K H d a ns) (ha : Ev ta σ H (.ref d)) (hb : EvL tb σ H xs) (l0 : 0 < xs.length) (l1 : xs.length ≤ 1000) :
    EvN (tCall (spPick K) [] E (tCons ta (tCons tb tNil))) σ H (fun v => v ∈ xs) := fun H1 e Q q =>
  ha H1 e _ fun H2 e2 => hb H2 (e.trans e2) _ fun p H3 _ e3 hp => ⟨d, a, p, ns, xs, rfl, h.ex ((e.trans e2).trans e3), sq_of hp, l0, l1, fun x H4 hx e4 => q x H4 hx ((e2.trans e3).trans e4)⟩
end
end Wt

set_option Elab.async false
set_option linter.all false
set_option maxRecDepth 100000
set_option maxHeartbeats 4000000
namespace Wt
open PySem PySem.Spec PyProof.Rows L2 SX Evl
open C8 (Def Cal cal0 fnScope_by fnScope)
/-! Likeness: of two of the same data it tells True. -/
def tyN : PyData → String
  | .none => "NoneType"
  | .bool _ => "bool"
  | .int _ => "int"
  | .str _ => "str"
  | .list _ => "list"
  | .tuple _ => "tuple"
  | .dict _ => "dict"
theorem dp_ty {K : PySem.W.Frag} {H : Hp} {v : V} {d : PyData} (h : Dp K H v d) : TyX K H v (.type (tyN d)) := by
  cases h with
  | non => exact .base .non
  | bl b => exact .base (.bl b)
  | int i => exact .base (.int i)
  | str x => exact .base (.str x)
  | lst h1 _ =>
    rcases h1 with (h1 | ⟨o, h1⟩) | ⟨o, its, n, h1, h2, _⟩
    · exact .base (.lst h1)
    · exact .base (.frz h1)
    · exact .kList h1 h2
  | tup h1 _ =>
    rcases h1 with (h1 | ⟨o, h1⟩) | ⟨o, its, n, h1, h2, _⟩
    · exact .base (.tup h1)
    · exact .fTuple h1
    · exact .kTuple h1 h2
mutual
def wideD : PyData → Bool
  | .list xs => decide (xs.length ≤ 40000) && wideAll xs
  | .tuple xs => decide (xs.length ≤ 40000) && wideAll xs
  | .dict _ => false
  | .none => true
  | .bool _ => true
  | .int _ => true
  | .str _ => true
def wideAll : List PyData → Bool
  | [] => true
  | d :: ds => wideD d && wideAll ds
end
theorem wide_get : ∀ {ds : List PyData} {i : Nat} {d : PyData}, wideAll ds = true → ds[i]? = some d → wideD d = true
  | [], _, _, _, h => by simp at h
  | x :: ds, 0, d, h, e => by
    have e2 : x = d := Option.some.inj e
    subst e2
    unfold wideAll at h
    exact (Bool.and_eq_true_iff.mp h).1
  | x :: ds, i + 1, d, h, e => by
    unfold wideAll at h
    exact wide_get (Bool.and_eq_true_iff.mp h).2 e
theorem depth_get : ∀ {ds : List PyData} {i : Nat} {d : PyData}, ds[i]? = some d → d.depth ≤ PyData.depthAll ds
  | [], _, _, h => by simp at h
  | x :: ds, 0, d, e => by
    have e2 : x = d := Option.some.inj e
    subst e2
    unfold PyData.depthAll
    exact Nat.le_max_left _ _
  | x :: ds, i + 1, d, e => by
    unfold PyData.depthAll
    exact Nat.le_trans (depth_get (ds := ds) (i := i) e) (Nat.le_max_right _ _)
section
variable {K : PySem.W.Frag} {σ : L2.St} {H H' : Hp} {ta tb te tx : TE} {t u : TT} {x y z v : V}
theorem ev_isi {d : PyData} {n : String} {b : Bool} (ha : Ev ta σ H x) (hb : Ev tb σ H (.ty n)) (hx : Dp K H x d) (hk : kitB (tyN d) n = some b) : Ev (tCB (rIsi K) (tCons ta (tCons tb tNil))) σ H (.bl b) :=
  ev_cb (ea_cons ha (ea_cons hb ea_nil)) fun H1 e Q q => ⟨x, .ty n, .type (tyN d), .type n, b, rfl, .ty n, dp_ty (Dp.ex e d x hx), kit_ty hk, q H1 (Ex.refl H1)⟩
theorem ev_lenD {p : Addr} {xs : List V} (ha : Ev ta σ H (.ref p)) (h : SqL K H p xs ∨ SqT K H p xs) : Ev (tCB (rLenS K) (tCons ta tNil)) σ H (.int (xs.length : Int)) := fun H1 e Q q =>
  ha H1 e _ fun H2 e2 => ⟨p, xs, rfl, h.imp (ex_l (e.trans e2)) (ex_t (e.trans e2)), q H2 e2⟩
theorem ev_ixD {p : Addr} {xs : List V} {i : Nat} (ha : Ev ta σ H (.ref p)) (hb : Ev tb σ H (.int (i : Int))) (h : SqL K H p xs ∨ SqT K H p xs) (hv : xs[i]? = some v) : Ev (tOp (rIx K) ta tb) σ H v :=
  ev_op ha hb fun H1 e Q q => by
    rcases h with h | h
    · exact .inl ⟨p, xs, (i : Int), v, rfl, rfl, ex_l e h, atI_nat hv, q H1 (Ex.refl H1)⟩
    · exact .inr (.inl ⟨p, xs, (i : Int), v, rfl, rfl, ex_t e h, atI_nat hv, q H1 (Ex.refl H1)⟩)
theorem given_none (n : Nat) (v : Nat → V) : given n (fun _ => false) v = [] := by
  unfold given
  have e : (List.range n).filter (fun _ => false) = [] := by simp
  rw [e] <;> rfl
/-- [..] == [] where nothing was given -/
theorem ev_eqNil (ha : EvL ta σ H []) : Ev (tOp (rEqD K) ta (tLst tNil)) σ H (.bl true) := ev_opLL ha (el_lst ea_nil (Nat.zero_le _)) fun p q H1 h1 h2 _ H2 e2 Q q2 =>
  ⟨.list [], .list [], .lst (sq_of (e2 p _ h1)) .nil, .lst (sq_of (e2 q _ h2)) .nil, by decide +kernel, by decide +kernel, by
    have e : PyData.eqv (.list []) (.list []) = true := by decide +kernel
    rw [e]
    exact q2 H2 (Ex.refl H2)⟩
end
section
variable {P : Program} {w : World} {K : PySem.W.Frag} {mg : Str → Option Value} {base : Heap}
abbrev s__law_like : Stmt := topS 42
theorem sc__law_like : FnScope ["_law_found", "_law_due", "_law_k"] ["_law_found", "_law_due"] (fnScope s__law_like) := fnScope_by (by decide +kernel)
def spLike (K : PySem.W.Frag) (n : Nat) : Sp := fun vs H Q _ => ∃ (x y : V) (d : PyData), vs = [x, y] ∧ Dp K H x d ∧ Dp K H y d ∧ d.depth < n ∧ wideD d = true ∧ RetV (.bl true) H Q
/-- two of the same data, a list or a tuple -/
theorem like_seq {H : Hp} {x y : V} {ds : List PyData} {d : PyData} (hd : d = .list ds ∨ d = .tuple ds) (hx : Dp K H x d) (hy : Dp K H y d) :
    ∃ p xs q ys, x = .ref p ∧ y = .ref q ∧ (SqL K H p xs ∨ SqT K H p xs) ∧ (SqL K H q ys ∨ SqT K H q ys) ∧ DpAll K H xs ds ∧ DpAll K H ys ds := by
  rcases hd with rfl | rfl
  · cases hx with
    | lst h1 h2 =>
      cases hy with
      | lst g1 g2 => exact ⟨_, _, _, _, rfl, rfl, .inl h1, .inl g1, h2, g2⟩
  · cases hx with
    | tup h1 h2 =>
      cases hy with
      | tup g1 g2 => exact ⟨_, _, _, _, rfl, rfl, .inr h1, .inr g1, h2, g2⟩
theorem like_flat {H : Hp} {x y : V} {d : PyData} (h1 : ∀ ds, d ≠ .list ds) (h2 : ∀ ds, d ≠ .tuple ds) (hx : Dp K H x d) (hy : Dp K H y d) : x = y ∧ scal x y = true := by
  cases hx with
  | non => cases hy; exact ⟨rfl, rfl⟩
  | bl b => cases hy; exact ⟨rfl, rfl⟩
  | int i => cases hy; exact ⟨rfl, rfl⟩
  | str z => cases hy; exact ⟨rfl, rfl⟩
  | lst _ _ => exact absurd rfl (h1 _)
  | tup _ _ => exact absurd rfl (h2 _)
theorem ok_like1 (T : ModsL K mg) (n : Nat) (c__law_like : Cal P w K mg base n "_law_like" (spLike K n) []) {f : Addr} {fd : FuncData} (F : Def K mg "_law_like" s__law_like f fd) (b : Binds K fd ["_law_found", "_law_due"] []) : Cal P w K mg base (n + 1) "_law_like" (spLike K (n + 1)) [] := by
  refine cal0 F b .nil sc__law_like (fun vs H Q E h => ?_) (fun cdv A outer s H vs Q E hr h => ?_)
  · obtain ⟨_, _, _, rfl, _⟩ := h
    rfl
  · obtain ⟨x, y, d, rfl, hx, hy, hdep, hwd, q⟩ := h
    have m_isinstance := T.m_isinstance
    have m_tuple := T.m_tuple
    have m_list := T.m_list
    have m_len := T.m_len
    have m_range := T.m_range
    have m_bool := T.m_bool
    have m_int := T.m_int
    have m_str := T.m_str
    have hu64 := hr.units
    refine ⟨_, (pss_cons (ps_if (PW.pt (pw_or (pt_val (pe_callB call_isi (by rfl) m_isinstance Wt.bt_isinstance (pa_cons (pv 1) (pa_cons (pe_bltn (v := .ty "tuple") (by rfl) m_tuple Wt.bt_tuple rfl) pa_nil)))) (pw_or1 (pt_val (pe_callB call_isi (by rfl) m_isinstance Wt.bt_isinstance (pa_cons (pv 1) (pa_cons (pe_bltn (v := .ty "list") (by rfl) m_list Wt.bt_list rfl) pa_nil))))))) (pss_cons (ps_if (pt_cmpR op_ne (pe_callB call_isi (by rfl) m_isinstance Wt.bt_isinstance (pa_cons (pv 0) (pa_cons (pe_bltn (v := .ty "tuple") (by rfl) m_tuple Wt.bt_tuple rfl) pa_nil))) (pe_callB call_isi (by rfl) m_isinstance Wt.bt_isinstance (pa_cons (pv 1) (pa_cons (pe_bltn (v := .ty "tuple") (by rfl) m_tuple Wt.bt_tuple rfl) pa_nil))) (nomark _)) (pss_one (ps_ret pe_bl)) pss_nil)
      (pss_cons (ps_if (PW.pt (pw_or (pt_cmpR op_ne (pe_callB call_isi (by rfl) m_isinstance Wt.bt_isinstance (pa_cons (pv 0) (pa_cons (pe_bltn (v := .ty "list") (by rfl) m_list Wt.bt_list rfl) pa_nil))) (pe_callB call_isi (by rfl) m_isinstance Wt.bt_isinstance (pa_cons (pv 1) (pa_cons (pe_bltn (v := .ty "list") (by rfl) m_list Wt.bt_list rfl) pa_nil))) (nomark _)) (pw_or1 (pt_cmpR op_ne (pe_callB call_len_seq (by rfl) m_len PySem.boot_len (pa_cons (pv 0) pa_nil)) (pe_callB call_len_seq (by rfl) m_len PySem.boot_len (pa_cons (pv 1) pa_nil)) (nomark _))))) (pss_one (ps_ret pe_bl)) pss_nil)
      (pss_one (ps_ret (pe_cmpR (op_eqD hu64) (pe_lc (own := [("_law_k", 2)]) (g := (gName 2)) rfl sc__law_like.nd (pi_range1 (by rfl) m_range (pa_cons (pe_callB call_len_seq (by rfl) m_len PySem.boot_len (pa_cons (pv 1) pa_nil)) pa_nil)) (blkOk_by (N := ["_law_found", "_law_due", "_law_k"]) (sc := C8.fnScope s__law_like) (by decide +kernel)) (fun _ _ _ _ _ => pg_name (i := 2) sc__law_like.nd rfl (Or.inl rfl)) (fun _ _ _ _ _ => pts_one (pt_not (pt_val (C8.pe_c c__law_like hr (by first | decide | exact Nat.le_refl _ | omega) (by rfl) (pa_cons (pe_ix (show IxR _ (rIx K) from ix_seq) (pv 0) (pv 2) (fun _ _ => rfl)) (pa_cons (pe_ix (show IxR _ (rIx K) from ix_seq) (pv 1) (pv 2) (fun _ _ => rfl)) pa_nil)))))) (fun _ _ _ _ _ => (pv 2))) (pe_lst pa_nil) (nomark _)))))) pss_nil)
      (pss_cons (ps_if (pt_cmpR op_ne (pe_callB call_isi (by rfl) m_isinstance Wt.bt_isinstance (pa_cons (pv 0) (pa_cons (pe_bltn (v := .ty "bool") (by rfl) m_bool Wt.bt_bool rfl) pa_nil))) (pe_callB call_isi (by rfl) m_isinstance Wt.bt_isinstance (pa_cons (pv 1) (pa_cons (pe_bltn (v := .ty "bool") (by rfl) m_bool Wt.bt_bool rfl) pa_nil))) (nomark _)) (pss_one (ps_ret pe_bl)) pss_nil)
      (pss_cons (ps_if (PW.pt (pw_or (pt_cmpR op_ne (pe_callB call_isi (by rfl) m_isinstance Wt.bt_isinstance (pa_cons (pv 0) (pa_cons (pe_bltn (v := .ty "int") (by rfl) m_int Wt.bt_int rfl) pa_nil))) (pe_callB call_isi (by rfl) m_isinstance Wt.bt_isinstance (pa_cons (pv 1) (pa_cons (pe_bltn (v := .ty "int") (by rfl) m_int Wt.bt_int rfl) pa_nil))) (nomark _)) (pw_or1 (pt_cmpR op_ne (pe_callB call_isi (by rfl) m_isinstance Wt.bt_isinstance (pa_cons (pv 0) (pa_cons (pe_bltn (v := .ty "str") (by rfl) m_str Wt.bt_str rfl) pa_nil))) (pe_callB call_isi (by rfl) m_isinstance Wt.bt_isinstance (pa_cons (pv 1) (pa_cons (pe_bltn (v := .ty "str") (by rfl) m_str Wt.bt_str rfl) pa_nil))) (nomark _))))) (pss_one (ps_ret pe_bl)) pss_nil)
      (pss_one (ps_ret (pe_cmpR op_eq (pv 0) (pv 1) (nomark _))))))), ?_⟩
    by_cases hs : ∃ ds, d = .list ds ∨ d = .tuple ds
    · obtain ⟨ds, hd⟩ := hs
      obtain ⟨p, xs, pq, ys, rfl, rfl, gx, gy, ax, ay⟩ := like_seq hd hx hy
      have lx := dpa_len ax
      have ly := dpa_len ay
      have hw2 : ds.length ≤ 40000 ∧ wideAll ds = true ∧ PyData.depthAll ds < n := by
        rcases hd with rfl | rfl
        · unfold wideD at hwd
          rw [Bool.and_eq_true] at hwd
          unfold PyData.depth at hdep
          exact ⟨of_decide_eq_true hwd.1, hwd.2, by omega⟩
        · unfold wideD at hwd
          rw [Bool.and_eq_true] at hwd
          unfold PyData.depth at hdep
          exact ⟨of_decide_eq_true hwd.1, hwd.2, by omega⟩
      obtain ⟨bt, bl, kt, kl, hor⟩ : ∃ bt bl : Bool, kitB (tyN d) "tuple" = some bt ∧ kitB (tyN d) "list" = some bl ∧ (bt || bl) = true := by
        rcases hd with rfl | rfl
        · exact ⟨false, true, (show kitB "list" "tuple" = some false by decide +kernel), (show kitB "list" "list" = some true by decide +kernel), rfl⟩
        · exact ⟨true, false, (show kitB "tuple" "tuple" = some true by decide +kernel), (show kitB "tuple" "list" = some false by decide +kernel), rfl⟩
      refine q_when (et_is (et_or (et_B (ev_isi (ev_var rfl) ev_c hy kt)) fun _ => et_B (ev_isi (ev_var rfl) ev_c hy kl)) hor) (fun _ H1 e1 => ?_) (fun z => by cases z)
      have hx1 := Dp.ex e1 d _ hx
      have hy1 := Dp.ex e1 d _ hy
      refine q_when (b := false) (et_is (et_test (ev_op (ev_isi (ev_var rfl) ev_c hx1 kt) (ev_isi (ev_var rfl) ev_c hy1 kt) (rv_ne rfl))) (by simp)) (fun z => by cases z) (fun _ H2 e2 => ?_)
      have hx2 := Dp.ex e2 d _ hx1
      have hy2 := Dp.ex e2 d _ hy1
      have e12 := e1.trans e2
      refine q_when (b := false) (et_is (et_or (et_test (ev_op (ev_isi (ev_var rfl) ev_c hx2 kl) (ev_isi (ev_var rfl) ev_c hy2 kl) (rv_ne rfl))) fun _ =>
        et_test (ev_op (ev_lenD (K := K) (ev_var rfl) (gx.imp (ex_l e12) (ex_t e12))) (ev_lenD (K := K) (ev_var rfl) (gy.imp (ex_l e12) (ex_t e12))) (rv_ne rfl))) (by simp [lx, ly])) (fun z => by cases z) (fun _ H3 e3 => ?_)
      have e13 := e12.trans e3
      have gx3 := gx.imp (ex_l e13) (ex_t e13)
      have gy3 := gy.imp (ex_l e13) (ex_t e13)
      refine s_ret (ev_eqNil (K := K) ?_) fun H4 e4 => q.go (e13.trans e4)
      have lc := el_lcR1 (j := 2) (vs := [2]) (n := (ys.length : Int)) (σ := [some (V.ref p), some (V.ref pq), none]) (H := H3) (fun _ => false) (fun _ => V.non)
        (ta := tCons (tCB (rLenS K) (tCons (tVar 1) tNil)) tNil) (te := tVar 2)
        (t := tNot (tB (tCall (spLike K n) [] C8.E0 (tCons (tOp (rIx K) (tVar 0) (tVar 2)) (tCons (tOp (rIx K) (tVar 1) (tVar 2)) tNil)))))
        (ea_cons (ev_lenD (K := K) (ev_var rfl) gy3) ea_nil) ⟨by omega, by rw [ly]; omega⟩ (fun _ => rfl) (fun i H4 e4 hi => ?_) (fun i H4 e4 hi z => by cases z)
      · rw [Int.toNat_natCast, given_none] at lc
        exact lc
      · have hid : i < ds.length := by omega
        obtain ⟨vx, d1, g1, g2, g3⟩ := dpa_get ax hid
        obtain ⟨vy, d2, k1, k2, k3⟩ := dpa_get ay hid
        rw [g2] at k2
        cases k2
        have e14 := e13.trans e4
        refine et_not (et_B (b := true) ?_)
        refine ev_call (dvs := []) (vs := [vx, vy]) (ea_cons (ev_ixD (ev_var rfl) (ev_var rfl) (gx.imp (ex_l e14) (ex_t e14)) g1) (ea_cons (ev_ixD (ev_var rfl) (ev_var rfl) (gy.imp (ex_l e14) (ex_t e14)) k1) ea_nil)) fun H5 e5 Q5 q5 E5 => ?_
        have e15 := e14.trans e5
        exact ⟨vx, vy, d1, rfl, Dp.ex e15 d1 _ g3, Dp.ex e15 d1 _ k3, Nat.lt_of_le_of_lt (depth_get g2) hw2.2.2, wide_get hw2.2.1 g2, fun H6 e6 => q5 H6 e6⟩
    · have n1 : ∀ ds, d ≠ .list ds := fun ds e => hs ⟨ds, .inl e⟩
      have n2 : ∀ ds, d ≠ .tuple ds := fun ds e => hs ⟨ds, .inr e⟩
      obtain ⟨rfl, hsc⟩ := like_flat n1 n2 hx hy
      obtain ⟨bb, bi, bs, kt, kl, kb, ki, ks⟩ : ∃ bb bi bs : Bool, kitB (tyN d) "tuple" = some false ∧ kitB (tyN d) "list" = some false ∧ kitB (tyN d) "bool" = some bb ∧ kitB (tyN d) "int" = some bi ∧ kitB (tyN d) "str" = some bs := by
        cases d with
        | none => exact ⟨false, false, false, (show kitB "NoneType" "tuple" = some false by decide +kernel), (show kitB "NoneType" "list" = some false by decide +kernel), (show kitB "NoneType" "bool" = some false by decide +kernel), (show kitB "NoneType" "int" = some false by decide +kernel), (show kitB "NoneType" "str" = some false by decide +kernel)⟩
        | bool _ => exact ⟨true, true, false, (show kitB "bool" "tuple" = some false by decide +kernel), (show kitB "bool" "list" = some false by decide +kernel), (show kitB "bool" "bool" = some true by decide +kernel), (show kitB "bool" "int" = some true by decide +kernel), (show kitB "bool" "str" = some false by decide +kernel)⟩
        | int _ => exact ⟨false, true, false, (show kitB "int" "tuple" = some false by decide +kernel), (show kitB "int" "list" = some false by decide +kernel), (show kitB "int" "bool" = some false by decide +kernel), (show kitB "int" "int" = some true by decide +kernel), (show kitB "int" "str" = some false by decide +kernel)⟩
        | str _ => exact ⟨false, false, true, (show kitB "str" "tuple" = some false by decide +kernel), (show kitB "str" "list" = some false by decide +kernel), (show kitB "str" "bool" = some false by decide +kernel), (show kitB "str" "int" = some false by decide +kernel), (show kitB "str" "str" = some true by decide +kernel)⟩
        | list ds => exact absurd rfl (n1 ds)
        | tuple ds => exact absurd rfl (n2 ds)
        | dict _ => cases hx
      refine q_when (et_is (et_or (et_B (ev_isi (ev_var rfl) ev_c hy kt)) fun _ => et_B (ev_isi (ev_var rfl) ev_c hy kl)) rfl) (fun z => by cases z) (fun _ H1 e1 => ?_)
      have hx1 := Dp.ex e1 d _ hx
      refine q_when (b := false) (et_is (et_test (ev_op (ev_isi (ev_var rfl) ev_c hx1 kb) (ev_isi (ev_var rfl) ev_c hx1 kb) (rv_ne rfl))) (by simp)) (fun z => by cases z) (fun _ H2 e2 => ?_)
      have hx2 := Dp.ex e2 d _ hx1
      refine q_when (b := false) (et_is (et_or (et_test (ev_op (ev_isi (ev_var rfl) ev_c hx2 ki) (ev_isi (ev_var rfl) ev_c hx2 ki) (rv_ne rfl))) fun _ =>
        et_test (ev_op (ev_isi (ev_var rfl) ev_c hx2 ks) (ev_isi (ev_var rfl) ev_c hx2 ks) (rv_ne rfl))) (by simp)) (fun z => by cases z) (fun _ H3 e3 => ?_)
      refine s_ret (ev_is (ev_op (ev_var rfl) (ev_var rfl) (rv_eq hsc)) (show V.bl (decide (x = x)) = .bl true by rw [decide_eq_true rfl])) fun H4 e4 => q.go (((e1.trans e2).trans e3).trans e4)
/-- to any depth -/
theorem ok_like (T : ModsL K mg) {f : Addr} {fd : FuncData} (F : Def K mg "_law_like" s__law_like f fd) (b : Binds K fd ["_law_found", "_law_due"] []) : ∀ n, Cal P w K mg base n "_law_like" (spLike K n) []
  | 0 => ⟨f, fd, _, [], ⟨fun vs H Q E ⟨_, _, d, _, _, _, h, _⟩ => absurd h (Nat.not_lt_zero _), fun A outer s H args us vs Q E _ _ _ _ ⟨_, _, d, _, _, _, h, _⟩ => absurd h (Nat.not_lt_zero _)⟩, F.mgf, F.kp, b, .nil⟩
  | n + 1 => ok_like1 T n (ok_like T F b n) F b
end
theorem wide_word (n : Nat) (w : Word) : wideD (wordD n w) = true := by
  unfold wordD
  simp [wideD, wideAll]
theorem depth_word (n : Nat) (w : Word) : (wordD n w).depth = 2 := by
  unfold wordD
  simp [PyData.depth, PyData.depthAll]
theorem wide_map (n : Nat) : ∀ (ws : List Word) (ds : List PyData), wideAll ds = true → wideAll (ws.map (wordD n) ++ ds) = true
  | [], ds, h => h
  | w :: ws, ds, h => by
    show (wideD (wordD n w) && wideAll (ws.map (wordD n) ++ ds)) = true
    rw [wide_word, wide_map n ws ds h] <;> rfl
theorem wide_all : ∀ (n : Nat) (rows : List (List Nat)), wideAll (allD n rows) = true
  | _, [] => rfl
  | n, r :: rows => wide_map n _ _ (wide_all (n + 1) rows)
theorem depth_map (n : Nat) : ∀ (ws : List Word) (ds : List PyData), PyData.depthAll ds ≤ 2 → PyData.depthAll (ws.map (wordD n) ++ ds) ≤ 2
  | [], ds, h => h
  | w :: ws, ds, h => by
    have ih := depth_map n ws ds h
    show PyData.depthAll (wordD n w :: (ws.map (wordD n) ++ ds)) ≤ 2
    unfold PyData.depthAll
    rw [depth_word]
    exact Nat.max_le.mpr ⟨Nat.le_refl _, ih⟩
theorem depth_all : ∀ (n : Nat) (rows : List (List Nat)), PyData.depthAll (allD n rows) ≤ 2
  | _, [] => by
    show PyData.depthAll [] ≤ 2
    unfold PyData.depthAll
    decide
  | n, r :: rows => depth_map n _ _ (depth_all (n + 1) rows)
end Wt

set_option Elab.async false
set_option linter.all false
set_option maxRecDepth 100000
set_option maxHeartbeats 4000000
/-! A row of words that is written word by word is read so. -/
namespace Wt
open PySem PySem.Spec PyProof.Rows L2 SX Evl

/-- a sign that makes a word longer -/
def lastL (w : List Nat) : Bool := w.getLast?.any isL
def lastF (w : List Nat) : Bool := w.getLast?.any isF
def cont (w : List Nat) (c : Nat) : Bool := (lastL w && isL c) || (lastF w && isF c) || (decide (w = [60]) && (decide (c = 61) || decide (c = 62)))
def Bnd (w rest : List Nat) : Prop := ∀ c r, rest = c :: r → cont w c = false
inductive Good : List Nat → List Nat → Prop
  | name {w : List Nat} (a : w.all isL = true) (n : w ≠ []) (l : w.length ≤ 6) (o : w ∉ owns) : Good kName w
  | own {w : List Nat} (o : w ∈ owns) : Good kOwn w
  | num {w : List Nat} (a : w.all isF = true) (n : w ≠ []) (l : w.length ≤ 6) (z : w.headD 0 = 48 → w = [48]) : Good kNum w
  | sign {w : List Nat} (s : w ∈ signs) : Good kSign w

theorem owns_let : ∀ w ∈ owns, w.all isL = true ∧ w ≠ [] ∧ w.length ≤ 6 := by decide +kernel
theorem isL_isF : ∀ c, isL c = true → isF c = false := by
  intro c h
  unfold isL at h
  unfold isF
  have h1 := of_decide_eq_true h
  have : ∀ c ∈ letters, c ∉ figures := by decide +kernel
  exact decide_eq_false (this c h1)
theorem isF_isL (c : Nat) (h : isF c = true) : isL c = false := by
  cases h2 : isL c with
  | false => rfl
  | true =>
    rw [isL_isF c h2] at h
    cases h
theorem isL_32 : isL 32 = false := by decide +kernel
theorem isF_32 : isF 32 = false := by decide +kernel
theorem cont_32 (w : List Nat) : cont w 32 = false := by
  unfold cont
  rw [isL_32, isF_32]
  simp
theorem takeWhile_app {p : Nat → Bool} : ∀ {w rest : List Nat}, w.all p = true → (∀ c r, rest = c :: r → p c = false) → (w ++ rest).takeWhile p = w
  | [], [], _, _ => rfl
  | [], c :: r, _, h => by
    rw [List.nil_append, List.takeWhile_cons, if_neg (by rw [h c r rfl]; exact Bool.false_ne_true)]
  | c :: w, rest, a, h => by
    rw [List.all_cons, Bool.and_eq_true] at a
    rw [List.cons_append, List.takeWhile_cons, if_pos a.1, takeWhile_app a.2 h]
theorem last_all {p : Nat → Bool} : ∀ {w : List Nat}, w ≠ [] → w.all p = true → w.getLast?.any p = true
  | [], h, _ => absurd rfl h
  | [c], _, a => by
    rw [List.all_cons, Bool.and_eq_true] at a
    exact a.1
  | c :: d :: w, _, a => by
    rw [List.all_cons, Bool.and_eq_true] at a
    rw [List.getLast?_cons_cons]
    exact last_all (List.cons_ne_nil _ _) a.2
theorem wordAt_let {w rest : List Nat} (a : w.all isL = true) (n : w ≠ []) (b : Bnd w rest) : wordAt (w ++ rest) = w := by
  obtain ⟨c, r, rfl⟩ : ∃ c r, w = c :: r := by
    cases w with
    | nil => exact absurd rfl n
    | cons c r => exact ⟨c, r, rfl⟩
  have hc : isL c = true := by
    rw [List.all_cons, Bool.and_eq_true] at a
    exact a.1
  rw [List.cons_append, wordAt_cons, if_pos hc, ← List.cons_append]
  refine takeWhile_app a fun d q e => ?_
  have z := b d q e
  unfold cont at z
  have l : lastL (c :: r) = true := last_all n a
  rw [l, Bool.true_and, Bool.or_eq_false_iff, Bool.or_eq_false_iff] at z
  exact z.1.1
theorem wordAt_fig {w rest : List Nat} (a : w.all isF = true) (n : w ≠ []) (b : Bnd w rest) : wordAt (w ++ rest) = w := by
  obtain ⟨c, r, rfl⟩ : ∃ c r, w = c :: r := by
    cases w with
    | nil => exact absurd rfl n
    | cons c r => exact ⟨c, r, rfl⟩
  have hc : isF c = true := by
    rw [List.all_cons, Bool.and_eq_true] at a
    exact a.1
  rw [List.cons_append, wordAt_cons, if_neg (by rw [isF_isL c hc]; exact Bool.false_ne_true), if_pos hc, ← List.cons_append]
  refine takeWhile_app a fun d q e => ?_
  have z := b d q e
  unfold cont at z
  have l : lastF (c :: r) = true := last_all n a
  rw [l, Bool.true_and, Bool.or_eq_false_iff, Bool.or_eq_false_iff] at z
  exact z.1.2
theorem wordAt_sign {w rest : List Nat} (s : w ∈ signs) (b : Bnd w rest) : wordAt (w ++ rest) = w := by
  have hw : ∀ w ∈ signs, w ≠ [] ∧ isL (w.headD 0) = false ∧ isF (w.headD 0) = false := by decide +kernel
  obtain ⟨h0, h1, h2⟩ := hw w s
  obtain ⟨c, r, rfl⟩ : ∃ c r, w = c :: r := by
    cases w with
    | nil => exact absurd rfl h0
    | cons c r => exact ⟨c, r, rfl⟩
  have h1' : isL c = false := h1
  have h2' : isF c = false := h2
  rw [List.cons_append, wordAt_cons, if_neg (by rw [h1']; exact Bool.false_ne_true), if_neg (by rw [h2']; exact Bool.false_ne_true), ← List.cons_append]
  unfold signs at s
  simp only [List.mem_cons, List.not_mem_nil, or_false] at s
  rcases s with e | e | e | e | e | e | e | e | e | e | e | e
  all_goals
    rw [e] at b ⊢
    cases rest with
    | nil => decide +kernel
    | cons d q =>
      first
        | (unfold signs; simp [List.find?]; done)
        | (have z := b d q rfl
           have z1 : ¬ d = 61 := fun y => by subst y; exact absurd z (by decide +kernel)
           have z2 : ¬ d = 62 := fun y => by subst y; exact absurd z (by decide +kernel)
           unfold signs; simp [List.find?, z1, z2])
theorem wordAt_good {k w rest : List Nat} (g : Good k w) (b : Bnd w rest) : wordAt (w ++ rest) = w := by
  cases g with
  | name a n l o => exact wordAt_let a n b
  | own o => exact wordAt_let (owns_let w o).1 (owns_let w o).2.1 b
  | num a n l z => exact wordAt_fig a n b
  | sign s => exact wordAt_sign s b
theorem signs_no : ∀ w ∈ signs, w ∉ owns := by decide +kernel
theorem head_all {p : Nat → Bool} {w : List Nat} (n : w ≠ []) (a : w.all p = true) : p (w.headD 0) = true := by
  cases w with
  | nil => exact absurd rfl n
  | cons c r =>
    rw [List.all_cons, Bool.and_eq_true] at a
    exact a.1
theorem signs_head : ∀ w ∈ signs, isL (w.headD 0) = false ∧ isF (w.headD 0) = false := by decide +kernel
theorem kind_good {k w : List Nat} (g : Good k w) : kindOf w = k := by
  unfold kindOf
  cases g with
  | name a n l o =>
    have hs : w ∉ signs := fun s => by
      have := (signs_head w s).1
      rw [head_all n a] at this
      cases this
    rw [if_neg o, if_neg hs, if_neg (by rintro (z | z); exact n z; omega), if_pos (head_all n a)]
  | own o => rw [if_pos o]
  | num a n l z =>
    have hs : w ∉ signs := fun s => by
      have := (signs_head w s).2
      rw [head_all n a] at this
      cases this
    have ho : w ∉ owns := fun o => by
      have := isL_isF _ (head_all n (owns_let w o).1)
      rw [head_all n a] at this
      cases this
    rw [if_neg ho, if_neg hs, if_neg (by rintro (z | z); exact n z; omega), if_neg (by rw [isF_isL _ (head_all n a)]; exact Bool.false_ne_true), if_neg]
    rintro ⟨z1, z2⟩
    rw [z z1] at z2
    exact absurd z2 (by decide)
  | sign s => rw [if_neg (signs_no w s), if_pos s]
theorem good_ne {k w : List Nat} (g : Good k w) : w ≠ [] := by
  cases g with
  | name a n l o => exact n
  | own o => exact (owns_let w o).2.1
  | num a n l z => exact n
  | sign s =>
    have : ∀ w ∈ signs, w ≠ [] := by decide +kernel
    exact this w s
theorem good_len {k w : List Nat} (g : Good k w) : w.length ≤ 6 := by
  cases g with
  | name a n l o => exact l
  | own o => exact (owns_let w o).2.2
  | num a n l z => exact l
  | sign s =>
    have : ∀ w ∈ signs, w.length ≤ 6 := by decide +kernel
    exact this w s
/-- no remark, no line end, no blank within -/
theorem good_plain {k w : List Nat} (g : Good k w) : 35 ∉ w ∧ 10 ∉ w ∧ 32 ∉ w := by
  have hl : ∀ w : List Nat, w.all isL = true → 35 ∉ w ∧ 10 ∉ w ∧ 32 ∉ w := fun w a =>
    ⟨fun h => absurd (List.all_eq_true.mp a 35 h) (by decide +kernel), fun h => absurd (List.all_eq_true.mp a 10 h) (by decide +kernel), fun h => absurd (List.all_eq_true.mp a 32 h) (by decide +kernel)⟩
  have hf : ∀ w : List Nat, w.all isF = true → 35 ∉ w ∧ 10 ∉ w ∧ 32 ∉ w := fun w a =>
    ⟨fun h => absurd (List.all_eq_true.mp a 35 h) (by decide +kernel), fun h => absurd (List.all_eq_true.mp a 10 h) (by decide +kernel), fun h => absurd (List.all_eq_true.mp a 32 h) (by decide +kernel)⟩
  cases g with
  | name a n l o => exact hl w a
  | own o => exact hl w (owns_let w o).1
  | num a n l z => exact hf w a
  | sign s =>
    have : ∀ w ∈ signs, 35 ∉ w ∧ 10 ∉ w ∧ 32 ∉ w := by decide +kernel
    exact this w s
theorem kinds_ne {k w : List Nat} (g : Good k w) : k ≠ [] := by
  cases g <;> decide
theorem good_head {k w : List Nat} (g : Good k w) : ∃ c r, w = c :: r ∧ c ≠ 32 := by
  have h := good_ne g
  cases w with
  | nil => exact absurd rfl h
  | cons c r => exact ⟨c, r, rfl, fun e => (good_plain g).2.2 (e ▸ List.mem_cons_self ..)⟩

/-! ### the row so far -/
/-- r is a row's beginning that holds the words ds, the last one is last -/
structure PL (r : List Nat) (ds : List Word) (last : List Nat) : Prop where
  plain : 35 ∉ r ∧ 10 ∉ r
  lex : ∀ rest, Bnd last rest → lexR 0 (r ++ rest) = (ds ++ (lexR r.length rest).1, (lexR r.length rest).2)
theorem pl_start : PL [] [] [] := ⟨⟨by simp, by simp⟩, fun rest _ => rfl⟩
theorem lexR_blanks : ∀ (g i : Nat) (l : List Nat), lexR i (List.replicate g 32 ++ l) = lexR (i + g) l
  | 0, i, l => rfl
  | g + 1, i, l => by
    rw [List.replicate_succ, List.cons_append, lexR_blank, lexR_blanks g (i + 1) l, show i + 1 + g = i + (g + 1) by omega]
theorem pl_step {r last k w : List Nat} {ds : List Word} {g : Nat} (p : PL r ds last) (gd : Good k w) (hg : g = 0 → ∀ c q, w = c :: q → cont last c = false) :
    PL (r ++ List.replicate g 32 ++ w) (ds ++ [(k, w, r.length + g + 1)]) w := by
  obtain ⟨p1, p2, p3⟩ := good_plain gd
  refine ⟨⟨?_, ?_⟩, fun rest b => ?_⟩
  · intro h
    rcases List.mem_append.mp h with h | h
    · rcases List.mem_append.mp h with h | h
      · exact p.plain.1 h
      · have := List.eq_of_mem_replicate h
        omega
    · exact p1 h
  · intro h
    rcases List.mem_append.mp h with h | h
    · rcases List.mem_append.mp h with h | h
      · exact p.plain.2 h
      · have := List.eq_of_mem_replicate h
        omega
    · exact p2 h
  · obtain ⟨c, q, ew, hc⟩ := good_head gd
    have hb : Bnd last (List.replicate g 32 ++ (w ++ rest)) := fun d s e => by
      cases g with
      | zero =>
        rw [List.replicate_zero, List.nil_append, ew, List.cons_append] at e
        injection e with e1 e2
        rw [← e1]
        exact hg rfl c q ew
      | succ g =>
        rw [List.replicate_succ, List.cons_append] at e
        injection e with e1 e2
        rw [← e1]
        exact cont_32 last
    have e0 : r ++ List.replicate g 32 ++ w ++ rest = r ++ (List.replicate g 32 ++ (w ++ rest)) := by rw [List.append_assoc, List.append_assoc]
    have hw : wordAt (w ++ rest) = w := wordAt_good gd b
    have hk : kindOf w = k := kind_good gd
    have hl : (r ++ List.replicate g 32 ++ w).length = r.length + g + w.length := by rw [List.length_append, List.length_append, List.length_replicate]
    have ec : w ++ rest = c :: (q ++ rest) := by rw [ew] <;> rfl
    have step : lexR (r.length + g) (w ++ rest) = ((k, w, r.length + g + 1) :: (lexR (r.length + g + w.length) rest).1, (lexR (r.length + g + w.length) rest).2) := by
      rw [ec, lexR_word hc (by rw [← ec, hw, hk]; exact kinds_ne gd), ← ec, hw, hk, List.drop_left]
    rw [e0, p.lex _ hb, lexR_blanks, step, hl, List.append_assoc] <;> rfl
/-- tails of rows, rows without words -/
theorem told_app {r t : List Nat} (h : 35 ∉ r) : told (r ++ t) = r ++ told t := by
  unfold told
  induction r with
  | nil => rfl
  | cons c r ih =>
    have hc : c ≠ 35 := fun e => h (e ▸ List.mem_cons_self ..)
    rw [List.cons_append, List.takeWhile_cons, if_pos (by simp [hc]), ih fun z => h (List.mem_cons_of_mem _ z)] <;> rfl
theorem pl_end {r last t : List Nat} {ds : List Word} (p : PL r ds last) {g : Nat} (ht : told t = List.replicate g 32) : lexRow (r ++ t) = (ds, none) := by
  rw [lexRow_R, told_app p.plain.1, ht]
  have hb : Bnd last (List.replicate g 32) := fun d s e => by
    cases g with
    | zero => cases e
    | succ g =>
      rw [List.replicate_succ] at e
      injection e with e1 e2
      rw [← e1]
      exact cont_32 last
  rw [p.lex _ hb]
  have e := lexR_blanks g r.length []
  rw [List.append_nil] at e
  rw [e, lexR_nil, List.append_nil]
/-- numbers -/
theorem numL_good {n : Nat} (h : n < 1000000) : Good kNum (TL.numL n) := by
  have hd := TL.numL_digits n
  refine .num ?_ (TL.numL_ne n) (TL.numL_len (by decide) (by simpa using h)) ?_
  · rw [List.all_eq_true]
    intro c hc
    obtain ⟨h1, h2⟩ := hd c hc
    unfold isF figures
    refine decide_eq_true ?_
    have : c = 48 ∨ c = 49 ∨ c = 50 ∨ c = 51 ∨ c = 52 ∨ c = 53 ∨ c = 54 ∨ c = 55 ∨ c = 56 ∨ c = 57 := by omega
    rcases this with e | e | e | e | e | e | e | e | e | e <;> subst e <;> decide
  · have key : ∀ n : Nat, (TL.numL n).headD 0 = 48 → n = 0 := fun n => by
      induction n using Nat.strongRecOn with
      | _ n ih =>
        intro hz
        by_cases hn : n < 10
        · rw [TL.numL_lt hn] at hz
          have : 48 + n = 48 := hz
          omega
        · rw [TL.numL_step (by omega)] at hz
          have hne := TL.numL_ne (n / 10)
          have hh : (TL.numL (n / 10) ++ [48 + n % 10]).headD 0 = (TL.numL (n / 10)).headD 0 := by
            cases hq : TL.numL (n / 10) with
            | nil => exact absurd hq hne
            | cons c r => rfl
          rw [hh] at hz
          have := ih (n / 10) (by omega) hz
          omega
    intro hz
    rw [key n hz]
    decide +kernel
end Wt

set_option Elab.async false
set_option linter.all false
set_option maxRecDepth 100000
set_option maxHeartbeats 4000000
/-! Expressions that are written word by word are read so. -/
namespace Wt
open PySem PySem.Spec PyProof.Rows L2 SX Evl
def lOr : List (List Nat) := [oOr]
def lAnd : List (List Nat) := [oAnd]
/-- the signs of a degree -/
def opsAt : Nat → List (List Nat)
  | 0 => [oOr]
  | 1 => [oAnd]
  | 3 => sCmp
  | 4 => sSum
  | 5 => sProd
  | _ => []
/-- words that a name or a number is not -/
def specW : List (List Nat) := [oOr, oAnd, oNot, oMod, oYes, oNo, [61], [60, 62], [60], [60, 61], [43], [45], [42], [47], [40], [41], [44], [46], []]
/-- what may follow what is read at a degree -/
def Fol (L : Nat) (rest : List Tk) : Prop := wordH rest ≠ [46] ∧ wordH rest ≠ [40] ∧ ∀ k, L ≤ k → k ≤ 5 → wordH rest ∉ opsAt k
theorem Fol.up {L M : Nat} {rest : List Tk} (h : Fol L rest) (e : L ≤ M) : Fol M rest := ⟨h.1, h.2.1, fun k h1 h2 => h.2.2 k (Nat.le_trans e h1) h2⟩
theorem fol_nil {L : Nat} : Fol L [] := ⟨by decide, by decide, fun k _ h => by
  have : ∀ k, k ≤ 5 → wordH ([] : List Tk) ∉ opsAt k := by decide
  exact this k h⟩
theorem fol_word {t : Tk} {r : List Tk} (h : t.2.1 ∈ [[41], [44]]) (L : Nat) : Fol L (t :: r) := by
  have h1 : ∀ w ∈ [[41], [44]], w ≠ [46] ∧ w ≠ [40] ∧ ∀ k, k ≤ 5 → w ∉ opsAt k := by decide
  obtain ⟨a, b, c⟩ := h1 _ h
  exact ⟨a, b, fun k _ hk => c k hk⟩
theorem fol_op {t : Tk} {r : List Tk} {L : Nat} (h : t.2.1 ∈ opsAt L) (hL : L ≤ 5) : Fol (L + 1) (t :: r) := by
  have h1 : ∀ L, L ≤ 5 → ∀ w ∈ opsAt L, w ≠ [46] ∧ w ≠ [40] ∧ ∀ k, k ≤ 5 → L + 1 ≤ k → w ∉ opsAt k := fun L hL => by
    have : L = 0 ∨ L = 1 ∨ L = 2 ∨ L = 3 ∨ L = 4 ∨ L = 5 := by omega
    rcases this with rfl | rfl | rfl | rfl | rfl | rfl <;> decide
  obtain ⟨a, b, c⟩ := h1 L hL _ h
  exact ⟨a, b, fun k h1 h2 => c k h2 h1⟩
/-- a name, or f.n -/
inductive PathW : List Tk → Place → List Nat → List Nat → Prop
  | one {t : Tk} (k : t.1 = kName) (s : t.2.1 ∉ specW) : PathW [t] (tkP t) [] t.2.1
  | two {t u v : Tk} (k : t.1 = kName) (s : t.2.1 ∉ specW) (p : u.2.1 = [46]) (k2 : v.1 = kName) (s2 : v.2.1 ∉ specW) : PathW [t, u, v] (tkP t) t.2.1 v.2.1
mutual
inductive Core : Nat → Nat → List Tk → PyData → Prop
  | num {m n : Nat} {t : Tk} (k : t.1 = kNum) (s : t.2.1 ∉ specW) (e : NumText.digitsVal t.2.1 = n) : Core 7 m [t] (node kNum (tkP t) [.int (n : Int)])
  | tru {m : Nat} {b : Bool} {t : Tk} (k : t.1 = kOwn) (e : t.2.1 = if b = true then oYes else oNo) : Core 7 m [t] (node oTruth (tkP t) [.bool b])
  | name {m : Nat} {ts : List Tk} {p : Place} {f n : List Nat} (h : PathW ts p f n) : Core 7 m ts (node kName p [.str (S f), .str (S n)])
  | call {m : Nat} {ts us : List Tk} {p : Place} {f n : List Nat} {ds : List PyData} {o c : Tk} (h : PathW ts p f n) (ho : o.2.1 = [40]) (hc : c.2.1 = [41]) (a : Args m us ds) : Core 7 (m + 1) (ts ++ o :: (us ++ [c])) (node oCall p [.str (S f), .str (S n), .tuple ds])
  | neg {m : Nat} {t : Tk} {ts : List Tk} {d : PyData} (e : t.2.1 = [45]) (h : Put 6 m ts d) : Core 6 (m + 1) (t :: ts) (node oNeg (tkP t) [d])
  | not {m : Nat} {t : Tk} {ts : List Tk} {d : PyData} (e : t.2.1 = oNot) (h : Put 2 m ts d) : Core 2 (m + 1) (t :: ts) (node oNot (tkP t) [d])
  | left {L m : Nat} {t : Tk} {ts us : List Tk} {d e : PyData} (hL : L ∈ [0, 1, 4, 5]) (s : t.2.1 ∈ opsAt L) (h : Put L m ts d) (g : Put (L + 1) m us e) : Core L m (ts ++ t :: us) (node t.2.1 (tkP t) [d, e])
  | cmp {m : Nat} {t : Tk} {ts us : List Tk} {d e : PyData} (s : t.2.1 ∈ sCmp) (h : Put 4 m ts d) (g : Put 4 m us e) : Core 3 m (ts ++ t :: us) (node t.2.1 (tkP t) [d, e])
inductive Put : Nat → Nat → List Tk → PyData → Prop
  | plain {L M m : Nat} {ts : List Tk} {d : PyData} (h : Core M m ts d) (e : L ≤ M) : Put L m ts d
  | brack {L M m : Nat} {ts : List Tk} {d : PyData} {o c : Tk} (ko : o.1 = kSign) (ho : o.2.1 = [40]) (hc : c.2.1 = [41]) (h : Core M m ts d) : Put L (m + 1) (o :: (ts ++ [c])) d
inductive Args : Nat → List Tk → List PyData → Prop
  | nil {m : Nat} : Args m [] []
  | one {m : Nat} {ts : List Tk} {d : PyData} (h : Put 0 m ts d) : Args m ts [d]
  | cons {m : Nat} {ts us : List Tk} {d : PyData} {ds : List PyData} {c : Tk} (a : Args m ts ds) (n : ds ≠ []) (hc : c.2.1 = [44]) (h : Put 0 m us d) : Args m (ts ++ c :: us) (ds ++ [d])
end
theorem Put.up {L M m : Nat} {ts : List Tk} {d : PyData} (h : Put M m ts d) (e : L ≤ M) : Put L m ts d := by
  cases h with
  | plain h e2 => exact .plain h (Nat.le_trans e e2)
  | brack k ho hc h => exact .brack k ho hc h
/-- where the first operand of a degree begins -/
theorem path_ne {ts : List Tk} {p : Place} {f n : List Nat} (h : PathW ts p f n) : ∃ t r, ts = t :: r ∧ t.1 = kName ∧ t.2.1 ∉ specW := by
  cases h with
  | one k s => exact ⟨_, _, rfl, k, s⟩
  | two k s _ _ _ => exact ⟨_, _, rfl, k, s⟩
theorem nameP_ok {fin : Place} {t : Tk} {r : List Tk} (k : t.1 = kName) : nameP fin (t :: r) = .ok ((t.2.1, tkP t), r) := if_pos k
theorem needP_ok {fin : Place} {t : Tk} {r : List Tk} {w : List Nat} (h : t.2.1 = w) : needP fin w (t :: r) = .ok (tkP t, r) := if_pos h
theorem pathP_ok {fin : Place} {ts : List Tk} {p : Place} {f n : List Nat} (h : PathW ts p f n) {rest : List Tk} (hr : wordH rest ≠ [46]) : pathP fin (ts ++ rest) = .ok ((p, f, n), rest) := by
  cases h with
  | @one t k s =>
    unfold pathP
    rw [show [t] ++ rest = t :: rest from rfl, nameP_ok k]
    exact if_pos hr
  | @two t u v k s p k2 s2 =>
    unfold pathP
    rw [show [t, u, v] ++ rest = t :: u :: v :: rest from rfl, nameP_ok k]
    show (if wordH (u :: v :: rest) ≠ [46] then _ else _) = _
    rw [if_neg (fun z => z p), needP_ok p]
    show (match nameP fin (v :: rest) with | .error e => _ | .ok ((name, _), r3) => _) = _
    rw [nameP_ok k2]
section
variable {fin : Place}
/-- what reads a degree -/
def plP (fin : Place) (L : Nat) (b : Option Lev) : RP PyData := match L with
  | 0 => exprP fin b
  | 1 => bothP fin b
  | 2 => denP fin b
  | 3 => cmpP fin b
  | 4 => sumP fin b
  | 5 => prodP fin b
  | 6 => negP fin b
  | _ => singleP fin b
/-- texts of at most N words that are written for L are read so at L -/
def Rd (fin : Place) (N L : Nat) : Prop := ∀ ts d m n rest, ts.length ≤ N → Put L m ts d → m ≤ n → Fol L rest → plP fin L (lowP fin n) (ts ++ rest) = .ok (d, rest)
theorem Args.inv {m : Nat} {us : List Tk} {ds : List PyData} (a : Args m us ds) : (us = [] ∧ ds = []) ∨ (∃ d, ds = [d] ∧ Put 0 m us d) ∨ ∃ ts us2 d ds2 c, us = ts ++ c :: us2 ∧ ds = ds2 ++ [d] ∧ Args m ts ds2 ∧ ds2 ≠ [] ∧ c.2.1 = [44] ∧ Put 0 m us2 d := by
  cases a with
  | nil => exact .inl ⟨rfl, rfl⟩
  | one h => exact .inr (.inl ⟨_, rfl, h⟩)
  | cons a n hc h => exact .inr (.inr ⟨_, _, _, _, _, rfl, rfl, a, n, hc, h⟩)
/-- arguments one behind the other -/
theorem moreP_ok {N : Nat} (ih : Rd fin N 0) {n m : Nat} (hm : m ≤ n) : ∀ (l : Nat) {us : List Tk} {ds : List PyData}, ds.length = l → Args m us ds → us.length ≤ N → ∀ rest, ds ≠ [] → wordH rest ∈ [[41], [44]] →
    ∃ d0 more, plP fin 0 (lowP fin n) (us ++ rest) = .ok (d0, more ++ rest) ∧ (∀ k, moreP fin (plP fin 0 (lowP fin n)) (ds.length - 1 + k) [d0] (more ++ rest) = moreP fin (plP fin 0 (lowP fin n)) k ds rest) ∧ ds.length - 1 ≤ more.length := by
  intro l
  induction l with
  | zero => intro us ds hl _ _ _ hn; exact absurd (List.eq_nil_of_length_eq_zero hl) hn
  | succ l ihl =>
    intro us ds hl a hN rest hne hr
    have fr : Fol 0 rest := by
      have h1 : ∀ w ∈ [[41], [44]], w ≠ [46] ∧ w ≠ [40] ∧ ∀ k, k ≤ 5 → w ∉ opsAt k := by decide
      obtain ⟨a, b, c⟩ := h1 _ hr
      exact ⟨a, b, fun k _ hk => c k hk⟩
    rcases a.inv with ⟨rfl, rfl⟩ | ⟨d, rfl, h⟩ | ⟨ts, us2, d, ds2, c, rfl, rfl, a2, hn, hc, h⟩
    · exact absurd rfl hne
    · exact ⟨d, [], by simpa using ih us d m n rest hN h hm fr, fun k => by simp, by simp⟩
    · have hls : ts.length ≤ N ∧ us2.length ≤ N := by
        simp only [List.length_append, List.length_cons] at hN
        omega
      have hl2 : ds2.length = l := by simpa using hl
      obtain ⟨d0, more, e3, e4, e5⟩ := ihl hl2 a2 hls.1 (c :: (us2 ++ rest)) hn (by simp [wordH, hc])
      refine ⟨d0, more ++ c :: us2, ?_, fun k => ?_, ?_⟩
      · have : ts ++ c :: us2 ++ rest = ts ++ (c :: (us2 ++ rest)) := by simp
        rw [this, e3]
        simp
      · have hlen : (ds2 ++ [d]).length - 1 + k = ds2.length - 1 + (k + 1) := by
          have : 0 < ds2.length := List.length_pos_iff.mpr hn
          simp only [List.length_append, List.length_cons, List.length_nil]
          omega
        have e6 : more ++ c :: us2 ++ rest = more ++ (c :: (us2 ++ rest)) := by simp
        rw [hlen, e6, e4 (k + 1)]
        show (if wordH (c :: (us2 ++ rest)) = [44] then _ else _) = _
        rw [if_pos (show wordH (c :: (us2 ++ rest)) = [44] from hc), needP_ok hc]
        show (match plP fin 0 (lowP fin n) (us2 ++ rest) with | .error e => _ | .ok (d, r2) => _) = _
        rw [ih us2 d m n rest hls.2 h hm fr]
      · simp only [List.length_append, List.length_cons, List.length_nil]
        omega
/-- with which word it begins -/
def HeadOk (L : Nat) (ts : List Tk) : Prop := ∃ t r, ts = t :: r ∧ t.2.1 ≠ [41] ∧ (3 ≤ L → t.2.1 ≠ oNot) ∧ (7 ≤ L → t.2.1 ≠ [45]) ∧ t.2.1 ≠ []
theorem spec_ok {w : List Nat} (h : w ∉ specW) : w ≠ [41] ∧ w ≠ oNot ∧ w ≠ [45] ∧ w ≠ [] := ⟨fun z => h (z ▸ by decide), fun z => h (z ▸ by decide), fun z => h (z ▸ by decide), fun z => h (z ▸ by decide)⟩
theorem head_ok : ∀ (N L m : Nat) (ts : List Tk) (d : PyData), ts.length ≤ N → Put L m ts d → HeadOk L ts := by
  intro N
  induction N with
  | zero =>
    intro L m ts d hl h
    exfalso
    have hn : ts = [] := List.eq_nil_of_length_eq_zero (Nat.le_zero.mp hl)
    cases h with
    | plain h e =>
      cases h with
      | name h =>
        obtain ⟨t, r, e, _⟩ := path_ne h
        rw [e] at hn
        cases hn
      | num | tru | neg | not => cases hn
      | call h | left _ _ h | cmp _ h => simp at hn
    | brack => simp at hn
  | succ N ih =>
    intro L m ts d hl h
    cases h with
    | @plain _ M _ _ _ h e =>
      cases h with
      | num k s e2 =>
        obtain ⟨a, b, c, c2⟩ := spec_ok s
        exact ⟨_, _, rfl, a, fun _ => b, fun _ => c, c2⟩
      | @tru _ b t k e2 =>
        have : t.2.1 ≠ [41] ∧ t.2.1 ≠ oNot ∧ t.2.1 ≠ [45] ∧ t.2.1 ≠ [] := by
          rw [e2]
          cases b <;> decide
        exact ⟨_, _, rfl, this.1, fun _ => this.2.1, fun _ => this.2.2.1, this.2.2.2⟩
      | name h =>
        obtain ⟨t, r, rfl, k, s⟩ := path_ne h
        obtain ⟨a, b, c, c2⟩ := spec_ok s
        exact ⟨_, _, rfl, a, fun _ => b, fun _ => c, c2⟩
      | call h ho hc a =>
        obtain ⟨t, r, rfl, k, s⟩ := path_ne h
        obtain ⟨a, b, c, c2⟩ := spec_ok s
        exact ⟨_, _, rfl, a, fun _ => b, fun _ => c, c2⟩
      | neg e2 h => exact ⟨_, _, rfl, by rw [e2]; decide, fun _ => by rw [e2]; decide, fun z => by omega, by rw [e2]; decide⟩
      | not e2 h => exact ⟨_, _, rfl, by rw [e2]; decide, fun z => by omega, fun z => by omega, by rw [e2]; decide⟩
      | @left _ _ t ts us d2 d3 hL s h g =>
        have hl2 : ts.length ≤ N := by simp only [List.length_append, List.length_cons] at hl; omega
        obtain ⟨t0, r0, rfl, a, b, c, c2⟩ := ih _ _ _ _ hl2 h
        exact ⟨t0, _, rfl, a, fun z => b (Nat.le_trans z e), fun z => c (Nat.le_trans z e), c2⟩
      | @cmp _ t ts us d e s h g =>
        have hl2 : ts.length ≤ N := by simp only [List.length_append, List.length_cons] at hl; omega
        obtain ⟨t0, r0, rfl, a, b, c, c2⟩ := ih _ _ _ _ hl2 h
        exact ⟨t0, _, rfl, a, fun z => b (by omega), fun z => by omega, c2⟩
    | brack k ho hc h => exact ⟨_, _, rfl, by rw [ho]; decide, fun _ => by rw [ho]; decide, fun _ => by rw [ho]; decide, by rw [ho]; decide⟩
theorem Put.head {L m : Nat} {ts : List Tk} {d : PyData} (h : Put L m ts d) : HeadOk L ts := head_ok _ _ _ _ _ (Nat.le_refl _) h
theorem args_head {m : Nat} : ∀ (l : Nat) {us : List Tk} {ds : List PyData}, ds.length = l → Args m us ds → ds ≠ [] → HeadOk 0 us := by
  intro l
  induction l with
  | zero => intro us ds hl _ hn; exact absurd (List.eq_nil_of_length_eq_zero hl) hn
  | succ l ih =>
    intro us ds hl a hne
    rcases a.inv with ⟨rfl, rfl⟩ | ⟨d, rfl, h⟩ | ⟨ts, us2, d, ds2, c, rfl, rfl, a2, hn, hc, h⟩
    · exact absurd rfl hne
    · exact h.head
    · obtain ⟨t, r, rfl, a, b, c, c2⟩ := ih (by simpa using hl) a2 hn
      exact ⟨t, _, rfl, a, b, c, c2⟩
theorem givenP_ok {N : Nat} (ih : Rd fin N 0) {n m : Nat} {us : List Tk} {ds : List PyData} {o c : Tk} (a : Args m us ds) (hm : m ≤ n) (hN : us.length ≤ N) (ho : o.2.1 = [40]) (hc : c.2.1 = [41]) (rest : List Tk) :
    givenP fin (lowP fin (n + 1)) (o :: (us ++ [c]) ++ rest) = .ok (.tuple ds, rest) := by
  have e0 : o :: (us ++ [c]) ++ rest = o :: (us ++ c :: rest) := by simp
  rw [e0]
  show (match needP fin [40] (o :: (us ++ c :: rest)) with | .error e => _ | .ok (_, r) => _) = _
  rw [needP_ok ho]
  have lst : listP fin (levP fin n).expr (us ++ c :: rest) = .ok (ds, c :: rest) := by
    rw [levP_low]
    show listP fin (exprP fin (lowP fin n)) (us ++ c :: rest) = _
    by_cases hd : ds = []
    · subst hd
      rcases a.inv with ⟨rfl, _⟩ | ⟨d, h, _⟩ | ⟨ts, us2, d, ds2, c, _, h, _⟩
      · exact if_neg (fun z => z hc)
      · cases h
      · simp at h
    · obtain ⟨d1, more, e2, e3, e4⟩ := moreP_ok ih (n := n) hm _ rfl a hN (c :: rest) hd (by simp [wordH, hc])
      obtain ⟨t, r, e5, e6, _⟩ := args_head _ rfl a hd
      unfold listP
      rw [if_pos (by rw [e5]; exact e6)]
      have e2' : exprP fin (lowP fin n) (us ++ c :: rest) = .ok (d1, more ++ c :: rest) := e2
      rw [e2']
      have hl : ds.length - 1 ≤ (more ++ c :: rest).length := by
        rw [List.length_append]
        omega
      obtain ⟨k, hk⟩ : ∃ k, (more ++ c :: rest).length = ds.length - 1 + k := ⟨_, (Nat.add_sub_cancel' hl).symm⟩
      show moreP fin (exprP fin (lowP fin n)) (more ++ c :: rest).length [d1] (more ++ c :: rest) = _
      rw [hk]
      refine (e3 k).trans ?_
      cases k with
      | zero => rfl
      | succ k => exact if_neg (show ¬ c.2.1 = [44] by rw [hc]; decide)
  show (match listP fin (levP fin n).expr (us ++ c :: rest) with | .error e => _ | .ok (ds, r3) => _) = _
  rw [lst]
  show (match needP fin [41] (c :: rest) with | .error e => _ | .ok (_, r4) => _) = _
  rw [needP_ok hc]
/-! ### degree by degree -/
theorem low_some {n m : Nat} (h : m + 1 ≤ n) : ∃ k, n = k + 1 ∧ m ≤ k := ⟨n - 1, by omega, by omega⟩
theorem rd7 {N : Nat} (ih : ∀ L, L ≤ 7 → Rd fin N L) : Rd fin (N + 1) 7 := by
  intro ts d m n rest hl h hm hf
  have main : ∀ t r, ts = t :: r → t.1 ≠ kNum → t.1 = kName → singleP fin (lowP fin n) (ts ++ rest) = namedP fin (lowP fin n) (ts ++ rest) := fun t r e h1 h2 => by
    rw [e]
    show (if t.1 = kNum then _ else if t.1 = kName then _ else _) = _
    rw [if_neg h1, if_pos h2] <;> rfl
  have nn : kName ≠ kNum := by decide
  cases h with
  | @plain _ M _ _ _ h e =>
    show singleP fin (lowP fin n) (ts ++ rest) = _
    cases h with
    | num k s e2 =>
      show (if _ then _ else _) = _
      rw [if_pos k, e2] <;> rfl
    | @tru _ b t k e2 =>
      have h1 : t.1 ≠ kNum := by rw [k]; decide
      have h2 : t.1 ≠ kName := by rw [k]; decide
      have h3 : t.2.1 = oYes ∨ t.2.1 = oNo := by
        rw [e2]
        cases b
        · exact .inr rfl
        · exact .inl rfl
      have h4 : decide (t.2.1 = oYes) = b := by
        rw [e2]
        cases b <;> decide
      show (if t.1 = kNum then _ else if t.1 = kName then _ else if t.2.1 = oYes ∨ t.2.1 = oNo then _ else _) = _
      rw [if_neg h1, if_neg h2, if_pos h3, h4] <;> rfl
    | @name _ _ p f nm h =>
      obtain ⟨t, r, e3, k, s⟩ := path_ne h
      rw [main t r e3 (by rw [k]; exact nn) k]
      unfold namedP
      rw [pathP_ok h hf.1]
      show (if wordH rest ≠ [40] then _ else _) = _
      rw [if_pos hf.2.1]
    | @call m _ us p f nm ds o c h ho hc a =>
      obtain ⟨k, rfl, hk⟩ := low_some hm
      obtain ⟨t, r, e3, k2, s⟩ := path_ne h
      rw [main t (r ++ o :: (us ++ [c])) (by rw [e3]; rfl) (by rw [k2]; exact nn) k2]
      unfold namedP
      have hlen : us.length ≤ N := by
        simp only [List.length_append, List.length_cons] at hl
        omega
      rw [List.append_assoc, pathP_ok h (by show o.2.1 ≠ [46]; rw [ho]; decide)]
      show (if wordH (o :: (us ++ [c]) ++ rest) ≠ [40] then _ else _) = _
      rw [if_neg (fun z => z ho), givenP_ok (ih 0 (by decide)) a hk hlen ho hc rest]
    | neg | not | cmp => omega
    | left hL =>
      simp only [List.mem_cons, List.not_mem_nil, or_false] at hL
      omega
  | @brack _ M m ts d o c ko ho hc h =>
    obtain ⟨k, rfl, hk⟩ := low_some hm
    show singleP fin (lowP fin (k + 1)) (o :: (ts ++ [c]) ++ rest) = _
    have h1 : o.1 ≠ kNum := by rw [ko]; decide
    have h2 : o.1 ≠ kName := by rw [ko]; decide
    have h3 : ¬ (o.2.1 = oYes ∨ o.2.1 = oNo) := by rw [ho]; decide
    have e0 : o :: (ts ++ [c]) ++ rest = o :: (ts ++ c :: rest) := by simp
    rw [e0]
    show (if o.1 = kNum then _ else if o.1 = kName then _ else if o.2.1 = oYes ∨ o.2.1 = oNo then _ else bracketP fin (lowP fin (k + 1)) (o :: (ts ++ c :: rest))) = _
    rw [if_neg h1, if_neg h2, if_neg h3]
    show (match needP fin [40] (o :: (ts ++ c :: rest)) with | .error e => _ | .ok (_, r) => _) = _
    rw [needP_ok ho]
    have hlen : ts.length ≤ N := by
      simp only [List.length_append, List.length_cons] at hl
      omega
    have r0 : exprP fin (lowP fin k) (ts ++ c :: rest) = .ok (d, c :: rest) := ih 0 (by decide) ts d m k (c :: rest) hlen (.plain h (Nat.zero_le _)) hk (fol_word (by rw [hc]; decide) 0)
    show (match (levP fin k).expr (ts ++ c :: rest) with | .error e => _ | .ok (d, r2) => _) = _
    rw [levP_low]
    show (match exprP fin (lowP fin k) (ts ++ c :: rest) with | .error e => _ | .ok (d, r2) => _) = _
    rw [r0]
    show (match needP fin [41] (c :: rest) with | .error e => _ | .ok (_, r3) => _) = _
    rw [needP_ok hc]
theorem rd6 {N : Nat} (ih : ∀ L, L ≤ 7 → Rd fin N L) (r7 : Rd fin (N + 1) 7) : Rd fin (N + 1) 6 := by
  intro ts d m n rest hl h hm hf
  show negP fin (lowP fin n) (ts ++ rest) = _
  by_cases hneg : ∃ t0 ts0 d0 m0, ts = t0 :: ts0 ∧ m = m0 + 1 ∧ t0.2.1 = [45] ∧ Put 6 m0 ts0 d0 ∧ d = node oNeg (tkP t0) [d0]
  · obtain ⟨t0, ts0, d0, m0, rfl, rfl, e, g, rfl⟩ := hneg
    obtain ⟨k, rfl, hk⟩ := low_some hm
    unfold negP
    rw [if_neg (show ¬ wordH (t0 :: ts0 ++ rest) ≠ [45] from fun z => z e)]
    show (match needP fin [45] (t0 :: (ts0 ++ rest)) with | .error e => _ | .ok (pl, r) => _) = _
    rw [needP_ok e]
    show (match (levP fin k).neg (ts0 ++ rest) with | .error e => _ | .ok (d, r2) => _) = _
    rw [levP_low]
    show (match negP fin (lowP fin k) (ts0 ++ rest) with | .error e => _ | .ok (d, r2) => _) = _
    have r0 : negP fin (lowP fin k) (ts0 ++ rest) = .ok (d0, rest) := ih 6 (by decide) ts0 d0 m0 k rest (by simp only [List.length_cons] at hl; omega) g hk hf
    rw [r0]
  · have p7 : Put 7 m ts d := by
      cases h with
      | @plain _ M _ _ _ h e =>
        by_cases hM : 7 ≤ M
        · exact .plain h hM
        · exfalso
          cases h with
          | neg e2 h => exact hneg ⟨_, _, _, _, rfl, rfl, e2, h, rfl⟩
          | num | tru | name | call => omega
          | not | cmp => omega
          | left hL =>
            simp only [List.mem_cons, List.not_mem_nil, or_false] at hL
            omega
      | brack k ho hc h => exact .brack k ho hc h
    obtain ⟨t, r, e, _, _, c, _⟩ := p7.head
    unfold negP
    rw [if_pos (show wordH (ts ++ rest) ≠ [45] by rw [e]; exact c (Nat.le_refl _))]
    exact r7 ts d m n rest hl p7 hm (hf.up (by decide))
/-- what stands one behind the other at a degree: the first, then signs with what follows each -/
def itemsT : List (Tk × List Tk × PyData) → List Tk
  | [] => []
  | (t, ts, _) :: r => t :: (ts ++ itemsT r)
def itemsD (d : PyData) : List (Tk × List Tk × PyData) → PyData
  | [] => d
  | (t, _, e) :: r => itemsD (node t.2.1 (tkP t) [d, e]) r
theorem itemsT_app : ∀ a b, itemsT (a ++ b) = itemsT a ++ itemsT b
  | [], _ => rfl
  | (t, ts, d) :: r, b => by
    show t :: (ts ++ itemsT (r ++ b)) = t :: (ts ++ itemsT r) ++ itemsT b
    rw [itemsT_app r b]
    simp
theorem itemsD_app : ∀ a b d, itemsD d (a ++ b) = itemsD (itemsD d a) b
  | [], _, _ => rfl
  | (t, ts, e) :: r, b, d => itemsD_app r b _
def ItemOk (L m : Nat) (x : Tk × List Tk × PyData) : Prop := x.1.2.1 ∈ opsAt L ∧ Put (L + 1) m x.2.1 x.2.2
theorem chain {L : Nat} (hL : L ∈ [0, 1, 4, 5]) : ∀ (N m : Nat) (ts : List Tk) (d : PyData), ts.length ≤ N → Put L m ts d → ∃ ts0 d0 items, Put (L + 1) m ts0 d0 ∧ (∀ x ∈ items, ItemOk L m x) ∧ ts = ts0 ++ itemsT items ∧ d = itemsD d0 items := by
  intro N
  induction N with
  | zero =>
    intro m ts d hl h
    obtain ⟨t, r, rfl, _⟩ := h.head
    simp at hl
  | succ N ih =>
    intro m ts d hl h
    have none : Put (L + 1) m ts d → ∃ ts0 d0 items, Put (L + 1) m ts0 d0 ∧ (∀ x ∈ items, ItemOk L m x) ∧ ts = ts0 ++ itemsT items ∧ d = itemsD d0 items := fun p => ⟨ts, d, [], p, (fun _ h => absurd h (List.not_mem_nil)), (List.append_nil _).symm, rfl⟩
    cases h with
    | @plain _ M _ _ _ h e =>
      by_cases hM : L + 1 ≤ M
      · exact none (.plain h hM)
      · have hML : M = L := by omega
        subst hML
        cases h with
        | @left _ _ t ts us d e2 _ s h g =>
          have hl2 : ts.length ≤ N := by simp only [List.length_append, List.length_cons] at hl; omega
          obtain ⟨ts0, d0, items, p, q, rfl, rfl⟩ := ih m ts d hl2 h
          refine ⟨ts0, d0, items ++ [(t, us, e2)], p, fun x hx => ?_, ?_, ?_⟩
          · rcases List.mem_append.mp hx with h | h
            · exact q x h
            · rw [List.mem_singleton.mp h]
              exact ⟨s, g⟩
          · rw [itemsT_app]
            show ts0 ++ itemsT items ++ t :: us = ts0 ++ (itemsT items ++ (t :: (us ++ [])))
            simp
          · rw [itemsD_app]
            rfl
        | num | tru | name | call | neg | not | cmp => simp at hL
    | brack k ho hc h => exact none (.brack k ho hc h)
theorem goP_ok {L n m : Nat} (hL : L ≤ 5) {p : RP PyData} (hm : m ≤ n) : ∀ (items : List (Tk × List Tk × PyData)) (f : Nat) (d : PyData) (rest : List Tk), (∀ x ∈ items, ItemOk L m x) → (∀ x ∈ items, ∀ rest, Fol (L + 1) rest → p (x.2.1 ++ rest) = .ok (x.2.2, rest)) → items.length ≤ f → Fol L rest →
    leftGo (opsAt L) p f d (itemsT items ++ rest) = .ok (itemsD d items, rest)
  | [], f, d, rest, _, _, _, hf => by
    show leftGo (opsAt L) p f d rest = .ok (d, rest)
    cases f with
    | zero => rfl
    | succ f =>
      cases rest with
      | nil => rfl
      | cons t r => exact if_neg (hf.2.2 L (Nat.le_refl _) hL)
  | (t, ts, e) :: items, 0, d, rest, _, _, hz, _ => absurd hz (Nat.not_succ_le_zero _)
  | (t, ts, e) :: items, f + 1, d, rest, h1, h2, hz, hf => by
    have a := h1 _ (List.mem_cons_self ..)
    show (if t.2.1 ∈ opsAt L then (match p ((ts ++ itemsT items) ++ rest) with | .error e => _ | .ok (u, r2) => _) else _) = _
    have hf2 : Fol (L + 1) (itemsT items ++ rest) := by
      cases items with
      | nil => exact hf.up (Nat.le_succ L)
      | cons x items =>
        obtain ⟨t2, ts2, e2⟩ := x
        exact fol_op (h1 _ (List.mem_cons_of_mem _ (List.mem_cons_self ..))).1 hL
    rw [if_pos a.1, List.append_assoc, h2 _ (List.mem_cons_self ..) _ hf2]
    exact goP_ok hL hm items f _ rest (fun x hx => h1 x (List.mem_cons_of_mem _ hx)) (fun x hx => h2 x (List.mem_cons_of_mem _ hx)) (Nat.le_of_succ_le_succ hz) hf
theorem itemsT_len : ∀ items, items.length ≤ (itemsT items).length
  | [] => Nat.le_refl _
  | (t, ts, e) :: r => by
    have := itemsT_len r
    show r.length + 1 ≤ (ts ++ itemsT r).length + 1
    rw [List.length_append]
    omega
theorem item_len : ∀ {items : List (Tk × List Tk × PyData)} {x}, x ∈ items → x.2.1.length ≤ (itemsT items).length
  | (t, ts, e) :: r, x, h => by
    show _ ≤ (ts ++ itemsT r).length + 1
    rw [List.length_append]
    rcases List.mem_cons.mp h with rfl | h
    · show ts.length ≤ _
      omega
    · have := item_len h
      omega
theorem rd_left {N L : Nat} (hL : L ∈ [0, 1, 4, 5]) (hp : ∀ b, plP fin L b = fromLeft (opsAt L) (plP fin (L + 1) b)) (r : Rd fin (N + 1) (L + 1)) : Rd fin (N + 1) L := by
  have hL5 : L ≤ 5 := by
    simp only [List.mem_cons, List.not_mem_nil, or_false] at hL
    omega
  intro ts d m n rest hl h hm hf
  obtain ⟨ts0, d0, items, p, q, rfl, rfl⟩ := chain hL _ m ts d (Nat.le_refl _) h
  rw [List.length_append] at hl
  rw [hp, List.append_assoc]
  have hf2 : Fol (L + 1) (itemsT items ++ rest) := by
    cases items with
    | nil => exact hf.up (Nat.le_succ L)
    | cons x items =>
      obtain ⟨t2, ts2, e2⟩ := x
      exact fol_op (q _ (List.mem_cons_self ..)).1 hL5
  unfold fromLeft
  rw [r ts0 d0 m n _ (by omega) p hm hf2]
  refine goP_ok hL5 hm items _ d0 rest q (fun x hx rest2 hf3 => r x.2.1 x.2.2 m n rest2 (by have := item_len hx; omega) (q x hx).2 hm hf3) ?_ hf
  have := itemsT_len items
  rw [List.length_append]
  omega
theorem rd3 {N : Nat} (r4 : Rd fin (N + 1) 4) : Rd fin (N + 1) 3 := by
  intro ts d m n rest hl h hm hf
  show cmpP fin (lowP fin n) (ts ++ rest) = _
  have one : Put 4 m ts d → cmpP fin (lowP fin n) (ts ++ rest) = .ok (d, rest) := fun p => by
    unfold cmpP
    rw [show sumP fin (lowP fin n) (ts ++ rest) = .ok (d, rest) from r4 ts d m n rest hl p hm (hf.up (by decide))]
    cases rest with
    | nil => rfl
    | cons t r => exact if_neg (hf.2.2 3 (Nat.le_refl _) (by decide))
  cases h with
  | @plain _ M _ _ _ h e =>
    by_cases hM : 4 ≤ M
    · exact one (.plain h hM)
    · have hM3 : M = 3 := by omega
      subst hM3
      cases h with
      | @cmp _ t ts us d e2 s h g =>
        simp only [List.length_append, List.length_cons] at hl
        unfold cmpP
        have e0 : ts ++ t :: us ++ rest = ts ++ (t :: (us ++ rest)) := by simp
        rw [e0, show sumP fin (lowP fin n) (ts ++ (t :: (us ++ rest))) = .ok (d, t :: (us ++ rest)) from r4 ts d m n _ (by omega) h hm (fol_op (L := 3) s (by decide))]
        show (if t.2.1 ∈ sCmp then (match sumP fin (lowP fin n) (us ++ rest) with | .error e => _ | .ok (u, r2) => _) else _) = _
        rw [if_pos s, show sumP fin (lowP fin n) (us ++ rest) = .ok (e2, rest) from r4 us e2 m n rest (by omega) g hm (hf.up (by decide))]
      | left hL => simp at hL
  | brack k ho hc h => exact one (.brack k ho hc h)
theorem rd2 {N : Nat} (ih : ∀ L, L ≤ 7 → Rd fin N L) (r3 : Rd fin (N + 1) 3) : Rd fin (N + 1) 2 := by
  intro ts d m n rest hl h hm hf
  show denP fin (lowP fin n) (ts ++ rest) = _
  by_cases hnot : ∃ t0 ts0 d0 m0, ts = t0 :: ts0 ∧ m = m0 + 1 ∧ t0.2.1 = oNot ∧ Put 2 m0 ts0 d0 ∧ d = node oNot (tkP t0) [d0]
  · obtain ⟨t0, ts0, d0, m0, rfl, rfl, e, g, rfl⟩ := hnot
    obtain ⟨k, rfl, hk⟩ := low_some hm
    unfold denP
    rw [if_neg (show ¬ wordH (t0 :: ts0 ++ rest) ≠ oNot from fun z => z e)]
    show (match needP fin oNot (t0 :: (ts0 ++ rest)) with | .error e => _ | .ok (pl, r) => _) = _
    rw [needP_ok e]
    show (match (levP fin k).den (ts0 ++ rest) with | .error e => _ | .ok (d, r2) => _) = _
    rw [levP_low]
    show (match denP fin (lowP fin k) (ts0 ++ rest) with | .error e => _ | .ok (d, r2) => _) = _
    have r0 : denP fin (lowP fin k) (ts0 ++ rest) = .ok (d0, rest) := ih 2 (by decide) ts0 d0 m0 k rest (by simp only [List.length_cons] at hl; omega) g hk hf
    rw [r0]
  · have p3 : Put 3 m ts d := by
      cases h with
      | @plain _ M _ _ _ h e =>
        by_cases hM : 3 ≤ M
        · exact .plain h hM
        · exfalso
          cases h with
          | not e2 h => exact hnot ⟨_, _, _, _, rfl, rfl, e2, h, rfl⟩
          | num | tru | name | call => omega
          | neg | cmp => omega
          | left hL =>
            simp only [List.mem_cons, List.not_mem_nil, or_false] at hL
            omega
      | brack k ho hc h => exact .brack k ho hc h
    obtain ⟨t, r, e, _, c, _, _⟩ := p3.head
    unfold denP
    rw [if_pos (show wordH (ts ++ rest) ≠ oNot by rw [e]; exact c (Nat.le_refl _))]
    exact r3 ts d m n rest hl p3 hm (hf.up (by decide))
theorem rd_all : ∀ N L, L ≤ 7 → Rd fin N L
  | 0, L, _ => fun ts d m n rest hl h _ _ => by
    obtain ⟨t, r, rfl, _⟩ := h.head
    simp at hl
  | N + 1, L, hL => by
    have ih := rd_all N
    have r7 := rd7 ih
    have r6 := rd6 ih r7
    have r5 : Rd fin (N + 1) 5 := rd_left (by decide) (fun b => rfl) r6
    have r4 : Rd fin (N + 1) 4 := rd_left (by decide) (fun b => rfl) r5
    have r3 := rd3 r4
    have r2 := rd2 ih r3
    have r1 : Rd fin (N + 1) 1 := rd_left (by decide) (fun b => rfl) r2
    have r0 : Rd fin (N + 1) 0 := rd_left (by decide) (fun b => rfl) r1
    have : L = 0 ∨ L = 1 ∨ L = 2 ∨ L = 3 ∨ L = 4 ∨ L = 5 ∨ L = 6 ∨ L = 7 := by omega
    rcases this with rfl | rfl | rfl | rfl | rfl | rfl | rfl | rfl
    · exact r0
    · exact r1
    · exact r2
    · exact r3
    · exact r4
    · exact r5
    · exact r6
    · exact r7
/-- what is written as an E is read as that E -/
theorem exprP_put {ts : List Tk} {d : PyData} {m n : Nat} {rest : List Tk} (h : Put 0 m ts d) (hm : m ≤ n) (hf : Fol 0 rest) : exprP fin (lowP fin n) (ts ++ rest) = .ok (d, rest) := rd_all ts.length 0 (by decide) ts d m n rest (Nat.le_refl _) h hm hf
end
end Wt

set_option Elab.async false
set_option linter.all false
set_option maxRecDepth 100000
set_option maxHeartbeats 4000000
namespace Wt
open PySem PySem.Spec PyProof.Rows L2 SX Evl
open C8 (Def Cal cal0 fnScope_by fnScope)
/-! The writer: a word, its place, a row's end. -/
section
variable {P : Program} {w : World} {K : PySem.W.Frag} {mg : Str → Option Value} {base : Heap}
/-! ### the writer's dict -/
def kR : Key := Sum.inr (Str.ofString "rows")
def kW : Key := Sum.inr (Str.ofString "row")
def kL : Key := Sum.inr (Str.ofString "last")
theorem kRW : kR ≠ kW := by decide +kernel
theorem kRL : kR ≠ kL := by decide +kernel
theorem kWL : kW ≠ kL := by decide +kernel
def wd3 (rl : Addr) (row last : List Nat) : List (Key × V) := [(kR, .ref rl), (kW, .str (S row)), (kL, .str (S last))]
theorem wd_rows (rl : Addr) (row last : List Nat) : valV (wd3 rl row last) kR = some (.ref rl) := valV_pos (p := (kR, V.ref rl)) rfl
theorem wd_row (rl : Addr) (row last : List Nat) : valV (wd3 rl row last) kW = some (.str (S row)) := by
  unfold wd3
  rw [valV_neg (p := (kR, V.ref rl)) kRW, valV_pos (p := (kW, V.str (S row))) rfl]
theorem wd_last (rl : Addr) (row last : List Nat) : valV (wd3 rl row last) kL = some (.str (S last)) := by
  unfold wd3
  rw [valV_neg (p := (kR, V.ref rl)) kRL, valV_neg (p := (kW, V.str (S row))) kWL, valV_pos (p := (kL, V.str (S last))) rfl]
theorem wd_made (rl : Addr) (row last : List Nat) : mergeK [] (wd3 rl row last) = wd3 rl row last := by
  unfold wd3 mergeK
  simp only [List.foldl_cons, List.foldl_nil, putK, List.any_nil, List.any_cons, Bool.or_false, Bool.false_eq_true, if_false, List.nil_append, decide_eq_true_eq, kRW, kRL, kWL, List.cons_append, Bool.or_self, decide_false]
theorem wd_two (row last : List Nat) : mergeK [] [(kW, V.str (S row)), (kL, .str (S last))] = [(kW, V.str (S row)), (kL, .str (S last))] := by
  unfold mergeK
  simp only [List.foldl_cons, List.foldl_nil, putK, List.any_nil, List.any_cons, Bool.or_false, Bool.false_eq_true, if_false, List.nil_append, decide_eq_true_eq, kWL, List.cons_append, Bool.or_self, decide_false]
theorem wd_put (rl : Addr) (row last row' last' : List Nat) : mergeK (wd3 rl row last) [(kW, V.str (S row')), (kL, .str (S last'))] = wd3 rl row' last' := by
  have h1 : ¬ kL = kW := fun e => kWL e.symm
  unfold wd3 mergeK
  simp only [List.foldl_cons, List.foldl_nil, putK, List.any_nil, List.any_cons, Bool.or_false, Bool.false_eq_true, if_false, decide_eq_true_eq, kRW, kRL, kWL, h1, Bool.or_self, decide_false, decide_true, Bool.true_or, Bool.or_true, Bool.false_or, if_true, List.map_cons, List.map_nil]
/-- a writer at wa: its rows at rl, the row so far, its last word -/
structure Wr (H : Hp) (wa rl : Addr) (rows : List (List Nat)) (row last : List Nat) : Prop where
  d : H wa = some (.dK (wd3 rl row last))
  r : H rl = some (.lst (rows.map fun z => V.str (S z)))
theorem Wr.ex {H H' : Hp} {wa rl : Addr} {rows : List (List Nat)} {row last : List Nat} (h : Wr H wa rl rows row last) (e : Ex H H') : Wr H' wa rl rows row last := ⟨e _ _ h.d, e _ _ h.r⟩
/-- w.update({"row": .., "last": ..}), both known -/
theorem q_upd {H : Hp} {σ : L2.St} {ta t1 t2 : TE} {D : Ends} {tz : TS} {wa rl : Addr} {rows : List (List Nat)} {row last row' last' : List Nat} (h : Wr H wa rl rows row last) (ha : Ev ta σ H (.ref wa))
    (h1 : Ev t1 σ H (.str (S row'))) (h2 : Ev t2 σ H (.str (S last'))) (k : ∀ H1, Ex H H1 → tz D σ (upd H1 wa (.dK (wd3 rl row' last')))) :
    tSeq (tDrop (tBM K "dict" rDUpd ta (tCons (tDisp [(tC (.str (Str.ofString "row")), t1), (tC (.str (Str.ofString "last")), t2)]) tNil))) tz D σ H :=
  ha H (Ex.refl H) _ fun H1 e1 => ⟨.inr (.inr (.inl ⟨rfl, .inl ⟨_, e1 _ _ h.d⟩⟩)), fun p hp => h1 _ (e1.trans (Ex.new hp)) _ fun H2 e2 => h2 H2 ((e1.trans (Ex.new hp)).trans e2) _ fun H3 e3 => by
    have e13 := (Ex.new (o := .dK []) hp).trans (e2.trans e3)
    refine ⟨e3 p _ (e2 p _ upd_same), [(kW, V.str (S row')), (kL, .str (S last'))], rfl, by show 2 ≤ 15; decide, ?_⟩
    have hwp : wa ≠ p := ne_of_none (e1 _ _ h.d) hp
    have e4 : Ex H (upd H3 p (.dK (mergeK [] [(kW, V.str (S row')), (kL, .str (S last'))]))) := Ex.mut (e1.trans e13) (fresh_back e1 hp)
    refine ⟨wa, p, _, [(kW, V.str (S row')), (kL, .str (S last'))], rfl, rfl, hwp, e4 _ _ h.d, by rw [wd_two]; exact upd_same, by show 3 + 2 ≤ sizeLine; decide, ?_⟩
    rw [wd_put]
    exact k _ e4⟩
theorem s_upd {H : Hp} {σ : L2.St} {ta t1 t2 : TE} {D : Ends} {wa rl : Addr} {rows : List (List Nat)} {row last row' last' : List Nat} (h : Wr H wa rl rows row last) (ha : Ev ta σ H (.ref wa))
    (h1 : Ev t1 σ H (.str (S row'))) (h2 : Ev t2 σ H (.str (S last'))) (k : ∀ H1, Ex H H1 → D.nx σ (upd H1 wa (.dK (wd3 rl row' last')))) :
    tDrop (tBM K "dict" rDUpd ta (tCons (tDisp [(tC (.str (Str.ofString "row")), t1), (tC (.str (Str.ofString "last")), t2)]) tNil)) D σ H :=
  q_upd (D := D) (tz := tNext) h ha h1 h2 k

/-! ### _law_emit -/
abbrev s__law_emit : Stmt := topS 45
theorem sc__law_emit : FnScope ["_law_d", "_law_w", "_law_word", "_law_last", "_law_some", "_law_close", "_law_gap", "_law_place", "_law_signs"] ["_law_d", "_law_w", "_law_word"] (fnScope s__law_emit) := fnScope_by (by decide +kernel)
/-- all but what stands at wa -/
def ExB (wa : Addr) (H H' : Hp) : Prop := ∀ b o, b ≠ wa → H b = some o → H' b = some o
/-- a word is laid behind so many blanks, none only where it does not make the last one longer (letters, figures, = and > behind <) -/
def spEmit (K : PySem.W.Frag) : Sp := fun vs H Q _ => ∃ (d a wa rl : Addr) (ns : List Int) (rows : List (List Nat)) (row last w : List Nat), vs = [.ref d, .ref wa, .str (S w)] ∧ Dc K H d a ns ∧ Wr H wa rl rows row last ∧
  rows.length ≤ 1000 ∧ row.length ≤ 1000 ∧ last.length ≤ 6 ∧ w ≠ [] ∧ w.length ≤ 6 ∧
  ∀ (g : Nat) p H2, g ≤ 3 → (g = 0 → ∀ c q, w = c :: q → cont last c = false) → H p = none → ExB wa H H2 → Wr H2 wa rl rows (row ++ List.replicate g 32 ++ w) w → H2 p = some (.tup [.int ((rows.length + 1 : Nat) : Int), .int ((row.length + g + 1 : Nat) : Int)]) → Q (.ref p) H2
theorem rep_blank (g : Nat) : (List.replicate g [32]).flatten = List.replicate g 32 := by
  induction g with
  | zero => rfl
  | succ g ih => rw [List.replicate_succ, List.replicate_succ, List.flatten_cons, ih] <;> rfl
theorem last_at {l : List Nat} {c : Nat} (h : l.getLast? = some c) : atI l (-1) = some c := by
  obtain ⟨ys, rfl⟩ := List.getLast?_eq_some_iff.mp h
  exact atI_last _ _
theorem rv_last {H : Hp} {l : List Nat} {c : Nat} (hl : l.length ≤ 100000) (h : l.getLast? = some c) : RV rIxS (.str (S l)) (.int (-1)) H (.str (S [c])) := fun H1 _ Q q =>
  ⟨S l, -1, c, rfl, rfl, by rw [S_len]; exact sz_of hl, by rw [S_list]; exact last_at h, q H1 (Ex.refl H1)⟩
end
end Wt

set_option Elab.async false
set_option linter.all false
set_option maxRecDepth 100000
set_option maxHeartbeats 4000000
namespace Wt
open PySem PySem.Spec PyProof.Rows L2 SX Evl
open C8 (Def Cal cal0 fnScope_by fnScope)
/-! _law_emit, _law_line. -/
section
variable {P : Program} {w : World} {K : PySem.W.Frag} {mg : Str → Option Value} {base : Heap}
theorem lit_lt : Str.ofString "<" = S [60] := by decide +kernel
theorem lit_eg : Str.ofString "=>" = S [61, 62] := by decide +kernel
/-- what the writer asks of the last word and the next one's first sign -/
def fits (last : List Nat) (c : Nat) (i : Nat) : Bool := (!decide (last = [])) && (decide (last.getLastD 0 ∈ [letters, figures].getD i []) && decide (c ∈ [letters, figures].getD i []))
theorem close_cont (last : List Nat) (c : Nat) : ((List.range 2).any (fits last c) || (decide (last = [60]) && decide (c ∈ [61, 62]))) = cont last c := by
  have hl : ∀ l : List Nat, ((!decide (last = [])) && (decide (last.getLastD 0 ∈ l) && decide (c ∈ l))) = (last.getLast?.any (fun d => decide (d ∈ l)) && decide (c ∈ l)) := fun l => by
    cases h : last.getLast? with
    | none =>
      have e : last = [] := List.getLast?_eq_none_iff.mp h
      subst e
      rfl
    | some d =>
      have hne : last ≠ [] := fun e => by subst e; cases h
      have hd : last.getLastD 0 = d := by
        rw [List.getLastD_eq_getLast?, h] <;> rfl
      rw [hd, decide_eq_false hne] <;> rfl
  have e : (List.range 2).any (fits last c) = ((lastL last && isL c) || (lastF last && isF c)) := by
    have e0 : (List.range 2).any (fits last c) = (fits last c 0 || (fits last c 1 || false)) := rfl
    rw [e0, Bool.or_false]
    have a : fits last c 0 = (lastL last && isL c) := hl letters
    have b : fits last c 1 = (lastF last && isF c) := hl figures
    rw [a, b]
  rw [e]
  unfold cont
  congr 2
  by_cases h1 : c = 61
  · subst h1
    rfl
  · by_cases h3 : c = 62
    · subst h3
      rfl
    · rw [decide_eq_false h1, decide_eq_false h3]
      exact decide_eq_false (by simp [h1, h3])
theorem ok_emit (T : ModsL K mg) (c__law_next : Cal P w K mg base 1 "_law_next" (spNext K) []) {f : Addr} {fd : FuncData} (F : Def K mg "_law_emit" s__law_emit f fd) (b : Binds K fd ["_law_d", "_law_w", "_law_word"] []) : Cal P w K mg base 2 "_law_emit" (spEmit K) [] := by
  refine cal0 F b .nil sc__law_emit (fun vs H Q E h => ?_) (fun cdv A outer s H vs Q E hr h => ?_)
  · obtain ⟨_, _, _, _, _, _, _, _, _, rfl, _⟩ := h
    rfl
  · obtain ⟨d, a, wa, rl, ns, rows, row, last, wd, rfl, hD, hW, hrl, hwl, hll, hne, hwd, q⟩ := h
    have m_int := T.m_int
    have m_len := T.m_len
    have hu := hu_of hr
    have hu64 := hr.units
    refine ⟨_, (pss_cons (ps_asg (pe_tup (pa_cons (pe_dget hu (pv 1) pe_str (fun _ _ => rfl)) (pa_cons (pe_lst (pa_cons pe_str (pa_cons pe_str pa_nil))) pa_nil))) (pg_tup rfl (pgs_cons (pg_name (i := 3) sc__law_emit.nd rfl (.inr rfl)) (pgs_cons (pg_name (i := 4) sc__law_emit.nd rfl (.inl rfl)) pgs_nil))))
      (pss_cons (ps_set (i := 5) sc__law_emit.nd rfl (.inl rfl) (pe_cmpR (op_neD hu64) (pe_lc (own := [("_law_signs", 8)]) (g := (gName 8)) rfl sc__law_emit.nd (pi_list (pv 4)) (blkOk_by (N := ["_law_d", "_law_w", "_law_word", "_law_last", "_law_some", "_law_close", "_law_gap", "_law_place", "_law_signs"]) (sc := C8.fnScope s__law_emit) (by decide +kernel)) (fun _ _ _ _ _ => pg_name (i := 8) sc__law_emit.nd rfl (Or.inl rfl)) (fun _ _ _ _ _ => pts_one (PW.pt (pw_and (pt_cmpR op_ne (pv 3) pe_str (nomark _)) (pw_and (pt_cmpR op_in_sign (pe_ix ix_str (pv 3) (pe_un un_neg pe_int) (fun _ _ => rfl)) (pv 8) (by with_unfolding_all rfl)) (pw_and1 (pt_cmpR op_in_sign (pe_ix ix_str (pv 2) pe_int (fun _ _ => rfl)) (pv 8) (by with_unfolding_all rfl))))))) (fun _ _ _ _ _ => pe_int)) (pe_lst pa_nil) (nomark _)))
      (pss_cons (ps_set (i := 5) sc__law_emit.nd rfl (.inl rfl) (pe_callTy call_int1 (by rfl) m_int Wt.bt_int (pa_cons (pe_or (pv 5) (pe_one (pe_and (pe_cmpR op_eq (pv 3) pe_str (nomark _)) (pe_one (pe_cmpR op_in_sign (pe_ix ix_str (pv 2) pe_int (fun _ _ => rfl)) pe_str (by with_unfolding_all rfl)))))) pa_nil)))
      (pss_cons (ps_set (i := 6) sc__law_emit.nd rfl (.inl rfl) (pe_ifExp (pt_cmpR op_ne (pv 3) pe_str (nomark _)) (pe_ix ix_list (pe_lst (pa_cons pe_int (pa_cons pe_int (pa_cons pe_int (pa_cons (pv 5) (pa_cons (pe_op op_add (pv 5) (C8.pe_c c__law_next hr (by first | decide | exact Nat.le_refl _ | omega) (by rfl) (pa_cons (pv 0) (pa_cons pe_int pa_nil)))) pa_nil)))))) (C8.pe_c c__law_next hr (by first | decide | exact Nat.le_refl _ | omega) (by rfl) (pa_cons (pv 0) (pa_cons pe_int pa_nil))) (fun _ _ => rfl)) (pe_op op_fdiv (C8.pe_c c__law_next hr (by first | decide | exact Nat.le_refl _ | omega) (by rfl) (pa_cons (pv 0) (pa_cons pe_int pa_nil))) pe_int)))
      (pss_cons (ps_set (i := 7) sc__law_emit.nd rfl (.inl rfl) (pe_tup (pa_cons (pe_op op_add (pe_callB call_len_seq (by rfl) m_len PySem.boot_len (pa_cons (pe_dget hu (pv 1) pe_str (fun _ _ => rfl)) pa_nil)) pe_int) (pa_cons (pe_op op_add (pe_op op_add (pe_callB call_len_str (by rfl) m_len PySem.boot_len (pa_cons (pe_dget hu (pv 1) pe_str (fun _ _ => rfl)) pa_nil)) (pv 6)) pe_int) pa_nil))))
      (pss_cons (ps_expr (pe_bm PySem.F.plainAttrs_dict PySem.F.slot_dict_update PySem.F.type_dict_update Wt.mt_dupdate (pv 1) (pa_cons (pe_disp (pps_cons pe_str (pe_op op_add_str (pe_op op_add_str (pe_dget hu (pv 1) pe_str (fun _ _ => rfl)) (pe_op Wt.op_rep_str pe_str (pv 6))) (pv 2)) (pps_cons pe_str (pv 2) pps_nil)) (by rfl) (by rfl) (by simp) (by decide)) pa_nil)))
      (pss_one (ps_ret (pv 7))))))))), ?_⟩
    obtain ⟨c, cs, rfl⟩ : ∃ c cs, wd = c :: cs := by
      cases wd with
      | nil => exact absurd rfl hne
      | cons c cs => exact ⟨c, cs, rfl⟩
    refine q_tupL (ev_dget (ev_var rfl) ev_c hW.d (wd_last rl row last)) (el_lst (ea_cons ev_c (ea_cons ev_c ea_nil)) (by show 2 ≤ 100000; decide)) fun ps H1 hps e1 hpl => ?_
    have c0 : ∀ {H : Hp} {σ : L2.St}, Ev (tC (.str (Str.ofString ""))) σ H (.str (S [])) := ev_is ev_c (congrArg V.str lit0)
    have at0 : ∀ {H : Hp} {σ : L2.St} {i : Nat}, σ[i]? = some (some (.str (S (c :: cs)))) → Ev (tOp rIxS (tVar i) (tC (.int 0))) σ H (.str (S [c])) := fun h => ev_op (ev_var h) ev_c (rv_at (i := 0) (by omega) rfl)
    -- close = [1 for ..] != []
    refine q_asg (ev_neNil (K := K) (n := 2) (f := fits last c)
      (el_lcL (K := K) (vs := [8]) _ (fun _ => .int 1) (ev_var rfl) (sq_of hpl) (by show 2 ≤ 40000; decide) (fun _ => rfl) (fun i x H2 e2 hx => ?_) (fun i x H2 e2 hx _ => ev_c)) (by decide)) fun H2 e2 => ?_
    · obtain ⟨z, rfl, hz⟩ : ∃ z, x = .str (S z) ∧ [letters, figures].getD i [] = z := by
        match i, hx with
        | 0, hx => exact ⟨letters, (Option.some.inj hx).symm.trans (congrArg V.str lit_letters), rfl⟩
        | 1, hx => exact ⟨figures, (Option.some.inj hx).symm.trans (congrArg V.str lit_figures), rfl⟩
        | i + 2, hx => cases hx
      unfold fits
      rw [hz]
      refine et_and (et_test (ev_neS (ev_var rfl) c0)) fun hl => et_and (et_test (ev_inSg (ev_op (ev_var rfl) (ev_un ev_c ru_neg) (rv_last (c := last.getLastD 0) (by omega) ?_)) (ev_var rfl))) fun _ => et_test (ev_inSg (at0 rfl) (ev_var rfl))
      have hne2 : last ≠ [] := of_decide_eq_false (by simpa using hl)
      rw [List.getLastD_eq_getLast?, List.getLast?_eq_some_getLast hne2] <;> rfl
    -- close = int(close or ..)
    refine q_asg (v := .int (if cont last c = true then 1 else 0)) (ev_cb (ea_cons (ev_orV (ev_var rfl) fun _ => ev_andV (ev_eqS (ev_var rfl) (ev_is ev_c (congrArg V.str lit_lt))) fun _ => ev_inSg (at0 rfl) (ev_is ev_c (congrArg V.str lit_eg))) ea_nil) (fun H3 _ Q3 q3 => .inr ⟨_, rfl, ?_⟩)) fun H3 e3 => ?_
    · have e := close_cont last c
      rw [e]
      exact q3 H3 (Ex.refl H3)
    have hD3 := hD.ex ((e1.trans e2).trans e3)
    have hW3 := hW.ex ((e1.trans e2).trans e3)
    have e13 := (e1.trans e2).trans e3
    -- gap
    refine qn_asg (P := fun v => ∃ g : Nat, v = .int (g : Int) ∧ g ≤ 3 ∧ (g = 0 → cont last c = false)) (en_if (et_test (ev_neS (ev_var rfl) c0)) (fun _ => ?_) (fun hb => ?_)) fun v H4 hv e4 => ?_
    · refine en_ixNL (K := K) (n := 5) (enl_lst (ean_one ev_c (ean_one ev_c (ean_one ev_c (ean_one (ev_var rfl) (ean_cons (P := fun v => ∃ z : Int, v = .int ((if cont last c = true then 1 else 0) + z) ∧ 0 ≤ z ∧ z < 3)
        (en_opV (EvN.of (ev_var rfl)) (fun _ _ => en_next hD3 (ev_var rfl) ev_c) ?_) ean_nil))))) ?_) (en_next hD3 (ev_var rfl) ev_c) ?_
      · rintro x y rfl ⟨z, rfl, z0, z1⟩
        exact ⟨_, ⟨z, rfl, z0, z1⟩, rv_I0⟩
      · rintro l ⟨r, rfl, r2, rfl, r3, rfl, r4, rfl, v, r5, rfl, _, rfl⟩
        show 5 ≤ 100000
        decide
      · rintro l ⟨r, rfl, r2, rfl, r3, rfl, r4, rfl, v, r5, rfl, ⟨z, rfl, z0, z1⟩, rfl⟩
        refine ⟨rfl, fun u hu2 => ?_⟩
        have one : ∃ g : Nat, V.int 1 = .int (g : Int) ∧ g ≤ 3 ∧ (g = 0 → cont last c = false) := ⟨1, rfl, by decide, fun z => by cases z⟩
        simp only [List.mem_cons, List.not_mem_nil, or_false] at hu2
        rcases hu2 with rfl | rfl | rfl | rfl | rfl
        · exact one
        · exact one
        · exact one
        · cases hc : cont last c with
          | true => exact ⟨1, rfl, by decide, fun z => by cases z⟩
          | false => exact ⟨0, rfl, by decide, fun _ => rfl⟩
        · cases hc : cont last c with
          | true => exact ⟨z.toNat + 1, congrArg V.int (by show (1 : Int) + z = _; omega), by omega, fun y => by cases y⟩
          | false => exact ⟨z.toNat, congrArg V.int (by show (0 : Int) + z = _; omega), by omega, fun _ => rfl⟩
    · have hl0 : last = [] := of_decide_eq_true (by simpa using hb)
      refine en_opV (en_next hD3 (ev_var rfl) ev_c) (fun _ _ => EvN.of ev_c) ?_
      rintro x y ⟨z, rfl, z0, z1⟩ rfl
      refine ⟨_, ⟨(z / 3).toNat, congrArg V.int (by omega), by omega, fun _ => ?_⟩, rv_I ⟨by decide, by decide⟩⟩
      subst hl0
      rfl
    obtain ⟨g, rfl, hg3, hg0⟩ := hv
    have hW4 := hW3.ex e4
    -- place
    refine q_asgU (xs := [.int ((rows.length + 1 : Nat) : Int), .int ((row.length + g + 1 : Nat) : Int)]) (eu_tup (ea_cons (ev_is (ev_op (ev_lenD (K := K) (ev_dget (ev_var rfl) ev_c hW4.d (wd_rows rl row last)) (.inl (sq_of hW4.r))) ev_c rv_I0) (by
        rw [List.length_map, Int.natCast_add] <;> rfl))
      (ea_cons (ev_is (ev_op (ev_op (ev_lenS (ev_dget (ev_var rfl) ev_c hW4.d (wd_row rl row last)) (by omega)) (ev_var rfl) rv_I0) ev_c rv_I0) (by
        rw [Int.natCast_add, Int.natCast_add] <;> rfl)) ea_nil)) (by show 2 ≤ 100000; decide)) fun p H5 hp5 e5 hpl5 => ?_
    have hW5 := hW4.ex e5
    refine q_upd hW5 (ev_var rfl) (ev_op (ev_op (ev_dget (ev_var rfl) ev_c hW5.d (wd_row rl row last)) (ev_is (ev_op (ev_is ev_c (congrArg V.str (show Str.ofString " " = S [32] by decide +kernel))) (ev_var rfl) (rv_repS (a := [32]) (k := g) (by decide) (by omega))) (by rw [rep_blank])) (rv_addS (by rw [List.length_replicate]; omega))) (ev_var rfl) (rv_addS (by
      rw [List.length_append, List.length_replicate]
      omega))) (ev_var rfl) fun H6 e6 => ?_
    have e15 := (e13.trans e4).trans e5
    have hpw : p ≠ wa := (ne_of_none (hW4.d) hp5).symm
    have hrw : rl ≠ wa := ne_of hW.r hW.d (by intro z; cases z)
    refine s_ret (ev_var rfl) fun H7 e7 => q g p H7 hg3 (fun h c2 q2 e => ?_) (fresh_back (e13.trans e4) hp5) (fun b o hb ho => e7 b o (by rw [upd_ne hb]; exact e6 b o (e15 b o ho))) ⟨e7 _ _ upd_same, e7 _ _ (by rw [upd_ne hrw]; exact e6 _ _ hW5.r)⟩ (e7 _ _ (by rw [upd_ne hpw]; exact e6 _ _ hpl5))
    injection e with e8 _
    rw [← e8]
    exact hg0 h

end
end Wt

set_option Elab.async false
set_option linter.all false
set_option maxRecDepth 100000
set_option maxHeartbeats 4000000
namespace Wt
open PySem PySem.Spec PyProof.Rows L2 SX Evl
open C8 (Def Cal cal0 fnScope_by fnScope)
/-! What is drawn; the pen. -/
def rNode (k : List Nat) (xs : List PyData) : PyData := .tuple (.str (S k) :: .none :: xs)
def binW : List (List Nat) := [oOr, oAnd, [61], [60, 62], [60], [60, 61], [43], [45], [42], [47], oMod]
mutual
/-- an E as it is drawn, without places: how deep it is, how many words it has at most, how much stands within one another at most -/
inductive RawD : Nat → Nat → Nat → PyData → Prop
  | num {h c b n : Nat} (l : n < 1000000) (hc : 3 ≤ c) (hb : 1 ≤ b) : RawD (h + 1) c b (rNode kNum [.int (n : Int)])
  | tru {h c b : Nat} {x : Bool} (hc : 3 ≤ c) (hb : 1 ≤ b) : RawD (h + 1) c b (rNode oTruth [.bool x])
  | name {h c b : Nat} {f n : List Nat} (gf : f = [] ∨ Good kName f) (gn : Good kName n) (hc : 5 ≤ c) (hb : 1 ≤ b) : RawD (h + 1) c b (rNode kName [.str (S f), .str (S n)])
  | call {h c b c2 b2 : Nat} {f n : List Nat} {ds : List PyData} (gf : f = [] ∨ Good kName f) (gn : Good kName n) (a : RawAll h c2 b2 ds) (hc : c2 + 7 ≤ c) (hb : b2 + 2 ≤ b) : RawD (h + 1) c b (rNode oCall [.str (S f), .str (S n), .tuple ds])
  | neg {h c b c2 b2 : Nat} {d : PyData} (r : RawD h c2 b2 d) (hc : c2 + 3 ≤ c) (hb : b2 + 2 ≤ b) : RawD (h + 1) c b (rNode oNeg [d])
  | not {h c b c2 b2 : Nat} {d : PyData} (r : RawD h c2 b2 d) (hc : c2 + 3 ≤ c) (hb : b2 + 2 ≤ b) : RawD (h + 1) c b (rNode oNot [d])
  | bin {h c b c1 b1 c2 b2 : Nat} {s : List Nat} {d e : PyData} (hs : s ∈ binW) (r1 : RawD h c1 b1 d) (r2 : RawD h c2 b2 e) (hc : c1 + c2 + 3 ≤ c) (h1 : b1 + 1 ≤ b) (h2 : b2 + 1 ≤ b) : RawD (h + 1) c b (rNode s [d, e])
inductive RawAll : Nat → Nat → Nat → List PyData → Prop
  | nil {h c b : Nat} : RawAll h c b []
  | cons {h c b c1 c2 : Nat} {d : PyData} {ds : List PyData} (r : RawD h c1 b d) (a : RawAll h c2 b ds) (hc : c1 + 1 + c2 ≤ c) : RawAll h c b (d :: ds)
end
/-- what can be compared -/
structure Shp (k : Nat) (d : PyData) : Prop where
  dp : d.depth ≤ k
  wd : wideD d = true
  ly : d.canLay0 = true
theorem Shp.up {k j : Nat} {d : PyData} (h : Shp k d) (e : k ≤ j) : Shp j d := ⟨Nat.le_trans h.dp e, h.wd, h.ly⟩
structure ShpA (k : Nat) (ds : List PyData) : Prop where
  dp : PyData.depthAll ds ≤ k
  wd : wideAll ds = true
  ly : PyData.canLayAll0 ds = true
theorem shpA_nil {k : Nat} : ShpA k [] := ⟨by unfold PyData.depthAll; exact Nat.zero_le _, by unfold wideAll; rfl, by unfold PyData.canLayAll0; rfl⟩
theorem shpA_cons {k : Nat} {d : PyData} {ds : List PyData} (h : Shp k d) (a : ShpA k ds) : ShpA k (d :: ds) := by
  refine ⟨?_, ?_, ?_⟩
  · unfold PyData.depthAll
    exact Nat.max_le.mpr ⟨h.dp, a.dp⟩
  · unfold wideAll
    rw [h.wd, a.wd] <;> rfl
  · unfold PyData.canLayAll0
    rw [h.ly, a.ly] <;> rfl
theorem shpA_app {k : Nat} : ∀ {ds es : List PyData}, ShpA k ds → ShpA k es → ShpA k (ds ++ es)
  | [], _, _, h => h
  | d :: ds, es, h, g => by
    have h1 : Shp k d := ⟨by
      have := h.dp
      unfold PyData.depthAll at this
      exact (Nat.max_le.mp this).1, by
      have := h.wd
      unfold wideAll at this
      exact (Bool.and_eq_true_iff.mp this).1, by
      have := h.ly
      unfold PyData.canLayAll0 at this
      exact (Bool.and_eq_true_iff.mp this).1⟩
    have h2 : ShpA k ds := ⟨by
      have := h.dp
      unfold PyData.depthAll at this
      exact (Nat.max_le.mp this).2, by
      have := h.wd
      unfold wideAll at this
      exact (Bool.and_eq_true_iff.mp this).2, by
      have := h.ly
      unfold PyData.canLayAll0 at this
      exact (Bool.and_eq_true_iff.mp this).2⟩
    exact shpA_cons h1 (shpA_app h2 g)
theorem shp_tup {k : Nat} {ds : List PyData} (h : ShpA k ds) (hl : ds.length ≤ 40000) : Shp (k + 1) (.tuple ds) := by
  refine ⟨?_, ?_, ?_⟩
  · unfold PyData.depth
    exact Nat.succ_le_succ h.dp
  · unfold wideD
    rw [decide_eq_true hl, h.wd] <;> rfl
  · unfold PyData.canLay0
    exact h.ly
theorem shp_lst {k : Nat} {ds : List PyData} (h : ShpA k ds) (hl : ds.length ≤ 40000) : Shp (k + 1) (.list ds) := by
  refine ⟨?_, ?_, ?_⟩
  · unfold PyData.depth
    exact Nat.succ_le_succ h.dp
  · unfold wideD
    rw [decide_eq_true hl, h.wd] <;> rfl
  · unfold PyData.canLay0
    exact h.ly
theorem shp_int {i : Int} : Shp 0 (.int i) := ⟨by unfold PyData.depth; exact Nat.le_refl _, by unfold wideD; rfl, by unfold PyData.canLay0; rfl⟩
theorem shp_bool {i : Bool} : Shp 0 (.bool i) := ⟨by unfold PyData.depth; exact Nat.le_refl _, by unfold wideD; rfl, by unfold PyData.canLay0; rfl⟩
theorem shp_str {w : List Nat} (h : w.all (fun c => decide (c < 128)) = true) : Shp 0 (.str (S w)) := ⟨by unfold PyData.depth; exact Nat.le_refl _, by unfold wideD; rfl, by
  unfold PyData.canLay0 PyData.strOk
  have e : (S w).cps = w.toArray := rfl
  rw [e, List.all_toArray, List.all_eq_true]
  intro c hc
  have := of_decide_eq_true (List.all_eq_true.mp h c hc)
  exact decide_eq_true (by omega)⟩
theorem shp_place {p : Place} : Shp 1 (placeD p) := shp_tup (shpA_cons shp_int (shpA_cons shp_int shpA_nil)) (by show 2 ≤ 40000; decide)
theorem shp_node {k : Nat} {w : List Nat} {p : Place} {xs : List PyData} (hk : 1 ≤ k) (hw : w.all (fun c => decide (c < 128)) = true) (h : ShpA k xs) (hl : xs.length ≤ 10) : Shp (k + 1) (node w p xs) :=
  shp_tup (shpA_cons ((shp_str hw).up (Nat.zero_le _)) (shpA_cons (shp_place.up hk) h)) (by simp; omega)
theorem es_cl {σ : L2.St} {H : Hp} {x : Str} {w : List Nat} (e : x = S w) : EvS (tC (.str x)) σ H w := ev_is ev_c (congrArg V.str e)
theorem eat_lst2 {σ : L2.St} {H : Hp} {ta tb : TE} {a b : List Nat} (h1 : EvS ta σ H a) (h2 : EvS tb σ H b) : EvLT (tLst (tCons ta (tCons tb tNil))) σ H [a, b] := elt_lst (eat_cons h1 (eat_cons h2 eat_nil)) (by show 2 ≤ 100000; decide)
theorem good_low {k w : List Nat} (g : Good k w) : w.all (fun c => decide (c < 128)) = true := by
  have hL : ∀ c, isL c = true → c < 128 := fun c h => by
    have := of_decide_eq_true h
    have all : ∀ c ∈ letters, c < 128 := by decide
    exact all c this
  have hF : ∀ c, isF c = true → c < 128 := fun c h => by
    have := of_decide_eq_true h
    have all : ∀ c ∈ figures, c < 128 := by decide
    exact all c this
  rw [List.all_eq_true]
  intro c hc
  refine decide_eq_true ?_
  cases g with
  | name a => exact hL c (List.all_eq_true.mp a c hc)
  | own o => exact hL c (List.all_eq_true.mp (owns_let w o).1 c hc)
  | num a => exact hF c (List.all_eq_true.mp a c hc)
  | sign s =>
    have all : ∀ w ∈ signs, ∀ c ∈ w, c < 128 := by decide
    exact all w s c hc
theorem good_spec {w : List Nat} (g : Good kName w) : w ∉ specW := fun h => by
  cases g with
  | name a n l o =>
    have all : ∀ w ∈ specW, w = [] ∨ w ∈ owns ∨ w.all isL = false := by decide +kernel
    rcases all w h with z | z | z
    · exact n z
    · exact o z
    · rw [z] at a
      cases a
theorem num_spec {w : List Nat} (g : Good kNum w) : w ∉ specW := fun h => by
  cases g with
  | num a n l o =>
    have all : ∀ w ∈ specW, w = [] ∨ w.all isF = false := by decide +kernel
    rcases all w h with z | z
    · exact n z
    · rw [z] at a
      cases a
/-- all but what stands at wa -/
theorem ExB.trans {wa : Addr} {H H1 H2 : Hp} (a : ExB wa H H1) (b : ExB wa H1 H2) : ExB wa H H2 := fun x o n h => b x o n (a x o n h)
theorem ExB.of {wa : Addr} {H H' : Hp} (e : Ex H H') : ExB wa H H' := fun x o _ h => e x o h
/-- a pen: the dice, the writer, the row's words so far -/
structure Pen (K : PySem.W.Frag) (H : Hp) (d a wa rl : Addr) (ns : List Int) (rows : List (List Nat)) (row last : List Nat) (ts : List Tk) : Prop where
  dc : Dc K H d a ns
  wr : Wr H wa rl rows row last
  pl : ∃ ws, PL row ws last ∧ ts = ws.map (tkOf (rows.length + 1))
  few : rows.length ≤ 900
  ll : last.length ≤ 6
  rl9 : row.length ≤ 9 * ts.length
theorem Pen.ex {K : PySem.W.Frag} {H H' : Hp} {d a wa rl : Addr} {ns : List Int} {rows : List (List Nat)} {row last : List Nat} {ts : List Tk} (p : Pen K H d a wa rl ns rows row last ts) (e : Ex H H') : Pen K H' d a wa rl ns rows row last ts := ⟨p.dc.ex e, p.wr.ex e, p.pl, p.few, p.ll, p.rl9⟩
/-- the same, row and last left open -/
def PenA (K : PySem.W.Frag) (H : Hp) (d a wa rl : Addr) (ns : List Int) (rows : List (List Nat)) (ts : List Tk) : Prop := ∃ row last, Pen K H d a wa rl ns rows row last ts
theorem PenA.ex {K : PySem.W.Frag} {H H' : Hp} {d a wa rl : Addr} {ns : List Int} {rows : List (List Nat)} {ts : List Tk} (p : PenA K H d a wa rl ns rows ts) (e : Ex H H') : PenA K H' d a wa rl ns rows ts := by
  obtain ⟨row, last, p⟩ := p
  exact ⟨row, last, p.ex e⟩
theorem PenA.tx {K : PySem.W.Frag} {H H' : Hp} {d a wa rl : Addr} {ns : List Int} {rows : List (List Nat)} {ts : List Tk} (p : PenA K H d a wa rl ns rows ts) (e : ExB wa H H') : Tx H H' := by
  obtain ⟨row, last, p⟩ := p
  exact fun x xs h => e x _ (ne_of h p.wr.d (by intro z; cases z)) h
theorem PenA.lst {K : PySem.W.Frag} {H H' : Hp} {d a wa rl : Addr} {ns : List Int} {rows : List (List Nat)} {ts : List Tk} (p : PenA K H d a wa rl ns rows ts) (e : ExB wa H H') {l : Addr} {xs : List V} (h : H l = some (.lst xs)) : H' l = some (.lst xs) := by
  obtain ⟨row, last, p⟩ := p
  exact e l _ (ne_of h p.wr.d (by intro z; cases z)) h
/-- a list of its own is changed -/
theorem PenA.mut {K : PySem.W.Frag} {H : Hp} {d a wa rl : Addr} {ns : List Int} {rows : List (List Nat)} {ts : List Tk} (p : PenA K H d a wa rl ns rows ts) {l : Addr} {xs ys : List V} (h : H l = some (.lst xs)) (hn : l ≠ rl) : PenA K (upd H l (.lst ys)) d a wa rl ns rows ts := by
  obtain ⟨row, last, p⟩ := p
  refine ⟨row, last, ⟨?_, ?_⟩, ⟨?_, ?_⟩, p.pl, p.few, p.ll, p.rl9⟩
  · rw [upd_ne (ne_of p.dc.o h (by intro z; unfold DiceO at z; cases z))]
    exact p.dc.o
  · exact p.dc.s.fx (Fx.mut h True.intro)
  · rw [upd_ne (ne_of p.wr.d h (by intro z; cases z))]
    exact p.wr.d
  · rw [upd_ne hn.symm]
    exact p.wr.r
/-- a word is laid -/
theorem e_emit {K : PySem.W.Frag} {σ : L2.St} {H : Hp} {tr : TA} {E : XK} {Q : VK} {d a wa rl : Addr} {ns : List Int} {rows : List (List Nat)} {ts : List Tk} {k wd : List Nat} (p : PenA K H d a wa rl ns rows ts) (hts : ts.length ≤ 99) (g : Good k wd) (h : EvA tr σ H [.ref d, .ref wa, .str (S wd)])
    (q : ∀ pl H2 t, ExB wa H H2 → H pl = none → PenA K H2 d a wa rl ns rows (ts ++ [t]) → t.1 = k → t.2.1 = wd → Td H2 (.ref pl) (placeD (tkP t)) → Q (.ref pl) H2) : tCall (spEmit K) [] E tr σ H Q := h H (Ex.refl H) _ fun H1 e1 => by
  obtain ⟨row, last, p⟩ := p
  obtain ⟨ws, hpl, rfl⟩ := p.pl
  have h9 := p.rl9
  rw [List.length_map] at h9 hts
  refine ⟨d, a, wa, rl, ns, rows, row, last, wd, rfl, p.dc.ex e1, p.wr.ex e1, by have := p.few; omega, by omega, p.ll, good_ne g, good_len g, fun gp pl H2 hg hg0 hp eB hW hpl2 => ?_⟩
  have hwl := good_len g
  refine q pl H2 (tkOf (rows.length + 1) (k, wd, row.length + gp + 1)) ((ExB.of e1).trans eB) (fresh_back e1 hp) ⟨_, _, ⟨?_, ?_⟩, hW, ⟨ws ++ [(k, wd, row.length + gp + 1)], pl_step hpl g hg0, by rw [List.map_append] <;> rfl⟩, p.few, hwl, ?_⟩ rfl rfl ?_
  · have := (p.dc.ex e1).o
    exact eB _ _ (ne_of this (p.wr.ex e1).d (by intro z; unfold DiceO at z; cases z)) this
  · exact (p.dc.ex e1).s.fx fun b o u hb => eB _ _ (ne_of hb (p.wr.ex e1).d (by intro z; cases z)) hb
  · rw [List.length_append, List.length_append, List.length_replicate, List.length_append, List.length_map]
    show _ ≤ 9 * (ws.length + 1)
    omega
  · exact .tup hpl2 (.cons (.int _) (.cons (.int _) .nil))
/-! ### _law_level -/
def lvT : List (List (List Nat)) := [[oOr], [oAnd], [oNot], sCmp, sSum, sProd, [oNeg]]
def lvOf (w : List Nat) : Nat := if w = oOr then 0 else if w = oAnd then 1 else if w = oNot then 2 else if w ∈ sCmp then 3 else if w ∈ sSum then 4 else if w ∈ sProd then 5 else if w = oNeg then 6 else 7
def headW : List (List Nat) := binW ++ [oNot, oNeg, kNum, oTruth, kName, oCall]
def spLevel : Sp := fun vs H Q _ => ∃ w : List Nat, vs = [.str (S w)] ∧ w ∈ headW ∧ RetV (.int (lvOf w : Nat)) H Q
theorem lv_first : ∀ w ∈ headW, ((List.range 8).filter fun k => decide (k = 7) || decide (w ∈ lvT.getD k [])).head? = some (lvOf w) := by decide +kernel
section
variable {P : Program} {w : World} {K : PySem.W.Frag} {mg : Str → Option Value} {base : Heap}
abbrev s__law_level : Stmt := topS 46
theorem sc__law_level : FnScope ["_law_sign", "_law_signs", "_law_k"] ["_law_sign"] (fnScope s__law_level) := fnScope_by (by decide +kernel)
theorem lv_lits : [V.str (Str.ofString "or")] = [oOr].map (fun z => V.str (S z)) ∧ [V.str (Str.ofString "and")] = [oAnd].map (fun z => V.str (S z)) ∧ [V.str (Str.ofString "not")] = [oNot].map (fun z => V.str (S z)) ∧ [V.str (Str.ofString "="), V.str (Str.ofString "<>"), V.str (Str.ofString "<"), V.str (Str.ofString "<=")] = sCmp.map (fun z => V.str (S z)) ∧
    [V.str (Str.ofString "+"), V.str (Str.ofString "-")] = sSum.map (fun z => V.str (S z)) ∧ [V.str (Str.ofString "*"), V.str (Str.ofString "/"), V.str (Str.ofString "mod")] = sProd.map (fun z => V.str (S z)) ∧ [V.str (Str.ofString "neg")] = [oNeg].map (fun z => V.str (S z)) := by
  refine ⟨?_, ?_, ?_, ?_, ?_, ?_, ?_⟩ <;> decide +kernel
/-- a list of lists of texts, all new -/
inductive LLs (H : Hp) : List V → List (List (List Nat)) → Prop
  | nil : LLs H [] []
  | cons {p : Addr} {vs : List V} {l : List (List Nat)} {ls : List (List (List Nat))} (h : H p = some (.lst (l.map fun z => V.str (S z)))) (r : LLs H vs ls) : LLs H (.ref p :: vs) (l :: ls)
theorem LLs.ex {H H' : Hp} (e : Ex H H') : ∀ {vs ls}, LLs H vs ls → LLs H' vs ls
  | _, _, .nil => .nil
  | _, _, .cons h r => .cons (e _ _ h) (r.ex e)
theorem LLs.at {H : Hp} : ∀ {vs : List V} {ls : List (List (List Nat))} {i : Nat}, LLs H vs ls → i < ls.length → ∃ p, vs[i]? = some (.ref p) ∧ H p = some (.lst ((ls.getD i []).map fun z => V.str (S z)))
  | _, _, 0, .cons h r, _ => ⟨_, rfl, h⟩
  | _, _, i + 1, .cons h r, hi => LLs.at (i := i) r (Nat.lt_of_succ_lt_succ hi)
theorem LLs.len {H : Hp} : ∀ {vs ls}, LLs H vs ls → vs.length = ls.length
  | _, _, .nil => rfl
  | _, _, .cons _ r => congrArg (· + 1) r.len
def EALL (ta : TA) (σ : L2.St) (H : Hp) (ls : List (List (List Nat))) : Prop := ∀ H1, Ex H H1 → ∀ Q : List V → Hp → Prop, (∀ vs H2, Ex H1 H2 → LLs H2 vs ls → Q vs H2) → ta σ H1 Q
theorem eall_nil {σ : L2.St} {H : Hp} : EALL tNil σ H [] := fun H1 _ Q q => q [] H1 (Ex.refl _) .nil
theorem eall_cons {σ : L2.St} {H : Hp} {te : TE} {tr : TA} {l : List (List Nat)} {ls : List (List (List Nat))} (h : EvL te σ H (l.map fun z => V.str (S z))) (r : EALL tr σ H ls) : EALL (tCons te tr) σ H (l :: ls) := fun H1 e Q q =>
  h H1 e _ fun p H2 hp e2 h2 => r H2 (e.trans e2) _ fun vs H3 e3 h3 => q _ H3 (e2.trans e3) (.cons (e3 _ _ h2) h3)
theorem el_any {σ : L2.St} {H : Hp} {te : TE} {xs ys : List V} (h : EvL te σ H xs) (e : xs = ys) : EvL te σ H ys := e ▸ h
theorem q_asgLL {σ : L2.St} {H : Hp} {tr : TA} {D : Ends} {tz : TS} {i : Nat} {ls : List (List (List Nat))} (h : EALL tr σ H ls) (hl : ls.length ≤ 100000) (k : ∀ p H1 vs, H p = none → Ex H H1 → H1 p = some (.lst vs) → LLs H1 vs ls → tz D (σ.set i (some (.ref p))) H1) : tSeq (tAsg (tLst tr) (gName i)) tz D σ H :=
  h H (Ex.refl H) _ fun vs H1 e1 hvs => ⟨sz_of (by rw [hvs.len]; exact hl), fun p hp => k p _ vs (fresh_back e1 hp) (e1.trans (Ex.new hp)) upd_same (hvs.ex (Ex.new hp))⟩
theorem ok_level (T : ModsL K mg) {f : Addr} {fd : FuncData} (F : Def K mg "_law_level" s__law_level f fd) (b : Binds K fd ["_law_sign"] []) : Cal P w K mg base 1 "_law_level" spLevel [] := by
  refine cal0 F b .nil sc__law_level (fun vs H Q E h => ?_) (fun cdv A outer s H vs Q E hr h => ?_)
  · obtain ⟨_, rfl, _⟩ := h
    rfl
  · obtain ⟨wd, rfl, hwd, q⟩ := h
    have m_range := T.m_range
    refine ⟨_, (pss_cons (ps_set (i := 1) sc__law_level.nd rfl (.inr rfl) (pe_lst (pa_cons (pe_lst (pa_cons pe_str pa_nil)) (pa_cons (pe_lst (pa_cons pe_str pa_nil)) (pa_cons (pe_lst (pa_cons pe_str pa_nil)) (pa_cons (pe_lst (pa_cons pe_str (pa_cons pe_str (pa_cons pe_str (pa_cons pe_str pa_nil))))) (pa_cons (pe_lst (pa_cons pe_str (pa_cons pe_str pa_nil))) (pa_cons (pe_lst (pa_cons pe_str (pa_cons pe_str (pa_cons pe_str pa_nil)))) (pa_cons (pe_lst (pa_cons pe_str pa_nil)) pa_nil)))))))))
      (pss_one (ps_ret (pe_ix ix_list (pe_lc (own := [("_law_k", 2)]) (g := (gName 2)) rfl sc__law_level.nd (pi_range1 (by rfl) m_range (pa_cons pe_int pa_nil)) (blkOk_by (N := ["_law_sign", "_law_signs", "_law_k"]) (sc := C8.fnScope s__law_level) (by decide +kernel)) (fun _ _ _ _ _ => pg_name (i := 2) sc__law_level.nd rfl (Or.inl rfl)) (fun _ _ _ _ _ => pts_one (PW.pt (pw_or (pt_cmpR op_eq (pv 2) pe_int (nomark _)) (pw_or1 (pt_cmpR (show OpR _ _ (rIn K false) from op_in_seq) (pv 0) (pe_ix (show IxR _ (rIxL K) from ix_list) (pv 1) (pv 2) (fun _ _ => rfl)) (by with_unfolding_all rfl)))))) (fun _ _ _ _ _ => (pv 2))) pe_int (fun _ _ => rfl))))), ?_⟩
    obtain ⟨l1, l2, l3, l4, l5, l6, l7⟩ := lv_lits
    refine q_asgLL (ls := lvT) (eall_cons (el_any (el_lst (ea_cons ev_c ea_nil) (by show 1 ≤ 100000; decide)) l1) (eall_cons (el_any (el_lst (ea_cons ev_c ea_nil) (by show 1 ≤ 100000; decide)) l2) (eall_cons (el_any (el_lst (ea_cons ev_c ea_nil) (by show 1 ≤ 100000; decide)) l3) (eall_cons (el_any (el_lst (ea_cons ev_c (ea_cons ev_c (ea_cons ev_c (ea_cons ev_c ea_nil)))) (by show 4 ≤ 100000; decide)) l4)
      (eall_cons (el_any (el_lst (ea_cons ev_c (ea_cons ev_c ea_nil)) (by show 2 ≤ 100000; decide)) l5) (eall_cons (el_any (el_lst (ea_cons ev_c (ea_cons ev_c (ea_cons ev_c ea_nil))) (by show 3 ≤ 100000; decide)) l6) (eall_cons (el_any (el_lst (ea_cons ev_c ea_nil) (by show 1 ≤ 100000; decide)) l7) eall_nil))))))) (by show 7 ≤ 100000; decide) fun p H2 vs hp e2 hp2 hvs2 => ?_
    refine s_ret (v := .int (lvOf wd : Nat)) ?_ fun H3 e3 => q H3 (e2.trans e3)
    have hf := lv_first wd hwd
    generalize hg : (List.range 8).filter (fun k => decide (k = 7) || decide (wd ∈ lvT.getD k [])) = g at hf
    refine ev_opL1 (xs := given 8 (fun k => decide (k = 7) || decide (wd ∈ lvT.getD k [])) (fun k => .int (k : Int))) (el_lcR1 (n := 8) _ _ (ea_cons ev_c ea_nil) ⟨by decide, by decide⟩ (fun _ => rfl) (fun i H4 e4 hi => ?_) (fun i H4 e4 hi _ => ev_var rfl)) (fun H4 e4 => ev_c) (fun r H4 h4 e4 => rv_ixL (i := 0) (sq_of h4) ?_)
    · refine et_or (et_is (et_test (ev_op (ev_var rfl) ev_c (rv_eq rfl))) ?_) fun h7 => ?_
      · refine decide_eq_decide.mpr ⟨fun z => ?_, fun z => by rw [z] <;> rfl⟩
        have := V.int.inj z
        omega
      · have h7 : i ≠ 7 := of_decide_eq_false h7
        have hi7 : i < lvT.length := by
          show i < 7
          omega
        obtain ⟨p2, hp3, hp4⟩ := (hvs2.ex e4).at hi7
        refine et_test (ev_is (ev_op (ev_var rfl) (ev_op (ev_var rfl) (ev_var rfl) (rv_ixL (sq_of (e4 _ _ hp2)) (atI_nat hp3))) (rv_isL (sq_of hp4) rfl (flat_S _))) (congrArg V.bl (inV_S _ _)))
    · unfold given
      rw [hg]
      cases g with
      | nil => cases hf
      | cons x r =>
        cases hf
        exact atI_nat (j := 0) rfl
end
end Wt

set_option Elab.async false
set_option linter.all false
set_option maxRecDepth 100000
set_option maxHeartbeats 4000000
namespace Wt
open PySem PySem.Spec PyProof.Rows L2 SX Evl
open C8 (Def Cal cal0 fnScope_by fnScope)
/-! E are written: names and calls. -/
def spPutE (K : PySem.W.Frag) (h : Nat) : Sp := fun vs H Q _ => ∃ (d a wa rl : Addr) (ns : List Int) (rows : List (List Nat)) (ts : List Tk) (ev : V) (dE : PyData) (c b L : Nat), vs = [.ref d, .ref wa, ev, .int (L : Int)] ∧ PenA K H d a wa rl ns rows ts ∧ ts.length + c ≤ 90 ∧ Td H ev dE ∧ RawD h c b dE ∧ L ≤ 7 ∧
  ∀ v H2 us due, ExB wa H H2 → PenA K H2 d a wa rl ns rows (ts ++ us) → us.length ≤ c → (∀ m, b ≤ m → Put L m us due) → Td H2 v due → Shp (2 * h + 1) due → Q v H2
def spPutN (K : PySem.W.Frag) (h : Nat) : Sp := fun vs H Q _ => ∃ (d a wa rl : Addr) (ns : List Int) (rows : List (List Nat)) (ts : List Tk) (ev : V) (k : List Nat) (xs : List PyData) (c b : Nat), vs = [.ref d, .ref wa, ev] ∧ PenA K H d a wa rl ns rows ts ∧ ts.length + c ≤ 91 ∧ Td H ev (rNode k xs) ∧ RawD (h + 1) c b (rNode k xs) ∧ (k = kName ∨ k = oCall) ∧
  ∀ v H2 us due, ExB wa H H2 → PenA K H2 d a wa rl ns rows (ts ++ us) → us.length + 2 ≤ c → (∀ m, b ≤ m + 1 → Core 7 m us due) → Td H2 v due → Shp (2 * h + 3) due → Q v H2
section
variable {K : PySem.W.Frag} {σ : L2.St} {H H' : Hp} {ta tb te tx tl : TE} {tr : TA} {t u : TT} {D : Ends} {tu tw tz : TS}
theorem ev_it {j i : Nat} {ev v : V} {ds : List PyData} {d : PyData} (hj : σ[j]? = some (some ev)) (h : Td H ev (.tuple ds)) (hi : ds[i]? = some d) (hv : ∀ H' u, Td H' u d → u = v) : Ev (tOp (rIxT K) (tVar j) (tC (.int (i : Int)))) σ H v := by
  cases h with
  | tup h1 h2 =>
    obtain ⟨w, hw, hT⟩ := td_get h2 hi
    have := hv _ _ hT
    subst this
    exact ev_op (ev_var hj) ev_c (rv_ixT (st_of h1) (atI_nat hw))
theorem ed_it {j i : Nat} {ev : V} {ds : List PyData} {d : PyData} (hj : σ[j]? = some (some ev)) (h : Td H ev (.tuple ds)) (hi : ds[i]? = some d) : EvD (tOp (rIxT K) (tVar j) (tC (.int (i : Int)))) σ H d := by
  cases h with
  | tup h1 h2 =>
    obtain ⟨w, hw, hT⟩ := td_get h2 hi
    exact ed_of (ev_op (ev_var hj) ev_c (rv_ixT (st_of h1) (atI_nat hw))) hT
theorem td_s {x : Str} : ∀ (H' : Hp) (u : V), Td H' u (.str x) → u = .str x := fun _ _ h => by cases h; rfl
theorem td_i {x : Int} : ∀ (H' : Hp) (u : V), Td H' u (.int x) → u = .int x := fun _ _ h => by cases h; rfl
theorem td_b {x : Bool} : ∀ (H' : Hp) (u : V), Td H' u (.bool x) → u = .bl x := fun _ _ h => by cases h; rfl
theorem el_if {b : Bool} {xs : List V} (h : EvT t σ H b) (h1 : b = true → EvL ta σ H xs) (h2 : b = false → EvL tb σ H xs) : EvL (tIf t ta tb) σ H xs := fun H1 e Q q => h H1 e _ fun H2 e2 => by
  cases b with
  | true =>
    show ta σ H2 Q
    exact h1 rfl H2 (e.trans e2) Q fun p H3 hp e3 => q p H3 (fresh_back e2 hp) (e2.trans e3)
  | false =>
    show tb σ H2 Q
    exact h2 rfl H2 (e.trans e2) Q fun p H3 hp e3 => q p H3 (fresh_back e2 hp) (e2.trans e3)
/-- (a, b, ..) + e[k:] -/
theorem ed_catSl {tr : TA} {j k : Nat} {ev : V} {ds1 ds : List PyData} (h : EAD tr σ H ds1) (hj : σ[j]? = some (some ev)) (hT : Td H ev (.tuple ds)) (hk : 0 < k) (hkl : k < ds.length) (h1 : ds1 ≠ []) (hl1 : ds1.length ≤ 100) (hl : ds.length ≤ 100) :
    EvD (tOp (rCatA K) (tTup tr) (tSl (rSlA K) (tVar j) (tPart (tC (.int (k : Int)))) tNoPart)) σ H (.tuple (ds1 ++ ds.drop k)) := fun H1 e Q q => h H1 e _ fun vs H2 e2 hvs => ⟨sz_of (by rw [hvs.len]; omega), fun pa hpa => by
  have e3 := Ex.new (o := HO.tup vs) hpa
  have hT3 := Td.tx (Tx.of ((e.trans e2).trans e3)) _ _ hT
  cases hT3 with
  | @tup ea xs _ hx1 hx2 =>
    have hxl := hx2.len
    refine ev_var hj _ (Ex.refl _) _ fun H4 e4 => ⟨(k : Int), rfl, ⟨ea, xs, rfl, st_of (e4 _ _ hx1), fun z => ?_, fun _ pb hpb => ?_⟩⟩
    · exfalso
      have h2 : HT.sIx xs.length 0 (some (k : Int)) = k := by
        rw [HT.sIx_nat]
        omega
      have := z.1
      rw [h2] at this
      omega
    · rw [cutV_from (by omega)] at *
      have e5 := Ex.new (o := HO.tup (xs.drop k)) hpb
      have hvs5 := TdAll.tx (Tx.of ((e3.trans e4).trans e5)) _ _ hvs
      have hd5 := td_drop (n := k) (TdAll.tx (Tx.of (e4.trans e5)) _ _ hx2)
      have ne1 : vs ≠ [] := fun z => h1 (by
        rw [z] at hvs
        cases hvs
        rfl)
      have ne2 : xs.drop k ≠ [] := fun z => by
        have := congrArg List.length z
        rw [List.length_drop] at this
        simp at this
        omega
      refine ⟨pa, pb, vs, xs.drop k, rfl, rfl, st_of (e5 _ _ (e4 _ _ upd_same)), st_of upd_same, sz_of (by
        rw [List.length_drop, hvs.len]
        omega), fun z => absurd z ne1, fun _ z => absurd z ne2, fun _ _ pc hpc => ?_⟩
      have e6 := Ex.new (o := HO.tup (vs ++ xs.drop k)) hpc
      refine q _ _ ((((e2.trans e3).trans e4).trans e5).trans e6) (.tup upd_same (TdAll.tx (Tx.of e6) _ _ (hvs5.app hd5)))⟩
theorem s_retD {d : PyData} (h : EvD te σ H d) (k : ∀ v H1, Ex H H1 → Td H1 v d → D.rt v H1) : tRet te D σ H := h H (Ex.refl H) _ k
theorem ed_tupleOf {l : Addr} {xs : List V} {ds : List PyData} (h : Ev te σ H (.ref l)) (hl : H l = some (.lst xs)) (hT : TdAll H xs ds) :
    EvD (tCB (fun xs H Q => ∃ p ys, xs = [.ref p] ∧ ((SqL K H p ys ∧ ∀ l, H l = none → Q (.ref l) (upd H l (.tup ys))) ∨ (SqT K H p ys ∧ Q (.ref p) H))) (tCons te tNil)) σ H (.tuple ds) := fun H1 e Q q =>
  h H1 e _ fun H2 e2 => ⟨l, xs, rfl, .inl ⟨sq_of ((e.trans e2) _ _ hl), fun c hc => q _ _ (e2.trans (Ex.new hc)) (.tup upd_same (TdAll.tx (Tx.of ((e.trans e2).trans (Ex.new hc))) _ _ hT))⟩⟩
/-- an item that is a tuple -/
theorem ev_itT {j i : Nat} {ev : V} {ds es : List PyData} (h : Td H ev (.tuple ds)) (hi : ds[i]? = some (.tuple es)) : ∃ ap as, (∀ σ : L2.St, σ[j]? = some (some ev) → Ev (tOp (rIxT K) (tVar j) (tC (.int (i : Int)))) σ H (.ref ap)) ∧ H ap = some (.tup as) ∧ TdAll H as es := by
  cases h with
  | tup h1 h2 =>
    obtain ⟨w, hw, hT⟩ := td_get h2 hi
    cases hT with
    | @tup ap as _ g1 g2 => exact ⟨ap, as, fun σ hj => ev_op (ev_var hj) ev_c (rv_ixT (st_of h1) (atI_nat hw)), g1, g2⟩
theorem rawAll_len {h b : Nat} : ∀ {ds : List PyData} {c : Nat}, RawAll h c b ds → ds.length ≤ c
  | [], _, _ => Nat.zero_le _
  | d :: ds, c, a => by
    cases a with
    | cons r a hc =>
      have := rawAll_len a
      rw [List.length_cons]
      omega
def kwOf (t : Tk) : List Nat × List Nat := (t.1, t.2.1)
def EmP (K : PySem.W.Frag) (H1 : Hp) (d a wa rl Dl : Addr) (ns : List Int) (rows : List (List Nat)) (ts : List Tk) (kw : List (List Nat × List Nat)) (i : Nat) (H' : Hp) : Prop := ∃ us xs, us.map kwOf = kw.take i ∧ ExB wa H1 H' ∧ PenA K H' d a wa rl ns rows (ts ++ us) ∧ H' Dl = some (.lst xs) ∧ TdAll H' xs (us.map fun t => placeD (tkP t))
/-- words of a list are laid one behind the other -/
theorem tl_emits {d a wa rl : Addr} {ns : List Int} {rows : List (List Nat)} {ts : List Tk} {kw : List (List Nat × List Nat)} {j : Nat} {vs : List Nat} {E : XK} {Q : VK} (ht : EvLT tl σ H (kw.map (·.2))) (hg : ∀ x ∈ kw, Good x.1 x.2) (p : PenA K H d a wa rl ns rows ts) (hts : ts.length + kw.length ≤ 99)
    (hw : ∀ x, wipe ((wipe σ vs).set j (some x)) vs = wipe σ vs) (h0 : ∀ x, ((wipe σ vs).set j (some x))[0]? = some (some (.ref d))) (h1 : ∀ x, ((wipe σ vs).set j (some x))[1]? = some (some (.ref wa))) (hj : ∀ x, ((wipe σ vs).set j (some x))[j]? = some (some x))
    (q : ∀ l H' us xs, ExB wa H H' → H l = none → PenA K H' d a wa rl ns rows (ts ++ us) → us.map kwOf = kw → H' l = some (.lst xs) → TdAll H' xs (us.map fun t => placeD (tkP t)) → Q (.ref l) H') :
    tLc (iList K tl) (gName j) tYes (tCall (spEmit K) [] E (tCons (tVar 0) (tCons (tVar 1) (tCons (tVar j) tNil)))) vs σ H Q := ht H (Ex.refl H) _ fun lw H1 hlw e1 hl => ⟨lw, rfl, ⟨_, sq_of hl⟩, fun Dl hD => by
  have p1 := p.ex e1
  have hrl : Dl ≠ rl := by
    obtain ⟨row, last, p1⟩ := p1
    exact (ne_of_none p1.wr.r hD).symm
  have hDw : Dl ≠ wa := by
    obtain ⟨row, last, p1⟩ := p1
    exact (ne_of_none p1.wr.d hD).symm
  refine lc_it (walk_list (K := K) (a := lw) (xs := (kw.map (·.2)).map fun z => V.str (S z))) (EmP K H1 d a wa rl Dl ns rows ts kw) ?_ (fun i H' _ ⟨us, xs, _, eB, P, _⟩ => sq_of (eB lw _ ?_ hl)) ?_ ?_
  · refine ⟨[], [], by simp, ExB.of (Ex.new hD), ?_, upd_same, .nil⟩
    rw [List.append_nil]
    exact p1.ex (Ex.new hD)
  · obtain ⟨row, last, p1⟩ := p1
    exact ne_of hl p1.wr.d (by intro z; cases z)
  · rintro i x H2 H3 hi ⟨us, xs, hus, eB, P, hDl, hT⟩ ⟨rfl, hx⟩
    refine ⟨hw x, ?_⟩
    rw [List.map_map, List.getElem?_map] at hx
    obtain ⟨⟨k, wd⟩, hk, rfl⟩ := Option.map_eq_some_iff.mp hx
    have hg1 : Good k wd := hg _ (List.mem_of_getElem? hk)
    have hlen : us.length ≤ i := by
      have := congrArg List.length hus
      rw [List.length_map, List.length_take] at this
      omega
    have hik : i < kw.length := (List.getElem?_eq_some_iff.mp hk).1
    have main := e_emit (K := K) (σ := (wipe σ vs).set j (some (.str (S wd)))) (tr := tCons (tVar 0) (tCons (tVar 1) (tCons (tVar j) tNil))) (E := E) (Q := fun y H4 => ∃ acc, H4 Dl = some (.lst acc) ∧ acc.length < sizeLine ∧ EmP K H1 d a wa rl Dl ns rows ts kw (i + 1) (upd H4 Dl (.lst (acc ++ [y])))) P (by rw [List.length_append]; omega) hg1 (ea_cons (ev_var (h0 _)) (ea_cons (ev_var (h1 _)) (ea_cons (ev_var (hj _)) ea_nil))) fun pl H4 t eB4 hpl P4 k1 k2 hT4 => ?_
    · exact main
    have hDl4 := P.lst eB4 hDl
    refine ⟨xs, hDl4, ?_, us ++ [t], xs ++ [.ref pl], ?_, ?_, ?_, upd_same, ?_⟩
    · have := hT.len
      rw [List.length_map] at this
      exact sz_lt (by omega)
    · rw [List.map_append, hus, List.take_succ, hk]
      show _ ++ [kwOf t] = _
      unfold kwOf
      rw [k1, k2] <;> rfl
    · intro b o hb ho
      rw [upd_ne (ne_of_none ho hD)]
      exact eB4 b o hb (eB b o hb ho)
    · rw [← List.append_assoc]
      exact P4.mut hDl4 hrl
    · have tx : Tx H4 (upd H4 Dl (.lst (xs ++ [.ref pl]))) := Tx.lst hDl4
      rw [List.map_append]
      exact (TdAll.tx ((P.tx eB4).trans tx) _ _ hT).snoc (Td.tx tx _ _ hT4)
  · rintro H2 ⟨us, xs, hus, eB, P, hDl, hT⟩
    rw [List.length_map, List.length_map, List.take_length] at hus
    exact q Dl H2 us xs ((ExB.of e1).trans eB) (fresh_back e1 hD) P hus hDl hT⟩
theorem q_emits {d a wa rl : Addr} {ns : List Int} {rows : List (List Nat)} {ts : List Tk} {kw : List (List Nat × List Nat)} {j s : Nat} {vs : List Nat} {E : XK} (ht : EvLT tl σ H (kw.map (·.2))) (hg : ∀ x ∈ kw, Good x.1 x.2) (p : PenA K H d a wa rl ns rows ts) (hts : ts.length + kw.length ≤ 99)
    (hw : ∀ x, wipe ((wipe σ vs).set j (some x)) vs = wipe σ vs) (h0 : ∀ x, ((wipe σ vs).set j (some x))[0]? = some (some (.ref d))) (h1 : ∀ x, ((wipe σ vs).set j (some x))[1]? = some (some (.ref wa))) (hj : ∀ x, ((wipe σ vs).set j (some x))[j]? = some (some x))
    (q : ∀ l H' us xs, ExB wa H H' → H l = none → PenA K H' d a wa rl ns rows (ts ++ us) → us.map kwOf = kw → H' l = some (.lst xs) → TdAll H' xs (us.map fun t => placeD (tkP t)) → tz D (σ.set s (some (.ref l))) H') :
    tSeq (tAsg (tLc (iList K tl) (gName j) tYes (tCall (spEmit K) [] E (tCons (tVar 0) (tCons (tVar 1) (tCons (tVar j) tNil)))) vs) (gName s)) tz D σ H := by
  have := tl_emits (K := K) (E := E) (Q := fun x H1 => tz D (σ.set s (some x)) H1) ht hg p hts hw h0 h1 hj q
  exact this
/-- an E is written -/
theorem c_putE {E : XK} {Q : VK} {d a wa rl : Addr} {ns : List Int} {rows : List (List Nat)} {ts : List Tk} {ev : V} {dE : PyData} {h c b L : Nat} (ht : EvA tr σ H [.ref d, .ref wa, ev, .int (L : Int)]) (p : PenA K H d a wa rl ns rows ts) (hts : ts.length + c ≤ 90) (hT : Td H ev dE) (r : RawD h c b dE) (hL : L ≤ 7)
    (q : ∀ v H2 us due, ExB wa H H2 → PenA K H2 d a wa rl ns rows (ts ++ us) → us.length ≤ c → (∀ m, b ≤ m → Put L m us due) → Td H2 v due → Shp (2 * h + 1) due → Q v H2) : tCall (spPutE K h) [] E tr σ H Q := ht H (Ex.refl H) _ fun H1 e1 =>
  ⟨d, a, wa, rl, ns, rows, ts, ev, dE, c, b, L, List.append_nil _, p.ex e1, hts, Td.tx (Tx.of e1) _ _ hT, r, hL, fun v H2 us due eB => q v H2 us due ((ExB.of e1).trans eB)⟩
/-- a word that is laid as a statement -/
theorem q_emit {E : XK} {d a wa rl : Addr} {ns : List Int} {rows : List (List Nat)} {ts : List Tk} {k wd : List Nat} (p : PenA K H d a wa rl ns rows ts) (hts : ts.length ≤ 99) (g : Good k wd) (h : EvA tr σ H [.ref d, .ref wa, .str (S wd)])
    (q : ∀ H2 t, ExB wa H H2 → PenA K H2 d a wa rl ns rows (ts ++ [t]) → t.1 = k → t.2.1 = wd → tz D σ H2) : tSeq (tDrop (tCall (spEmit K) [] E tr)) tz D σ H := by
  have := e_emit (E := E) (Q := fun x H1 => tz D σ H1) p hts g h fun pl H2 t a _ b c d _ => q H2 t a b c d
  exact this
theorem s_emit {E : XK} {d a wa rl : Addr} {ns : List Int} {rows : List (List Nat)} {ts : List Tk} {k wd : List Nat} (p : PenA K H d a wa rl ns rows ts) (hts : ts.length ≤ 99) (g : Good k wd) (h : EvA tr σ H [.ref d, .ref wa, .str (S wd)])
    (q : ∀ H2 t, ExB wa H H2 → PenA K H2 d a wa rl ns rows (ts ++ [t]) → t.1 = k → t.2.1 = wd → D.nx σ H2) : tDrop (tCall (spEmit K) [] E tr) D σ H := by
  have := e_emit (E := E) (Q := fun x H1 => D.nx σ H1) p hts g h fun pl H2 t a _ b c d _ => q H2 t a b c d
  exact this
end
def pathKw (f n : List Nat) : List (List Nat × List Nat) := if f = [] then [(kName, n)] else [(kName, f), (kSign, [46]), (kName, n)]
theorem path_of {f n : List Nat} (gf : f = [] ∨ Good kName f) (gn : Good kName n) {us : List Tk} (h : us.map kwOf = pathKw f n) : ∃ t r, us = t :: r ∧ PathW us (tkP t) f n := by
  unfold pathKw at h
  by_cases hf : f = []
  · rw [if_pos hf] at h
    cases us with
    | nil => cases h
    | cons t r =>
      rw [List.map_cons] at h
      injection h with h1 h2
      cases r with
      | cons x r => cases h2
      | nil =>
        have h3 : t.1 = kName := congrArg Prod.fst h1
        have h4 : t.2.1 = n := congrArg Prod.snd h1
        refine ⟨t, [], rfl, ?_⟩
        rw [hf, ← h4]
        exact .one h3 (by rw [h4]; exact good_spec gn)
  · rw [if_neg hf] at h
    have gf := gf.resolve_left hf
    rcases us with _ | ⟨t, _ | ⟨u, _ | ⟨v, _ | ⟨x, r⟩⟩⟩⟩
    · simp at h
    · simp at h
    · simp at h
    · simp only [List.map_cons, List.map_nil, List.cons.injEq, and_true] at h
      obtain ⟨h1, h2, h3⟩ := h
      have a1 : t.1 = kName := congrArg Prod.fst h1
      have a2 : t.2.1 = f := congrArg Prod.snd h1
      have b2 : u.2.1 = [46] := congrArg Prod.snd h2
      have c1 : v.1 = kName := congrArg Prod.fst h3
      have c2 : v.2.1 = n := congrArg Prod.snd h3
      refine ⟨t, [u, v], rfl, ?_⟩
      rw [← a2, ← c2]
      exact .two a1 (by rw [a2]; exact good_spec gf) b2 c1 (by rw [c2]; exact good_spec gn)
    · simp at h
theorem pathKw_good {f n : List Nat} (gf : f = [] ∨ Good kName f) (gn : Good kName n) : ∀ x ∈ pathKw f n, Good x.1 x.2 := by
  unfold pathKw
  by_cases hf : f = []
  · rw [if_pos hf]
    intro x hx
    rw [List.mem_singleton.mp hx]
    exact gn
  · rw [if_neg hf]
    have gf := gf.resolve_left hf
    intro x hx
    simp only [List.mem_cons, List.not_mem_nil, or_false] at hx
    rcases hx with rfl | rfl | rfl
    · exact gf
    · exact .sign (by decide)
    · exact gn
theorem pathKw_len (f n : List Nat) : (pathKw f n).length ≤ 3 := by
  unfold pathKw
  split <;> simp
theorem lits_put : Str.ofString "name" = S kName ∧ Str.ofString "call" = S oCall ∧ Str.ofString "." = S [46] ∧ Str.ofString "(" = S [40] ∧ Str.ofString ")" = S [41] ∧ Str.ofString "," = S [44] ∧ Str.ofString "num" = S kNum ∧ Str.ofString "truth" = S oTruth ∧ Str.ofString "not" = S oNot ∧ Str.ofString "neg" = S oNeg ∧ Str.ofString "-" = S [45] ∧ Str.ofString "yes" = S oYes ∧ Str.ofString "no" = S oNo := by
  refine ⟨?_, ?_, ?_, ?_, ?_, ?_, ?_, ?_, ?_, ?_, ?_, ?_, ?_⟩ <;> decide +kernel
theorem sign_par : Good kSign [40] ∧ Good kSign [41] ∧ Good kSign [44] ∧ Good kSign [45] := ⟨.sign (by decide), .sign (by decide), .sign (by decide), .sign (by decide)⟩
section
variable {P : Program} {w : World} {K : PySem.W.Frag} {mg : Str → Option Value} {base : Heap}
abbrev s__law_put_name : Stmt := topS 48
theorem sc__law_put_name : FnScope ["_law_d", "_law_w", "_law_e_here", "_law_words", "_law_places", "_law_some", "_law_other", "_law_word"] ["_law_d", "_law_w", "_law_e_here"] (fnScope s__law_put_name) := fnScope_by (by decide +kernel)
theorem ok_put_name (T : ModsL K mg) {k h : Nat} (hk : 2 ≤ k) (hh : h ≤ 20) (c__law_emit : Cal P w K mg base 2 "_law_emit" (spEmit K) []) (c__law_put_e : Cal P w K mg base k "_law_put_e" (spPutE K h) []) {f : Addr} {fd : FuncData} (F : Def K mg "_law_put_name" s__law_put_name f fd) (b : Binds K fd ["_law_d", "_law_w", "_law_e_here"] []) : Cal P w K mg base (k + 1) "_law_put_name" (spPutN K h) [] := by
  refine cal0 F b .nil sc__law_put_name (fun vs H Q E h => ?_) (fun cdv A outer s H vs Q E hr h => ?_)
  · obtain ⟨_, _, _, _, _, _, _, _, _, _, _, _, rfl, _⟩ := h
    rfl
  · obtain ⟨d, a, wa, rl, ns, rows, ts, ev, kd, xs, c, b, rfl, pen, hts, hTd, hraw, hkd, q⟩ := h
    have m_int := T.m_int
    have m_tuple := T.m_tuple
    have hu64 := hr.units
    have hu := hu_of hr
    obtain ⟨z1, z2, z3, z4, z5, z6, _⟩ := lits_put
    obtain ⟨g1, g2, g3, g4⟩ := sign_par
    refine ⟨_, (pss_cons (ps_set (i := 3) sc__law_put_name.nd rfl (.inl rfl) (pe_ifExp (pt_cmpR op_eq (pe_ix ix_tup (pv 2) pe_int (fun _ _ => rfl)) pe_str (nomark _)) (pe_lst (pa_cons (pe_ix ix_tup (pv 2) pe_int (fun _ _ => rfl)) pa_nil)) (pe_lst (pa_cons (pe_ix ix_tup (pv 2) pe_int (fun _ _ => rfl)) (pa_cons pe_str (pa_cons (pe_ix ix_tup (pv 2) pe_int (fun _ _ => rfl)) pa_nil))))))
      (pss_cons (ps_setLc (i := 4) (own := [("_law_word", 7)]) (g := (gName 7)) (tt := tYes) rfl sc__law_put_name.nd rfl rfl (sw_true rfl rfl rfl (by decide +kernel)) (pi_list (pe_op op_cat (pv 3) (pe_op op_rep (pe_lst (pa_cons pe_str pa_nil)) (pe_callTy call_int1 (by rfl) m_int Wt.bt_int (pa_cons (pe_cmpR op_eq (pe_ix ix_tup (pv 2) pe_int (fun _ _ => rfl)) pe_str (nomark _)) pa_nil))))) (blkOk_by (N := ["_law_d", "_law_w", "_law_e_here", "_law_words", "_law_places", "_law_some", "_law_other", "_law_word"]) (sc := C8.fnScope s__law_put_name) (by decide +kernel)) (fun _ _ _ _ _ => pg_name (i := 7) sc__law_put_name.nd rfl (Or.inl rfl)) (fun _ _ _ _ _ => pts_nil) (fun _ _ _ _ _ => (C8.pe_c c__law_emit hr (by first | decide | exact Nat.le_refl _ | omega) (by rfl) (pa_cons (pv 0) (pa_cons (pv 1) (pa_cons (pv 7) pa_nil))))))
      (pss_cons (ps_if (pt_cmpR op_eq (pe_ix ix_tup (pv 2) pe_int (fun _ _ => rfl)) pe_str (nomark _)) (pss_one (ps_ret (pe_op op_catA (pe_tup (pa_cons (pe_ix ix_tup (pv 2) pe_int (fun _ _ => rfl)) (pa_cons (pe_ix ix_list (pv 4) pe_int (fun _ _ => rfl)) pa_nil))) (pe_slice sl_tupA (pv 2) (po_some pe_int) po_none)))) pss_nil)
      (pss_cons (ps_set (i := 5) sc__law_put_name.nd rfl (.inl rfl) (pe_lst pa_nil))
      (pss_cons (ps_for PassesOwn.never rfl (pi_tup (pe_ix ix_tup (pv 2) pe_int (fun _ _ => rfl))) (pg_name (i := 6) sc__law_put_name.nd rfl (.inl rfl)) (pss_cons (ps_if (pt_cmpR (op_neD hu64) (pv 5) (pe_lst pa_nil) (nomark _)) (pss_one (ps_expr (C8.pe_c c__law_emit hr (by first | decide | exact Nat.le_refl _ | omega) (by rfl) (pa_cons (pv 0) (pa_cons (pv 1) (pa_cons pe_str pa_nil)))))) pss_nil)
      (pss_one (ps_expr (pe_bm PySem.F.plainAttrs_list PySem.F.slot_list_append PySem.F.type_list_append mt_append (pv 5) (pa_cons (C8.pe_c c__law_put_e hr (by first | decide | exact Nat.le_refl _ | omega) (by rfl) (pa_cons (pv 0) (pa_cons (pv 1) (pa_cons (pv 6) (pa_cons pe_int pa_nil))))) pa_nil))))))
      (pss_cons (ps_expr (C8.pe_c c__law_emit hr (by first | decide | exact Nat.le_refl _ | omega) (by rfl) (pa_cons (pv 0) (pa_cons (pv 1) (pa_cons pe_str pa_nil)))))
      (pss_one (ps_ret (pe_tup (pa_cons (pe_ix ix_tup (pv 2) pe_int (fun _ _ => rfl)) (pa_cons (pe_ix ix_list (pv 4) pe_int (fun _ _ => rfl)) (pa_cons (pe_ix ix_tup (pv 2) pe_int (fun _ _ => rfl)) (pa_cons (pe_ix ix_tup (pv 2) pe_int (fun _ _ => rfl)) (pa_cons (pe_callTy call_tuple_of (by rfl) m_tuple Wt.bt_tuple (pa_cons (pv 5) pa_nil)) pa_nil)))))))))))))), ?_⟩
    -- f, n
    obtain ⟨fl, nm, gf, gn, i2, i3, hc5⟩ : ∃ fl nm, (fl = [] ∨ Good kName fl) ∧ Good kName nm ∧ (.str (S kd) :: .none :: xs : List PyData)[2]? = some (.str (S fl)) ∧ (.str (S kd) :: .none :: xs : List PyData)[3]? = some (.str (S nm)) ∧ 5 ≤ c := by
      generalize hx : rNode kd xs = x at hraw
      cases hraw with
      | @name _ _ _ f n gf gn hc hb =>
        cases hx
        exact ⟨f, n, gf, gn, rfl, rfl, hc⟩
      | @call _ _ _ _ _ f n ds gf gn a hc hb =>
        cases hx
        exact ⟨f, n, gf, gn, rfl, rfl, by omega⟩
      | num | tru | neg | not =>
        cases hx
        rcases hkd with e | e <;> exact absurd e (by decide)
      | bin hs =>
        cases hx
        have : ∀ s ∈ binW, s ≠ kName ∧ s ≠ oCall := by decide
        rcases hkd with e | e
        · exact absurd e (this _ hs).1
        · exact absurd e (this _ hs).2
    have hTd' : Td H ev (.tuple (.str (S kd) :: .none :: xs)) := hTd
    have tdx : ∀ {H' : Hp}, Tx H H' → Td H' ev (.tuple (.str (S kd) :: .none :: xs)) := fun e => Td.tx e _ _ hTd'
    have isCall : ∀ {σ : L2.St} {H' : Hp}, σ[2]? = some (some ev) → Tx H H' → Ev (tOp rEq (tOp (rIxT K) (tVar 2) (tC (.int 0))) (tC (.str (Str.ofString "call")))) σ H' (.bl (decide (kd = oCall))) := fun hs e => ev_eqS (ev_it (i := 0) hs (tdx e) rfl td_s) (es_cl z2)
    -- words
    refine q_asgL (xs := (pathKw fl nm).map (·.2) |>.map fun z => V.str (S z)) (el_if (b := decide (fl = [])) (et_test (ev_eqS (ev_it (i := 2) rfl hTd' i2 td_s) (es_cl (show Str.ofString "" = S [] from lit0)))) (fun hb => ?_) (fun hb => ?_)) fun lw H1 hlw0 e1 hlw => ?_
    · unfold pathKw
      rw [if_pos (of_decide_eq_true hb)]
      exact el_lst (ea_cons (ev_it (i := 3) rfl hTd' i3 td_s) ea_nil) (by show 1 ≤ 100000; decide)
    · unfold pathKw
      rw [if_neg (of_decide_eq_false hb)]
      exact el_lst (ea_cons (ev_it (i := 2) rfl hTd' i2 td_s) (ea_cons (es_cl z3) (ea_cons (ev_it (i := 3) rfl hTd' i3 td_s) ea_nil))) (by show 3 ≤ 100000; decide)
    have pen1 := pen.ex e1
    have h3 := pathKw_len fl nm
    -- places
    refine q_emits (kw := pathKw fl nm ++ (if kd = oCall then [(kSign, [40])] else [])) (p := pen1) ?_ ?_ ?_ (fun _ => rfl) (fun _ => rfl) (fun _ => rfl) (fun _ => rfl) fun lp H2 us ps eB2 hlp0 pen2 hus hlp hps => ?_
    · rw [List.map_append]
      refine elt_catV (ev_var rfl) hlw (el_any (elt_rep (k := if kd = oCall then 1 else 0) (elt_lst (eat_cons (es_cl z4) eat_nil) (by show 1 ≤ 100000; decide)) (ev_is (ev_cb (ea_cons (isCall rfl (Tx.of e1)) ea_nil) (fun H1 _ Q q => .inr ⟨_, rfl, q H1 (Ex.refl H1)⟩)) rfl) ?_ ?_ ?_) ?_) ?_
      · by_cases h : kd = oCall
        · rw [if_pos h, decide_eq_true h] <;> rfl
        · rw [if_neg h, decide_eq_false h] <;> rfl
      · split <;> decide
      · split <;> decide
      · by_cases h : kd = oCall
        · rw [if_pos h, if_pos h] <;> rfl
        · rw [if_neg h, if_neg h] <;> rfl
      · rw [List.length_map]
        have : ((if kd = oCall then [(kSign, [40])] else [] : List (List Nat × List Nat)).map (·.2)).length ≤ 1 := by split <;> simp
        omega
    · intro x hx
      rcases List.mem_append.mp hx with hx | hx
      · exact pathKw_good gf gn x hx
      · by_cases h : kd = oCall
        · rw [if_pos h] at hx
          rw [List.mem_singleton.mp hx]
          exact g1
        · rw [if_neg h] at hx
          cases hx
    · rw [List.length_append]
      have : (if kd = oCall then [(kSign, [40])] else [] : List (List Nat × List Nat)).length ≤ 1 := by split <;> simp
      omega
    have tx2 : Tx H H2 := (Tx.of e1).trans (pen1.tx eB2)
    have eB02 : ExB wa H H2 := (ExB.of e1).trans eB2
    -- the path's words
    obtain ⟨us1, us2, rfl, hu1, hu2⟩ : ∃ us1 us2, us = us1 ++ us2 ∧ us1.map kwOf = pathKw fl nm ∧ us2.map kwOf = (if kd = oCall then [(kSign, [40])] else []) := by
      refine ⟨us.take (pathKw fl nm).length, us.drop (pathKw fl nm).length, (List.take_append_drop ..).symm, ?_, ?_⟩
      · rw [List.map_take, hus, List.take_left]
      · rw [List.map_drop, hus, List.drop_left]
    obtain ⟨t0, r0, hu0, hpath⟩ := path_of gf gn hu1
    have p0 : ∀ {σ : L2.St} {H' : Hp}, σ[4]? = some (some (.ref lp)) → H' lp = some (.lst ps) → Tx H2 H' → EvD (tOp (rIxL K) (tVar 4) (tC (.int 0))) σ H' (placeD (tkP t0)) := fun hs hl e => by
      have hps0 : TdAll H2 ps (placeD (tkP t0) :: (r0 ++ us2).map fun t => placeD (tkP t)) := by
        rw [hu0] at hps
        exact hps
      cases hps0 with
      | @cons v vs _ _ g g2 => exact ed_of (ev_op (ev_var hs) ev_c (rv_ixL (sq_of hl) (atI_nat (j := 0) rfl))) (Td.tx e _ _ g)
    -- a name
    refine q_when (b := decide (kd = kName)) (et_test (ev_eqS (ev_it (i := 0) rfl (tdx tx2) rfl td_s) (es_cl z1))) (fun hb H3 e3 => ?_) (fun hb H3 e3 => ?_)
    · have hkn := of_decide_eq_true hb
      generalize hx : rNode kd xs = x at hraw
      cases hraw with
      | @name _ _ _ f n gf2 gn2 hc hb2 =>
        cases hx
        cases i2
        cases i3
        have hus2 : us2 = [] := by
          rw [if_neg (by decide)] at hu2
          exact List.map_eq_nil_iff.mp hu2
        subst hus2
        rw [List.append_nil] at pen2
        have hT3 := tdx (tx2.trans (Tx.of e3))
        refine s_retD (ed_catSl (k := 2) (ead_cons (ed_it (i := 0) rfl hT3 rfl) (ead_cons (p0 rfl (e3 _ _ hlp) (Tx.of e3)) ead_nil)) rfl hT3 (by decide) (by show 2 < 4; decide) (List.cons_ne_nil _ _) (by show 2 ≤ 100; decide) (by show 4 ≤ 100; decide)) fun v H4 e4 hv => ?_
        have hnode : Td H4 v (node kName (tkP t0) [.str (S fl), .str (S nm)]) := hv
        have hlen : us1.length ≤ 3 := by
          have := congrArg List.length hu1
          rw [List.length_map] at this
          omega
        have hfl : fl.all (fun c => decide (c < 128)) = true := by
          rcases gf with z | z
          · rw [z] <;> rfl
          · exact good_low z
        exact q v H4 us1 _ (eB02.trans (ExB.of (e3.trans e4))) (pen2.ex (e3.trans e4)) (by omega) (fun m _ => .name hpath) hnode ((shp_node (k := 1) (Nat.le_refl _) (by decide) (shpA_cons ((shp_str hfl).up (by decide)) (shpA_cons ((shp_str (good_low gn)).up (by decide)) shpA_nil)) (by show 2 ≤ 10; decide)).up (by omega))
      | num | tru | neg | not | call =>
        cases hx
        exact absurd hkn (by decide)
      | bin hs =>
        cases hx
        have : ∀ s ∈ binW, s ≠ kName := by decide
        exact absurd hkn (this _ hs)
    · have hco : kd = oCall := hkd.resolve_left (of_decide_eq_false hb)
      generalize hx : rNode kd xs = x at hraw
      cases hraw with
      | @call _ _ _ c2 b2 f n ds gf2 gn2 a2 hc hb2 =>
        cases hx
        cases i2
        cases i3
        obtain ⟨o, rfl, ho⟩ : ∃ o, us2 = [o] ∧ o.2.1 = [40] := by
          rw [if_pos rfl] at hu2
          rcases us2 with _ | ⟨o, _ | ⟨o2, r⟩⟩
          · simp at hu2
          · simp only [List.map_cons, List.map_nil, List.cons.injEq, and_true] at hu2
            exact ⟨o, rfl, congrArg Prod.snd hu2⟩
          · simp at hu2
        have pen3 := pen2.ex e3
        have hT3 := tdx (tx2.trans (Tx.of e3))
        obtain ⟨ap, as, hap, hap1, hap2⟩ := ev_itT (K := K) (j := 2) (i := 4) hT3 rfl
        -- some = []
        refine q_asgL (el_lst ea_nil (Nat.zero_le _)) fun l H4 hl0 e4 hl => ?_
        have hlrl : l ≠ rl := by
          obtain ⟨row, last, p3⟩ := pen3
          exact (ne_of_none p3.wr.r hl0).symm
        have hlwa : l ≠ wa := by
          obtain ⟨row, last, p3⟩ := pen3
          exact (ne_of_none p3.wr.d hl0).symm
        have hdl := rawAll_len a2
        refine q_forT (fun H5 e5 => hap _ rfl H5 (e4.trans e5)) (st_of (e4 _ _ hap1)) (fun i σ' H' => ∃ us dues xs cr y6, σ' = [some (.ref d), some (.ref wa), some ev, some (.ref lw), some (.ref lp), some (.ref l), y6, none] ∧ ExB wa H3 H' ∧ PenA K H' d a wa rl ns rows (ts ++ (us1 ++ [o]) ++ us) ∧ H' l = some (.lst xs) ∧ TdAll H' xs dues ∧ dues.length = i ∧
          (∀ m, b2 ≤ m → Args m us dues) ∧ RawAll h cr b2 (ds.drop i) ∧ us.length + cr ≤ c2 ∧ ShpA (2 * h + 1) dues) (fun H5 e5 => ⟨[], [], [], c2, none, rfl, ExB.of (e4.trans e5), by rw [List.append_nil]; exact pen3.ex (e4.trans e5), e5 _ _ hl, .nil, rfl, fun _ _ => .nil, a2, by simp, shpA_nil⟩)
          (fun i σ' H' _ ⟨us, dues, xs, cr, y6, _, eB, _⟩ => st_of (pen3.tx eB _ _ hap1)) ?_ ?_
        · rintro i x σ' H5 hx5 ⟨us, dues, xs, cr, y6, rfl, eB5, pen5, hl5, hT5, hdi, hargs, hrA, hcr, hshp⟩
          obtain ⟨di, hdi2, hTx⟩ := hap2.at hx5
          have hdr : ds.drop i = di :: ds.drop (i + 1) := by
            have hlt := (List.getElem?_eq_some_iff.mp hdi2).1
            rw [List.drop_eq_getElem_cons hlt, (List.getElem?_eq_some_iff.mp hdi2).2]
          rw [hdr] at hrA
          cases hrA with
          | @cons _ _ _ c1 c3 _ _ r a3 hc3 =>
            have h4 : us1.length ≤ 3 := by
              have := congrArg List.length hu1
              rw [List.length_map] at this
              omega
            have fin : ∀ (H6 : Hp) (us6 : List Tk), ExB wa H3 H6 → PenA K H6 d a wa rl ns rows (ts ++ (us1 ++ [o]) ++ us6) → H6 l = some (.lst xs) → TdAll H6 xs dues → us6.length ≤ us.length + 1 → (∀ m ts2 d2, b2 ≤ m → Put 0 m ts2 d2 → Args m (us6 ++ ts2) (dues ++ [d2])) →
                ∀ D : Ends, (∀ (σ2 : L2.St) (H7 : Hp), (∃ us dues xs cr y6, σ2 = [some (.ref d), some (.ref wa), some ev, some (.ref lw), some (.ref lp), some (.ref l), y6, none] ∧ ExB wa H3 H7 ∧ PenA K H7 d a wa rl ns rows (ts ++ (us1 ++ [o]) ++ us) ∧ H7 l = some (.lst xs) ∧ TdAll H7 xs dues ∧ dues.length = i + 1 ∧
                  (∀ m, b2 ≤ m → Args m us dues) ∧ RawAll h cr b2 (ds.drop (i + 1)) ∧ us.length + cr ≤ c2 ∧ ShpA (2 * h + 1) dues) → D.nx σ2 H7) →
                tDrop (tBM K "list" rAppend (tVar 5) (tCons (tCall (spPutE K h) [] C8.E0 (tCons (tVar 0) (tCons (tVar 1) (tCons (tVar 6) (tCons (tC (.int 0)) tNil))))) tNil)) D [some (.ref d), some (.ref wa), some ev, some (.ref lw), some (.ref lp), some (.ref l), some x, none] H6 := by
              intro H6 us6 eB6 pen6 hl6 hT6 hlen6 hargs6 D hD
              refine ⟨_, rfl, .inl ⟨rfl, xs, sq_of hl6⟩, ?_⟩
              refine c_putE (L := 0) (ea_cons (ev_var rfl) (ea_cons (ev_var rfl) (ea_cons (ev_var rfl) (ea_cons ev_c ea_nil)))) pen6 ?_ (Td.tx (pen3.tx eB6) _ _ hTx) r (by decide) fun v H8 us8 due eB8 pen8 hl8 hput hv hsh => ?_
              · simp only [List.length_append, List.length_cons, List.length_nil]
                omega
              · have hl8' := pen6.lst eB8 hl6
                have tx8 : Tx H8 (upd H8 l (.lst (xs ++ [v]))) := Tx.lst hl8'
                refine ⟨l, xs, v, rfl, rfl, hl8', sz_lt ?_, hD _ _ ⟨us6 ++ us8, dues ++ [due], xs ++ [v], c3, some x, rfl, ?_, ?_, upd_same, ?_, ?_, fun m hm => hargs6 m us8 due hm (hput m hm), a3, ?_, shpA_app hshp (shpA_cons hsh shpA_nil)⟩⟩
                · rw [hT6.len, hdi]
                  have := (List.getElem?_eq_some_iff.mp hdi2).1
                  omega
                · intro b3 o3 hb3 ho3
                  rw [upd_ne (ne_of_none ho3 hl0)]
                  exact eB8 b3 o3 hb3 (eB6 b3 o3 hb3 ho3)
                · rw [← List.append_assoc]
                  exact pen8.mut hl8' hlrl
                · exact (TdAll.tx ((pen6.tx eB8).trans tx8) _ _ hT6).snoc (Td.tx tx8 _ _ hv)
                · rw [List.length_append, hdi] <;> rfl
                · rw [List.length_append]
                  omega
            have hne : EvT (tTest (tOp (rNeD K) (tVar 5) (tLst tNil))) [some (V.ref d), some (V.ref wa), some ev, some (V.ref lw), some (V.ref lp), some (V.ref l), some x, none] H5 (!decide (dues = [])) := et_test (ev_opL (ev_var rfl) (el_lst ea_nil (Nat.zero_le _)) fun p H6 h6 e6 H7 e7 Q7 q7 => by
              have hi9 := (List.getElem?_eq_some_iff.mp hdi2).1
              have sh := shp_lst hshp (by omega)
              refine ⟨.list dues, .list [], .lst (sq_of ((e6.trans e7) _ _ hl5)) (TdAll.dp _ _ (TdAll.tx (Tx.of (e6.trans e7)) _ _ hT5)), .lst (sq_of (e7 _ _ h6)) .nil, ?_, by decide +kernel, ?_⟩
              · unfold SeqAt.shaped
                rw [sh.ly, decide_eq_true (Nat.le_trans sh.dp (show 2 * h + 1 + 1 ≤ 64 by omega))] <;> rfl
              · have e : PyData.eqv (.list dues) (.list []) = decide (dues = []) := eqvAll_nil dues
                rw [e]
                exact q7 H7 (Ex.refl H7))
            show tSeq _ _ _ [some (V.ref d), some (V.ref wa), some ev, some (V.ref lw), some (V.ref lp), some (V.ref l), some x, none] H5
            refine q_when hne (fun hb2 H6 e6 => ?_) (fun hb2 H6 e6 => ?_)
            · have hn : dues ≠ [] := fun z => by rw [z] at hb2; cases hb2
              refine s_emit (pen5.ex e6) (by simp only [List.length_append, List.length_cons, List.length_nil]; omega) g3 (ea_cons (ev_var rfl) (ea_cons (ev_var rfl) (ea_cons (es_cl z6) ea_nil))) fun H7 t eB7 pen7 k7 w7 => ?_
              refine fin H7 (us ++ [t]) (eB5.trans ((ExB.of e6).trans eB7)) (by rw [← List.append_assoc]; exact pen7) ((pen5.ex e6).lst eB7 (e6 _ _ hl5)) (TdAll.tx ((Tx.of e6).trans ((pen5.ex e6).tx eB7)) _ _ hT5) (by rw [List.length_append] <;> exact Nat.le_refl _) (fun m ts2 d2 hm hp => ?_) _ (fun _ _ h => h)
              have := Args.cons (hargs m hm) hn w7 hp
              rw [show us ++ [t] ++ ts2 = us ++ t :: ts2 by simp]
              exact this
            · have hn : dues = [] := by
                cases hd : dues with
                | nil => rfl
                | cons z zs => rw [hd] at hb2; simp at hb2
              refine fin H6 us (eB5.trans (ExB.of e6)) (pen5.ex e6) (e6 _ _ hl5) (TdAll.tx (Tx.of e6) _ _ hT5) (Nat.le_succ _) (fun m ts2 d2 hm hp => ?_) _ (fun _ _ h => h)
              have h0 := hargs m hm
              rw [hn] at h0 ⊢
              rcases h0.inv with ⟨rfl, _⟩ | ⟨d5, h5, _⟩ | ⟨_, _, _, _, _, _, h5, _⟩
              · exact .one hp
              · cases h5
              · simp at h5
        · rintro σ' H5 ⟨us, dues, xs, cr, y6, rfl, eB5, pen5, hl5, hT5, hdi, hargs, hrA, hcr, hshp⟩
          have h4 : us1.length ≤ 3 := by
            have := congrArg List.length hu1
            rw [List.length_map] at this
            omega
          refine q_emit pen5 (by simp only [List.length_append, List.length_cons, List.length_nil]; omega) g2 (ea_cons (ev_var rfl) (ea_cons (ev_var rfl) (ea_cons (es_cl z5) ea_nil))) fun H6 t eB6 pen6 k6 w6 => ?_
          have eB36 : ExB wa H3 H6 := eB5.trans eB6
          have tx36 := pen3.tx eB36
          have hT6 := Td.tx tx36 _ _ hT3
          refine s_retD (ed_tup (ead_cons (ed_it (i := 0) rfl hT6 rfl) (ead_cons (p0 rfl (pen3.lst eB36 (e3 _ _ hlp)) ((Tx.of e3).trans tx36)) (ead_cons (ed_it (i := 2) rfl hT6 rfl) (ead_cons (ed_it (i := 3) rfl hT6 rfl) (ead_cons (ed_tupleOf (l := l) (by exact ev_var rfl) (pen5.lst eB6 hl5) (TdAll.tx (pen5.tx eB6) _ _ hT5)) ead_nil))))) (by show 5 ≤ 100000; decide)) fun v H7 e7 hv => ?_
          have hnode : Td H7 v (node oCall (tkP t0) [.str (S fl), .str (S nm), .tuple dues]) := hv
          have hfl : fl.all (fun c => decide (c < 128)) = true := by
            rcases gf with z | z
            · rw [z] <;> rfl
            · exact good_low z
          have hal : as.length = ds.length := hap2.len
          have hdu : dues.length ≤ 40000 := by
            rw [hdi, hal]
            omega
          refine q v H7 (us1 ++ o :: (us ++ [t])) _ ((eB02.trans (ExB.of e3)).trans (eB36.trans (ExB.of e7))) ?_ ?_ (fun m hm => ?_) hnode ((shp_node (k := 2 * h + 2) (by omega) (by decide) (shpA_cons ((shp_str hfl).up (by omega)) (shpA_cons ((shp_str (good_low gn)).up (by omega)) (shpA_cons (shp_tup hshp hdu) shpA_nil))) (by show 3 ≤ 10; decide)).up (by omega))
          · have := pen6.ex e7
            rw [show ts ++ (us1 ++ [o]) ++ us ++ [t] = ts ++ (us1 ++ o :: (us ++ [t])) by simp] at this
            exact this
          · simp only [List.length_append, List.length_cons, List.length_nil]
            omega
          · obtain ⟨m2, rfl, hm2⟩ : ∃ m2, m = m2 + 1 ∧ b2 ≤ m2 := ⟨m - 1, by omega, by omega⟩
            exact .call hpath ho w6 (hargs m2 hm2)
      | num | tru | neg | not | name =>
        cases hx
        exact absurd hco (by decide)
      | bin hs =>
        cases hx
        have : ∀ s ∈ binW, s ≠ oCall := by decide
        exact absurd hco (this _ hs)
end
end Wt

set_option Elab.async false
set_option linter.all false
set_option maxRecDepth 100000
set_option maxHeartbeats 4000000
namespace Wt
open PySem PySem.Spec PyProof.Rows L2 SX Evl
open C8 (Def Cal cal0 fnScope_by fnScope)
/-! E are written: all of them. -/
section
variable {K : PySem.W.Frag} {σ : L2.St} {H H' : Hp} {ta tb te tx tl t1 t2 t3 t4 : TE} {tr : TA} {t u : TT} {D : Ends} {tu tw tz : TS}
/-- (a, call, b) -/
theorem s_tup3M {i : Nat} {R : V → Hp → Prop} {d1 d3 : PyData} (h1 : EvD t1 σ H d1) (h2 : ∀ H1, Ex H H1 → ∀ Q : VK, (∀ v H2, R v H2 → Tx H1 H2 → Q v H2) → t2 σ H1 Q) (h3 : ∀ v H2, R v H2 → EvD t3 σ H2 d3)
    (k : ∀ p v H2 H3, R v H2 → Ex H2 H3 → (∀ d2, Td H2 v d2 → Td H3 (.ref p) (.tuple [d1, d2, d3])) → D.nx (σ.set i (some (.ref p))) H3) : tAsg (tTup (tCons t1 (tCons t2 (tCons t3 tNil)))) (gName i) D σ H :=
  h1 H (Ex.refl H) _ fun v1 H1 e1 hv1 => h2 H1 e1 _ fun v2 H2 r tx2 => h3 v2 H2 r H2 (Ex.refl H2) _ fun v3 H3 e3 hv3 => ⟨by show 3 ≤ sizeLine; decide, fun p hp => by
    have en := Ex.new (o := HO.tup [v1, v2, v3]) hp
    exact k p v2 H2 _ r (e3.trans en) fun d2 hd2 => .tup upd_same (.cons (Td.tx ((tx2.trans (Tx.of e3)).trans (Tx.of en)) _ _ hv1) (.cons (Td.tx ((Tx.of e3).trans (Tx.of en)) _ _ hd2) (.cons (Td.tx (Tx.of en) _ _ hv3) .nil)))⟩
/-- (a, b, call) -/
theorem s_tup3L {i : Nat} {R : V → Hp → Prop} {d1 d2 : PyData} (h1 : EvD t1 σ H d1) (h2 : EvD t2 σ H d2) (h3 : ∀ H1, Ex H H1 → ∀ Q : VK, (∀ v H2, R v H2 → Tx H1 H2 → Q v H2) → t3 σ H1 Q)
    (k : ∀ p v H2 H3, R v H2 → Ex H2 H3 → (∀ d3, Td H2 v d3 → Td H3 (.ref p) (.tuple [d1, d2, d3])) → D.nx (σ.set i (some (.ref p))) H3) : tAsg (tTup (tCons t1 (tCons t2 (tCons t3 tNil)))) (gName i) D σ H :=
  h1 H (Ex.refl H) _ fun v1 H1 e1 hv1 => h2 H1 e1 _ fun v2 H2 e2 hv2 => h3 H2 (e1.trans e2) _ fun v3 H3 r tx3 => ⟨by show 3 ≤ sizeLine; decide, fun p hp => by
    have en := Ex.new (o := HO.tup [v1, v2, v3]) hp
    exact k p v3 H3 _ r en fun d3 hd3 => .tup upd_same (.cons (Td.tx (((Tx.of e2).trans tx3).trans (Tx.of en)) _ _ hv1) (.cons (Td.tx (tx3.trans (Tx.of en)) _ _ hv2) (.cons (Td.tx (Tx.of en) _ _ hd3) .nil)))⟩
/-- (a, b, c, call) -/
theorem s_tup4L {i : Nat} {R : V → Hp → Prop} {d1 d2 d3 : PyData} (h1 : EvD t1 σ H d1) (h2 : EvD t2 σ H d2) (h3 : EvD t3 σ H d3) (h4 : ∀ H1, Ex H H1 → ∀ Q : VK, (∀ v H2, R v H2 → Tx H1 H2 → Q v H2) → t4 σ H1 Q)
    (k : ∀ p v H2 H3, R v H2 → Ex H2 H3 → (∀ d4, Td H2 v d4 → Td H3 (.ref p) (.tuple [d1, d2, d3, d4])) → D.nx (σ.set i (some (.ref p))) H3) : tAsg (tTup (tCons t1 (tCons t2 (tCons t3 (tCons t4 tNil))))) (gName i) D σ H :=
  h1 H (Ex.refl H) _ fun v1 H1 e1 hv1 => h2 H1 e1 _ fun v2 H2 e2 hv2 => h3 H2 (e1.trans e2) _ fun v3 H3 e3 hv3 => h4 H3 ((e1.trans e2).trans e3) _ fun v4 H4 r tx4 => ⟨by show 4 ≤ sizeLine; decide, fun p hp => by
    have en := Ex.new (o := HO.tup [v1, v2, v3, v4]) hp
    exact k p v4 H4 _ r en fun d4 hd4 => .tup upd_same (.cons (Td.tx (((Tx.of (e2.trans e3)).trans tx4).trans (Tx.of en)) _ _ hv1) (.cons (Td.tx (((Tx.of e3).trans tx4).trans (Tx.of en)) _ _ hv2) (.cons (Td.tx (tx4.trans (Tx.of en)) _ _ hv3) (.cons (Td.tx (Tx.of en) _ _ hd4) .nil))))⟩
theorem en_orV {x : Bool} (h1 : Ev ta σ H (.bl x)) (h2 : EvN tb σ H (fun v => ∃ b, v = .bl b)) : EvN (tOrV ta tb) σ H (fun v => ∃ b, v = .bl b ∧ (x = true → b = true)) := fun H1 e Q q => h1 H1 e _ fun H2 e2 => ⟨x, rfl, by
  cases x with
  | true =>
    show Q (.bl true) H2
    exact q _ H2 ⟨true, rfl, fun _ => rfl⟩ e2
  | false =>
    show tb σ H2 Q
    exact h2 H2 (e.trans e2) Q fun v H3 ⟨b, hb⟩ e3 => q v H3 ⟨b, hb, fun z => by cases z⟩ (e2.trans e3)⟩
theorem q_asgEmit {E : XK} {i : Nat} {d a wa rl : Addr} {ns : List Int} {rows : List (List Nat)} {ts : List Tk} {k wd : List Nat} (p : PenA K H d a wa rl ns rows ts) (hts : ts.length ≤ 99) (g : Good k wd) (h : EvA tr σ H [.ref d, .ref wa, .str (S wd)])
    (q : ∀ pl H2 t, ExB wa H H2 → PenA K H2 d a wa rl ns rows (ts ++ [t]) → t.1 = k → t.2.1 = wd → Td H2 (.ref pl) (placeD (tkP t)) → tz D (σ.set i (some (.ref pl))) H2) : tSeq (tAsg (tCall (spEmit K) [] E tr) (gName i)) tz D σ H := by
  have := e_emit (E := E) (Q := fun x H1 => tz D (σ.set i (some x)) H1) p hts g h fun pl H2 t a _ b c d e => q pl H2 t a b c d e
  exact this
theorem q_asgPutE {E : XK} {i : Nat} {d a wa rl : Addr} {ns : List Int} {rows : List (List Nat)} {ts : List Tk} {ev : V} {dE : PyData} {h c b L : Nat} (ht : EvA tr σ H [.ref d, .ref wa, ev, .int (L : Int)]) (p : PenA K H d a wa rl ns rows ts) (hts : ts.length + c ≤ 90) (hT : Td H ev dE) (r : RawD h c b dE) (hL : L ≤ 7)
    (q : ∀ v H2 us due, ExB wa H H2 → PenA K H2 d a wa rl ns rows (ts ++ us) → us.length ≤ c → (∀ m, b ≤ m → Put L m us due) → Td H2 v due → Shp (2 * h + 1) due → tz D (σ.set i (some v)) H2) : tSeq (tAsg (tCall (spPutE K h) [] E tr) (gName i)) tz D σ H := by
  have := c_putE (E := E) (Q := fun x H1 => tz D (σ.set i (some x)) H1) ht p hts hT r hL q
  exact this
/-- a name, a call -/
theorem s_asgPutN {E : XK} {i : Nat} {d a wa rl : Addr} {ns : List Int} {rows : List (List Nat)} {ts : List Tk} {ev : V} {kd : List Nat} {xs : List PyData} {h c b : Nat} (ht : EvA tr σ H [.ref d, .ref wa, ev]) (p : PenA K H d a wa rl ns rows ts) (hts : ts.length + c ≤ 91) (hT : Td H ev (rNode kd xs)) (r : RawD (h + 1) c b (rNode kd xs)) (hk : kd = kName ∨ kd = oCall)
    (q : ∀ v H2 us due, ExB wa H H2 → PenA K H2 d a wa rl ns rows (ts ++ us) → us.length + 2 ≤ c → (∀ m, b ≤ m + 1 → Core 7 m us due) → Td H2 v due → Shp (2 * h + 3) due → D.nx (σ.set i (some v)) H2) : tAsg (tCall (spPutN K h) [] E tr) (gName i) D σ H := by
  have := ht H (Ex.refl H) (fun vs H1 => spPutN K h (vs ++ []) H1 (fun x H2 => D.nx (σ.set i (some x)) H2) E) fun H1 e1 =>
    ⟨d, a, wa, rl, ns, rows, ts, ev, kd, xs, c, b, List.append_nil _, p.ex e1, hts, Td.tx (Tx.of e1) _ _ hT, r, hk, fun v H2 us due eB => q v H2 us due ((ExB.of e1).trans eB)⟩
  exact this
/-- e[i], whatever it is -/
theorem ea_it {j i : Nat} {ev : V} {ds : List PyData} {d : PyData} (h : Td H ev (.tuple ds)) (hi : ds[i]? = some d) : ∃ w, Td H w d ∧ ∀ σ : L2.St, σ[j]? = some (some ev) → Ev (tOp (rIxT K) (tVar j) (tC (.int (i : Int)))) σ H w := by
  cases h with
  | tup h1 h2 =>
    obtain ⟨w, hw, hT⟩ := td_get h2 hi
    exact ⟨w, hT, fun σ hj => ev_op (ev_var hj) ev_c (rv_ixT (st_of h1) (atI_nat hw))⟩
end
theorem raw_head {h c b : Nat} {dE : PyData} (r : RawD h c b dE) : ∃ kd xs, dE = rNode kd xs ∧ kd ∈ headW := by
  cases r with
  | num => exact ⟨_, _, rfl, by decide⟩
  | tru => exact ⟨_, _, rfl, by decide⟩
  | name => exact ⟨_, _, rfl, by decide⟩
  | call => exact ⟨_, _, rfl, by decide⟩
  | neg => exact ⟨_, _, rfl, by decide⟩
  | not => exact ⟨_, _, rfl, by decide⟩
  | bin hs => exact ⟨_, _, rfl, List.mem_append_left _ hs⟩
theorem bin_facts : ∀ s ∈ binW, ((lvOf s = 3 ∧ s ∈ sCmp) ∨ (lvOf s ∈ [0, 1, 4, 5] ∧ s ∈ opsAt (lvOf s) ∧ lvOf s ≠ 3)) ∧ (s ∈ owns ∨ s ∈ signs) ∧ lvOf s ≤ 5 ∧ inV (.str (S s)) [.str (Str.ofString "num"), .str (Str.ofString "truth")] = false ∧ inV (.str (S s)) [.str (Str.ofString "name"), .str (Str.ofString "call")] = false ∧ inV (.str (S s)) [.str (Str.ofString "not"), .str (Str.ofString "neg")] = false ∧ s.all (fun c => decide (c < 128)) = true := by decide +kernel
theorem bin_good {s : List Nat} (h : s ∈ binW) : ∃ k, Good k s := by
  rcases (bin_facts s h).2.1 with z | z
  · exact ⟨_, .own z⟩
  · exact ⟨_, .sign z⟩
section
variable {P : Program} {w : World} {K : PySem.W.Frag} {mg : Str → Option Value} {base : Heap}
abbrev s__law_put_e : Stmt := topS 47
theorem sc__law_put_e : FnScope ["_law_d", "_law_w", "_law_e_here", "_law_level_here", "_law_mine", "_law_brackets", "_law_found", "_law_place", "_law_one"] ["_law_d", "_law_w", "_law_e_here", "_law_level_here"] (fnScope s__law_put_e) := fnScope_by (by decide +kernel)
/-- what is found, without the brackets around it -/
def Found (K : PySem.W.Frag) (H : Hp) (d a wa rl : Addr) (ns : List Int) (rows : List (List Nat)) (ts us0 : List Tk) (ev : V) (L : Nat) (kd : List Nat) (br : Bool) (c b h : Nat) (σ' : L2.St) (H' : Hp) : Prop := ∃ us due v y7 y8, σ' = [some (.ref d), some (.ref wa), some ev, some (.int (L : Int)), some (.int (lvOf kd : Nat)), some (.bl br), some v, y7, y8] ∧
  ExB wa H H' ∧ PenA K H' d a wa rl ns rows (ts ++ us0 ++ us) ∧ us.length + 2 ≤ c ∧ (∀ m, b ≤ m + 1 → Core (lvOf kd) m us due) ∧ Td H' v due ∧ Shp (2 * (h + 1) + 1) due
theorem ok_put_e1 (T : ModsL K mg) {k h : Nat} (hk : 2 ≤ k) (hh : h ≤ 20) (c__law_next : Cal P w K mg base 1 "_law_next" (spNext K) []) (c__law_level : Cal P w K mg base 1 "_law_level" spLevel []) (c__law_emit : Cal P w K mg base 2 "_law_emit" (spEmit K) []) (c__law_put_e : Cal P w K mg base k "_law_put_e" (spPutE K h) []) (c__law_put_name : Cal P w K mg base (k + 1) "_law_put_name" (spPutN K h) [])
    {f : Addr} {fd : FuncData} (F : Def K mg "_law_put_e" s__law_put_e f fd) (b : Binds K fd ["_law_d", "_law_w", "_law_e_here", "_law_level_here"] []) : Cal P w K mg base (k + 2) "_law_put_e" (spPutE K (h + 1)) [] := by
  refine cal0 F b .nil sc__law_put_e (fun vs H Q E h => ?_) (fun cdv A outer s H vs Q E hr h => ?_)
  · obtain ⟨_, _, _, _, _, _, _, _, _, _, _, _, rfl, _⟩ := h
    rfl
  · obtain ⟨d, a, wa, rl, ns, rows, ts, ev, dE, c, b, L, rfl, pen, hts, hTd, hraw, hL, q⟩ := h
    have m_str := T.m_str
    have m_int := T.m_int
    have hu64 := hr.units
    have hu := hu_of hr
    obtain ⟨z1, z2, z3, z4, z5, z6, z7, z8, z9, z10, z11, z12, z13⟩ := lits_put
    obtain ⟨g1, g2, g3, g4⟩ := sign_par
    refine ⟨_, (pss_cons (ps_set (i := 4) sc__law_put_e.nd rfl (.inl rfl) (C8.pe_c c__law_level hr (by first | decide | exact Nat.le_refl _ | omega) (by rfl) (pa_cons (pe_ix ix_tup (pv 2) pe_int (fun _ _ => rfl)) pa_nil)))
      (pss_cons (ps_set (i := 5) sc__law_put_e.nd rfl (.inl rfl) (pe_or (pe_cmpR op_lt (pv 4) (pv 3) (nomark _)) (pe_one (pe_cmpR op_eq (C8.pe_c c__law_next hr (by first | decide | exact Nat.le_refl _ | omega) (by rfl) (pa_cons (pv 0) (pa_cons pe_int pa_nil))) pe_int (nomark _)))))
      (Evl.pss_cut (ps_if (pt_val (pv 5)) (pss_one (ps_expr (C8.pe_c c__law_emit hr (by first | decide | exact Nat.le_refl _ | omega) (by rfl) (pa_cons (pv 0) (pa_cons (pv 1) (pa_cons pe_str pa_nil)))))) pss_nil)
      (Evl.pss_cut (ps_if (pt_cmpR op_in_seq (pe_ix ix_tup (pv 2) pe_int (fun _ _ => rfl)) (pe_tup (pa_cons pe_str (pa_cons pe_str pa_nil))) (by with_unfolding_all rfl)) (pss_one (ps_set (i := 6) sc__law_put_e.nd rfl (.inl rfl) (pe_tup (pa_cons (pe_ix ix_tup (pv 2) pe_int (fun _ _ => rfl)) (pa_cons (C8.pe_c c__law_emit hr (by first | decide | exact Nat.le_refl _ | omega) (by rfl) (pa_cons (pv 0) (pa_cons (pv 1) (pa_cons (pe_ifExp (pt_cmpR op_eq (pe_ix ix_tup (pv 2) pe_int (fun _ _ => rfl)) pe_str (nomark _)) (pe_callTy call_str_int (by rfl) m_str Wt.bt_str (pa_cons (pe_ix ix_tup (pv 2) pe_int (fun _ _ => rfl)) pa_nil)) (pe_ifExp (pt_val (pe_ix ix_tup (pv 2) pe_int (fun _ _ => rfl))) pe_str pe_str)) pa_nil)))) (pa_cons (pe_ix ix_tup (pv 2) pe_int (fun _ _ => rfl)) pa_nil)))))) (pss_one (ps_if (pt_cmpR op_in_seq (pe_ix ix_tup (pv 2) pe_int (fun _ _ => rfl)) (pe_tup (pa_cons pe_str (pa_cons pe_str pa_nil))) (by with_unfolding_all rfl)) (pss_one (ps_set (i := 6) sc__law_put_e.nd rfl (.inl rfl) (C8.pe_c c__law_put_name hr (by first | decide | exact Nat.le_refl _ | omega) (by rfl) (pa_cons (pv 0) (pa_cons (pv 1) (pa_cons (pv 2) pa_nil)))))) (pss_one (ps_if (pt_cmpR op_in_seq (pe_ix ix_tup (pv 2) pe_int (fun _ _ => rfl)) (pe_tup (pa_cons pe_str (pa_cons pe_str pa_nil))) (by with_unfolding_all rfl)) (pss_cons (ps_set (i := 7) sc__law_put_e.nd rfl (.inl rfl) (C8.pe_c c__law_emit hr (by first | decide | exact Nat.le_refl _ | omega) (by rfl) (pa_cons (pv 0) (pa_cons (pv 1) (pa_cons (pe_ifExp (pt_cmpR op_eq (pe_ix ix_tup (pv 2) pe_int (fun _ _ => rfl)) pe_str (nomark _)) pe_str pe_str) pa_nil)))))
      (pss_one (ps_set (i := 6) sc__law_put_e.nd rfl (.inl rfl) (pe_tup (pa_cons (pe_ix ix_tup (pv 2) pe_int (fun _ _ => rfl)) (pa_cons (pv 7) (pa_cons (C8.pe_c c__law_put_e hr (by first | decide | exact Nat.le_refl _ | omega) (by rfl) (pa_cons (pv 0) (pa_cons (pv 1) (pa_cons (pe_ix ix_tup (pv 2) pe_int (fun _ _ => rfl)) (pa_cons (pv 4) pa_nil))))) pa_nil))))))) (pss_cons (ps_set (i := 8) sc__law_put_e.nd rfl (.inl rfl) (C8.pe_c c__law_put_e hr (by first | decide | exact Nat.le_refl _ | omega) (by rfl) (pa_cons (pv 0) (pa_cons (pv 1) (pa_cons (pe_ix ix_tup (pv 2) pe_int (fun _ _ => rfl)) (pa_cons (pe_op op_add (pv 4) (pe_callTy call_int1 (by rfl) m_int Wt.bt_int (pa_cons (pe_cmpR op_eq (pv 4) pe_int (nomark _)) pa_nil))) pa_nil))))))
      (pss_cons (ps_set (i := 7) sc__law_put_e.nd rfl (.inl rfl) (C8.pe_c c__law_emit hr (by first | decide | exact Nat.le_refl _ | omega) (by rfl) (pa_cons (pv 0) (pa_cons (pv 1) (pa_cons (pe_ix ix_tup (pv 2) pe_int (fun _ _ => rfl)) pa_nil)))))
      (pss_one (ps_set (i := 6) sc__law_put_e.nd rfl (.inl rfl) (pe_tup (pa_cons (pe_ix ix_tup (pv 2) pe_int (fun _ _ => rfl)) (pa_cons (pv 7) (pa_cons (pv 8) (pa_cons (C8.pe_c c__law_put_e hr (by first | decide | exact Nat.le_refl _ | omega) (by rfl) (pa_cons (pv 0) (pa_cons (pv 1) (pa_cons (pe_ix ix_tup (pv 2) pe_int (fun _ _ => rfl)) (pa_cons (pe_op op_add (pv 4) pe_int) pa_nil))))) pa_nil))))))))))))))
      (Evl.pss_cut (ps_if (pt_val (pv 5)) (pss_one (ps_expr (C8.pe_c c__law_emit hr (by first | decide | exact Nat.le_refl _ | omega) (by rfl) (pa_cons (pv 0) (pa_cons (pv 1) (pa_cons pe_str pa_nil)))))) pss_nil)
      (pss_one (ps_ret (pv 6)))))))), ?_⟩
    obtain ⟨kd, xs, rfl, hkd⟩ := raw_head hraw
    have hTd' : Td H ev (.tuple (.str (S kd) :: .none :: xs)) := hTd
    have tdx : ∀ {H' : Hp}, Tx H H' → Td H' ev (.tuple (.str (S kd) :: .none :: xs)) := fun e => Td.tx e _ _ hTd'
    -- mine
    refine q_asg (v := .int (lvOf kd : Nat)) (ev_call (ea_cons (ev_it (i := 0) rfl hTd' rfl td_s) ea_nil) (fun H1 _ Q q E => ⟨kd, rfl, hkd, fun H2 e2 => q H2 e2⟩)) fun H1 e1 => ?_
    have pen1 := pen.ex e1
    obtain ⟨row, last, pen1'⟩ := id pen1
    -- brackets
    refine qn_asg (en_orV (ev_op (ev_var rfl) (ev_var rfl) rv_I0) (en_opV (en_next pen1'.dc (ev_var rfl) ev_c) (fun _ _ => EvN.of ev_c) ?_)) fun v H2 hv e2 => ?_
    · rintro x y ⟨z, rfl, _, _⟩ rfl
      exact ⟨_, ⟨_, rfl⟩, rv_eq rfl⟩
    obtain ⟨br, rfl, hbr⟩ := hv
    have pen2 := pen1.ex e2
    have e02 := e1.trans e2
    refine q_cut (M := fun σ' H' => ∃ us0, σ' = [some (.ref d), some (.ref wa), some ev, some (.int (L : Int)), some (.int (lvOf kd : Nat)), some (.bl br), none, none, none] ∧ ExB wa H H' ∧ PenA K H' d a wa rl ns rows (ts ++ us0) ∧ (br = true → ∃ o, us0 = [o] ∧ o.1 = kSign ∧ o.2.1 = [40]) ∧ (br = false → us0 = [])) ?_ ?_
    · refine s_when (b := br) (et_B (ev_var rfl)) (fun hb H3 e3 => ?_) (fun hb H3 e3 => ?_)
      · refine s_emit (pen2.ex e3) (by omega) g1 (ea_cons (ev_var rfl) (ea_cons (ev_var rfl) (ea_cons (es_cl z4) ea_nil))) fun H4 o eB4 pen4 k4 w4 => ?_
        exact ⟨[o], rfl, (ExB.of (e02.trans e3)).trans eB4, pen4, fun _ => ⟨o, rfl, k4, w4⟩, fun z => by rw [hb] at z; cases z⟩
      · exact ⟨[], rfl, ExB.of (e02.trans e3), by rw [List.append_nil]; exact pen2.ex e3, (fun z => by rw [hb] at z; cases z), fun _ => rfl⟩
    rintro σ' H3 ⟨us0, rfl, eB3, pen3, hb1, hb2⟩
    have hl0 : us0.length ≤ 1 := by
      cases br with
      | true =>
        obtain ⟨o, rfl, _⟩ := hb1 rfl
        exact Nat.le_refl _
      | false =>
        rw [hb2 rfl]
        exact Nat.zero_le _
    have tx3 : Tx H H3 := pen.tx eB3
    refine q_cut (M := Found K H d a wa rl ns rows ts us0 ev L kd br c b h) ?_ ?_
    · generalize hx : rNode kd xs = x at hraw
      have tnum : ∀ {σ : L2.St} {H' : Hp}, σ[2]? = some (some ev) → Tx H H' → EvT (tTest (tOp (rIn K false) (tOp (rIxT K) (tVar 2) (tC (.int 0))) (tTup (tCons (tC (.str (Str.ofString "num"))) (tCons (tC (.str (Str.ofString "truth"))) tNil))))) σ H' (inV (.str (S kd)) [.str (Str.ofString "num"), .str (Str.ofString "truth")]) := fun hs e =>
        et_test (ev_inU (ev_it (i := 0) hs (tdx e) rfl td_s) (eu_tup (ea_cons ev_c (ea_cons ev_c ea_nil)) (by show 2 ≤ 100000; decide)) rfl rfl)
      have tname : ∀ {σ : L2.St} {H' : Hp}, σ[2]? = some (some ev) → Tx H H' → EvT (tTest (tOp (rIn K false) (tOp (rIxT K) (tVar 2) (tC (.int 0))) (tTup (tCons (tC (.str (Str.ofString "name"))) (tCons (tC (.str (Str.ofString "call"))) tNil))))) σ H' (inV (.str (S kd)) [.str (Str.ofString "name"), .str (Str.ofString "call")]) := fun hs e =>
        et_test (ev_inU (ev_it (i := 0) hs (tdx e) rfl td_s) (eu_tup (ea_cons ev_c (ea_cons ev_c ea_nil)) (by show 2 ≤ 100000; decide)) rfl rfl)
      have tnot : ∀ {σ : L2.St} {H' : Hp}, σ[2]? = some (some ev) → Tx H H' → EvT (tTest (tOp (rIn K false) (tOp (rIxT K) (tVar 2) (tC (.int 0))) (tTup (tCons (tC (.str (Str.ofString "not"))) (tCons (tC (.str (Str.ofString "neg"))) tNil))))) σ H' (inV (.str (S kd)) [.str (Str.ofString "not"), .str (Str.ofString "neg")]) := fun hs e =>
        et_test (ev_inU (ev_it (i := 0) hs (tdx e) rfl td_s) (eu_tup (ea_cons ev_c (ea_cons ev_c ea_nil)) (by show 2 ≤ 100000; decide)) rfl rfl)
      have leaf : ∀ {wd k : List Nat} {dv : PyData} {D : Ends} {t2 : TE} (H4 : Hp), Ex H3 H4 → kd = kNum ∨ kd = oTruth → Good k wd → 3 ≤ c → xs = [dv] → Shp 0 dv → (∀ H5, Ex H3 H5 → EvS t2 [some (.ref d), some (.ref wa), some ev, some (.int (L : Int)), some (.int (lvOf kd : Nat)), some (.bl br), none, none, none] H5 wd) → (∀ t : Tk, t.1 = k → t.2.1 = wd → ∀ m, Core 7 m [t] (node kd (tkP t) [dv])) →
          (∀ σ' H', Found K H d a wa rl ns rows ts us0 ev L kd br c b h σ' H' → D.nx σ' H') →
          tAsg (tTup (tCons (tOp (rIxT K) (tVar 2) (tC (.int 0))) (tCons (tCall (spEmit K) [] C8.E0 (tCons (tVar 0) (tCons (tVar 1) (tCons t2 tNil)))) (tCons (tOp (rIxT K) (tVar 2) (tC (.int 2))) tNil)))) (gName 6) D [some (.ref d), some (.ref wa), some ev, some (.int (L : Int)), some (.int (lvOf kd : Nat)), some (.bl br), none, none, none] H4 := by
        intro wd k dv D t2 H4 e4 hkk g hc hxs hdv ht2 hcore hD
        subst hxs
        have hlv : lvOf kd = 7 := by
          rcases hkk with rfl | rfl <;> decide
        have hkl : kd.all (fun c => decide (c < 128)) = true := by
          rcases hkk with rfl | rfl <;> decide
        have pen4 := pen3.ex e4
        have tx4 := tx3.trans (Tx.of e4)
        refine s_tup3M (R := fun v H5 => ∃ t, ExB wa H4 H5 ∧ PenA K H5 d a wa rl ns rows (ts ++ us0 ++ [t]) ∧ t.1 = k ∧ t.2.1 = wd ∧ Td H5 v (placeD (tkP t))) (ed_it (i := 0) rfl (tdx tx4) rfl) (fun H5 e5 Q q => ?_) (fun v H5 ⟨t, eB5, _⟩ => ed_it (i := 2) rfl (tdx (tx4.trans (pen4.tx eB5))) rfl) fun p v H5 H6 ⟨t, eB5, pen5, k5, w5, hT5⟩ e6 htd => ?_
        · refine e_emit (pen4.ex e5) (by rw [List.length_append]; omega) g (ea_cons (ev_var rfl) (ea_cons (ev_var rfl) (ea_cons (ht2 H5 (e4.trans e5)) ea_nil))) fun pl H6 t eB6 _ pen6 k6 w6 hT6 => q _ H6 ⟨t, (ExB.of e5).trans eB6, pen6, k6, w6, hT6⟩ ((pen4.ex e5).tx eB6)
        · refine hD _ _ ⟨[t], _, _, _, _, rfl, eB3.trans ((ExB.of e4).trans (eB5.trans (ExB.of e6))), pen5.ex e6, by show 1 + 2 ≤ c; omega, fun m _ => by rw [hlv]; exact hcore t k5 w5 m, htd _ hT5, (shp_node (k := 1) (Nat.le_refl _) hkl (shpA_cons (hdv.up (by decide)) shpA_nil) (by show 1 ≤ 10; decide)).up (by omega)⟩
      have un : ∀ {wd k : List Nat} {dI : PyData} {c2 b2 : Nat} {t2 : TE} (H4 : Hp), Ex H3 H4 → xs = [dI] → kd.all (fun c => decide (c < 128)) = true → RawD h c2 b2 dI → c2 + 3 ≤ c → b2 + 2 ≤ b → Good k wd → lvOf kd ≤ 7 → (∀ H5, Ex H3 H5 → EvS t2 [some (.ref d), some (.ref wa), some ev, some (.int (L : Int)), some (.int (lvOf kd : Nat)), some (.bl br), none, none, none] H5 wd) →
          (∀ t : Tk, t.2.1 = wd → ∀ m us due, Put (lvOf kd) m us due → Core (lvOf kd) (m + 1) (t :: us) (node kd (tkP t) [due])) → ∀ D : Ends, (∀ σ' H', Found K H d a wa rl ns rows ts us0 ev L kd br c b h σ' H' → D.nx σ' H') →
          tSeq (tAsg (tCall (spEmit K) [] C8.E0 (tCons (tVar 0) (tCons (tVar 1) (tCons t2 tNil)))) (gName 7)) (tAsg (tTup (tCons (tOp (rIxT K) (tVar 2) (tC (.int 0))) (tCons (tVar 7) (tCons (tCall (spPutE K h) [] C8.E0 (tCons (tVar 0) (tCons (tVar 1) (tCons (tOp (rIxT K) (tVar 2) (tC (.int 2))) (tCons (tVar 4) tNil))))) tNil)))) (gName 6)) D [some (.ref d), some (.ref wa), some ev, some (.int (L : Int)), some (.int (lvOf kd : Nat)), some (.bl br), none, none, none] H4 := by
        intro wd k dI c2 b2 t2 H4 e4 hxs hkl r hc hb g hlv ht2 hcore D hD
        subst hxs
        have pen4 := pen3.ex e4
        have tx4 := tx3.trans (Tx.of e4)
        refine q_asgEmit pen4 (by rw [List.length_append]; omega) g (ea_cons (ev_var rfl) (ea_cons (ev_var rfl) (ea_cons (ht2 H4 e4) ea_nil))) fun pl H5 t eB5 pen5 k5 w5 hT5 => ?_
        have tx5 := tx4.trans (pen4.tx eB5)
        refine s_tup3L (R := fun v H9 => ∃ usB dueB, ExB wa H5 H9 ∧ PenA K H9 d a wa rl ns rows (ts ++ us0 ++ [t] ++ usB) ∧ usB.length ≤ c2 ∧ (∀ m, b2 ≤ m → Put (lvOf kd) m usB dueB) ∧ Td H9 v dueB ∧ Shp (2 * h + 1) dueB) (ed_it (i := 0) rfl (tdx tx5) rfl) (ed_of (ev_var rfl) hT5) (fun H9 e9 Q q => ?_) fun p v H9 H10 ⟨usB, dueB, eB9, pen9, hlB, hputB, hvB, hshB⟩ e10 htd => ?_
        · obtain ⟨w3, hw3, ew3⟩ := ea_it (K := K) (j := 2) (i := 2) (tdx (tx5.trans (Tx.of e9))) rfl
          refine c_putE (L := lvOf kd) (ea_cons (ev_var rfl) (ea_cons (ev_var rfl) (ea_cons (ew3 _ rfl) (ea_cons (ev_var rfl) ea_nil)))) (pen5.ex e9) (by simp only [List.length_append, List.length_cons, List.length_nil]; omega) hw3 r hlv fun v H10 usB dueB eB10 pen10 hlB hputB hvB hshB => ?_
          exact q v H10 ⟨usB, dueB, (ExB.of e9).trans eB10, pen10, hlB, hputB, hvB, hshB⟩ ((pen5.ex e9).tx eB10)
        · refine hD _ _ ⟨t :: usB, node kd (tkP t) [dueB], .ref p, _, _, rfl, eB3.trans ((ExB.of e4).trans (eB5.trans (eB9.trans (ExB.of e10)))), ?_, by simp only [List.length_cons]; omega, fun m hm => ?_, htd _ hvB, (shp_node (k := 2 * h + 1) (by omega) hkl (shpA_cons hshB shpA_nil) (by show 1 ≤ 10; decide)).up (by omega)⟩
          · have := pen9.ex e10
            rw [show ts ++ us0 ++ [t] ++ usB = ts ++ us0 ++ (t :: usB) by simp] at this
            exact this
          · obtain ⟨m2, rfl, hm2⟩ : ∃ m2, m = m2 + 1 ∧ b2 ≤ m2 := ⟨m - 1, by omega, by omega⟩
            exact hcore t w5 m2 usB dueB (hputB m2 hm2)
      cases hraw with
      | @num _ _ _ n l hc hb =>
        cases hx
        refine s_if (b := true) (et_is (tnum rfl tx3) (by decide +kernel)) (fun _ H4 e4 => ?_) (fun z => by cases z)
        refine leaf H4 e4 (.inl rfl) (numL_good l) hc rfl shp_int (fun H5 e5 => ev_if (b := true) (et_is (et_test (ev_eqS (ev_it (i := 0) rfl (tdx (tx3.trans (Tx.of e5))) rfl td_s) (es_cl z7))) (decide_eq_true rfl)) (fun _ => ?_) (fun z => by cases z)) (fun t k1 w1 m => .num k1 (by rw [w1]; exact num_spec (numL_good l)) (by rw [w1]; exact TL.numL_val n)) fun _ _ h => h
        refine ev_cb (ea_cons (ev_it (i := 2) rfl (tdx (tx3.trans (Tx.of e5))) rfl td_i) ea_nil) fun H1 _ Q q => ⟨(n : Int), rfl, ?_, ?_⟩
        · rw [show ((n : Int)).natAbs = n from Int.natAbs_natCast n]
          by_cases h0 : n = 0
          · subst h0
            decide
          · exact Nat.lt_trans ((Nat.log2_lt h0).mpr (show n < 2 ^ 20 by omega)) (by decide)
        · rw [num_S]
          exact q H1 (Ex.refl H1)
      | @tru _ _ _ x hc hb =>
        cases hx
        refine s_if (b := true) (et_is (tnum rfl tx3) (by decide +kernel)) (fun _ H4 e4 => ?_) (fun z => by cases z)
        refine leaf (wd := if x = true then oYes else oNo) (k := kOwn) H4 e4 (.inr rfl) ?_ hc rfl shp_bool (fun H5 e5 => ev_if (b := false) (et_is (et_test (ev_eqS (ev_it (i := 0) rfl (tdx (tx3.trans (Tx.of e5))) rfl td_s) (es_cl z7))) (decide_eq_false (by decide))) (fun z => by cases z) (fun _ => ev_if (b := x) (et_B (ev_it (i := 2) rfl (tdx (tx3.trans (Tx.of e5))) rfl td_b)) (fun z => ?_) (fun z => ?_))) (fun t k1 w1 m => .tru k1 w1) fun _ _ h => h
        · cases x
          · exact .own (by decide)
          · exact .own (by decide)
        · rw [if_pos z]
          exact es_cl z12
        · rw [if_neg (by rw [z]; exact Bool.false_ne_true)]
          exact es_cl z13
      | @name _ _ _ f n gf gn hc hb =>
        cases hx
        refine s_if (b := false) (et_is (tnum rfl tx3) (by decide +kernel)) (fun z => by cases z) (fun _ H4 e4 => ?_)
        refine s_if (b := true) (et_is (tname rfl (tx3.trans (Tx.of e4))) (by decide +kernel)) (fun _ H5 e5 => ?_) (fun z => by cases z)
        have e35 := e4.trans e5
        exact s_asgPutN (ea_cons (ev_var rfl) (ea_cons (ev_var rfl) (ea_cons (ev_var rfl) ea_nil))) (pen3.ex e35) (by rw [List.length_append]; omega) (tdx (tx3.trans (Tx.of e35))) (.name gf gn hc hb) (.inl rfl) fun v H7 us due eB7 pen7 hl7 hcore hv hsh => ⟨us, due, v, _, _, rfl, eB3.trans ((ExB.of e35).trans eB7), pen7, hl7, hcore, hv, hsh⟩
      | @call _ _ _ c2 b2 f n ds gf gn a2 hc hb =>
        cases hx
        refine s_if (b := false) (et_is (tnum rfl tx3) (by decide +kernel)) (fun z => by cases z) (fun _ H4 e4 => ?_)
        refine s_if (b := true) (et_is (tname rfl (tx3.trans (Tx.of e4))) (by decide +kernel)) (fun _ H5 e5 => ?_) (fun z => by cases z)
        have e35 := e4.trans e5
        exact s_asgPutN (ea_cons (ev_var rfl) (ea_cons (ev_var rfl) (ea_cons (ev_var rfl) ea_nil))) (pen3.ex e35) (by rw [List.length_append]; omega) (tdx (tx3.trans (Tx.of e35))) (.call gf gn a2 hc hb) (.inr rfl) fun v H7 us due eB7 pen7 hl7 hcore hv hsh => ⟨us, due, v, _, _, rfl, eB3.trans ((ExB.of e35).trans eB7), pen7, hl7, hcore, hv, hsh⟩
      | @neg _ _ _ c2 b2 dI r hc hb =>
        cases hx
        refine s_if (b := false) (et_is (tnum rfl tx3) (by decide +kernel)) (fun z => by cases z) (fun _ H4 e4 => ?_)
        refine s_if (b := false) (et_is (tname rfl (tx3.trans (Tx.of e4))) (by decide +kernel)) (fun z => by cases z) (fun _ H5 e5 => ?_)
        refine s_if (b := true) (et_is (tnot rfl (tx3.trans (Tx.of (e4.trans e5)))) (by decide +kernel)) (fun _ H6 e6 => ?_) (fun z => by cases z)
        have e36 := (e4.trans e5).trans e6
        exact un H6 e36 rfl (by decide) r hc hb g4 (by show 6 ≤ 7; decide) (fun H7 e7 => ev_if (b := false) (et_is (et_test (ev_eqS (ev_it (i := 0) rfl (tdx (tx3.trans (Tx.of e7))) rfl td_s) (es_cl z9))) (decide_eq_false (by decide))) (fun z => by cases z) (fun _ => es_cl z11)) (fun t w1 m us due hp => .neg w1 hp) _ fun _ _ h => h
      | @not _ _ _ c2 b2 dI r hc hb =>
        cases hx
        refine s_if (b := false) (et_is (tnum rfl tx3) (by decide +kernel)) (fun z => by cases z) (fun _ H4 e4 => ?_)
        refine s_if (b := false) (et_is (tname rfl (tx3.trans (Tx.of e4))) (by decide +kernel)) (fun z => by cases z) (fun _ H5 e5 => ?_)
        refine s_if (b := true) (et_is (tnot rfl (tx3.trans (Tx.of (e4.trans e5)))) (by decide +kernel)) (fun _ H6 e6 => ?_) (fun z => by cases z)
        have e36 := (e4.trans e5).trans e6
        exact un H6 e36 rfl (by decide) r hc hb (.own (by decide)) (by show 2 ≤ 7; decide) (fun H7 e7 => ev_if (b := true) (et_is (et_test (ev_eqS (ev_it (i := 0) rfl (tdx (tx3.trans (Tx.of e7))) rfl td_s) (es_cl z9))) (decide_eq_true rfl)) (fun _ => es_cl z9) (fun z => by cases z)) (fun t w1 m us due hp => .not w1 hp) _ fun _ _ h => h
      | @bin _ _ _ c1 b1 c2 b2 s dI eI hs r1 r2 hc h1 h2 =>
        cases hx
        obtain ⟨hf1, _, hf5, hf6, hf7, hf8, hf9⟩ := bin_facts kd hs
        obtain ⟨kg, hg⟩ := bin_good hs
        refine s_if (b := false) (et_is (tnum rfl tx3) hf6) (fun z => by cases z) (fun _ H4 e4 => ?_)
        refine s_if (b := false) (et_is (tname rfl (tx3.trans (Tx.of e4))) hf7) (fun z => by cases z) (fun _ H5 e5 => ?_)
        refine s_if (b := false) (et_is (tnot rfl (tx3.trans (Tx.of (e4.trans e5)))) hf8) (fun z => by cases z) (fun _ H6 e6 => ?_)
        have e36 := (e4.trans e5).trans e6
        have pen6 := pen3.ex e36
        have tx6 := tx3.trans (Tx.of e36)
        obtain ⟨w2, hw2, ew2⟩ := ea_it (K := K) (j := 2) (i := 2) (tdx tx6) rfl
        refine q_asgPutE (L := lvOf kd + if lvOf kd = 3 then 1 else 0) (ea_cons (ev_var rfl) (ea_cons (ev_var rfl) (ea_cons (ew2 _ rfl) (ea_cons (ev_is (ev_op (ev_var rfl) (ev_cb (ea_cons (ev_op (ev_var rfl) ev_c (rv_eq rfl)) ea_nil) (fun H1 _ Q q => .inr ⟨_, rfl, q H1 (Ex.refl H1)⟩)) rv_I0) ?_) ea_nil)))) pen6 (by rw [List.length_append]; omega) hw2 r1 (by split <;> omega) fun vA H7 usA dueA eB7 pen7 hlA hputA hvA hshA => ?_
        · by_cases h3 : lvOf kd = 3
          · rw [if_pos h3, h3] <;> rfl
          · rw [if_neg h3, decide_eq_false (fun z => h3 (by have := V.int.inj z; omega))]
            exact congrArg V.int (by simp)
        have tx7 := tx6.trans (pen6.tx eB7)
        refine q_asgEmit pen7 (by simp only [List.length_append]; omega) hg (ea_cons (ev_var rfl) (ea_cons (ev_var rfl) (ea_cons (ev_it (i := 0) rfl (tdx tx7) rfl td_s) ea_nil))) fun pl H8 t eB8 pen8 k8 w8 hT8 => ?_
        have tx8 := tx7.trans (pen7.tx eB8)
        refine s_tup4L (R := fun v H9 => ∃ usB dueB, ExB wa H8 H9 ∧ PenA K H9 d a wa rl ns rows (ts ++ us0 ++ usA ++ [t] ++ usB) ∧ usB.length ≤ c2 ∧ (∀ m, b2 ≤ m → Put (lvOf kd + 1) m usB dueB) ∧ Td H9 v dueB ∧ Shp (2 * h + 1) dueB) (ed_it (i := 0) rfl (tdx tx8) rfl) (ed_of (ev_var rfl) hT8) (ed_of (ev_var rfl) (Td.tx (pen7.tx eB8) _ _ hvA)) (fun H9 e9 Q q => ?_) fun p v H9 H10 ⟨usB, dueB, eB9, pen9, hlB, hputB, hvB, hshB⟩ e10 htd => ?_
        · obtain ⟨w3, hw3, ew3⟩ := ea_it (K := K) (j := 2) (i := 3) (tdx (tx8.trans (Tx.of e9))) rfl
          refine c_putE (L := lvOf kd + 1) (ea_cons (ev_var rfl) (ea_cons (ev_var rfl) (ea_cons (ew3 _ rfl) (ea_cons (ev_op (ev_var rfl) ev_c rv_I0) ea_nil)))) (pen8.ex e9) (by simp only [List.length_append, List.length_cons, List.length_nil]; omega) hw3 r2 (by omega) fun v H10 usB dueB eB10 pen10 hlB hputB hvB hshB => ?_
          exact q v H10 ⟨usB, dueB, (ExB.of e9).trans eB10, pen10, hlB, hputB, hvB, hshB⟩ ((pen8.ex e9).tx eB10)
        · refine ⟨usA ++ t :: usB, node kd (tkP t) [dueA, dueB], .ref p, _, _, rfl, eB3.trans ((ExB.of e36).trans (eB7.trans (eB8.trans (eB9.trans (ExB.of e10))))), ?_, by simp only [List.length_append, List.length_cons]; omega, fun m hm => ?_, htd _ hvB, (shp_node (k := 2 * h + 1) (by omega) hf9 (shpA_cons hshA (shpA_cons hshB shpA_nil)) (by show 2 ≤ 10; decide)).up (by omega)⟩
          · have := pen9.ex e10
            rw [show ts ++ us0 ++ usA ++ [t] ++ usB = ts ++ us0 ++ (usA ++ t :: usB) by simp] at this
            exact this
          · have pA := hputA m (by omega)
            have pB := hputB m (by omega)
            rw [← w8]
            rcases hf1 with ⟨h3, hcmp⟩ | ⟨hin, hop, h3⟩
            · rw [w8, h3]
              rw [if_pos h3, h3] at pA
              rw [h3] at pB
              rw [← w8]
              exact .cmp (by rw [w8]; exact hcmp) pA pB
            · rw [if_neg h3] at pA
              have := Core.left (t := t) hin (by rw [w8]; exact hop) pA pB
              rw [w8] at this ⊢
              exact this
    · rintro σ' H4 ⟨us, due, v, y7, y8, rfl, eB4, pen4, hl4, hcore, hv, hsh⟩
      refine ⟨fun σ' H' => tRet (tVar 6) _ σ' H', ?_, fun _ _ h => h⟩
      refine s_when (b := br) (et_B (ev_var rfl)) (fun hb H5 e5 => ?_) (fun hb H5 e5 => ?_)
      · obtain ⟨o, rfl, ko, ho⟩ := hb1 hb
        refine s_emit (pen4.ex e5) (by simp only [List.length_append, List.length_cons, List.length_nil]; omega) g2 (ea_cons (ev_var rfl) (ea_cons (ev_var rfl) (ea_cons (es_cl z5) ea_nil))) fun H6 t eB6 pen6 k6 w6 => ?_
        refine s_ret (v := v) (ev_var rfl) fun H7 e7 => q v H7 (o :: (us ++ [t])) due ((eB4.trans (ExB.of e5)).trans (eB6.trans (ExB.of e7))) ?_ ?_ (fun m hm => ?_) (Td.tx ((Tx.of e5).trans (((pen4.ex e5).tx eB6).trans (Tx.of e7))) _ _ hv) hsh
        · have := pen6.ex e7
          rw [show ts ++ [o] ++ us ++ [t] = ts ++ (o :: (us ++ [t])) by simp] at this
          exact this
        · simp only [List.length_append, List.length_cons, List.length_nil]
          omega
        · obtain ⟨m2, rfl, hm2⟩ : ∃ m2, m = m2 + 1 ∧ b ≤ m2 + 1 := by
            have hb0 : 1 ≤ b := by
              cases hraw <;> omega
            exact ⟨m - 1, by omega, by omega⟩
          exact .brack ko ho w6 (hcore m2 hm2)
      · have h0 := hb2 hb
        subst h0
        rw [List.append_nil] at pen4
        refine s_ret (v := v) (ev_var rfl) fun H6 e6 => q v H6 us due (eB4.trans (ExB.of (e5.trans e6))) (pen4.ex (e5.trans e6)) (by omega) (fun m hm => .plain (hcore m (by omega)) ?_) (Td.tx (Tx.of (e5.trans e6)) _ _ hv) hsh
        by_cases hlt : lvOf kd < L
        · have := hbr (decide_eq_true (by omega))
          rw [hb] at this
          cases this
        · omega
end
end Wt

set_option Elab.async false
set_option linter.all false
set_option maxRecDepth 100000
set_option maxHeartbeats 4000000
namespace Wt
open PySem PySem.Spec PyProof.Rows L2 SX Evl
open C8 (Def Cal cal0 fnScope_by fnScope)
/-! E are drawn. -/
/-- what names are drawn from: kind, file, name -/
def NameOk (d : PyData) : Prop := ∃ k f n, d = .tuple [.str (S k), .str (S f), .str (S n)] ∧ (f = [] ∨ Good kName f) ∧ Good kName n
/-- what defs are drawn from: file, name, parts' kinds, kind -/
def DefOk (pm : Nat) (d : PyData) : Prop := ∃ f n ps k, d = .tuple [.str (S f), .str (S n), .tuple ps, .str (S k)] ∧ (f = [] ∨ Good kName f) ∧ Good kName n ∧ ps.length ≤ pm ∧ ∀ p ∈ ps, p = .str (S kNum) ∨ p = .str (S oYes)
def lkN : Key := Sum.inr (Str.ofString "names")
def lkD : Key := Sum.inr (Str.ofString "defs")
def lkS : Key := Sum.inr (Str.ofString "signs")
/-- the dict that E are drawn from -/
structure CtxC (H : Hp) (ca : Addr) (pm : Nat) : Prop where
  ex : ∃ (kvs : List (Key × V)) (ln ld ls : Addr) (nv dv : List V) (ns ds : List PyData) (ss : List (List Nat)), H ca = some (.dK kvs) ∧ valV kvs lkN = some (.ref ln) ∧ valV kvs lkD = some (.ref ld) ∧ valV kvs lkS = some (.ref ls) ∧
    H ln = some (.lst nv) ∧ TdAll H nv ns ∧ (∀ d ∈ ns, NameOk d) ∧ ns.length ≤ 900 ∧ H ld = some (.lst dv) ∧ TdAll H dv ds ∧ (∀ d ∈ ds, DefOk pm d) ∧ ds.length ≤ 900 ∧
    H ls = some (.lst (ss.map fun z => V.str (S z))) ∧ ss ≠ [] ∧ ss.length ≤ 900 ∧ ∀ s ∈ ss, s ∈ binW
theorem CtxC.go {H H' : Hp} {ca : Addr} {pm : Nat} (c : CtxC H ca pm) (e : Ex H H') : CtxC H' ca pm := by
  obtain ⟨kvs, ln, ld, ls, nv, dv, ns, ds, ss, h1, h2, h3, h4, h5, h6, h7, h8, h9, h10, h11, h12, h13, h14⟩ := c.ex
  exact ⟨kvs, ln, ld, ls, nv, dv, ns, ds, ss, e _ _ h1, h2, h3, h4, e _ _ h5, TdAll.tx (Tx.of e) _ _ h6, h7, h8, e _ _ h9, TdAll.tx (Tx.of e) _ _ h10, h11, h12, e _ _ h13, h14⟩
/-- so many words at most -/
def cntE (pm : Nat) : Nat → Nat
  | 0 => 5
  | n + 1 => max (2 * cntE pm n + 3) (6 * pm + 7)
theorem cnt_pos (pm : Nat) : ∀ n, 5 ≤ cntE pm n
  | 0 => Nat.le_refl _
  | n + 1 => by
    have := cnt_pos pm n
    unfold cntE
    omega
def spEd (K : PySem.W.Frag) (pm N : Nat) : Sp := fun vs H Q _ => ∃ (d a ca : Addr) (ns : List Int) (k : List Nat) (n : Nat), vs = [.ref d, .str (S k), .ref ca, .int (n : Int)] ∧ n < N ∧ (k = kNum ∨ k = oYes) ∧ Dc K H d a ns ∧ CtxC H ca pm ∧ ∀ v H2 dE, Ex H H2 → Td H2 v dE → RawD (n + 1) (cntE pm n) (2 * n + 1) dE → Q v H2
section
variable {K : PySem.W.Frag} {σ : L2.St} {H H' : Hp} {ta tb te tx tl : TE} {tr : TA} {t u : TT} {R : PyData → Prop}
theorem er_e {E : XK} {pm N n : Nat} {d a ca : Addr} {ns : List Int} {k : List Nat} (h : EvA tr σ H [.ref d, .str (S k), .ref ca, .int (n : Int)]) (hn : n < N) (hk : k = kNum ∨ k = oYes) (hD : Dc K H d a ns) (hC : CtxC H ca pm) : EvR (tCall (spEd K pm N) [] E tr) σ H (RawD (n + 1) (cntE pm n) (2 * n + 1)) := fun H1 e Q q =>
  h H1 e _ fun H2 e2 => ⟨d, a, ca, ns, k, n, rfl, hn, hk, hD.ex (e.trans e2), hC.go (e.trans e2), fun v H3 dE e3 hv r => q v H3 dE r (e2.trans e3) hv⟩
theorem er_pick {E : XK} {d a l : Addr} {ns : List Int} {xs : List V} {ds : List PyData} (hD : Dc K H d a ns) (ha : Ev ta σ H (.ref d)) (hb : Ev tb σ H (.ref l)) (hl : H l = some (.lst xs)) (hT : TdAll H xs ds) (h0 : ds ≠ []) (h1 : ds.length ≤ 1000) : EvR (tCall (spPick K) [] E (tCons ta (tCons tb tNil))) σ H (· ∈ ds) := fun H1 e Q q =>
  en_call (ea_cons ha (ea_cons hb ea_nil)) (sn_pick hD (sq_of hl) (by rw [hT.len]; exact List.length_pos_iff.mpr h0) (by rw [hT.len]; exact h1)) H1 e Q fun v H2 hv e2 => by
    obtain ⟨x, hx, hTx⟩ := td_mem hT hv
    exact q v H2 x hx e2 (Td.tx (Tx.of (e.trans e2)) _ _ hTx)
theorem en_pickLs {E : XK} {d a : Addr} {ns : List Int} {Pt : List (List Nat) → Prop} (hD : Dc K H d a ns) (ha : Ev ta σ H (.ref d)) (hb : EvLs tb σ H Pt) (h0 : ∀ ts, Pt ts → ts ≠ [] ∧ ts.length ≤ 1000) : EvN (tCall (spPick K) [] E (tCons ta (tCons tb tNil))) σ H (fun v => ∃ ts s, Pt ts ∧ s ∈ ts ∧ v = .str (S s)) := fun H1 e Q q =>
  ha H1 e _ fun H2 e2 => hb H2 (e.trans e2) _ fun p H3 ts pt e3 hp => by
    obtain ⟨n0, n1⟩ := h0 ts pt
    refine ⟨d, a, p, ns, _, rfl, hD.ex ((e.trans e2).trans e3), sq_of hp, by rw [List.length_map]; exact List.length_pos_iff.mpr n0, by rw [List.length_map]; exact n1, fun x H4 hx e4 => ?_⟩
    obtain ⟨s, hs, rfl⟩ := List.mem_map.mp hx
    exact q _ H4 ⟨ts, s, pt, hs, rfl⟩ ((e2.trans e3).trans e4)
theorem er_next {E : XK} {d a : Addr} {ns : List Int} {many : Int} {N : Nat} (hD : Dc K H d a ns) (ha : Ev ta σ H (.ref d)) (hb : Ev tb σ H (.int many)) (hN : many = (N : Int)) (m0 : 0 < many := by decide) (m1 : many < 1073741824 := by decide) : EvR (tCall (spNext K) [] E (tCons ta (tCons tb tNil))) σ H (fun x => ∃ n : Nat, n < N ∧ x = .int (n : Int)) :=
  er_N (en_next hD ha hb m0 m1) fun v ⟨z, hz, z0, z1⟩ => by
    subst hz
    obtain ⟨n, rfl⟩ : ∃ n : Nat, z = (n : Int) := ⟨z.toNat, by omega⟩
    exact ⟨_, ⟨n, by omega, rfl⟩, fun _ => .int _⟩
/-- xs != [] of data -/
theorem et_neNil {l : Addr} {xs : List V} {ds : List PyData} (ha : Ev ta σ H (.ref l)) (hl : H l = some (.lst xs)) (hT : TdAll H xs ds) (hs : ShpA 20 ds) (hz : ds.length ≤ 40000) : EvT (tTest (tOp (rNeD K) ta (tLst tNil))) σ H (!decide (ds = [])) := et_test (ev_opL ha (el_lst ea_nil (Nat.zero_le _)) fun p H6 h6 e6 H7 e7 Q7 q7 => by
  have sh := shp_lst hs hz
  refine ⟨.list ds, .list [], .lst (sq_of ((e6.trans e7) _ _ hl)) (TdAll.dp _ _ (TdAll.tx (Tx.of (e6.trans e7)) _ _ hT)), .lst (sq_of (e7 _ _ h6)) .nil, ?_, by decide +kernel, ?_⟩
  · unfold SeqAt.shaped
    rw [sh.ly, decide_eq_true (Nat.le_trans sh.dp (by decide))] <;> rfl
  · have e : PyData.eqv (.list ds) (.list []) = decide (ds = []) := eqvAll_nil ds
    rw [e]
    exact q7 H7 (Ex.refl H7))
end
theorem shpA_all {k : Nat} : ∀ {ds : List PyData}, (∀ d ∈ ds, Shp k d) → ShpA k ds
  | [], _ => shpA_nil
  | d :: ds, h => shpA_cons (h d (List.mem_cons_self ..)) (shpA_all fun x hx => h x (List.mem_cons_of_mem _ hx))
theorem path_low {f : List Nat} (h : f = [] ∨ Good kName f) : f.all (fun c => decide (c < 128)) = true := by
  rcases h with z | z
  · rw [z] <;> rfl
  · exact good_low z
def kindOk (k : List Nat) : Prop := k.all (fun c => decide (c < 128)) = true
def headIs (k : List Nat) : PyData → Bool
  | .tuple (.str x :: _) => decide (V.str x = V.str (S k))
  | _ => false
def lastIs (k : List Nat) : PyData → Bool
  | .tuple [_, _, _, .str x] => decide (V.str x = V.str (S k))
  | _ => false
theorem lits_e : Str.ofString "names" = Str.ofString "names" ∧ Str.ofString "yes" = S oYes ∧ Str.ofString "num" = S kNum ∧ Str.ofString "neg" = S oNeg ∧ Str.ofString "not" = S oNot ∧ Str.ofString "name" = S kName ∧ Str.ofString "call" = S oCall ∧ Str.ofString "truth" = S oTruth := by
  refine ⟨rfl, ?_, ?_, ?_, ?_, ?_, ?_, ?_⟩ <;> decide +kernel
def boolW : List (List Nat) := [oOr, oAnd, [61], [60, 62], [60], [60, 61], [60], [61]]
theorem lit_boolW : [V.str (Str.ofString "or"), V.str (Str.ofString "and"), V.str (Str.ofString "="), V.str (Str.ofString "<>"), V.str (Str.ofString "<"), V.str (Str.ofString "<="), V.str (Str.ofString "<"), V.str (Str.ofString "=")] = boolW.map fun z => V.str (S z) := by decide +kernel
theorem boolW_bin : ∀ s ∈ boolW, s ∈ binW := by decide
theorem num_ne_yes : Str.ofString "num" ≠ Str.ofString "yes" := by decide +kernel
section
variable {P : Program} {w : World} {K : PySem.W.Frag} {mg : Str → Option Value} {base : Heap}
abbrev s__law_e : Stmt := topS 44
theorem sc__law_e : FnScope ["_law_d", "_law_kind", "_law_c", "_law_deep", "_law_one", "_law_names", "_law_defs", "_law_way", "_law_numbers", "_law_sign", "_law_within", "_law_part"] ["_law_d", "_law_kind", "_law_c", "_law_deep"] (fnScope s__law_e) := fnScope_by (by decide +kernel)
theorem ok_e1 (T : ModsL K mg) {k pm N : Nat} (hk : 2 ≤ k) (hpm : pm ≤ 8) (c__law_next : Cal P w K mg base 1 "_law_next" (spNext K) []) (c__law_pick : Cal P w K mg base 2 "_law_pick" (spPick K) []) (c__law_e : Cal P w K mg base k "_law_e" (spEd K pm N) [])
    {f : Addr} {fd : FuncData} (F : Def K mg "_law_e" s__law_e f fd) (b : Binds K fd ["_law_d", "_law_kind", "_law_c", "_law_deep"] []) : Cal P w K mg base (k + 1) "_law_e" (spEd K pm (N + 1)) [] := by
  refine cal0 F b .nil sc__law_e (fun vs H Q E h => ?_) (fun cdv A outer s H vs Q E hr h => ?_)
  · obtain ⟨_, _, _, _, _, _, rfl, _⟩ := h
    rfl
  · obtain ⟨d, a, ca, ns, kd, n, rfl, hn, hkd, hD, hC, q⟩ := h
    have m_tuple := T.m_tuple
    have hu64 := hr.units
    have hu := hu_of hr
    obtain ⟨_, z1, z2, z3, z4, z5, z6, z7⟩ := lits_e
    refine ⟨_, (pss_cons (ps_setLc (i := 5) (own := [("_law_one", 4)]) (g := (gName 4)) rfl sc__law_e.nd rfl rfl (sw_true rfl rfl rfl (by decide +kernel)) (pi_list (pe_dget hu (pv 2) pe_str (fun _ _ => rfl))) (blkOk_by (N := ["_law_d", "_law_kind", "_law_c", "_law_deep", "_law_one", "_law_names", "_law_defs", "_law_way", "_law_numbers", "_law_sign", "_law_within", "_law_part"]) (sc := C8.fnScope s__law_e) (by decide +kernel)) (fun _ _ _ _ _ => pg_name (i := 4) sc__law_e.nd rfl (Or.inl rfl)) (fun _ _ _ _ _ => pts_one (pt_cmpR op_eq (pe_ix (show IxR _ (rIxT K) from ix_tup) (pv 4) pe_int (fun _ _ => rfl)) (pv 1) (nomark _))) (fun _ _ _ _ _ => (pv 4)))
      (pss_cons (ps_setLc (i := 6) (own := [("_law_one", 4)]) (g := (gName 4)) rfl sc__law_e.nd rfl rfl (sw_true rfl rfl rfl (by decide +kernel)) (pi_list (pe_dget hu (pv 2) pe_str (fun _ _ => rfl))) (blkOk_by (N := ["_law_d", "_law_kind", "_law_c", "_law_deep", "_law_one", "_law_names", "_law_defs", "_law_way", "_law_numbers", "_law_sign", "_law_within", "_law_part"]) (sc := C8.fnScope s__law_e) (by decide +kernel)) (fun _ _ _ _ _ => pg_name (i := 4) sc__law_e.nd rfl (Or.inl rfl)) (fun _ _ _ _ _ => pts_one (pt_cmpR op_eq (pe_ix (show IxR _ (rIxT K) from ix_tup) (pv 4) pe_int (fun _ _ => rfl)) (pv 1) (nomark _))) (fun _ _ _ _ _ => (pv 4)))
      (pss_cons (ps_set (i := 7) sc__law_e.nd rfl (.inl rfl) (C8.pe_c c__law_next hr (by first | decide | exact Nat.le_refl _ | omega) (by rfl) (pa_cons (pv 0) (pa_cons pe_int pa_nil))))
      (pss_cons (ps_if (PW.pt (pw_and (pt_cmpR op_lt (pv 7) pe_int (nomark _)) (pw_and1 (pt_cmpR (op_neD hu64) (pv 5) (pe_lst pa_nil) (nomark _))))) (pss_one (ps_ret (pe_op op_catA (pe_tup (pa_cons pe_str (pa_cons pe_non pa_nil))) (pe_slice sl_tupA (C8.pe_c c__law_pick hr (by first | decide | exact Nat.le_refl _ | omega) (by rfl) (pa_cons (pv 0) (pa_cons (pv 5) pa_nil))) (po_some pe_int) po_none)))) pss_nil)
      (pss_cons (ps_if (PW.pt (pw_and (pt_cmpR op_eq (pv 7) pe_int (nomark _)) (pw_and (pt_cmpR op_gt (pv 3) pe_int (nomark _)) (pw_and1 (pt_cmpR (op_neD hu64) (pv 6) (pe_lst pa_nil) (nomark _)))))) (pss_cons (ps_set (i := 4) sc__law_e.nd rfl (.inl rfl) (C8.pe_c c__law_pick hr (by first | decide | exact Nat.le_refl _ | omega) (by rfl) (pa_cons (pv 0) (pa_cons (pv 6) pa_nil))))
      (pss_one (ps_ret (pe_tup (pa_cons pe_str (pa_cons pe_non (pa_cons (pe_ix ix_tup (pv 4) pe_int (fun _ _ => rfl)) (pa_cons (pe_ix ix_tup (pv 4) pe_int (fun _ _ => rfl)) (pa_cons (pe_callTy call_tuple_of (by rfl) m_tuple Wt.bt_tuple (pa_cons (pe_lc (own := [("_law_part", 11)]) (g := (gName 11)) (tt := tYes) rfl sc__law_e.nd (pi_tup (pe_ix ix_tup (pv 4) pe_int (fun _ _ => rfl))) (blkOk_by (N := ["_law_d", "_law_kind", "_law_c", "_law_deep", "_law_one", "_law_names", "_law_defs", "_law_way", "_law_numbers", "_law_sign", "_law_within", "_law_part"]) (sc := C8.fnScope s__law_e) (by decide +kernel)) (fun _ _ _ _ _ => pg_name (i := 11) sc__law_e.nd rfl (Or.inl rfl)) (fun _ _ _ _ _ => pts_nil) (fun _ _ _ _ _ => (C8.pe_c c__law_e hr (by first | decide | exact Nat.le_refl _ | omega) (by rfl) (pa_cons (pv 0) (pa_cons (pv 11) (pa_cons (pv 2) (pa_cons pe_int pa_nil))))))) pa_nil)) pa_nil))))))))) pss_nil)
      (pss_cons (ps_if (PW.pt (pw_or (pt_cmpR op_eq (pv 3) pe_int (nomark _)) (pw_or1 (pt_cmpR op_lt (pv 7) pe_int (nomark _))))) (pss_cons (ps_set (i := 8) sc__law_e.nd rfl (.inl rfl) (pe_lst (pa_cons (C8.pe_c c__law_next hr (by first | decide | exact Nat.le_refl _ | omega) (by rfl) (pa_cons (pv 0) (pa_cons pe_int pa_nil))) (pa_cons (C8.pe_c c__law_next hr (by first | decide | exact Nat.le_refl _ | omega) (by rfl) (pa_cons (pv 0) (pa_cons pe_int pa_nil))) (pa_cons (C8.pe_c c__law_next hr (by first | decide | exact Nat.le_refl _ | omega) (by rfl) (pa_cons (pv 0) (pa_cons pe_int pa_nil))) pa_nil)))))
      (pss_one (ps_ret (pe_ifExp (pt_cmpR op_eq (pv 1) pe_str (nomark _)) (pe_tup (pa_cons pe_str (pa_cons pe_non (pa_cons (C8.pe_c c__law_pick hr (by first | decide | exact Nat.le_refl _ | omega) (by rfl) (pa_cons (pv 0) (pa_cons (pv 8) pa_nil))) pa_nil)))) (pe_tup (pa_cons pe_str (pa_cons pe_non (pa_cons (pe_cmpR op_eq (C8.pe_c c__law_next hr (by first | decide | exact Nat.le_refl _ | omega) (by rfl) (pa_cons (pv 0) (pa_cons pe_int pa_nil))) pe_int (nomark _)) pa_nil)))))))) pss_nil)
      (pss_cons (ps_if (pt_cmpR op_eq (pv 7) pe_int (nomark _)) (pss_one (ps_ret (pe_tup (pa_cons (pe_dget hu (pe_disp (pps_cons pe_str pe_str (pps_cons pe_str pe_str pps_nil)) (by rfl) (by rfl) (by simp) (by decide)) (pv 1) (fun _ _ => rfl)) (pa_cons pe_non (pa_cons (C8.pe_c c__law_e hr (by first | decide | exact Nat.le_refl _ | omega) (by rfl) (pa_cons (pv 0) (pa_cons (pv 1) (pa_cons (pv 2) (pa_cons (pe_op op_sub (pv 3) pe_int) pa_nil))))) pa_nil)))))) pss_nil)
      (pss_cons (ps_set (i := 9) sc__law_e.nd rfl (.inl rfl) (C8.pe_c c__law_pick hr (by first | decide | exact Nat.le_refl _ | omega) (by rfl) (pa_cons (pv 0) (pa_cons (pe_ifExp (pt_cmpR op_eq (pv 1) pe_str (nomark _)) (pe_dget hu (pv 2) pe_str (fun _ _ => rfl)) (pe_lst (pa_cons pe_str (pa_cons pe_str (pa_cons pe_str (pa_cons pe_str (pa_cons pe_str (pa_cons pe_str (pa_cons pe_str (pa_cons pe_str pa_nil)))))))))) pa_nil))))
      (pss_cons (ps_set (i := 10) sc__law_e.nd rfl (.inl rfl) (pe_ifExp (pt_cmpR op_in_seq (pv 9) (pe_tup (pa_cons pe_str (pa_cons pe_str pa_nil))) (by with_unfolding_all rfl)) pe_str (pe_ifExp (pt_cmpR op_in_seq (pv 9) (pe_tup (pa_cons pe_str (pa_cons pe_str pa_nil))) (by with_unfolding_all rfl)) (C8.pe_c c__law_pick hr (by first | decide | exact Nat.le_refl _ | omega) (by rfl) (pa_cons (pv 0) (pa_cons (pe_lst (pa_cons pe_str (pa_cons pe_str pa_nil))) pa_nil))) pe_str)))
      (pss_one (ps_ret (pe_tup (pa_cons (pv 9) (pa_cons pe_non (pa_cons (C8.pe_c c__law_e hr (by first | decide | exact Nat.le_refl _ | omega) (by rfl) (pa_cons (pv 0) (pa_cons (pv 10) (pa_cons (pv 2) (pa_cons (pe_op op_sub (pv 3) pe_int) pa_nil))))) (pa_cons (C8.pe_c c__law_e hr (by first | decide | exact Nat.le_refl _ | omega) (by rfl) (pa_cons (pv 0) (pa_cons (pv 10) (pa_cons (pv 2) (pa_cons (pe_op op_sub (pv 3) pe_int) pa_nil))))) pa_nil)))))))))))))))), ?_⟩
    obtain ⟨kvs, ln, ld, ls, nv, dv, nds, dds, ss, h1, h2, h3, h4, h5, h6, h7, h8, h9, h10, h11, h12, h13, h14, h15, h16⟩ := hC.ex
    -- names
    refine q_asgDL (edl_filter (headIs kd) (ev_dget (ev_var rfl) ev_c h1 h2) h5 h6 (by omega) (fun _ => rfl) (fun _ => rfl) fun x dx H1 e1 hdx hTx => ?_) fun l1 H1 us1 hl10 e1 hl1 hT1 => ?_
    · obtain ⟨k0, f0, n0, rfl, _⟩ := h7 dx hdx
      cases hTx with
      | @tup ap as _ g1 g2 =>
        cases g2 with
        | @cons v vs _ _ g3 g4 =>
          cases g3
          exact et_test (ev_op (ev_op (ev_var rfl) ev_c (rv_ixT (st_of g1) (atI_nat (j := 0) rfl))) (ev_var rfl) (rv_eq rfl))
    -- defs
    refine q_asgDL (edl_filter (lastIs kd) (ev_dget (ev_var rfl) ev_c (e1 _ _ h1) h3) (e1 _ _ h9) (TdAll.tx (Tx.of e1) _ _ h10) (by omega) (fun _ => rfl) (fun _ => rfl) fun x dx H2 e2 hdx hTx => ?_) fun l2 H2 us2 hl20 e2 hl2 hT2 => ?_
    · obtain ⟨f0, n0, ps0, k0, rfl, _⟩ := h11 dx hdx
      cases hTx with
      | @tup ap as _ g1 g2 =>
        cases g2 with
        | cons _ g2 =>
          cases g2 with
          | cons _ g2 =>
            cases g2 with
            | cons _ g2 =>
              cases g2 with
              | @cons v vs _ _ g3 g4 =>
                cases g3
                exact et_test (ev_op (ev_op (ev_var rfl) ev_c (rv_ixT (st_of g1) (atI_nat (j := 3) rfl))) (ev_var rfl) (rv_eq rfl))
    have e02 := e1.trans e2
    have hD2 := hD.ex e02
    -- way
    refine qn_asg (en_next hD2 (ev_var rfl) ev_c) fun v H3 hv e3 => ?_
    obtain ⟨way, rfl, w0, w1⟩ := hv
    have e03 := e02.trans e3
    have hD3 := hD2.ex e3
    have hC3 := hC.go e03
    have hl1' := (e2.trans e3) _ _ hl1
    have hl2' := e3 _ _ hl2
    have hT1' := TdAll.tx (Tx.of (e2.trans e3)) _ _ hT1
    have hT2' := TdAll.tx (Tx.of e3) _ _ hT2
    have f1 := List.length_filter_le (headIs kd) nds
    have f2 := List.length_filter_le (lastIs kd) dds
    have m1 : ∀ x ∈ nds.filter (headIs kd), NameOk x := fun x hx => h7 x (List.mem_filter.mp hx).1
    have m2 : ∀ x ∈ dds.filter (lastIs kd), DefOk pm x := fun x hx => h11 x (List.mem_filter.mp hx).1
    have hkl : kd.all (fun c => decide (c < 128)) = true := by
      rcases hkd with rfl | rfl <;> decide
    have sh1 : ShpA 20 (nds.filter (headIs kd)) := shpA_all fun x hx => by
      have hh := (List.mem_filter.mp hx).2
      obtain ⟨k0, f0, n0, rfl, gf, gn⟩ := m1 x hx
      have hk0 : S k0 = S kd := by
        have := of_decide_eq_true hh
        exact V.str.inj this
      rw [hk0]
      exact (shp_tup (shpA_cons (shp_str hkl) (shpA_cons (shp_str (path_low gf)) (shpA_cons (shp_str (good_low gn)) shpA_nil))) (by show 3 ≤ 40000; decide)).up (by decide)
    have sh2 : ShpA 20 (dds.filter (lastIs kd)) := shpA_all fun x hx => by
      have hh := (List.mem_filter.mp hx).2
      obtain ⟨f0, n0, ps0, k0, rfl, gf, gn, hp1, hp2⟩ := m2 x hx
      have hk0 : S k0 = S kd := by
        have := of_decide_eq_true hh
        exact V.str.inj this
      rw [hk0]
      have shp : ShpA 0 ps0 := shpA_all fun p hp => by
        rcases hp2 p hp with rfl | rfl
        · exact shp_str (by decide)
        · exact shp_str (by decide)
      exact (shp_tup (k := 1) (shpA_cons ((shp_str (path_low gf)).up (by decide)) (shpA_cons ((shp_str (good_low gn)).up (by decide)) (shpA_cons (shp_tup shp (by omega)) (shpA_cons ((shp_str hkl).up (by decide)) shpA_nil)))) (by show 4 ≤ 40000; decide)).up (by decide)
    have hc5 := cnt_pos pm n
    generalize nds.filter (headIs kd) = nd at *
    generalize dds.filter (lastIs kd) = dd at *
    -- a name
    refine q_when (et_and (et_test (ev_op (ev_var rfl) ev_c rv_I0)) fun _ => et_neNil (ev_var rfl) hl1' hT1' sh1 (by omega)) (fun hb H4 e4 => ?_) (fun hb H4 e4 => ?_)
    · rw [Bool.and_eq_true] at hb
      have hne : nd ≠ [] := fun z => by
        have h2 := hb.2
        rw [z] at h2
        cases h2
      refine s_retR (er_catSl (k := 1) (ead_cons (ed_S (es_cl z5)) (ead_cons (ed_non ev_c) ead_nil)) (er_pick (hD3.ex e4) (ev_var rfl) (ev_var rfl) (e4 _ _ hl1') (TdAll.tx (Tx.of e4) _ _ hT1') hne (by omega)) (fun x hx => ?_) (by decide) (List.cons_ne_nil _ _) (by show 2 ≤ 100; decide)) fun v H5 dE hdE e5 hv => ?_
      · obtain ⟨k0, f0, n0, rfl, _⟩ := m1 x hx
        exact ⟨_, rfl, by show 1 < 3; decide, by show 3 ≤ 100; decide⟩
      · obtain ⟨es, hes, rfl⟩ := hdE
        obtain ⟨k0, f0, n0, e6, gf, gn⟩ := m1 _ hes
        cases e6
        exact q v H5 _ (e03.trans (e4.trans e5)) hv (.name gf gn hc5 (by omega))
    -- a call
    have hD4 := hD3.ex e4
    have hC4 := hC3.go e4
    refine q_when (et_and (et_test (ev_op (ev_var rfl) ev_c (rv_eq rfl))) fun _ => et_and (et_test (ev_op (ev_var rfl) ev_c rv_I0)) fun _ => et_neNil (ev_var rfl) (e4 _ _ hl2') (TdAll.tx (Tx.of e4) _ _ hT2') sh2 (by omega)) (fun hb2 H5 e5 => ?_) (fun hb2 H5 e5 => ?_)
    · rw [Bool.and_eq_true, Bool.and_eq_true] at hb2
      have hne : dd ≠ [] := fun z => by
        have h2 := hb2.2.2
        rw [z] at h2
        cases h2
      have hn0 : 0 < n := by
        have := of_decide_eq_true hb2.2.1
        omega
      obtain ⟨n', rfl⟩ : ∃ n', n = n' + 1 := ⟨n - 1, by omega⟩
      refine q_asgR (er_pick (hD4.ex e5) (ev_var rfl) (ev_var rfl) ((e4.trans e5) _ _ hl2') (TdAll.tx (Tx.of (e4.trans e5)) _ _ hT2') hne (by omega)) fun v H6 x hx e6 hv => ?_
      obtain ⟨f0, n0, ps0, k0, rfl, gf, gn, hp1, hp2⟩ := m2 x hx
      have hD6 := hD4.ex (e5.trans e6)
      have hC6 := hC4.go (e5.trans e6)
      cases hv with
      | @tup ap as _ g1 g2 =>
        cases g2 with
        | @cons v1 _ _ _ a1 g2 =>
          cases g2 with
          | @cons v2 _ _ _ a2 g2 =>
            cases g2 with
            | @cons v3 _ _ _ a3 g2 =>
              have ix : ∀ {i : Nat} {x : V} {xs : List V}, (v1 :: v2 :: v3 :: xs)[i]? = some x → ∀ {σ : L2.St} {H' : Hp}, H' ap = some (.tup (v1 :: v2 :: v3 :: xs)) → σ[4]? = some (some (.ref ap)) → Ev (tOp (rIxT K) (tVar 4) (tC (.int (i : Int)))) σ H' x := fun hi _ _ hap hs => ev_op (ev_var hs) ev_c (rv_ixT (st_of hap) (atI_nat hi))
              cases a3 with
              | @tup pp qs _ a4 a5 =>
                refine s_retR (er_tup (ear_one (ed_S (es_cl z6)) (ear_one (ed_non ev_c) (ear_one (ed_of (ix (i := 0) rfl g1 rfl) a1) (ear_one (ed_of (ix (i := 1) rfl g1 rfl) a2) (ear_cons (er_tupleOf (erl_lcT (R := RawD (0 + 1) (cntE pm 0) (2 * 0 + 1)) (ix (i := 2) rfl g1 rfl) a4 a5 (by omega) (fun _ => rfl) fun x dx H7 e7 hdx hTx => ?_)) ear_nil))))) ?_) fun v H7 dE hdE e7 hv => ?_
                · rcases hp2 dx hdx with rfl | rfl
                  · cases hTx
                    exact er_e (n := 0) (ea_cons (ev_var rfl) (ea_cons (ev_var rfl) (ea_cons (ev_var rfl) (ea_cons ev_c ea_nil)))) (by omega) (.inl rfl) (hD6.ex e7) (hC6.go e7)
                  · cases hTx
                    exact er_e (n := 0) (ea_cons (ev_var rfl) (ea_cons (ev_var rfl) (ea_cons (ev_var rfl) (ea_cons ev_c ea_nil)))) (by omega) (.inr rfl) (hD6.ex e7) (hC6.go e7)
                · rintro _ ⟨_, rfl, _, rfl, _, rfl, _, rfl, _, _, rfl, _, rfl⟩
                  show 5 ≤ 100000
                  decide
                · obtain ⟨_, ⟨_, rfl, _, rfl, _, rfl, _, rfl, dl, _, rfl, ⟨es, ⟨hes1, hes2⟩, rfl⟩, rfl⟩, rfl⟩ := hdE
                  refine q v H7 _ (e03.trans ((e4.trans e5).trans (e6.trans e7))) hv ?_
                  have hall : ∀ es : List PyData, (∀ d ∈ es, RawD (0 + 1) (cntE pm 0) (2 * 0 + 1) d) → RawAll (n' + 1) (6 * es.length) 1 es := fun es => by
                    induction es with
                    | nil => intro _; exact .nil
                    | cons x es ih =>
                      intro hx
                      have r : RawD (n' + 1) 5 1 x := by
                        have := hx x (List.mem_cons_self ..)
                        cases this with
                        | num l hc hb => exact .num l hc hb
                        | tru hc hb => exact .tru hc hb
                        | name gf gn hc hb => exact .name gf gn hc hb
                        | call gf gn a hc hb => omega
                        | neg r => cases r
                        | not r => cases r
                        | bin hs r => cases r
                      exact .cons r (ih fun y hy => hx y (List.mem_cons_of_mem _ hy)) (by rw [List.length_cons]; omega)
                  refine .call gf gn (hall es hes2) ?_ (by omega)
                  have h6 : 6 * es.length ≤ 6 * pm := Nat.mul_le_mul_left _ (by omega)
                  show 6 * es.length + 7 ≤ max (2 * cntE pm n' + 3) (6 * pm + 7)
                  omega
    have hD5 := hD4.ex e5
    have hC5 := hC4.go e5
    have e05 := e03.trans (e4.trans e5)
    -- a number, a truth
    refine q_when (et_or (et_test (ev_op (ev_var rfl) ev_c (rv_eq rfl))) fun _ => et_test (ev_op (ev_var rfl) ev_c rv_I0)) (fun hb3 H6 e6 => ?_) (fun hb3 H6 e6 => ?_)
    · refine q_asgRL (erl_lst (ear_cons (er_next (N := 4) (hD5.ex e6) (ev_var rfl) ev_c rfl) (ear_cons (er_next (N := 100) (hD5.ex e6) (ev_var rfl) ev_c rfl) (ear_cons (er_next (N := 1000000) (hD5.ex e6) (ev_var rfl) ev_c rfl) ear_nil))) ?_) fun l3 H7 us3 ds3 hds3 hl30 e7 hl3 hT3 => ?_
      · rintro _ ⟨_, _, rfl, _, _, _, rfl, _, _, _, rfl, _, rfl⟩
        show 3 ≤ 100000
        decide
      obtain ⟨_, _, rfl, ⟨n1, hn1, rfl⟩, _, _, rfl, ⟨n2, hn2, rfl⟩, _, _, rfl, ⟨n3, hn3, rfl⟩, rfl⟩ := hds3
      have hD7 := hD5.ex (e6.trans e7)
      refine s_retR (R := fun dE => RawD (n + 1) (cntE pm n) (2 * n + 1) dE) (er_if (b := decide (kd = kNum)) (et_test (ev_eqS (ev_var rfl) (es_cl z2))) (fun _ => ?_) (fun _ => ?_)) fun v H8 dE hdE e8 hv => q v H8 dE (e05.trans ((e6.trans e7).trans e8)) hv hdE
      · refine EvR.imp (er_tup (ear_one (ed_S (es_cl z2)) (ear_one (ed_non ev_c) (ear_cons (er_pick hD7 (ev_var rfl) (ev_var rfl) hl3 hT3 (List.cons_ne_nil _ _) (by show 3 ≤ 1000; decide)) ear_nil))) ?_) ?_
        · rintro _ ⟨_, rfl, _, rfl, _, _, rfl, _, rfl⟩
          show 3 ≤ 100000
          decide
        · rintro _ ⟨_, ⟨_, rfl, _, rfl, x, _, rfl, hx, rfl⟩, rfl⟩
          simp only [List.mem_cons, List.not_mem_nil, or_false] at hx
          rcases hx with rfl | rfl | rfl
          · exact .num (by omega) (by omega) (by omega)
          · exact .num (by omega) (by omega) (by omega)
          · exact .num (by omega) (by omega) (by omega)
      · refine EvR.imp (er_tup (ear_one (ed_S (es_cl z7)) (ear_one (ed_non ev_c) (ear_cons (R := fun x => ∃ y, x = .bool y) (er_N (P := fun v => ∃ y, v = .bl y) (en_opV (en_next hD7 (ev_var rfl) ev_c) (fun _ _ => EvN.of ev_c) ?_) ?_) ear_nil))) ?_) ?_
        · rintro x y ⟨z, rfl, _, _⟩ rfl
          exact ⟨_, ⟨_, rfl⟩, rv_eq rfl⟩
        · rintro v ⟨y, rfl⟩
          exact ⟨_, ⟨y, rfl⟩, fun _ => .bl y⟩
        · rintro _ ⟨_, rfl, _, rfl, _, _, rfl, _, rfl⟩
          show 3 ≤ 100000
          decide
        · rintro _ ⟨_, ⟨_, rfl, _, rfl, _, _, rfl, ⟨y, rfl⟩, rfl⟩, rfl⟩
          exact .tru (by omega) (by omega)
    have hn0 : 0 < n := by
      rw [Bool.or_eq_false_iff] at hb3
      have h0 := of_decide_eq_false hb3.1
      exact Nat.pos_of_ne_zero fun z => h0 (by rw [z] <;> rfl)
    obtain ⟨n', rfl⟩ : ∃ n', n = n' + 1 := ⟨n - 1, by omega⟩
    have hD6 := hD5.ex e6
    have hC6 := hC5.go e6
    have e06 := e05.trans e6
    have hc6 := cnt_pos pm n'
    have hcnt : cntE pm (n' + 1) = max (2 * cntE pm n' + 3) (6 * pm + 7) := rfl
    have arg : ∀ {σ : L2.St} {H' : Hp}, σ[3]? = some (some (.int ((n' + 1 : Nat) : Int))) → Ev (tOp (rI0 fun i j => .int (i - j)) (tVar 3) (tC (.int 1))) σ H' (.int (n' : Int)) := fun hs => ev_is (ev_op (ev_var hs) ev_c rv_I0) (congrArg V.int (by omega))
    -- not, neg
    refine q_when (et_test (ev_op (ev_var rfl) ev_c (rv_eq rfl))) (fun hb4 H7 e7 => ?_) (fun hb4 H7 e7 => ?_)
    · have hk2 : ∃ o, (o = oNeg ∨ o = oNot) ∧ ((S kd = Str.ofString "num" ∧ V.str (S o) = .str (Str.ofString "neg")) ∨ (S kd = Str.ofString "yes" ∧ V.str (S o) = .str (Str.ofString "not"))) := by
        rcases hkd with rfl | rfl
        · exact ⟨oNeg, .inl rfl, .inl ⟨z2.symm, congrArg V.str z3.symm⟩⟩
        · exact ⟨oNot, .inr rfl, .inr ⟨z1.symm, congrArg V.str z4.symm⟩⟩
      obtain ⟨o, ho, hv2⟩ := hk2
      refine s_retR (er_tup (ear_one (ed_S (ev_disp2 num_ne_yes (ev_var rfl) hv2)) (ear_one (ed_non ev_c) (ear_cons (er_e (n := n') (ea_cons (ev_var rfl) (ea_cons (ev_var rfl) (ea_cons (ev_var rfl) (ea_cons (arg rfl) ea_nil)))) (by omega) hkd (hD6.ex e7) (hC6.go e7)) ear_nil))) ?_) fun v H8 dE hdE e8 hv => ?_
      · rintro _ ⟨_, rfl, _, rfl, _, _, rfl, _, rfl⟩
        show 3 ≤ 100000
        decide
      · obtain ⟨_, ⟨_, rfl, _, rfl, x, _, rfl, hx, rfl⟩, rfl⟩ := hdE
        refine q v H8 _ (e06.trans (e7.trans e8)) hv ?_
        rcases ho with rfl | rfl
        · exact .neg hx (by omega) (by omega)
        · exact .not hx (by omega) (by omega)
    -- a sign
    refine qn_asg (en_pickLs (Pt := fun ts => ts ≠ [] ∧ ts.length ≤ 1000 ∧ ∀ s ∈ ts, s ∈ binW) (hD6.ex e7) (ev_var rfl) (els_if (b := decide (kd = kNum)) (et_test (ev_eqS (ev_var rfl) (es_cl z2))) (fun _ => els_at (ev_dget (ev_var rfl) ev_c ((e06.trans e7) _ _ h1) h4) ((e06.trans e7) _ _ h13) ⟨h14, by omega, h16⟩) (fun _ => els_new (ts := boolW) (el_any (el_lst (ea_cons ev_c (ea_cons ev_c (ea_cons ev_c (ea_cons ev_c (ea_cons ev_c (ea_cons ev_c (ea_cons ev_c (ea_cons ev_c ea_nil)))))))) (by show 8 ≤ 100000; decide)) lit_boolW) ⟨by decide, by decide, boolW_bin⟩)) fun ts h => ⟨h.1, h.2.1⟩) fun v H8 hv e8 => ?_
    obtain ⟨ts, sg, ⟨_, _, hall⟩, hsg, rfl⟩ := hv
    have hbin := hall sg hsg
    have hD8 := hD6.ex (e7.trans e8)
    have hC8 := hC6.go (e7.trans e8)
    refine qn_asg (P := fun v => ∃ k2, (k2 = kNum ∨ k2 = oYes) ∧ v = .str (S k2)) (en_if (et_test (ev_inU (ev_var rfl) (eu_tup (ea_cons ev_c (ea_cons ev_c ea_nil)) (by show 2 ≤ 100000; decide)) rfl rfl)) (fun _ => ?_) (fun _ => en_if (et_test (ev_inU (ev_var rfl) (eu_tup (ea_cons ev_c (ea_cons ev_c ea_nil)) (by show 2 ≤ 100000; decide)) rfl rfl)) (fun _ => ?_) (fun _ => ?_))) fun v H9 hv e9 => ?_
    · exact (EvN.of (es_cl z1)).imp fun v hv => ⟨oYes, .inr rfl, hv⟩
    · refine (en_pickLs (Pt := (· = [kNum, oYes])) hD8 (ev_var rfl) (els_new (ts := [kNum, oYes]) (eat_lst2 (es_cl z2) (es_cl z1)) rfl) fun ts h => by rw [h]; exact ⟨by decide, by decide⟩).imp ?_
      rintro v ⟨ts, s2, rfl, hs2, rfl⟩
      simp only [List.mem_cons, List.not_mem_nil, or_false] at hs2
      exact ⟨s2, hs2, rfl⟩
    · exact (EvN.of (es_cl z2)).imp fun v hv => ⟨kNum, .inl rfl, hv⟩
    obtain ⟨k2, hk2, rfl⟩ := hv
    have hD9 := hD8.ex e9
    have hC9 := hC8.go e9
    refine s_retR (er_tup (ear_one (ed_S (ev_var rfl)) (ear_one (ed_non ev_c) (ear_cons (er_e (n := n') (ea_cons (ev_var rfl) (ea_cons (ev_var rfl) (ea_cons (ev_var rfl) (ea_cons (arg rfl) ea_nil)))) (by omega) hk2 hD9 hC9) (ear_cons (er_e (n := n') (ea_cons (ev_var rfl) (ea_cons (ev_var rfl) (ea_cons (ev_var rfl) (ea_cons (arg rfl) ea_nil)))) (by omega) hk2 hD9 hC9) ear_nil)))) ?_) fun v H10 dE hdE e10 hv => ?_
    · rintro _ ⟨_, rfl, _, rfl, _, _, rfl, _, _, _, rfl, _, rfl⟩
      show 4 ≤ 100000
      decide
    · obtain ⟨_, ⟨_, rfl, _, rfl, x, _, rfl, hx, y, _, rfl, hy, rfl⟩, rfl⟩ := hdE
      exact q v H10 _ (e06.trans ((e7.trans e8).trans (e9.trans e10))) hv (.bin hbin hx hy (by omega) (by omega) (by omega))
theorem ok_e (T : ModsL K mg) {pm : Nat} (hpm : pm ≤ 8) (c__law_next : Cal P w K mg base 1 "_law_next" (spNext K) []) (c__law_pick : Cal P w K mg base 2 "_law_pick" (spPick K) []) {f : Addr} {fd : FuncData} (F : Def K mg "_law_e" s__law_e f fd) (b : Binds K fd ["_law_d", "_law_kind", "_law_c", "_law_deep"] []) : ∀ N, Cal P w K mg base (2 + N) "_law_e" (spEd K pm N) []
  | 0 => ⟨f, fd, _, [], ⟨fun vs H Q E ⟨_, _, _, _, _, _, _, h, _⟩ => absurd h (Nat.not_lt_zero _), fun A outer s H args us vs Q E _ _ _ _ ⟨_, _, _, _, _, _, _, h, _⟩ => absurd h (Nat.not_lt_zero _)⟩, F.mgf, F.kp, b, .nil⟩
  | N + 1 => ok_e1 T (Nat.le_add_right 2 N) hpm c__law_next c__law_pick (ok_e T hpm c__law_next c__law_pick F b N) F b
end
end Wt

set_option Elab.async false
set_option linter.all false
set_option maxRecDepth 100000
set_option maxHeartbeats 4000000
namespace Wt
open PySem PySem.Spec PyProof.Rows L2 SX Evl
open C8 (Def Cal cal0 fnScope_by fnScope)
/-! Texts whose rows are known. -/
theorem cnt_nn (c : Nat) : ∀ l : List Nat, 0 ≤ PyProof.Rows.cnt c l
  | [] => by rw [PyProof.Rows.cnt_nil]; exact Int.le_refl _
  | n :: r => by
    rw [PyProof.Rows.cnt_cons]
    have := cnt_nn c r
    split <;> omega
theorem count_nn (text : List Nat) : 0 ≤ Txt.count (S text) (Str.ofString "\n") := by
  rw [show Str.ofString "\n" = (⟨#[10]⟩ : Str) by decide +kernel, PyProof.Rows.count_cnt]
  exact cnt_nn 10 _
/-- rows that may be told: their text -/
structure RowsT (rows : List (List Nat)) : Prop where
  ne : rows ≠ []
  no : ∀ r ∈ rows, 10 ∉ r
  sh : ∀ r ∈ rows, r.length ≤ 900
  few : rows.length ≤ 40
  ok : ∀ r ∈ rows, (lexRow r).2 = none
theorem jl_len {B : Nat} : ∀ rows : List (List Nat), (∀ r ∈ rows, r.length ≤ B) → (TL.joinL [10] rows).length ≤ (B + 1) * rows.length
  | [], _ => Nat.zero_le _
  | [r], h => by
    have h1 := h r (List.mem_cons_self ..)
    show r.length ≤ (B + 1) * 1
    omega
  | r :: s :: rows, h => by
    have ih := jl_len (s :: rows) fun q hq => h q (List.mem_cons_of_mem _ hq)
    have h1 := h r (List.mem_cons_self ..)
    show (r ++ ([10] ++ TL.joinL [10] (s :: rows))).length ≤ _
    rw [List.length_append, List.length_append, List.length_cons (a := r), Nat.mul_succ]
    show r.length + (1 + _) ≤ _
    omega
theorem RowsT.text {rows : List (List Nat)} (h : RowsT rows) : TextOk (TL.joinL [10] rows) rows := by
  have hl := jl_len rows h.sh
  have h2 := Nat.mul_le_mul_left 901 h.few
  exact ⟨by omega, (SX.spl_join h.ne h.no).symm, by have := h.few; omega, fun r hr => by have := h.sh r hr; omega⟩
theorem sumL_len {B : Nat} : ∀ rows : List (List Nat), (∀ r ∈ rows, r.length ≤ B) → (rows.map (fun x => x.length)).sum ≤ B * rows.length
  | [], _ => Nat.zero_le _
  | r :: rows, h => by
    have ih := sumL_len rows fun q hq => h q (List.mem_cons_of_mem _ hq)
    have h1 := h r (List.mem_cons_self ..)
    rw [List.map_cons, List.sum_cons, List.length_cons, Nat.mul_succ]
    omega
theorem RowsT.fits {rows : List (List Nat)} (h : RowsT rows) : fitsJ [10] rows := by
  have h1 := sumL_len rows h.sh
  have h2 := Nat.mul_le_mul_left 900 h.few
  have h3 := h.few
  unfold fitsJ
  show _ + rows.length * 1 ≤ _
  omega
theorem firstBad_none : ∀ (n : Nat) (rows : List (List Nat)), (∀ r ∈ rows, (lexRow r).2 = none) → firstBad n rows = none
  | _, [], _ => rfl
  | n, r :: rs, h => by
    unfold firstBad
    rw [h r (List.mem_cons_self ..)]
    exact firstBad_none (n + 1) rs fun q hq => h q (List.mem_cons_of_mem _ hq)
theorem groups_skip : ∀ (l : List (List Nat)) (n : Nat) (rest : List (List Nat)), (∀ r ∈ l, lexRow r = ([], none)) → groups n (l ++ rest) = groups (n + l.length) rest
  | [], n, rest, _ => rfl
  | r :: l, n, rest, h => by
    have hr : rowT n r = [] := by
      unfold rowT
      rw [h r (List.mem_cons_self ..)] <;> rfl
    show (if rowT n r = [] then groups (n + 1) (l ++ rest) else _) = _
    rw [if_pos hr, groups_skip l (n + 1) rest fun q hq => h q (List.mem_cons_of_mem _ hq), List.length_cons, show n + 1 + l.length = n + (l.length + 1) by omega]
theorem groups_none (l : List (List Nat)) (n : Nat) (h : ∀ r ∈ l, lexRow r = ([], none)) : groups n l = [] := by
  have := groups_skip l n [] h
  rw [List.append_nil] at this
  rw [this] <;> rfl
theorem groups_at (n : Nat) (r : List Nat) (rest : List (List Nat)) (h : rowT n r ≠ []) : groups n (r :: rest) = (n, rowT n r) :: groups (n + 1) rest := if_neg h
theorem cut_few {ts : List Tk} (h : ts.length ≤ 60) : cutP ts = ts := by
  unfold cutP
  rw [List.drop_eq_nil_of_le h]
/-! ### the tree of what is written -/
theorem worthP_put {fin : Place} {ts : List Tk} {d : PyData} {m : Nat} (h : Put 0 m ts d) (hm : m ≤ 8) : worthP fin ts = .ok (d, []) := by
  unfold worthP
  have := exprP_put (fin := fin) (rest := []) h hm fol_nil
  rw [List.append_nil] at this
  rw [this]
  rfl
theorem wt_one {bh : Place} {ts : List Tk} {d : PyData} {m : Nat} (h : Put 0 m ts d) (hm : m ≤ 8) : worthTree bh [ts] = .ok d := by
  obtain ⟨t, r, e, _, _, _, hn⟩ := h.head
  have hw : wordH ts ≠ [] := by
    rw [e]
    exact hn
  unfold worthTree
  show (if wordH ts = [] then _ else _) = _
  rw [if_neg hw, worthP_put h hm]
theorem wt_two {bh : Place} {ts us : List Tk} {d : PyData} {m : Nat} (h : Put 0 m ts d) (hm : m ≤ 8) (hu : wordH us ≠ []) : worthTree bh [ts, us] = .error (spotP (endP us) us) := by
  obtain ⟨t, r, e, _, _, _, hn⟩ := h.head
  have hw : wordH ts ≠ [] := by
    rw [e]
    exact hn
  unfold worthTree
  show (if wordH ts = [] then _ else _) = _
  rw [if_neg hw, worthP_put h hm]
  exact if_neg hu
/-! ### what is told of a text -/
def dueOf : Except Place PyData → PyData
  | .ok d => d
  | .error p => .tuple [.str (Str.ofString "refused"), .str (Str.ofString "tree"), .str (Str.ofString ""), placeD p, .str (Str.ofString "tree")]
def spTold (CF : Addr) (g : Place → List (List Tk) → Except Place PyData) : Sp := fun vs H Q _ => ∃ (text : List Nat) (rows : List (List Nat)), vs = [.str (S text)] ∧ TextOk text rows ∧ firstBad 1 rows = none ∧ ∀ v H2, Ei H H2 → Td H2 v (dueOf (g (bhOf text) (pageP rows))) → Q v H2
section
variable {P : Program} {w : World} {K : PySem.W.Frag} {mg : Str → Option Value} {base : Heap}
abbrev s__law_told : Stmt := topS 49
theorem sc__law_told : FnScope ["_law_text", "_law_e_here"] ["_law_text"] (fnScope s__law_told) := fnScope_by (by decide +kernel)
theorem ok_told {CF : Addr} (T : FltC K CF (Str.ofString "stage") (Str.ofString "file") (Str.ofString "place") (Str.ofString "why")) (hF : mg "Fault" = some (.ref CF)) {k : Nat} {g : Place → List (List Tk) → Except Place PyData} (c_worth_tree : CalX P w K mg base k "worth_tree" (spText CF g))
    {f : Addr} {fd : FuncData} (F : Def K mg "_law_told" s__law_told f fd) (b : Binds K fd ["_law_text"] []) : Cal P w K mg base (k + 1) "_law_told" (spTold CF g) [] := by
  refine cal0 F b .nil sc__law_told (fun vs H Q E h => ?_) (fun cdv A outer s H vs Q E hr h => ?_)
  · obtain ⟨_, _, rfl, _⟩ := h
    rfl
  · obtain ⟨text, rows, rfl, hT, hfb, q⟩ := h
    refine ⟨_, pss_one (ps_try_hit (c := .ref CF) (i := 1) rfl rfl sc__law_told.nd rfl rfl ⟨by rfl, by decide, .inl hF⟩ (fun W pn xe tk _ => pss_one (ps_ret (Wt.pe_cX c_worth_tree tk hr (Nat.le_refl _) (by rfl) (pa_cons (pv 0) pa_nil))))
      (fun a oe cls d pn hz hf => pss_one (ps_ret (pe_tup (pa_cons pe_str (pa_cons (pe_xf T.x T.n1 hz hf (pe_var (i := 1) rfl (.inl rfl) (by decide) (by decide))) (pa_cons (pe_xf T.x T.n2 hz hf (pe_var (i := 1) rfl (.inl rfl) (by decide) (by decide))) (pa_cons (pe_xf T.x T.n3 hz hf (pe_var (i := 1) rfl (.inl rfl) (by decide) (by decide))) (pa_cons (pe_xf T.x T.n4 hz hf (pe_var (i := 1) rfl (.inl rfl) (by decide) (by decide))) pa_nil))))))))), ?_⟩
    refine ⟨_, rfl, text, rows, rfl, hT, count_nn text, fun _ => ⟨fun e he d2 H8 x8 hF8 => ?_, fun d hd v H8 x8 hv8 => ?_⟩, fun n c z => ?_⟩
    · obtain ⟨v, hd8, hv8⟩ := hF8
      rw [he] at q
      refine ⟨T.hit, fun a na hl => ?_⟩
      refine ⟨_, rfl, rfl, rfl, d2, _, .str (Str.ofString "tree"), rfl, hd8, ?_, _, rfl, rfl, rfl, d2, _, .str (Str.ofString ""), rfl, hd8, ?_, _, rfl, rfl, rfl, d2, _, v, rfl, hd8, ?_, _, rfl, rfl, rfl, d2, _, .str (Str.ofString "tree"), rfl, hd8, ?_, (by show 5 ≤ sizeLine; exact sz_of (by decide)), fun p hp => ?_⟩
      · rw [lookup_put, if_neg (by decide +kernel), lookup_put, if_neg (by decide +kernel), lookup_put, if_neg (by decide +kernel), lookup_put, if_pos rfl]
      · rw [lookup_put, if_neg (by decide +kernel), lookup_put, if_neg (by decide +kernel), lookup_put, if_pos rfl]
      · rw [lookup_put, if_neg (by decide +kernel), lookup_put, if_pos rfl]
      · rw [lookup_put, if_pos rfl]
      · have en := Ex.new (o := HO.tup [.str (Str.ofString "refused"), .str (Str.ofString "tree"), .str (Str.ofString ""), v, .str (Str.ofString "tree")]) hp
        exact q _ _ (x8.trans (Ei.of en)) (.tup upd_same (.cons (.str _) (.cons (.str _) (.cons (.str _) (.cons (Td.tx (Tx.of en) _ _ hv8) (.cons (.str _) .nil))))))
    · rw [hd] at q
      exact q v H8 x8 hv8
    · rw [hfb] at z
      cases z
end
section
variable {K : PySem.W.Frag} {σ : L2.St} {H H' : Hp} {ta tb te tx tl : TE} {tr : TA} {t u : TT} {D : Ends} {tu tw tz : TS}
theorem tl_like {CF : Addr} {g : Place → List (List Tk) → Except Place PyData} {E1 E2 : XK} {n : Nat} {text : List Nat} {rows : List (List Nat)} {Q : VK} (ha : EvS ta σ H text) (hT : TextOk text rows) (hfb : firstBad 1 rows = none) (hb : ∀ H', Ei H H' → EvD tb σ H' (dueOf (g (bhOf text) (pageP rows)))) (hs : Shp (n - 1) (dueOf (g (bhOf text) (pageP rows)))) (hn : 0 < n)
    (q : ∀ H', Ei H H' → Q (.bl true) H') : tCall (spLike K n) [] E1 (tCons (tCall (spTold CF g) [] E2 (tCons ta tNil)) (tCons tb tNil)) σ H Q := ha H (Ex.refl H) _ fun H1 e1 => ⟨text, rows, rfl, hT, hfb, fun v H2 x2 hv => by
  have x12 := (Ei.of e1).trans x2
  refine hb H2 x12 H2 (Ex.refl H2) _ fun v2 H3 e3 hv2 => ⟨v, v2, _, rfl, Td.dp _ _ (Td.tx (Tx.of e3) _ _ hv), Td.dp _ _ hv2, by have := hs.dp; omega, hs.wd, fun H4 e4 => q H4 (x12.trans (Ei.of (e3.trans e4)))⟩⟩
theorem q_like {CF : Addr} {g : Place → List (List Tk) → Except Place PyData} {E1 E2 : XK} {n : Nat} {text : List Nat} {rows : List (List Nat)} (ha : EvS ta σ H text) (hT : TextOk text rows) (hfb : firstBad 1 rows = none) (hb : ∀ H', Ei H H' → EvD tb σ H' (dueOf (g (bhOf text) (pageP rows)))) (hs : Shp (n - 1) (dueOf (g (bhOf text) (pageP rows)))) (hn : 0 < n)
    (k : ∀ H', Ei H H' → tz D σ H') : tSeq (tIfS (tNot (tB (tCall (spLike K n) [] E1 (tCons (tCall (spTold CF g) [] E2 (tCons ta tNil)) (tCons tb tNil))))) tu tNext) tz D σ H := by
  have := tl_like (K := K) (CF := CF) (E1 := E1) (E2 := E2) (Q := fun x H2 => ∃ c, x = .bl c ∧ (if (!c) = true then tu { D with nx := tz D } σ H2 else tz D σ H2)) ha hT hfb hb hs hn fun H' e => ⟨true, rfl, k H' e⟩
  exact this
theorem s_like {CF : Addr} {g : Place → List (List Tk) → Except Place PyData} {E1 E2 : XK} {n : Nat} {text : List Nat} {rows : List (List Nat)} (ha : EvS ta σ H text) (hT : TextOk text rows) (hfb : firstBad 1 rows = none) (hb : ∀ H', Ei H H' → EvD tb σ H' (dueOf (g (bhOf text) (pageP rows)))) (hs : Shp (n - 1) (dueOf (g (bhOf text) (pageP rows)))) (hn : 0 < n)
    (k : ∀ H', Ei H H' → D.nx σ H') : tIfS (tNot (tB (tCall (spLike K n) [] E1 (tCons (tCall (spTold CF g) [] E2 (tCons ta tNil)) (tCons tb tNil))))) tu tNext D σ H := by
  have := tl_like (K := K) (CF := CF) (E1 := E1) (E2 := E2) (Q := fun x H2 => ∃ c, x = .bl c ∧ (if (!c) = true then tu D σ H2 else tNext D σ H2)) ha hT hfb hb hs hn fun H' e => ⟨true, rfl, k H' e⟩
  exact this
end
/-- as deep, or deeper -/
theorem raw_up : ∀ h, (∀ c b d, RawD h c b d → RawD (h + 1) c b d) ∧ ∀ ds c b, RawAll h c b ds → RawAll (h + 1) c b ds := by
  intro h
  induction h with
  | zero =>
    refine ⟨(fun c b d r => by cases r), fun ds c b a => ?_⟩
    cases a with
    | nil => exact .nil
    | cons r => cases r
  | succ h ih =>
    obtain ⟨i1, i2⟩ := ih
    have p1 : ∀ c b d, RawD (h + 1) c b d → RawD (h + 1 + 1) c b d := fun c b d r => by
      cases r with
      | num l hc hb => exact .num l hc hb
      | tru hc hb => exact .tru hc hb
      | name gf gn hc hb => exact .name gf gn hc hb
      | call gf gn a hc hb => exact .call gf gn (i2 _ _ _ a) hc hb
      | neg r hc hb => exact .neg (i1 _ _ _ r) hc hb
      | not r hc hb => exact .not (i1 _ _ _ r) hc hb
      | bin hs r1 r2 hc h1 h2 => exact .bin hs (i1 _ _ _ r1) (i1 _ _ _ r2) hc h1 h2
    refine ⟨p1, fun ds => ?_⟩
    induction ds with
    | nil => intro c b _; exact .nil
    | cons d ds ihd =>
      intro c b a
      cases a with
      | cons r a hc => exact .cons (p1 _ _ _ r) (ihd _ _ a) hc
end Wt

set_option Elab.async false
set_option linter.all false
set_option maxRecDepth 100000
set_option maxHeartbeats 4000000
namespace Wt
open PySem PySem.Spec PyProof.Rows L2 SX Evl
open C8 (Def Cal cal0 fnScope_by fnScope)
/-! The law. -/
def empt : List (List Nat) := [[], [32, 32, 32], [35, 32, 105, 102], [32, 35, 32, 120]]
def tailW : List (List Nat) := [[], [32], [32, 32, 35, 32, 105, 102, 32, 120]]
def moreW : List (List Nat) := [[121], [51], [101, 110, 100], [41]]
theorem lit_empt : [V.str (Str.ofString ""), V.str (Str.ofString "   "), V.str (Str.ofString "# if"), V.str (Str.ofString " # x")] = empt.map fun z => V.str (S z) := by decide +kernel
theorem lit_tailW : [V.str (Str.ofString ""), V.str (Str.ofString " "), V.str (Str.ofString "  # if x")] = tailW.map fun z => V.str (S z) := by decide +kernel
theorem lit_moreW : [V.str (Str.ofString "y"), V.str (Str.ofString "3"), V.str (Str.ofString "end"), V.str (Str.ofString ")")] = moreW.map fun z => V.str (S z) := by decide +kernel
theorem empt_ok : ∀ r ∈ empt, 10 ∉ r ∧ r.length ≤ 8 ∧ lexRow r = ([], none) := by decide +kernel
theorem tail_ok : ∀ t ∈ tailW, 10 ∉ t ∧ t.length ≤ 8 ∧ ∃ g, told t = List.replicate g 32 := by
  intro t ht
  simp only [tailW, List.mem_cons, List.not_mem_nil, or_false] at ht
  rcases ht with rfl | rfl | rfl
  · exact ⟨by decide, by decide, 0, by decide⟩
  · exact ⟨by decide, by decide, 1, by decide⟩
  · exact ⟨by decide, by decide, 2, by decide⟩
theorem more_lex : ∀ g, g < 3 → ∀ wd ∈ moreW, lexRow (List.replicate g 32 ++ wd) = ([(kindOf wd, wd, g + 1)], none) := fun g hg => by
  have : g = 0 ∨ g = 1 ∨ g = 2 := by omega
  rcases this with rfl | rfl | rfl <;> decide +kernel
theorem more_strip : ∀ g, g < 3 → ∀ wd ∈ moreW, Txt.stripChars (S (List.replicate g 32 ++ wd)) (Str.ofString " ") = S wd := fun g hg => by
  have : g = 0 ∨ g = 1 ∨ g = 2 := by omega
  rcases this with rfl | rfl | rfl <;> decide +kernel
theorem more_no : ∀ g, g < 3 → ∀ wd ∈ moreW, 10 ∉ List.replicate g 32 ++ wd ∧ wd ≠ [] ∧ wd.length ≤ 3 := fun g hg => by
  have : g = 0 ∨ g = 1 ∨ g = 2 := by omega
  rcases this with rfl | rfl | rfl <;> decide +kernel
theorem lits_92 : Str.ofString "x" = S [120] ∧ Str.ofString "f" = S [102] ∧ Str.ofString "t" = S [116] ∧ Str.ofString "u" = S [117] ∧ Str.ofString "g" = S [103] ∧ Str.ofString "h" = S [104] ∧ Str.ofString "num" = S kNum ∧ Str.ofString "yes" = S oYes ∧ Str.ofString " " = S [32] ∧ Str.ofString "\n" = S [10] := by
  refine ⟨?_, ?_, ?_, ?_, ?_, ?_, ?_, ?_, ?_, ?_⟩ <;> decide +kernel
theorem Ean.imp {tr : TA} {σ : L2.St} {H : Hp} {L L2 : List V → Prop} (h : EAN tr σ H L) (i : ∀ vs, L vs → L2 vs) : EAN tr σ H L2 := fun H1 e Q q => h H1 e Q fun vs H2 l => q vs H2 (i vs l)
theorem CtxC.goB {H H' : Hp} {ca wa : Addr} {pm : Nat} {kv : List (Key × V)} (c : CtxC H ca pm) (e : ExB wa H H') (hca : ca ≠ wa) (hwa : H wa = some (.dK kv)) : CtxC H' ca pm := by
  obtain ⟨kvs, ln, ld, ls, nv, dv, ns, ds, ss, h1, h2, h3, h4, h5, h6, h7, h8, h9, h10, h11, h12, h13, h14⟩ := c.ex
  have nl : ∀ {l : Addr} {xs : List V}, H l = some (.lst xs) → H' l = some (.lst xs) := fun h => e _ _ (ne_of h hwa (by intro z; cases z)) h
  have tx : Tx H H' := fun x xs h => e x _ (ne_of h hwa (by intro z; cases z)) h
  exact ⟨kvs, ln, ld, ls, nv, dv, ns, ds, ss, e _ _ hca h1, h2, h3, h4, nl h5, TdAll.tx tx _ _ h6, h7, h8, nl h9, TdAll.tx tx _ _ h10, h11, h12, nl h13, h14⟩
theorem Dc.goB {K : PySem.W.Frag} {H H' : Hp} {d a wa : Addr} {ns : List Int} {kv : List (Key × V)} (h : Dc K H d a ns) (e : ExB wa H H') (hwa : H wa = some (.dK kv)) : Dc K H' d a ns :=
  ⟨e _ _ (ne_of h.o hwa (by intro z; unfold DiceO at z; cases z)) h.o, h.s.fx fun b o u hb => e _ _ (ne_of hb hwa (by intro z; cases z)) hb⟩
theorem Ei.dc {K : PySem.W.Frag} {H H' : Hp} {d a : Addr} {ns : List Int} (e : Ei H H') (h : Dc K H d a ns) : Dc K H' d a ns :=
  ⟨e _ _ (fun _ _ _ z => by unfold DiceO at z; cases z) h.o, h.s.fx fun b o u hb => e _ _ (fun _ _ _ z => by cases z) hb⟩
theorem Ei.dk {H H' : Hp} {a : Addr} {kv : List (Key × V)} (e : Ei H H') (h : H a = some (.dK kv)) : H' a = some (.dK kv) := e _ _ (fun _ _ _ z => by cases z) h
def signs5 : List (List Nat) := [[43], [42], oMod, [45], [47]]
theorem lit_signs5 : [V.str (Str.ofString "+"), V.str (Str.ofString "*"), V.str (Str.ofString "mod"), V.str (Str.ofString "-"), V.str (Str.ofString "/")] = signs5.map fun z => V.str (S z) := by decide +kernel
theorem names_good : Good kName [120] ∧ Good kName [102] ∧ Good kName [116] ∧ Good kName [117] ∧ Good kName [103] ∧ Good kName [104] := by
  have : ∀ w ∈ ([[120], [102], [116], [117], [103], [104]] : List (List Nat)), w.all isL = true ∧ w ≠ [] ∧ w.length ≤ 6 ∧ w ∉ owns := by decide +kernel
  have g : ∀ w ∈ ([[120], [102], [116], [117], [103], [104]] : List (List Nat)), Good kName w := fun w hw => .name (this w hw).1 (this w hw).2.1 (this w hw).2.2.1 (this w hw).2.2.2
  exact ⟨g _ (by decide), g _ (by decide), g _ (by decide), g _ (by decide), g _ (by decide), g _ (by decide)⟩
theorem shp_err {p : Place} : Shp 9 (dueOf (.error p)) := by
  have lo : ∀ s ∈ ["refused", "tree", ""], (Str.ofString s).cps.all (fun c => decide (c < 1114112)) = true := by decide +kernel
  have st : ∀ s ∈ ["refused", "tree", ""], Shp 0 (.str (Str.ofString s)) := fun s hs => ⟨by unfold PyData.depth; exact Nat.le_refl _, by unfold wideD; rfl, by
    unfold PyData.canLay0 PyData.strOk
    exact lo s hs⟩
  exact (shp_tup (k := 1) (shpA_cons ((st _ (by decide)).up (by decide)) (shpA_cons ((st _ (by decide)).up (by decide)) (shpA_cons ((st _ (by decide)).up (by decide)) (shpA_cons shp_place (shpA_cons ((st _ (by decide)).up (by decide)) shpA_nil))))) (by show 5 ≤ 40000; decide)).up (by decide)
section
variable {K : PySem.W.Frag} {σ : L2.St} {H H' : Hp} {ta tb te tx tl t1 t2 td tv : TE} {tr : TA} {t u : TT} {D : Ends} {tu tw tz : TS}
theorem q_newW {i : Nat} (k : ∀ wa rl H1, H wa = none → H rl = none → wa ≠ rl → Ex H H1 → H1 wa = some (.dK (wd3 rl [] [])) → H1 rl = some (.lst []) → tz D (σ.set i (some (.ref wa))) H1) :
    tSeq (tAsg (tDisp [(tC (.str (Str.ofString "rows")), tLst tNil), (tC (.str (Str.ofString "row")), tC (.str (Str.ofString ""))), (tC (.str (Str.ofString "last")), tC (.str (Str.ofString "")))]) (gName i)) tz D σ H := by
  intro wa hwa
  refine ⟨Nat.zero_le _, fun rl hrl => ?_⟩
  have hrw : rl ≠ wa := fun z => by
    rw [z, upd_same] at hrl
    cases hrl
  refine ⟨by rw [upd_ne hrw.symm]; exact upd_same, wd3 rl [] [], by unfold wd3 kR kW kL; rw [← lit0] <;> rfl, by show 3 ≤ 15; decide, ?_⟩
  rw [wd_made]
  have hrl3 : H rl = none := by
    rw [upd_ne hrw] at hrl
    exact hrl
  exact k wa rl _ hwa hrl3 hrw.symm (Ex.mut ((Ex.new hwa).trans (Ex.new hrl)) hwa) upd_same (by rw [upd_ne hrw]; exact upd_same)
theorem lkNS : lkN ≠ lkS := by decide +kernel
theorem lkND : lkN ≠ lkD := by decide +kernel
theorem lkSD : lkS ≠ lkD := by decide +kernel
theorem q_newC {i : Nat} {ds : List PyData} {ss : List (List Nat)} (h1 : EvDL t1 σ H ds) (h2 : EvLT t2 σ H ss) (k : ∀ ca ln ls H1 nv, H ca = none → Ex H H1 → H1 ca = some (.dK [(lkN, .ref ln), (lkS, .ref ls)]) → H1 ln = some (.lst nv) → TdAll H1 nv ds → H1 ls = some (.lst (ss.map fun z => V.str (S z))) → tz D (σ.set i (some (.ref ca))) H1) :
    tSeq (tAsg (tDisp [(tC (.str (Str.ofString "names")), t1), (tC (.str (Str.ofString "signs")), t2)]) (gName i)) tz D σ H := by
  intro ca hca
  have e1 := Ex.new (o := HO.dK []) hca
  refine h1 _ e1 _ fun ln H2 nv hln e2 hl2 hnv => h2 H2 (e1.trans e2) _ fun ls H3 hls e3 hl3 => ?_
  refine ⟨(e2.trans e3) ca _ upd_same, [(lkN, .ref ln), (lkS, .ref ls)], rfl, by show 2 ≤ 15; decide, ?_⟩
  have hm : mergeK [] [(lkN, V.ref ln), (lkS, .ref ls)] = [(lkN, .ref ln), (lkS, .ref ls)] := by
    unfold mergeK
    simp only [List.foldl_cons, List.foldl_nil, putK, List.any_nil, List.any_cons, Bool.or_false, Bool.false_eq_true, if_false, List.nil_append, decide_eq_true_eq, lkNS, List.cons_append, Bool.or_self, decide_false]
  rw [hm]
  have hca3 := (e2.trans e3) ca _ upd_same
  have n1 : ln ≠ ca := ne_of (e3 _ _ hl2) hca3 (by intro z; cases z)
  have n2 : ls ≠ ca := ne_of hl3 hca3 (by intro z; cases z)
  refine k ca ln ls _ nv hca (Ex.mut ((e1.trans e2).trans e3) hca) upd_same (by rw [upd_ne n1]; exact e3 _ _ hl2) (TdAll.tx ((Tx.of e3).trans fun x xs hx => ?_) _ _ hnv) (by rw [upd_ne n2]; exact hl3)
  rw [upd_ne (ne_of hx hca3 (by intro z; cases z))]
  exact hx
theorem q_dputDL {ca : Addr} {kvs : List (Key × V)} {s : Str} {ds : List PyData} (h : EvDL tv σ H ds) (hc : Ev td σ H (.ref ca)) (hk : H ca = some (.dK kvs)) (hl : kvs.length ≤ 100) (k : ∀ ld H1 dv, H ld = none → Ex H H1 → H1 ld = some (.lst dv) → TdAll H1 dv ds → tz D σ (upd H1 ca (.dK (putK kvs (Sum.inr s : Key) (.ref ld))))) :
    tSeq (sDPut td (tC (.str s)) tv) tz D σ H := h H (Ex.refl H) _ fun ld H1 dv hld e1 hl1 hdv => hc H1 e1 _ fun H2 e2 => ⟨ca, _, rfl, DPut.k (k := (Sum.inr s : Key)) ((e1.trans e2) _ _ hk) (sz_lt (by omega)), k ld H2 dv hld (e1.trans e2) (e2 _ _ hl1) (TdAll.tx (Tx.of e2) _ _ hdv)⟩
theorem q_dputNL {ca : Addr} {kvs : List (Key × V)} {s : Str} {L : List V → Prop} (h : EvNL tv σ H L) (hc : Ev td σ H (.ref ca)) (hk : H ca = some (.dK kvs)) (hl : kvs.length ≤ 100) (k : ∀ ld H1 xs, L xs → H ld = none → Ex H H1 → H1 ld = some (.lst xs) → tz D σ (upd H1 ca (.dK (putK kvs (Sum.inr s : Key) (.ref ld))))) :
    tSeq (sDPut td (tC (.str s)) tv) tz D σ H := h H (Ex.refl H) _ fun ld H1 xs hL hld e1 hl1 => hc H1 e1 _ fun H2 e2 => ⟨ca, _, rfl, DPut.k (k := (Sum.inr s : Key)) ((e1.trans e2) _ _ hk) (sz_lt (by omega)), k ld H2 xs hL hld (e1.trans e2) (e2 _ _ hl1)⟩
theorem put_rows (rl rl2 : Addr) (row last : List Nat) : putK (wd3 rl row last) kR (.ref rl2) = wd3 rl2 row last := by
  have h1 : ¬ kW = kR := fun e => kRW e.symm
  have h2 : ¬ kL = kR := fun e => kRL e.symm
  unfold wd3 putK
  simp only [List.any_cons, List.any_nil, Bool.or_false, decide_true, Bool.true_or, if_true, List.map_cons, List.map_nil, h1, h2, if_false]
theorem put_defs (a b c : V) : putK [(lkN, a), (lkS, b)] lkD c = [(lkN, a), (lkS, b), (lkD, c)] := by
  unfold putK
  simp only [List.any_cons, List.any_nil, Bool.or_false, lkND, lkSD, decide_false, Bool.or_self, Bool.false_eq_true, if_false, List.cons_append, List.nil_append]
theorem er_eN {E : XK} {d a ca : Addr} {ns : List Int} (h : EAN tr σ H (fun vs => ∃ (k : List Nat) (n : Nat), (k = kNum ∨ k = oYes) ∧ 1 ≤ n ∧ n ≤ 2 ∧ vs = [.ref d, .str (S k), .ref ca, .int (n : Int)])) (hD : Dc K H d a ns) (hC : CtxC H ca 2) : EvR (tCall (spEd K 2 3) [] E tr) σ H (fun dE => ∃ c b, c ≤ 41 ∧ b ≤ 5 ∧ RawD 3 c b dE) := fun H1 e Q q =>
  h H1 e _ fun vs H2 hvs e2 => by
    obtain ⟨k, n, hk, h1, h2, rfl⟩ := hvs
    refine ⟨d, a, ca, ns, k, n, rfl, by omega, hk, hD.ex (e.trans e2), hC.go (e.trans e2), fun v H3 dE e3 hv r => q v H3 dE ?_ (e2.trans e3) hv⟩
    have : n = 1 ∨ n = 2 := by omega
    rcases this with rfl | rfl
    · exact ⟨cntE 2 1, 3, by decide, by decide, (raw_up 2).1 _ _ _ r⟩
    · exact ⟨cntE 2 2, 5, by decide, by decide, r⟩
theorem q_asgPutR {E : XK} {i : Nat} {d a wa rl : Addr} {ns : List Int} {rows : List (List Nat)} {ts : List Tk} {R : PyData → Prop} (he : EvR te σ H R) (h1 : Ev t1 σ H (.ref d)) (h2 : Ev t2 σ H (.ref wa)) (p : PenA K H d a wa rl ns rows ts) (hts : ts.length ≤ 49) (hR : ∀ dE, R dE → ∃ c b, c ≤ 41 ∧ b ≤ 5 ∧ RawD 3 c b dE)
    (q : ∀ v H2 us due, ExB wa H H2 → PenA K H2 d a wa rl ns rows (ts ++ us) → us.length ≤ 41 → Put 0 5 us due → Td H2 v due → Shp 7 due → tz D (σ.set i (some v)) H2) : tSeq (tAsg (tCall (spPutE K 3) [] E (tCons t1 (tCons t2 (tCons te (tCons (tC (.int 0)) tNil))))) (gName i)) tz D σ H :=
  h1 H (Ex.refl H) _ fun H1 e1 => h2 H1 e1 _ fun H2 e2 => he H2 (e1.trans e2) _ fun ev H3 dE r e3 hv => by
    obtain ⟨c, b, hc, hb, hraw⟩ := hR dE r
    have e13 := (e1.trans e2).trans e3
    exact ⟨d, a, wa, rl, ns, rows, ts, ev, dE, c, b, 0, rfl, p.ex e13, by omega, hv, hraw, by decide, fun v H4 us due eB hp hl hput hv hs => q v H4 us due ((ExB.of e13).trans eB) hp (by omega) (hput 5 hb) hv hs⟩
theorem en_catL {l : Addr} {xs : List V} {L : List V → Prop} {n : Nat} (ha : Ev ta σ H (.ref l)) (hl : H l = some (.lst xs)) (hb : EvNL tb σ H L) (hn : ∀ ys, L ys → ys.length ≤ n) (hz : xs.length + n ≤ 100000) : EvNL (tOp rCat ta tb) σ H (fun ys => ∃ zs, L zs ∧ ys = xs ++ zs) := fun H1 e Q q =>
  ha H1 e _ fun H2 e2 => hb H2 (e.trans e2) _ fun p H3 zs hL hp e3 h3 => ⟨l, p, xs, zs, rfl, rfl, (e2.trans e3) l _ (e l _ hl), h3, sz_of (by have := hn zs hL; omega), fun c hc => q c _ _ ⟨zs, hL, rfl⟩ (fresh_back (e2.trans e3) hc) ((e2.trans e3).trans (Ex.new hc)) upd_same⟩
theorem enl_one {P : V → Prop} (h : EvN te σ H P) : EvNL (tLst (tCons te tNil)) σ H (fun xs => ∃ v, xs = [v] ∧ P v) := fun H1 e Q q =>
  h H1 e _ fun v H2 pv e2 => ⟨by show 1 ≤ sizeLine; decide, fun p hp => q p _ [v] ⟨v, rfl, pv⟩ (fresh_back e2 hp) (e2.trans (Ex.new hp)) upd_same⟩
end
theorem texts_of {ts : List (List Nat)} : ∀ xs : List V, (∀ x ∈ xs, x ∈ ts.map fun z => V.str (S z)) → ∃ ps : List (List Nat), xs = ps.map (fun z => V.str (S z)) ∧ ∀ p ∈ ps, p ∈ ts
  | [], _ => ⟨[], rfl, fun _ h => by cases h⟩
  | x :: xs, h => by
    obtain ⟨ps, h1, h2⟩ := texts_of xs fun y hy => h y (List.mem_cons_of_mem _ hy)
    obtain ⟨p, hp, rfl⟩ := List.mem_map.mp (h x (List.mem_cons_self ..))
    exact ⟨p :: ps, by rw [h1] <;> rfl, fun q hq => by
      rcases List.mem_cons.mp hq with rfl | hq
      · exact hp
      · exact h2 q hq⟩
/-- the whole text: its rows, what they come to -/
structure Whole (lead : List (List Nat)) (main : List Nat) (trail : List (List Nat)) (us : List Tk) : Prop where
  l : ∀ r ∈ lead, r ∈ empt
  ll : lead.length ≤ 2
  t : ∀ r ∈ trail, r ∈ empt
  tl : trail.length ≤ 2
  no : 10 ∉ main
  few : main.length ≤ 900
  ok : (lexRow main).2 = none
  tk : rowT (lead.length + 1) main = us
  ne : us ≠ []
  le : us.length ≤ 60
theorem Whole.rows {lead trail : List (List Nat)} {main : List Nat} {us : List Tk} (w : Whole lead main trail us) {more : List (List Nat)} (hm : ∀ r ∈ more, 10 ∉ r ∧ r.length ≤ 900 ∧ (lexRow r).2 = none) (hl : more.length ≤ 10) : RowsT (lead ++ [main] ++ trail ++ more) := by
  have cs : ∀ r ∈ lead ++ [main] ++ trail ++ more, 10 ∉ r ∧ r.length ≤ 900 ∧ (lexRow r).2 = none := fun r hr => by
    rcases List.mem_append.mp hr with hr | hr
    · rcases List.mem_append.mp hr with hr | hr
      · rcases List.mem_append.mp hr with hr | hr
        · obtain ⟨a, b, c⟩ := empt_ok r (w.l r hr)
          exact ⟨a, by omega, by rw [c]⟩
        · rw [List.mem_singleton.mp hr]
          exact ⟨w.no, w.few, w.ok⟩
      · obtain ⟨a, b, c⟩ := empt_ok r (w.t r hr)
        exact ⟨a, by omega, by rw [c]⟩
    · exact hm r hr
  refine ⟨by simp, fun r hr => (cs r hr).1, fun r hr => (cs r hr).2.1, ?_, fun r hr => (cs r hr).2.2⟩
  have h1 := w.ll
  have h2 := w.tl
  simp only [List.length_append, List.length_cons, List.length_nil]
  omega
theorem Whole.page {lead trail : List (List Nat)} {main : List Nat} {us : List Tk} (w : Whole lead main trail us) : pageP (lead ++ [main] ++ trail) = [us] := by
  unfold pageP
  rw [List.append_assoc, groups_skip lead 1 _ fun r hr => (empt_ok r (w.l r hr)).2.2]
  show (groups (1 + lead.length) (main :: trail)).map _ = _
  rw [Nat.add_comm 1, groups_at _ _ _ (by rw [w.tk]; exact w.ne), w.tk, groups_none trail _ fun r hr => (empt_ok r (w.t r hr)).2.2]
  show [cutP us] = _
  rw [cut_few w.le]
theorem Whole.page2 {lead trail : List (List Nat)} {main more : List Nat} {us : List Tk} (w : Whole lead main trail us) {x : Tk} (hx : rowT (lead.length + 1 + 1 + trail.length) more = [x]) : pageP (lead ++ [main] ++ trail ++ [more]) = [us, [x]] := by
  unfold pageP
  have e : lead ++ [main] ++ trail ++ [more] = lead ++ (main :: (trail ++ [more])) := by simp
  rw [e, groups_skip lead 1 _ fun r hr => (empt_ok r (w.l r hr)).2.2, Nat.add_comm 1, groups_at _ _ _ (by rw [w.tk]; exact w.ne), w.tk, groups_skip trail _ _ fun r hr => (empt_ok r (w.t r hr)).2.2, groups_at _ _ _ (by rw [hx]; exact List.cons_ne_nil _ _), hx]
  show [cutP us, cutP [x]] = _
  rw [cut_few w.le, cut_few (by show 1 ≤ 60; decide)]
section
variable {P : Program} {w : World} {K : PySem.W.Frag} {mg : Str → Option Value} {base : Heap}
abbrev s_law : Stmt := topS 50
theorem sc_law : FnScope ["_law_script", "_law_d", "_law_empty", "_law_turn", "_law_w", "_law_c", "_law_due", "_law_rows", "_law_more", "_law_place", "_law_k"] ["_law_script"] (fnScope s_law) := fnScope_by (by decide +kernel)
def spLaw (K : PySem.W.Frag) : Sp := fun vs H Q _ => ∃ (a : Addr) (ns : List Int), vs = [.ref a] ∧ Scr K H a ns ∧ ∀ H', Q (.bl true) H'
theorem ok_law (T : ModsL K mg) {CF : Addr} {k : Nat} (hk : 30 ≤ k) (c__law_dice : Cal P w K mg base 1 "_law_dice" (spDice K) []) (c__law_next : Cal P w K mg base 1 "_law_next" (spNext K) []) (c__law_pick : Cal P w K mg base 2 "_law_pick" (spPick K) []) (c__law_e : Cal P w K mg base k "_law_e" (spEd K 2 3) []) (c__law_put_e : Cal P w K mg base k "_law_put_e" (spPutE K 3) [])
    (c__law_like : Cal P w K mg base 10 "_law_like" (spLike K 10) []) (c__law_told : Cal P w K mg base k "_law_told" (spTold CF worthTree) []) {f : Addr} {fd : FuncData} (F : C8.Fun K "law" "law" s_law f fd) : FnOk P w K mg base C8.CX0 (k + 1) f fd ["_law_script"] (spLaw K) := by
  refine C8.fn0 F sc_law (fun vs H Q E h => ?_) (fun cdv A outer s H vs Q E hr h => ?_)
  · obtain ⟨_, _, rfl, _⟩ := h
    rfl
  · obtain ⟨a, ns, rfl, hS, q⟩ := h
    have m_range := T.m_range
    have m_len := T.m_len
    have hu := hu_of hr
    obtain ⟨z1, z2, z3, z4, z5, z6, z7, z8, z9, z10⟩ := lits_92
    obtain ⟨g1, g2, g3, g4, g5, g6⟩ := names_good
    refine ⟨_, (pss_cons (ps_set (i := 1) sc_law.nd rfl (.inr rfl) (C8.pe_c c__law_dice hr (by first | decide | exact Nat.le_refl _ | omega) (by rfl) (pa_cons (pv 0) pa_nil)))
      (pss_cons (ps_set (i := 2) sc_law.nd rfl (.inr rfl) (pe_lst (pa_cons pe_str (pa_cons pe_str (pa_cons pe_str (pa_cons pe_str pa_nil))))))
      (pss_cons (ps_for PassesOwn.never rfl (pi_range1 (by rfl) m_range (pa_cons pe_int pa_nil)) (pg_name (i := 3) sc_law.nd rfl (.inl rfl)) (pss_cons (ps_set (i := 4) sc_law.nd rfl (.inl rfl) (pe_disp (pps_cons pe_str (pe_lst pa_nil) (pps_cons pe_str pe_str (pps_cons pe_str pe_str pps_nil))) (by rfl) (by rfl) (by simp) (by decide)))
      (pss_cons (ps_set (i := 5) sc_law.nd rfl (.inl rfl) (pe_disp (pps_cons pe_str (pe_lst (pa_cons (pe_tup (pa_cons pe_str (pa_cons pe_str (pa_cons pe_str pa_nil)))) (pa_cons (pe_tup (pa_cons pe_str (pa_cons pe_str (pa_cons pe_str pa_nil)))) (pa_cons (pe_tup (pa_cons pe_str (pa_cons pe_str (pa_cons pe_str pa_nil)))) pa_nil)))) (pps_cons pe_str (pe_lst (pa_cons pe_str (pa_cons pe_str (pa_cons pe_str (pa_cons pe_str (pa_cons pe_str pa_nil)))))) pps_nil)) (by rfl) (by rfl) (by simp) (by decide)))
      (pss_cons (ps_dput hu (pv 5) pe_str (pe_lst (pa_cons (pe_tup (pa_cons pe_str (pa_cons pe_str (pa_cons (pe_tup (pa_cons pe_str (pa_cons pe_str pa_nil))) (pa_cons pe_str pa_nil))))) (pa_cons (pe_tup (pa_cons pe_str (pa_cons pe_str (pa_cons (pe_tup pa_nil) (pa_cons pe_str pa_nil))))) pa_nil))) rfl)
      (pss_cons (ps_dput hu (pv 4) pe_str (pe_lc (own := [("_law_k", 10)]) (g := (gName 10)) (tt := tYes) rfl sc_law.nd (pi_range1 (by rfl) m_range (pa_cons (C8.pe_c c__law_next hr (by first | decide | exact Nat.le_refl _ | omega) (by rfl) (pa_cons (pv 1) (pa_cons pe_int pa_nil))) pa_nil)) (blkOk_by (N := ["_law_script", "_law_d", "_law_empty", "_law_turn", "_law_w", "_law_c", "_law_due", "_law_rows", "_law_more", "_law_place", "_law_k"]) (sc := C8.fnScope s_law) (by decide +kernel)) (fun _ _ _ _ _ => pg_name (i := 10) sc_law.nd rfl (Or.inl rfl)) (fun _ _ _ _ _ => pts_nil) (fun _ _ _ _ _ => (C8.pe_c c__law_pick hr (by first | decide | exact Nat.le_refl _ | omega) (by rfl) (pa_cons (pv 1) (pa_cons (pv 2) pa_nil))))) rfl)
      (pss_cons (ps_set (i := 6) sc_law.nd rfl (.inl rfl) (C8.pe_c c__law_put_e hr (by first | decide | exact Nat.le_refl _ | omega) (by rfl) (pa_cons (pv 1) (pa_cons (pv 4) (pa_cons (C8.pe_c c__law_e hr (by first | decide | exact Nat.le_refl _ | omega) (by rfl) (pa_cons (pv 1) (pa_cons (C8.pe_c c__law_pick hr (by first | decide | exact Nat.le_refl _ | omega) (by rfl) (pa_cons (pv 1) (pa_cons (pe_lst (pa_cons pe_str (pa_cons pe_str pa_nil))) pa_nil))) (pa_cons (pv 5) (pa_cons (pe_op op_add pe_int (C8.pe_c c__law_next hr (by first | decide | exact Nat.le_refl _ | omega) (by rfl) (pa_cons (pv 1) (pa_cons pe_int pa_nil)))) pa_nil))))) (pa_cons pe_int pa_nil))))))
      (pss_cons (ps_set (i := 7) sc_law.nd rfl (.inl rfl) (pe_op op_cat (pe_dget hu (pv 4) pe_str (fun _ _ => rfl)) (pe_lst (pa_cons (pe_op op_add_str (pe_dget hu (pv 4) pe_str (fun _ _ => rfl)) (C8.pe_c c__law_pick hr (by first | decide | exact Nat.le_refl _ | omega) (by rfl) (pa_cons (pv 1) (pa_cons (pe_lst (pa_cons pe_str (pa_cons pe_str (pa_cons pe_str pa_nil)))) pa_nil)))) pa_nil))))
      (pss_cons (ps_set (i := 7) sc_law.nd rfl (.inl rfl) (pe_op op_cat (pv 7) (pe_lc (own := [("_law_k", 10)]) (g := (gName 10)) (tt := tYes) rfl sc_law.nd (pi_range1 (by rfl) m_range (pa_cons (C8.pe_c c__law_next hr (by first | decide | exact Nat.le_refl _ | omega) (by rfl) (pa_cons (pv 1) (pa_cons pe_int pa_nil))) pa_nil)) (blkOk_by (N := ["_law_script", "_law_d", "_law_empty", "_law_turn", "_law_w", "_law_c", "_law_due", "_law_rows", "_law_more", "_law_place", "_law_k"]) (sc := C8.fnScope s_law) (by decide +kernel)) (fun _ _ _ _ _ => pg_name (i := 10) sc_law.nd rfl (Or.inl rfl)) (fun _ _ _ _ _ => pts_nil) (fun _ _ _ _ _ => (C8.pe_c c__law_pick hr (by first | decide | exact Nat.le_refl _ | omega) (by rfl) (pa_cons (pv 1) (pa_cons (pv 2) pa_nil)))))))
      (pss_cons (ps_if (pt_not (pt_val (C8.pe_c c__law_like hr (by first | decide | exact Nat.le_refl _ | omega) (by rfl) (pa_cons (C8.pe_c c__law_told hr (by first | decide | exact Nat.le_refl _ | omega) (by rfl) (pa_cons (pe_join pe_str (pv 7)) pa_nil)) (pa_cons (pv 6) pa_nil))))) (pss_one (ps_ret pe_bl)) pss_nil)
      (pss_cons (ps_set (i := 8) sc_law.nd rfl (.inl rfl) (pe_op op_cat (pv 7) (pe_lst (pa_cons (pe_op op_add_str (pe_op Wt.op_rep_str pe_str (C8.pe_c c__law_next hr (by first | decide | exact Nat.le_refl _ | omega) (by rfl) (pa_cons (pv 1) (pa_cons pe_int pa_nil)))) (C8.pe_c c__law_pick hr (by first | decide | exact Nat.le_refl _ | omega) (by rfl) (pa_cons (pv 1) (pa_cons (pe_lst (pa_cons pe_str (pa_cons pe_str (pa_cons pe_str (pa_cons pe_str pa_nil))))) pa_nil)))) pa_nil))))
      (pss_cons (ps_set (i := 9) sc_law.nd rfl (.inl rfl) (pe_tup (pa_cons (pe_callB call_len_seq (by rfl) m_len PySem.boot_len (pa_cons (pv 8) pa_nil)) (pa_cons (pe_op op_sub (pe_op op_add pe_int (pe_callB call_len_str (by rfl) m_len PySem.boot_len (pa_cons (pe_ix ix_list (pv 8) (pe_un un_neg pe_int) (fun _ _ => rfl)) pa_nil))) (pe_callB call_len_str (by rfl) m_len PySem.boot_len (pa_cons (pe_m1 PySem.F.slot_str_strip PySem.F.type_str_strip mt_stripChars (pe_ix ix_list (pv 8) (pe_un un_neg pe_int) (fun _ _ => rfl)) pe_str) pa_nil))) pa_nil))))
      (pss_cons (ps_if (pt_not (pt_val (C8.pe_c c__law_like hr (by first | decide | exact Nat.le_refl _ | omega) (by rfl) (pa_cons (C8.pe_c c__law_told hr (by first | decide | exact Nat.le_refl _ | omega) (by rfl) (pa_cons (pe_join pe_str (pv 8)) pa_nil)) (pa_cons (pe_tup (pa_cons pe_str (pa_cons pe_str (pa_cons pe_str (pa_cons (pv 9) (pa_cons pe_str pa_nil)))))) pa_nil))))) (pss_one (ps_ret pe_bl)) pss_nil)
      (pss_one (ps_if (pt_not (pt_val (C8.pe_c c__law_like hr (by first | decide | exact Nat.le_refl _ | omega) (by rfl) (pa_cons (C8.pe_c c__law_told hr (by first | decide | exact Nat.le_refl _ | omega) (by rfl) (pa_cons (pe_join pe_str (pe_slice sl_list (pv 7) po_none (po_some (pe_callB call_len_seq (by rfl) m_len PySem.boot_len (pa_cons (pe_dget hu (pv 4) pe_str (fun _ _ => rfl)) pa_nil))))) pa_nil)) (pa_cons (pe_tup (pa_cons pe_str (pa_cons pe_str (pa_cons pe_str (pa_cons (pe_tup (pa_cons pe_int (pa_cons pe_int pa_nil))) (pa_cons pe_str pa_nil)))))) pa_nil))))) (pss_one (ps_ret pe_bl)) pss_nil))))))))))))))
      (pss_one (ps_ret pe_bl))))), ?_⟩
    -- d = _law_dice(script)
    refine ⟨_, rfl, a, ns, rfl, hS, fun d H1 hd0 e1 hd1 => ?_⟩
    have hD1 : Dc K H1 d a ns := ⟨hd1, hS.ex e1⟩
    refine q_asgL (xs := empt.map fun z => V.str (S z)) (el_any (el_lst (ea_cons ev_c (ea_cons ev_c (ea_cons ev_c (ea_cons ev_c ea_nil)))) (by show 4 ≤ 100000; decide)) lit_empt) fun le H2 hle0 e2 hle => ?_
    have hD2 := hD1.ex e2
    refine q_forR1 (n := 6) (ea_cons ev_c ea_nil) ⟨by decide, by decide⟩ (fun i σ' H' => ∃ (y3 y4 y5 y6 y7 y8 y9 : Option V), σ' = [some (.ref a), some (.ref d), some (.ref le), y3, y4, y5, y6, y7, y8, y9, none] ∧ Dc K H' d a ns ∧ H' le = some (.lst (empt.map fun z => V.str (S z))))
      (fun H3 e3 => ⟨none, none, none, none, none, none, none, rfl, hD2.ex e3, e3 _ _ hle⟩) ?_ ?_
    · rintro i σ' H3 hi ⟨y3, y4, y5, y6, y7, y8, y9, rfl, hD3, hle3⟩
      show tSeq _ _ _ [some (V.ref a), some (.ref d), some (.ref le), some (.int (i : Int)), y4, y5, y6, y7, y8, y9, none] H3
      -- w, c
      refine q_newW fun wa rl H4 hwa0 hrl0 hwrl e4 hwa4 hrl4 => ?_
      have hD4 := hD3.ex e4
      refine q_newC (ds := [.tuple [.str (S kNum), .str (S []), .str (S [120])], .tuple [.str (S oYes), .str (S [102]), .str (S [116])], .tuple [.str (S kNum), .str (S [102]), .str (S [117])]]) (ss := signs5)
        (edl_lst (ead_cons (ed_tup (ead_cons (ed_S (es_cl z7)) (ead_cons (ed_S (es_cl lit0)) (ead_cons (ed_S (es_cl z1)) ead_nil))) (by show 3 ≤ 100000; decide)) (ead_cons (ed_tup (ead_cons (ed_S (es_cl z8)) (ead_cons (ed_S (es_cl z2)) (ead_cons (ed_S (es_cl z3)) ead_nil))) (by show 3 ≤ 100000; decide)) (ead_cons (ed_tup (ead_cons (ed_S (es_cl z7)) (ead_cons (ed_S (es_cl z2)) (ead_cons (ed_S (es_cl z4)) ead_nil))) (by show 3 ≤ 100000; decide)) ead_nil))) (by show 3 ≤ 100000; decide))
        (el_any (el_lst (ea_cons ev_c (ea_cons ev_c (ea_cons ev_c (ea_cons ev_c (ea_cons ev_c ea_nil))))) (by show 5 ≤ 100000; decide)) lit_signs5) fun ca ln ls H5 nv hca0 e5 hca hln hnv hls => ?_
      refine q_dputDL (ds := [.tuple [.str (S []), .str (S [103]), .tuple [.str (S kNum), .str (S oYes)], .str (S kNum)], .tuple [.str (S [102]), .str (S [104]), .tuple [], .str (S oYes)]])
        (edl_lst (ead_cons (ed_tup (ead_cons (ed_S (es_cl lit0)) (ead_cons (ed_S (es_cl z5)) (ead_cons (ed_tup (ead_cons (ed_S (es_cl z7)) (ead_cons (ed_S (es_cl z8)) ead_nil)) (by show 2 ≤ 100000; decide)) (ead_cons (ed_S (es_cl z7)) ead_nil)))) (by show 4 ≤ 100000; decide)) (ead_cons (ed_tup (ead_cons (ed_S (es_cl z2)) (ead_cons (ed_S (es_cl z6)) (ead_cons (ed_tup ead_nil (by show 0 ≤ 100000; decide)) (ead_cons (ed_S (es_cl z8)) ead_nil)))) (by show 4 ≤ 100000; decide)) ead_nil)) (by show 2 ≤ 100000; decide))
        (ev_var rfl) hca (by show 2 ≤ 100; decide) fun ld H6 dv hld0 e6 hld hdv => ?_
      rw [show (Sum.inr (Str.ofString "defs") : Key) = lkD from rfl, put_defs]
      have hca6 := e6 _ _ hca
      have e47 : Ex H4 (upd H6 ca (.dK [(lkN, .ref ln), (lkS, .ref ls), (lkD, .ref ld)])) := Ex.mut (e5.trans e6) hca0
      have hC7 : CtxC (upd H6 ca (.dK [(lkN, .ref ln), (lkS, .ref ls), (lkD, .ref ld)])) ca 2 := by
        have nl : ∀ {l : Addr} {xs : List V}, H6 l = some (.lst xs) → (upd H6 ca (.dK [(lkN, .ref ln), (lkS, .ref ls), (lkD, .ref ld)])) l = some (.lst xs) := fun h => by
          rw [upd_ne (ne_of h hca6 (by intro z; cases z))]
          exact h
        have tx : Tx H6 (upd H6 ca (.dK [(lkN, .ref ln), (lkS, .ref ls), (lkD, .ref ld)])) := Tx.dK hca6
        refine ⟨_, ln, ld, ls, nv, dv, _, _, signs5, upd_same, ?_, ?_, ?_, nl (e6 _ _ hln), TdAll.tx ((Tx.of e6).trans tx) _ _ hnv, ?_, by show 3 ≤ 900; decide, nl hld, TdAll.tx tx _ _ hdv, ?_, by show 2 ≤ 900; decide, nl (e6 _ _ hls), by decide, by decide, by decide⟩
        · exact valV_pos (p := (lkN, V.ref ln)) rfl
        · rw [valV_neg (p := (lkN, V.ref ln)) lkND, valV_neg (p := (lkS, V.ref ls)) lkSD, valV_pos (p := (lkD, V.ref ld)) rfl]
        · rw [valV_neg (p := (lkN, V.ref ln)) lkNS, valV_pos (p := (lkS, V.ref ls)) rfl]
        · intro x hx
          simp only [List.mem_cons, List.not_mem_nil, or_false] at hx
          rcases hx with rfl | rfl | rfl
          · exact ⟨_, _, _, rfl, .inl rfl, g1⟩
          · exact ⟨_, _, _, rfl, .inr g2, g3⟩
          · exact ⟨_, _, _, rfl, .inr g2, g4⟩
        · intro x hx
          simp only [List.mem_cons, List.not_mem_nil, or_false] at hx
          rcases hx with rfl | rfl
          · refine ⟨_, _, _, _, rfl, .inl rfl, g5, by show 2 ≤ 2; decide, fun p hp => ?_⟩
            simp only [List.mem_cons, List.not_mem_nil, or_false] at hp
            exact hp
          · exact ⟨_, _, _, _, rfl, .inr g2, g6, by show 0 ≤ 2; decide, fun p hp => by cases hp⟩
      generalize upd H6 ca (.dK [(lkN, .ref ln), (lkS, .ref ls), (lkD, .ref ld)]) = H7 at e47 hC7 ⊢
      have hca7 : ca ≠ wa := (ne_of_none hwa4 hca0).symm
      have hD7 := hD4.ex e47
      have hle7 := (e4.trans e47) _ _ hle3
      have pickE : ∀ {σ : L2.St} {H' : Hp} {E : XK}, Dc K H' d a ns → H' le = some (.lst (empt.map fun z => V.str (S z))) → σ[1]? = some (some (.ref d)) → σ[2]? = some (some (.ref le)) → EvN (tCall (spPick K) [] E (tCons (tVar 1) (tCons (tVar 2) tNil))) σ H' (fun v => v ∈ empt.map fun z => V.str (S z)) := fun hd hl s1 s2 =>
        en_call (ea_cons (ev_var s1) (ea_cons (ev_var s2) ea_nil)) (sn_pick hd (sq_of hl) (by decide) (by decide))
      -- w["rows"]
      refine q_dputNL (en_lcR (N := 2) (EvN.imp (en_next hD7 (ev_var rfl) ev_c) fun v ⟨z, h1, h2, h3⟩ => ⟨z, h1, h2, by omega⟩) (by decide) (fun _ => rfl) (fun i H1 e => pickE (hD7.ex e) (e _ _ hle7) rfl rfl)) (ev_var rfl) (e47 _ _ hwa4) (by show 3 ≤ 100; decide) fun rl2 H8 xs hxs hrl20 e8 hrl28 => ?_
      obtain ⟨hxl, hxa⟩ := hxs
      obtain ⟨lead, rfl, hlead⟩ := texts_of xs hxa
      rw [List.length_map] at hxl
      rw [show (Sum.inr (Str.ofString "rows") : Key) = kR from rfl, put_rows]
      have hwa8 := (e47.trans e8) _ _ hwa4
      have hrw8 : rl2 ≠ wa := ne_of hrl28 hwa8 (by intro z; cases z)
      have eB9 : ExB wa H8 (upd H8 wa (.dK (wd3 rl2 [] []))) := fun b o hb ho => by rw [upd_ne hb]; exact ho
      have pen9 : PenA K (upd H8 wa (.dK (wd3 rl2 [] []))) d a wa rl2 ns lead [] := ⟨[], [], (hD7.ex e8).goB eB9 hwa8, ⟨upd_same, by rw [upd_ne hrw8]; exact hrl28⟩, ⟨[], pl_start, rfl⟩, by omega, Nat.zero_le _, Nat.zero_le _⟩
      have hC9 := (hC7.go e8).goB eB9 hca7 hwa8
      have hle9 : (upd H8 wa (.dK (wd3 rl2 [] []))) le = some (.lst (empt.map fun z => V.str (S z))) := eB9 _ _ (ne_of (e8 _ _ hle7) hwa8 (by intro z; cases z)) (e8 _ _ hle7)
      generalize upd H8 wa (.dK (wd3 rl2 [] [])) = H9 at eB9 pen9 hC9 hle9 ⊢
      have hD9 : Dc K H9 d a ns := by
        obtain ⟨row, last, p9⟩ := pen9
        exact p9.dc
      -- due
      refine q_asgPutR (er_eN (Ean.imp (ean_one (ev_var rfl) (ean_cons (P := fun v => ∃ k2, (k2 = kNum ∨ k2 = oYes) ∧ v = .str (S k2)) ?_ (ean_one (ev_var rfl) (ean_cons (P := fun v => ∃ n : Nat, 1 ≤ n ∧ n ≤ 2 ∧ v = .int (n : Int)) (en_opV (EvN.of ev_c) (fun _ _ => en_next hD9 (ev_var rfl) ev_c) ?_) ean_nil)))) ?_) hD9 hC9) (ev_var rfl) (ev_var rfl) pen9 (by decide) (fun _ h => h) fun v H10 us due eB10 pen10 hus hput hv hsh => ?_
      · refine (en_pickLs (Pt := (· = [kNum, oYes])) hD9 (ev_var rfl) (els_new (ts := [kNum, oYes]) (eat_lst2 (es_cl z7) (es_cl z8)) rfl) fun ts h => by rw [h]; exact ⟨by decide, by decide⟩).imp ?_
        rintro v ⟨ts, s2, rfl, hs2, rfl⟩
        simp only [List.mem_cons, List.not_mem_nil, or_false] at hs2
        exact ⟨s2, hs2, rfl⟩
      · rintro x y rfl ⟨z, rfl, z0, z1⟩
        exact ⟨.int (1 + z), ⟨(1 + z).toNat, by omega, by omega, congrArg V.int (by omega)⟩, rv_I0⟩
      · rintro vs ⟨r, rfl, _, r2, rfl, ⟨k2, hk2, rfl⟩, r3, rfl, _, r4, rfl, ⟨n, n1, n2, rfl⟩, rfl⟩
        exact ⟨k2, n, hk2, n1, n2, rfl⟩
      rw [List.nil_append] at pen10
      have hle10 := pen9.lst eB10 hle9
      obtain ⟨row, last, p10⟩ := pen10
      obtain ⟨ws, hpl, hws⟩ := p10.pl
      have h9 := p10.rl9
      have hD10 := p10.dc
      have hwr10 := p10.wr
      -- rows
      refine q_asgNL (en_catL (n := 1) (ev_dget (ev_var rfl) ev_c hwr10.d (wd_rows rl2 row last)) hwr10.r (enl_one (P := fun v => ∃ t ∈ tailW, v = .str (S (row ++ t))) (en_opV (EvN.of (ev_dget (ev_var rfl) ev_c hwr10.d (wd_row rl2 row last))) (fun _ _ => en_pickLs (Pt := (· = tailW)) hD10 (ev_var rfl) (els_new (ts := tailW) (el_any (el_lst (ea_cons ev_c (ea_cons ev_c (ea_cons ev_c ea_nil))) (by show 3 ≤ 100000; decide)) lit_tailW) rfl) fun ts h => by rw [h]; exact ⟨by decide, by decide⟩) ?_)) (fun ys ⟨v, h, _⟩ => by rw [h]; exact Nat.le_refl _) (by rw [List.length_map]; omega)) fun lr H11 xs hxs hlr0 e11 hlr => ?_
      · rintro x y rfl ⟨ts, t, rfl, ht, rfl⟩
        have := (tail_ok t ht).2.1
        exact ⟨_, ⟨t, ht, rfl⟩, rv_addS (by omega)⟩
      obtain ⟨_, ⟨_, rfl, t, ht, rfl⟩, rfl⟩ := hxs
      obtain ⟨tn, tl8, tg, htg⟩ := tail_ok t ht
      have hD11 := hD10.ex e11
      refine q_asgNL (en_catL (n := 2) (ev_var rfl) hlr (en_lcR (N := 2) (EvN.imp (en_next hD11 (ev_var rfl) ev_c) fun v ⟨z, h1, h2, h3⟩ => ⟨z, h1, h2, by omega⟩) (by decide) (fun _ => rfl) (fun i H1 e => pickE (hD11.ex e) ((e11.trans e) _ _ hle10) rfl rfl)) (fun ys h => h.1) (by rw [List.length_append, List.length_map]; show lead.length + 1 + 2 ≤ _; omega)) fun lr2 H12 xs hxs hlr20 e12 hlr2 => ?_
      obtain ⟨_, ⟨hxl2, hxa2⟩, rfl⟩ := hxs
      obtain ⟨trail, rfl, htrail⟩ := texts_of _ hxa2
      rw [List.length_map] at hxl2
      have hlr2' : H12 lr2 = some (.lst ((lead ++ [row ++ t] ++ trail).map fun z => V.str (S z))) := by
        rw [hlr2, List.map_append, List.map_append] <;> rfl
      have hlex := pl_end hpl htg
      have W : Whole lead (row ++ t) trail us := by
        refine ⟨hlead, hxl, htrail, hxl2, ?_, ?_, by rw [hlex], ?_, ?_, by omega⟩
        · intro z
          rcases List.mem_append.mp z with z | z
          · exact hpl.plain.2 z
          · exact tn z
        · rw [List.length_append]
          omega
        · unfold rowT
          rw [hlex, hws]
        · obtain ⟨t0, r0, e0, _⟩ := hput.head
          rw [e0]
          exact List.cons_ne_nil _ _
      have R1 := W.rows (more := []) (fun r h => by cases h) (by decide)
      rw [List.append_nil] at R1
      have hv12 := Td.tx (Tx.of (e11.trans e12)) _ _ hv
      -- like
      refine q_like (n := 10) (text := TL.joinL [10] (lead ++ [row ++ t] ++ trail)) (rows := lead ++ [row ++ t] ++ trail) (es_joinV (es_cl z10) (ev_var rfl) hlr2' R1.fits) R1.text (firstBad_none 1 _ R1.ok) (fun H' x' => ?_) ?_ (by decide) fun H13 x13 => ?_
      · rw [W.page, wt_one hput (by decide)]
        exact ed_of (ev_var rfl) (Td.tx x'.tx _ _ hv12)
      · rw [W.page, wt_one hput (by decide)]
        exact hsh.up (by decide)
      have hlr13 := x13.lst hlr2'
      have hD13 := x13.dc (hD11.ex e12)
      -- more
      refine q_asgNL (en_catL (n := 1) (ev_var rfl) hlr13 (enl_one (P := fun v => ∃ g wd, g < 3 ∧ wd ∈ moreW ∧ v = .str (S (List.replicate g 32 ++ wd))) (en_opV (P := fun v => ∃ g, g < 3 ∧ v = .str (S (List.replicate g 32))) (en_opV (EvN.of (es_cl z9)) (fun _ _ => en_next hD13 (ev_var rfl) ev_c) ?_) (fun _ _ => en_pickLs (Pt := (· = moreW)) hD13 (ev_var rfl) (els_new (ts := moreW) (el_any (el_lst (ea_cons ev_c (ea_cons ev_c (ea_cons ev_c (ea_cons ev_c ea_nil)))) (by show 4 ≤ 100000; decide)) lit_moreW) rfl) fun ts h => by rw [h]; exact ⟨by decide, by decide⟩) ?_)) (fun ys ⟨v, h, _⟩ => by rw [h]; exact Nat.le_refl _) (by
          have := R1.few
          rw [List.length_map]
          omega)) fun lm H14 xs hxs hlm0 e14 hlm => ?_
      · rintro x y rfl ⟨z, rfl, z0, z1⟩
        obtain ⟨g, rfl⟩ : ∃ g : Nat, z = (g : Int) := ⟨z.toNat, by omega⟩
        refine ⟨_, ⟨g, by omega, ?_⟩, rv_repS (a := [32]) (k := g) (by decide) (by omega)⟩
        rw [rep_blank]
      · rintro x y ⟨g, hg, rfl⟩ ⟨ts, wd, rfl, hwd, rfl⟩
        have := (more_no g hg wd hwd).2.2
        exact ⟨_, ⟨g, wd, hg, hwd, rfl⟩, rv_addS (by rw [List.length_replicate]; omega)⟩
      obtain ⟨_, ⟨_, rfl, g, wd, hg, hwd, rfl⟩, rfl⟩ := hxs
      have hmlex := more_lex g hg wd hwd
      obtain ⟨hmno, hmne, hm3⟩ := more_no g hg wd hwd
      have hlm' : H14 lm = some (.lst ((lead ++ [row ++ t] ++ trail ++ [List.replicate g 32 ++ wd]).map fun z => V.str (S z))) := by
        rw [hlm, List.map_append (l₁ := lead ++ [row ++ t] ++ trail)] <;> rfl
      have hml : (List.replicate g 32 ++ wd).length = g + wd.length := by rw [List.length_append, List.length_replicate]
      have R2 := W.rows (more := [List.replicate g 32 ++ wd]) (fun r h => by
        rw [List.mem_singleton.mp h]
        exact ⟨hmno, by omega, by rw [hmlex]⟩) (by show 1 ≤ 10; decide)
      have hlen2 : ((lead ++ [row ++ t] ++ trail ++ [List.replicate g 32 ++ wd]).map fun z => V.str (S z)).length = lead.length + 1 + 1 + trail.length := by
        simp only [List.length_map, List.length_append, List.length_cons, List.length_nil]
        omega
      have lastV : ∀ {σ : L2.St} {H' : Hp}, σ[8]? = some (some (.ref lm)) → H' lm = some (.lst ((lead ++ [row ++ t] ++ trail ++ [List.replicate g 32 ++ wd]).map fun z => V.str (S z))) → EvS (tOp (rIxL K) (tVar 8) (tUn (rU fun i => .int (-i)) (tC (.int 1)))) σ H' (List.replicate g 32 ++ wd) := fun hs hl => ev_op (ev_var hs) (ev_un ev_c ru_neg) (rv_ixL (i := -1) (sq_of hl) (by rw [List.map_append]; exact atI_last _ _))
      -- place
      refine q_asgU (xs := [.int ((lead.length + 1 + 1 + trail.length : Nat) : Int), .int ((g + 1 : Nat) : Int)]) (eu_tup (ea_cons (ev_is (ev_len (K := K) (ev_var rfl) (sq_of hlm')) (by rw [hlen2])) (ea_cons (ev_is (ev_op (ev_op ev_c (ev_lenS (lastV rfl hlm') (by omega)) rv_I0) (ev_lenS (a := wd) ?_ (by omega)) rv_I0) ?_) ea_nil)) (by show 2 ≤ 100000; decide)) fun pl H15 hpl0 e15 hpl15 => ?_
      · intro H16 e16 Q16 q16
        refine lastV rfl (e16 _ _ hlm') _ (Ex.refl _) _ fun H17 e17 => ⟨⟨_, rfl⟩, _, _, rfl, rfl, ?_, ?_⟩
        · rw [S_len]
          exact sz_of (by omega)
        · rw [more_strip g hg wd hwd]
          exact q16 H17 e17
      · rw [hml]
        exact congrArg V.int (by omega)
      have x1315 : Ei H13 H15 := Ei.of (e14.trans e15)
      have hx2 : rowT (lead.length + 1 + 1 + trail.length) (List.replicate g 32 ++ wd) = [(kindOf wd, wd, lead.length + 1 + 1 + trail.length, g + 1)] := by
        unfold rowT
        rw [hmlex] <;> rfl
      have hp2 := W.page2 hx2
      have herr : worthTree (bhOf (TL.joinL [10] (lead ++ [row ++ t] ++ trail ++ [List.replicate g 32 ++ wd]))) (pageP (lead ++ [row ++ t] ++ trail ++ [List.replicate g 32 ++ wd])) = .error (lead.length + 1 + 1 + trail.length, g + 1) := by
        rw [hp2]
        exact wt_two hput (by decide) hmne
      refine q_like (n := 10) (text := TL.joinL [10] (lead ++ [row ++ t] ++ trail ++ [List.replicate g 32 ++ wd])) (rows := lead ++ [row ++ t] ++ trail ++ [List.replicate g 32 ++ wd]) (es_joinV (es_cl z10) (ev_var rfl) (e15 _ _ hlm') R2.fits) R2.text (firstBad_none 1 _ R2.ok) (fun H' x' => ?_) ?_ (by decide) fun H16 x16 => ?_
      · rw [herr]
        exact ed_tup (ead_cons (ed_str ev_c) (ead_cons (ed_str ev_c) (ead_cons (ed_str ev_c) (ead_cons (ed_of (ev_var rfl) (Td.tx x'.tx _ _ (.tup hpl15 (.cons (.int _) (.cons (.int _) .nil))))) (ead_cons (ed_str ev_c) ead_nil))))) (by show 5 ≤ 100000; decide)
      · rw [herr]
        exact shp_err
      -- without words
      have x1316 := x1315.trans x16
      have x1016 : Ei H10 H16 := (Ei.of (e11.trans e12)).trans (x13.trans x1316)
      have hwa16 := x1016.dk hwr10.d
      have hrl16 := x1016.lst hwr10.r
      have hlr16 := x1316.lst hlr13
      have hcut : cutV ((lead ++ [row ++ t] ++ trail).map fun z => V.str (S z)) none (some ((lead.length : Nat) : Int)) = lead.map fun z => V.str (S z) := by
        unfold cutV
        rw [HT.sIx_nat, HT.sIx_none, List.drop_zero, Nat.sub_zero, List.length_map, Nat.min_eq_left (by rw [List.append_assoc, List.length_append]; omega), ← List.map_take, List.append_assoc, List.take_left]
      have lead0 : ∃ rows0, TextOk (TL.joinL [10] lead) rows0 ∧ firstBad 1 rows0 = none ∧ pageP rows0 = [] ∧ fitsJ [10] lead := by
        by_cases hl0 : lead = []
        · subst hl0
          exact ⟨[[]], ⟨by decide, rfl, by decide, by decide⟩, by decide +kernel, by decide +kernel, by decide⟩
        · have R3 : RowsT lead := ⟨hl0, fun r hr => (empt_ok r (hlead r hr)).1, fun r hr => by have := (empt_ok r (hlead r hr)).2.1; omega, by omega, fun r hr => by rw [(empt_ok r (hlead r hr)).2.2]⟩
          refine ⟨lead, R3.text, firstBad_none 1 _ R3.ok, ?_, R3.fits⟩
          unfold pageP
          rw [groups_none lead 1 fun r hr => (empt_ok r (hlead r hr)).2.2] <;> rfl
      obtain ⟨rows0, t0, f0, p0, fits0⟩ := lead0
      have herr0 : worthTree (bhOf (TL.joinL [10] lead)) (pageP rows0) = .error (1, 1) := by rw [p0] <;> rfl
      refine s_like (n := 10) (text := TL.joinL [10] lead) (rows := rows0) (es_join (es_cl z10) (el_any (el_sl (ev_var rfl) eo_none (eo_some (ev_is (ev_len (K := K) (ev_dget (ev_var rfl) ev_c hwa16 (wd_rows rl2 row last)) (sq_of hrl16)) (by rw [List.length_map]))) (sq_of hlr16)) hcut) fits0) t0 f0 (fun H' x' => ?_) ?_ (by decide) fun H17 x17 => ?_
      · rw [herr0]
        exact ed_tup (ead_cons (ed_str ev_c) (ead_cons (ed_str ev_c) (ead_cons (ed_str ev_c) (ead_cons (ed_tup (ead_cons (ed_int ev_c) (ead_cons (ed_int ev_c) ead_nil)) (by show 2 ≤ 100000; decide)) (ead_cons (ed_str ev_c) ead_nil))))) (by show 5 ≤ 100000; decide)
      · rw [herr0]
        exact shp_err
      · exact ⟨_, _, _, _, _, _, _, rfl, (x1016.trans x17).dc hD10, (x1016.trans x17).lst hle10⟩
    · rintro σ' H3 ⟨y3, y4, y5, y6, y7, y8, y9, rfl, _, _⟩
      exact s_ret ev_c fun H4 _ => q H4
end
end Wt

set_option Elab.async false
set_option linter.all false
set_option maxRecDepth 100000
set_option maxHeartbeats 4000000
namespace Wt
open PySem PySem.Spec PyProof.Rows L2 SX Evl
open C8 (Def Cal cal0 fnScope_by fnScope)
/-! The end. -/
theorem scr_of {K : PySem.W.Frag} {H : Hp} {a : Addr} {ns : List Int} (hl : ns.length ≤ 63) (o : Only H) (h : SqL K H a (ns.map V.int)) : Scr K H a ns := by
  refine ⟨hl, fun H' f => ?_⟩
  rcases h with (h | ⟨ob, h⟩) | h
  · rcases o a with z | ⟨ob, xs, z⟩
    · rw [z] at h
      cases h
    · rw [z] at h
      cases h
  · exact .inl (.inr ⟨ob, f a ob _ h⟩)
  · exact .inr h
theorem cal_up {P : Program} {w : World} {K : PySem.W.Frag} {mg : Str → Option Value} {base : Heap} {j k : Nat} {x : Str} {sp : Sp} {dvs : List V} (c : Cal P w K mg base j x sp dvs) (h : j ≤ k) : Cal P w K mg base k x sp dvs := by
  obtain ⟨f, fd, ps, ds, F, h1, h2, h3, h4⟩ := c.ex
  exact ⟨f, fd, ps, ds, F.mono h, h1, h2, h3, h4⟩
theorem cal_no {P : Program} {w : World} {K : PySem.W.Frag} {mg : Str → Option Value} {base : Heap} {k : Nat} {x : Str} {st : Stmt} {f : Addr} {fd : FuncData} {ps : List Str} {sp : Sp} (F : Def K mg x st f fd) (b : Binds K fd ps []) (h : ∀ vs H Q E, ¬ sp vs H Q E) : Cal P w K mg base k x sp [] :=
  ⟨f, fd, ps, [], ⟨fun vs H Q E q => absurd q (h vs H Q E), fun A outer s H args us vs Q E _ _ _ _ q => absurd q (h vs H Q E)⟩, F.mgf, F.kp, b, .nil⟩
theorem put_no {K : PySem.W.Frag} (vs : List V) (H : Hp) (Q : VK) (E : XK) : ¬ spPutE K 0 vs H Q E := by
  rintro ⟨_, _, _, _, _, _, _, _, _, _, _, _, _, _, _, _, r, _⟩
  cases r
theorem all_mk {l : PySem.W.OpenLaw} {w : World} {K : PySem.W.Frag} {h : Heap} {mg : Str → Option Value} {fa : Addr} (X : K.In h) (G : h.Ns mainGlobals mg) (hfa : mg "law" = some (.ref fa)) {CF C CP : Addr} (FW : FaultsW K mg CF) (EW : FaultsW K mg CF → ∀ (P : Program) (w : World) (base : Heap), ExpW K mg CF C CP P w base)
    {od_worth_tree an_worth_tree : Option Addr} {sl_worth_tree : Array (Option Value)} {oc_worth_tree kV_worth_tree dc_worth_tree pm_worth_tree cd_worth_tree ct_worth_tree : Value} {f_worth_tree : Addr}
    (a_worth_tree : PySem.W.nsIn K mainGlobals "worth_tree" = some (some (.ref f_worth_tree))) (l_worth_tree : K.lookup f_worth_tree = some ⟨oc_worth_tree, od_worth_tree, .func (PySem.W.fnOf "worth_tree" "worth_tree" (C8.fnArgs s_worth_tree) (C8.fnBody s_worth_tree) (C8.fnScope s_worth_tree) .none kV_worth_tree dc_worth_tree pm_worth_tree an_worth_tree cd_worth_tree ct_worth_tree), sl_worth_tree⟩)
    (c_worth_tree : PySem.W.codeIn K cd_worth_tree "worth_tree" = true) (k_worth_tree : PySem.W.keepIn K (.ref f_worth_tree) = true)
    {od__law_dice an__law_dice : Option Addr} {sl__law_dice : Array (Option Value)} {oc__law_dice kV__law_dice dc__law_dice pm__law_dice cd__law_dice ct__law_dice : Value} {f__law_dice : Addr}
    (a__law_dice : PySem.W.nsIn K mainGlobals "_law_dice" = some (some (.ref f__law_dice))) (l__law_dice : K.lookup f__law_dice = some ⟨oc__law_dice, od__law_dice, .func (PySem.W.fnOf "_law_dice" "_law_dice" (C8.fnArgs s__law_dice) (C8.fnBody s__law_dice) (C8.fnScope s__law_dice) .none kV__law_dice dc__law_dice pm__law_dice an__law_dice cd__law_dice ct__law_dice), sl__law_dice⟩)
    (c__law_dice : PySem.W.codeIn K cd__law_dice "_law_dice" = true) (k__law_dice : PySem.W.keepIn K (.ref f__law_dice) = true)
    {od__law_next an__law_next : Option Addr} {sl__law_next : Array (Option Value)} {oc__law_next kV__law_next dc__law_next pm__law_next cd__law_next ct__law_next : Value} {f__law_next : Addr}
    (a__law_next : PySem.W.nsIn K mainGlobals "_law_next" = some (some (.ref f__law_next))) (l__law_next : K.lookup f__law_next = some ⟨oc__law_next, od__law_next, .func (PySem.W.fnOf "_law_next" "_law_next" (C8.fnArgs s__law_next) (C8.fnBody s__law_next) (C8.fnScope s__law_next) .none kV__law_next dc__law_next pm__law_next an__law_next cd__law_next ct__law_next), sl__law_next⟩)
    (c__law_next : PySem.W.codeIn K cd__law_next "_law_next" = true) (k__law_next : PySem.W.keepIn K (.ref f__law_next) = true)
    {od__law_like an__law_like : Option Addr} {sl__law_like : Array (Option Value)} {oc__law_like kV__law_like dc__law_like pm__law_like cd__law_like ct__law_like : Value} {f__law_like : Addr}
    (a__law_like : PySem.W.nsIn K mainGlobals "_law_like" = some (some (.ref f__law_like))) (l__law_like : K.lookup f__law_like = some ⟨oc__law_like, od__law_like, .func (PySem.W.fnOf "_law_like" "_law_like" (C8.fnArgs s__law_like) (C8.fnBody s__law_like) (C8.fnScope s__law_like) .none kV__law_like dc__law_like pm__law_like an__law_like cd__law_like ct__law_like), sl__law_like⟩)
    (c__law_like : PySem.W.codeIn K cd__law_like "_law_like" = true) (k__law_like : PySem.W.keepIn K (.ref f__law_like) = true)
    {od__law_pick an__law_pick : Option Addr} {sl__law_pick : Array (Option Value)} {oc__law_pick kV__law_pick dc__law_pick pm__law_pick cd__law_pick ct__law_pick : Value} {f__law_pick : Addr}
    (a__law_pick : PySem.W.nsIn K mainGlobals "_law_pick" = some (some (.ref f__law_pick))) (l__law_pick : K.lookup f__law_pick = some ⟨oc__law_pick, od__law_pick, .func (PySem.W.fnOf "_law_pick" "_law_pick" (C8.fnArgs s__law_pick) (C8.fnBody s__law_pick) (C8.fnScope s__law_pick) .none kV__law_pick dc__law_pick pm__law_pick an__law_pick cd__law_pick ct__law_pick), sl__law_pick⟩)
    (c__law_pick : PySem.W.codeIn K cd__law_pick "_law_pick" = true) (k__law_pick : PySem.W.keepIn K (.ref f__law_pick) = true)
    {od__law_e an__law_e : Option Addr} {sl__law_e : Array (Option Value)} {oc__law_e kV__law_e dc__law_e pm__law_e cd__law_e ct__law_e : Value} {f__law_e : Addr}
    (a__law_e : PySem.W.nsIn K mainGlobals "_law_e" = some (some (.ref f__law_e))) (l__law_e : K.lookup f__law_e = some ⟨oc__law_e, od__law_e, .func (PySem.W.fnOf "_law_e" "_law_e" (C8.fnArgs s__law_e) (C8.fnBody s__law_e) (C8.fnScope s__law_e) .none kV__law_e dc__law_e pm__law_e an__law_e cd__law_e ct__law_e), sl__law_e⟩)
    (c__law_e : PySem.W.codeIn K cd__law_e "_law_e" = true) (k__law_e : PySem.W.keepIn K (.ref f__law_e) = true)
    {od__law_emit an__law_emit : Option Addr} {sl__law_emit : Array (Option Value)} {oc__law_emit kV__law_emit dc__law_emit pm__law_emit cd__law_emit ct__law_emit : Value} {f__law_emit : Addr}
    (a__law_emit : PySem.W.nsIn K mainGlobals "_law_emit" = some (some (.ref f__law_emit))) (l__law_emit : K.lookup f__law_emit = some ⟨oc__law_emit, od__law_emit, .func (PySem.W.fnOf "_law_emit" "_law_emit" (C8.fnArgs s__law_emit) (C8.fnBody s__law_emit) (C8.fnScope s__law_emit) .none kV__law_emit dc__law_emit pm__law_emit an__law_emit cd__law_emit ct__law_emit), sl__law_emit⟩)
    (c__law_emit : PySem.W.codeIn K cd__law_emit "_law_emit" = true) (k__law_emit : PySem.W.keepIn K (.ref f__law_emit) = true)
    {od__law_level an__law_level : Option Addr} {sl__law_level : Array (Option Value)} {oc__law_level kV__law_level dc__law_level pm__law_level cd__law_level ct__law_level : Value} {f__law_level : Addr}
    (a__law_level : PySem.W.nsIn K mainGlobals "_law_level" = some (some (.ref f__law_level))) (l__law_level : K.lookup f__law_level = some ⟨oc__law_level, od__law_level, .func (PySem.W.fnOf "_law_level" "_law_level" (C8.fnArgs s__law_level) (C8.fnBody s__law_level) (C8.fnScope s__law_level) .none kV__law_level dc__law_level pm__law_level an__law_level cd__law_level ct__law_level), sl__law_level⟩)
    (c__law_level : PySem.W.codeIn K cd__law_level "_law_level" = true) (k__law_level : PySem.W.keepIn K (.ref f__law_level) = true)
    {od__law_put_e an__law_put_e : Option Addr} {sl__law_put_e : Array (Option Value)} {oc__law_put_e kV__law_put_e dc__law_put_e pm__law_put_e cd__law_put_e ct__law_put_e : Value} {f__law_put_e : Addr}
    (a__law_put_e : PySem.W.nsIn K mainGlobals "_law_put_e" = some (some (.ref f__law_put_e))) (l__law_put_e : K.lookup f__law_put_e = some ⟨oc__law_put_e, od__law_put_e, .func (PySem.W.fnOf "_law_put_e" "_law_put_e" (C8.fnArgs s__law_put_e) (C8.fnBody s__law_put_e) (C8.fnScope s__law_put_e) .none kV__law_put_e dc__law_put_e pm__law_put_e an__law_put_e cd__law_put_e ct__law_put_e), sl__law_put_e⟩)
    (c__law_put_e : PySem.W.codeIn K cd__law_put_e "_law_put_e" = true) (k__law_put_e : PySem.W.keepIn K (.ref f__law_put_e) = true)
    {od__law_put_name an__law_put_name : Option Addr} {sl__law_put_name : Array (Option Value)} {oc__law_put_name kV__law_put_name dc__law_put_name pm__law_put_name cd__law_put_name ct__law_put_name : Value} {f__law_put_name : Addr}
    (a__law_put_name : PySem.W.nsIn K mainGlobals "_law_put_name" = some (some (.ref f__law_put_name))) (l__law_put_name : K.lookup f__law_put_name = some ⟨oc__law_put_name, od__law_put_name, .func (PySem.W.fnOf "_law_put_name" "_law_put_name" (C8.fnArgs s__law_put_name) (C8.fnBody s__law_put_name) (C8.fnScope s__law_put_name) .none kV__law_put_name dc__law_put_name pm__law_put_name an__law_put_name cd__law_put_name ct__law_put_name), sl__law_put_name⟩)
    (c__law_put_name : PySem.W.codeIn K cd__law_put_name "_law_put_name" = true) (k__law_put_name : PySem.W.keepIn K (.ref f__law_put_name) = true)
    {od__law_told an__law_told : Option Addr} {sl__law_told : Array (Option Value)} {oc__law_told kV__law_told dc__law_told pm__law_told cd__law_told ct__law_told : Value} {f__law_told : Addr}
    (a__law_told : PySem.W.nsIn K mainGlobals "_law_told" = some (some (.ref f__law_told))) (l__law_told : K.lookup f__law_told = some ⟨oc__law_told, od__law_told, .func (PySem.W.fnOf "_law_told" "_law_told" (C8.fnArgs s__law_told) (C8.fnBody s__law_told) (C8.fnScope s__law_told) .none kV__law_told dc__law_told pm__law_told an__law_told cd__law_told ct__law_told), sl__law_told⟩)
    (c__law_told : PySem.W.codeIn K cd__law_told "_law_told" = true) (k__law_told : PySem.W.keepIn K (.ref f__law_told) = true)
    {od_law an_law : Option Addr} {sl_law : Array (Option Value)} {oc_law kV_law dc_law pm_law cd_law ct_law : Value} {f_law : Addr}
    (a_law : PySem.W.nsIn K mainGlobals "law" = some (some (.ref f_law))) (l_law : K.lookup f_law = some ⟨oc_law, od_law, .func (PySem.W.fnOf "law" "law" (C8.fnArgs s_law) (C8.fnBody s_law) (C8.fnScope s_law) .none kV_law dc_law pm_law an_law cd_law ct_law), sl_law⟩)
    (c_law : PySem.W.codeIn K cd_law "law" = true) (k_law : PySem.W.keepIn K (.ref f_law) = true)
    (z_len : PySem.W.nsIn K mainGlobals "len" = some none)
    (z_enumerate : PySem.W.nsIn K mainGlobals "enumerate" = some none)
    (z_int : PySem.W.nsIn K mainGlobals "int" = some none)
    (z_str : PySem.W.nsIn K mainGlobals "str" = some none)
    (z_bool : PySem.W.nsIn K mainGlobals "bool" = some none)
    (z_tuple : PySem.W.nsIn K mainGlobals "tuple" = some none)
    (z_list : PySem.W.nsIn K mainGlobals "list" = some none)
    (z_range : PySem.W.nsIn K mainGlobals "range" = some none)
    (z_isinstance : PySem.W.nsIn K mainGlobals "isinstance" = some none) :
    ∃ fd : FuncData, (∀ (s : Shared) (v : Value), BindsTo s fd ⟨[v], []⟩ [("_law_script", v)]) ∧ ∀ base : Heap, K.In base → base.Ns mainGlobals mg → FnOk l.prog w K mg base C8.CX0 140 fa fd ["_law_script"] (spLaw K) := by
  have e : f_law = fa := by
    have z := (PySem.W.mg_of X G a_law).symm.trans hfa
    injection z with z
    injection z
  subst e
  have D_worth_tree : Def K mg "worth_tree" s_worth_tree f_worth_tree _ := ⟨⟨_, _, _, _, _, _, _, _, _, _, rfl, l_worth_tree, c_worth_tree⟩, PySem.W.mg_of X G a_worth_tree, k_worth_tree⟩
  have b_worth_tree := C8.Fun.binds D_worth_tree.fn rfl (ps := ["text"]) fun _ _ _ _ _ _ us hl => match us, hl with | [_], _ => rfl
  have D__law_dice : Def K mg "_law_dice" s__law_dice f__law_dice _ := ⟨⟨_, _, _, _, _, _, _, _, _, _, rfl, l__law_dice, c__law_dice⟩, PySem.W.mg_of X G a__law_dice, k__law_dice⟩
  have b__law_dice := C8.Fun.binds D__law_dice.fn rfl (ps := ["_law_script"]) fun _ _ _ _ _ _ us hl => match us, hl with | [_], _ => rfl
  have D__law_next : Def K mg "_law_next" s__law_next f__law_next _ := ⟨⟨_, _, _, _, _, _, _, _, _, _, rfl, l__law_next, c__law_next⟩, PySem.W.mg_of X G a__law_next, k__law_next⟩
  have b__law_next := C8.Fun.binds D__law_next.fn rfl (ps := ["_law_dice_here", "_law_many"]) fun _ _ _ _ _ _ us hl => match us, hl with | [_, _], _ => rfl
  have D__law_like : Def K mg "_law_like" s__law_like f__law_like _ := ⟨⟨_, _, _, _, _, _, _, _, _, _, rfl, l__law_like, c__law_like⟩, PySem.W.mg_of X G a__law_like, k__law_like⟩
  have b__law_like := C8.Fun.binds D__law_like.fn rfl (ps := ["_law_found", "_law_due"]) fun _ _ _ _ _ _ us hl => match us, hl with | [_, _], _ => rfl
  have D__law_pick : Def K mg "_law_pick" s__law_pick f__law_pick _ := ⟨⟨_, _, _, _, _, _, _, _, _, _, rfl, l__law_pick, c__law_pick⟩, PySem.W.mg_of X G a__law_pick, k__law_pick⟩
  have b__law_pick := C8.Fun.binds D__law_pick.fn rfl (ps := ["_law_d", "_law_some"]) fun _ _ _ _ _ _ us hl => match us, hl with | [_, _], _ => rfl
  have D__law_e : Def K mg "_law_e" s__law_e f__law_e _ := ⟨⟨_, _, _, _, _, _, _, _, _, _, rfl, l__law_e, c__law_e⟩, PySem.W.mg_of X G a__law_e, k__law_e⟩
  have b__law_e := C8.Fun.binds D__law_e.fn rfl (ps := ["_law_d", "_law_kind", "_law_c", "_law_deep"]) fun _ _ _ _ _ _ us hl => match us, hl with | [_, _, _, _], _ => rfl
  have D__law_emit : Def K mg "_law_emit" s__law_emit f__law_emit _ := ⟨⟨_, _, _, _, _, _, _, _, _, _, rfl, l__law_emit, c__law_emit⟩, PySem.W.mg_of X G a__law_emit, k__law_emit⟩
  have b__law_emit := C8.Fun.binds D__law_emit.fn rfl (ps := ["_law_d", "_law_w", "_law_word"]) fun _ _ _ _ _ _ us hl => match us, hl with | [_, _, _], _ => rfl
  have D__law_level : Def K mg "_law_level" s__law_level f__law_level _ := ⟨⟨_, _, _, _, _, _, _, _, _, _, rfl, l__law_level, c__law_level⟩, PySem.W.mg_of X G a__law_level, k__law_level⟩
  have b__law_level := C8.Fun.binds D__law_level.fn rfl (ps := ["_law_sign"]) fun _ _ _ _ _ _ us hl => match us, hl with | [_], _ => rfl
  have D__law_put_e : Def K mg "_law_put_e" s__law_put_e f__law_put_e _ := ⟨⟨_, _, _, _, _, _, _, _, _, _, rfl, l__law_put_e, c__law_put_e⟩, PySem.W.mg_of X G a__law_put_e, k__law_put_e⟩
  have b__law_put_e := C8.Fun.binds D__law_put_e.fn rfl (ps := ["_law_d", "_law_w", "_law_e_here", "_law_level_here"]) fun _ _ _ _ _ _ us hl => match us, hl with | [_, _, _, _], _ => rfl
  have D__law_put_name : Def K mg "_law_put_name" s__law_put_name f__law_put_name _ := ⟨⟨_, _, _, _, _, _, _, _, _, _, rfl, l__law_put_name, c__law_put_name⟩, PySem.W.mg_of X G a__law_put_name, k__law_put_name⟩
  have b__law_put_name := C8.Fun.binds D__law_put_name.fn rfl (ps := ["_law_d", "_law_w", "_law_e_here"]) fun _ _ _ _ _ _ us hl => match us, hl with | [_, _, _], _ => rfl
  have D__law_told : Def K mg "_law_told" s__law_told f__law_told _ := ⟨⟨_, _, _, _, _, _, _, _, _, _, rfl, l__law_told, c__law_told⟩, PySem.W.mg_of X G a__law_told, k__law_told⟩
  have b__law_told := C8.Fun.binds D__law_told.fn rfl (ps := ["_law_text"]) fun _ _ _ _ _ _ us hl => match us, hl with | [_], _ => rfl
  have D_law : Def K mg "law" s_law f_law _ := ⟨⟨_, _, _, _, _, _, _, _, _, _, rfl, l_law, c_law⟩, PySem.W.mg_of X G a_law, k_law⟩
  have b_law := C8.Fun.binds D_law.fn rfl (ps := ["_law_script"]) fun _ _ _ _ _ _ us hl => match us, hl with | [_], _ => rfl
  have TL : ModsL K mg := ⟨PySem.W.mg_none_of X G z_len, PySem.W.mg_none_of X G z_int, PySem.W.mg_none_of X G z_str, PySem.W.mg_none_of X G z_bool, PySem.W.mg_none_of X G z_tuple, PySem.W.mg_none_of X G z_list, PySem.W.mg_none_of X G z_range, PySem.W.mg_none_of X G z_isinstance⟩
  refine ⟨PySem.W.fnOf "law" "law" (C8.fnArgs s_law) (C8.fnBody s_law) (C8.fnScope s_law) .none kV_law dc_law pm_law an_law cd_law ct_law, fun s v => .of_eq rfl, fun base _ _ => ?_⟩
  have W := EW FW l.prog w base
  have cw := ok_worth_tree W.rowM W.pageM (k := 137) (by decide) (FW.made l.prog w base) W.page W.worth D_worth_tree b_worth_tree
  have ct := ok_told FW.fl FW.hm cw D__law_told b__law_told
  have cd := ok_dice (ok_dice0 (P := l.prog) (w := w) (base := base) TL D__law_dice b__law_dice)
  have cn := ok_next (ok_next0 (P := l.prog) (w := w) (base := base) TL D__law_next b__law_next)
  have cp := ok_pick TL cn D__law_pick b__law_pick
  have cl := ok_like (P := l.prog) (w := w) (base := base) TL D__law_like b__law_like 10
  have ce := ok_emit TL cn D__law_emit b__law_emit
  have cv := ok_level (P := l.prog) (w := w) (base := base) TL D__law_level b__law_level
  have e3 := ok_e (pm := 2) TL (by decide) cn cp D__law_e b__law_e 3
  have p0 : Cal l.prog w K mg base 2 "_law_put_e" (spPutE K 0) [] := cal_no D__law_put_e b__law_put_e put_no
  have n0 := ok_put_name TL (k := 2) (h := 0) (by decide) (by decide) ce p0 D__law_put_name b__law_put_name
  have p1 := ok_put_e1 TL (by decide) (by decide) cn cv ce p0 n0 D__law_put_e b__law_put_e
  have n1 := ok_put_name TL (by decide) (by decide) ce p1 D__law_put_name b__law_put_name
  have p2 := ok_put_e1 TL (by decide) (by decide) cn cv ce p1 n1 D__law_put_e b__law_put_e
  have n2 := ok_put_name TL (by decide) (by decide) ce p2 D__law_put_name b__law_put_name
  have p3 := ok_put_e1 TL (by decide) (by decide) cn cv ce p2 n2 D__law_put_e b__law_put_e
  exact ok_law TL (k := 139) (by decide) cd cn cp (cal_up e3 (by decide)) (cal_up p3 (by decide)) cl ct D_law.fn
end Wt
open PySem PySem.W PyProof.Rows
set_option maxRecDepth 100000 in
set_option maxHeartbeats 0 in
theorem PySem.Challenge.cw_wholetongue_k92_trees_of_one_e_holds : PySem.Challenge.rw_wholetongue_k92_trees_of_one_e.Holds := by
  w_on; o_law; k_head; (case hw => w_witness2)
  k_fill
  refine L2.walk_of (l := PySem.Challenge.rw_wholetongue_k92_trees_of_one_e) (n := 63) (k := 140) (x := "_law_script") (CX := fun _ => C8.CX0) (sp := fun w => Wt.spLaw _) rfl (by decide) rfl ⟨rfl, by decide, by decide⟩ (fun w h Y => PySem.W.kIn_of Y) ?F (fun _ _ a ns hl ho hS => ⟨a, ns, rfl, Wt.scr_of hl ho hS, fun _ => rfl⟩) (fun _ _ _ _ _ h => h)
  case F =>
    intro w mg fa h KX G hmg
    refine' Wt.all_mk KX G hmg (Wt.faults_mk KX G ?gX ?lX ?rX ?saX ?exX ?tyX ?kX ?xfX ?hitX ?n1X ?n2X ?n3X ?n4X ?iX ?tI ?l_I ?c_I) (Wt.exp_mk KX G ?a_run_at ?l_run_at ?c_run_at ?k_run_at ?a_kind_of ?l_kind_of ?c_kind_of ?k_kind_of ?a_word_at ?l_word_at ?c_word_at ?k_word_at ?a_words_in ?l_words_in ?c_words_in ?k_words_in ?a_words_of ?l_words_of ?c_words_of ?k_words_of ?a_within ?l_within ?c_within ?k_within ?a_from_left ?l_from_left ?c_from_left ?k_from_left ?a_read_path ?l_read_path ?c_read_path ?k_read_path ?a_read_given ?l_read_given ?c_read_given ?k_read_given ?a_read_bracket ?l_read_bracket ?c_read_bracket ?k_read_bracket ?a_read_named ?l_read_named ?c_read_named ?k_read_named ?a_read_single ?l_read_single ?c_read_single ?k_read_single ?a_read_negated ?l_read_negated ?c_read_negated ?k_read_negated ?a_read_product ?l_read_product ?c_read_product ?k_read_product ?a_read_sum ?l_read_sum ?c_read_sum ?k_read_sum ?a_read_compared ?l_read_compared ?c_read_compared ?k_read_compared ?a_read_denied ?l_read_denied ?c_read_denied ?k_read_denied ?a_read_both ?l_read_both ?c_read_both ?k_read_both ?a_read_expression ?l_read_expression ?c_read_expression ?k_read_expression ?a_cut ?l_cut ?c_cut ?k_cut ?a_rows_of ?l_rows_of ?c_rows_of ?k_rows_of ?a_read_worth ?l_read_worth ?c_read_worth ?k_read_worth ?g_Row ?pg_Row ?hd_Row ?po_Row ?sa_Row ?mk_Row ?kp_Row ?na_Row_words ?na_Row_at ?m_Row_done ?i_Row_done ?l_Row_done ?c_Row_done ?k_Row_done ?m_Row_kind ?i_Row_kind ?l_Row_kind ?c_Row_kind ?k_Row_kind ?m_Row_word ?i_Row_word ?l_Row_word ?c_Row_word ?k_Row_word ?m_Row_spot ?i_Row_spot ?l_Row_spot ?c_Row_spot ?k_Row_spot ?m_Row_refuse ?i_Row_refuse ?l_Row_refuse ?c_Row_refuse ?k_Row_refuse ?m_Row_take ?i_Row_take ?l_Row_take ?c_Row_take ?k_Row_take ?m_Row_need ?i_Row_need ?l_Row_need ?c_Row_need ?k_Row_need ?m_Row_need_name ?i_Row_need_name ?l_Row_need_name ?c_Row_need_name ?k_Row_need_name ?m_Row_finish ?i_Row_finish ?l_Row_finish ?c_Row_finish ?k_Row_finish ?m_Row_init ?i_Row_init ?l_Row_init ?c_Row_init ?k_Row_init ?g_Page ?pg_Page ?hd_Page ?po_Page ?sa_Page ?mk_Page ?kp_Page ?na_Page_rows ?na_Page_next_row ?na_Page_behind ?m_Page_word ?i_Page_word ?l_Page_word ?c_Page_word ?k_Page_word ?m_Page_take_row ?i_Page_take_row ?l_Page_take_row ?c_Page_take_row ?k_Page_take_row ?m_Page_init ?i_Page_init ?l_Page_init ?c_Page_init ?k_Page_init ?z_len ?z_enumerate ?z_int ?z_tuple ?gL ?gF ?gN ?gS ?gO ?lS ?lO ?vS ?vO ?gI ?gM) ?a_worth_tree ?l_worth_tree ?c_worth_tree ?k_worth_tree ?a__law_dice ?l__law_dice ?c__law_dice ?k__law_dice ?a__law_next ?l__law_next ?c__law_next ?k__law_next ?a__law_like ?l__law_like ?c__law_like ?k__law_like ?a__law_pick ?l__law_pick ?c__law_pick ?k__law_pick ?a__law_e ?l__law_e ?c__law_e ?k__law_e ?a__law_emit ?l__law_emit ?c__law_emit ?k__law_emit ?a__law_level ?l__law_level ?c__law_level ?k__law_level ?a__law_put_e ?l__law_put_e ?c__law_put_e ?k__law_put_e ?a__law_put_name ?l__law_put_name ?c__law_put_name ?k__law_put_name ?a__law_told ?l__law_told ?c__law_told ?k__law_told ?a_law ?l_law ?c_law ?k_law ?z_len ?z_enumerate ?z_int ?z_str ?z_bool ?z_tuple ?z_list ?z_range ?z_isinstance
    (case gX => k_is); (case lX => k_is); (case rX => decide +kernel); (case saX => k_is); (case exX => k_is); (case tyX => k_is); (case kX => k_is); (case xfX => kernel_rfl); (case hitX => kernel_rfl)
    (case n1X => k_is); (case n2X => k_is); (case n3X => k_is); (case n4X => k_is); (case iX => k_is); (case tI => k_is); (case l_I => k_is); (case c_I => k_is)
    (case a_run_at => k_is); (case l_run_at => k_is); (case c_run_at => k_is); (case k_run_at => k_is)
    (case a_kind_of => k_is); (case l_kind_of => k_is); (case c_kind_of => k_is); (case k_kind_of => k_is)
    (case a_word_at => k_is); (case l_word_at => k_is); (case c_word_at => k_is); (case k_word_at => k_is)
    (case a_words_in => k_is); (case l_words_in => k_is); (case c_words_in => k_is); (case k_words_in => k_is)
    (case a_words_of => k_is); (case l_words_of => k_is); (case c_words_of => k_is); (case k_words_of => k_is)
    (case a_within => k_is); (case l_within => k_is); (case c_within => k_is); (case k_within => k_is)
    (case a_from_left => k_is); (case l_from_left => k_is); (case c_from_left => k_is); (case k_from_left => k_is)
    (case a_read_path => k_is); (case l_read_path => k_is); (case c_read_path => k_is); (case k_read_path => k_is)
    (case a_read_given => k_is); (case l_read_given => k_is); (case c_read_given => k_is); (case k_read_given => k_is)
    (case a_read_bracket => k_is); (case l_read_bracket => k_is); (case c_read_bracket => k_is); (case k_read_bracket => k_is)
    (case a_read_named => k_is); (case l_read_named => k_is); (case c_read_named => k_is); (case k_read_named => k_is)
    (case a_read_single => k_is); (case l_read_single => k_is); (case c_read_single => k_is); (case k_read_single => k_is)
    (case a_read_negated => k_is); (case l_read_negated => k_is); (case c_read_negated => k_is); (case k_read_negated => k_is)
    (case a_read_product => k_is); (case l_read_product => k_is); (case c_read_product => k_is); (case k_read_product => k_is)
    (case a_read_sum => k_is); (case l_read_sum => k_is); (case c_read_sum => k_is); (case k_read_sum => k_is)
    (case a_read_compared => k_is); (case l_read_compared => k_is); (case c_read_compared => k_is); (case k_read_compared => k_is)
    (case a_read_denied => k_is); (case l_read_denied => k_is); (case c_read_denied => k_is); (case k_read_denied => k_is)
    (case a_read_both => k_is); (case l_read_both => k_is); (case c_read_both => k_is); (case k_read_both => k_is)
    (case a_read_expression => k_is); (case l_read_expression => k_is); (case c_read_expression => k_is); (case k_read_expression => k_is)
    (case a_cut => k_is); (case l_cut => k_is); (case c_cut => k_is); (case k_cut => k_is)
    (case a_rows_of => k_is); (case l_rows_of => k_is); (case c_rows_of => k_is); (case k_rows_of => k_is)
    (case a_read_worth => k_is); (case l_read_worth => k_is); (case c_read_worth => k_is); (case k_read_worth => k_is)
    (case g_Row => k_is); (case pg_Row => k_is); (case hd_Row => k_is); (case po_Row => k_is); (case sa_Row => k_is); (case mk_Row => k_is); (case kp_Row => k_is); (case na_Row_words => k_is); (case na_Row_at => k_is)
    (case m_Row_done => k_is); (case i_Row_done => k_is); (case l_Row_done => k_is); (case c_Row_done => k_is); (case k_Row_done => k_is)
    (case m_Row_kind => k_is); (case i_Row_kind => k_is); (case l_Row_kind => k_is); (case c_Row_kind => k_is); (case k_Row_kind => k_is)
    (case m_Row_word => k_is); (case i_Row_word => k_is); (case l_Row_word => k_is); (case c_Row_word => k_is); (case k_Row_word => k_is)
    (case m_Row_spot => k_is); (case i_Row_spot => k_is); (case l_Row_spot => k_is); (case c_Row_spot => k_is); (case k_Row_spot => k_is)
    (case m_Row_refuse => k_is); (case i_Row_refuse => k_is); (case l_Row_refuse => k_is); (case c_Row_refuse => k_is); (case k_Row_refuse => k_is)
    (case m_Row_take => k_is); (case i_Row_take => k_is); (case l_Row_take => k_is); (case c_Row_take => k_is); (case k_Row_take => k_is)
    (case m_Row_need => k_is); (case i_Row_need => k_is); (case l_Row_need => k_is); (case c_Row_need => k_is); (case k_Row_need => k_is)
    (case m_Row_need_name => k_is); (case i_Row_need_name => k_is); (case l_Row_need_name => k_is); (case c_Row_need_name => k_is); (case k_Row_need_name => k_is)
    (case m_Row_finish => k_is); (case i_Row_finish => k_is); (case l_Row_finish => k_is); (case c_Row_finish => k_is); (case k_Row_finish => k_is)
    (case m_Row_init => k_is); (case i_Row_init => k_is); (case l_Row_init => k_is); (case c_Row_init => k_is); (case k_Row_init => k_is)
    (case g_Page => k_is); (case pg_Page => k_is); (case hd_Page => k_is); (case po_Page => k_is); (case sa_Page => k_is); (case mk_Page => k_is); (case kp_Page => k_is); (case na_Page_rows => k_is); (case na_Page_next_row => k_is); (case na_Page_behind => k_is)
    (case m_Page_word => k_is); (case i_Page_word => k_is); (case l_Page_word => k_is); (case c_Page_word => k_is); (case k_Page_word => k_is)
    (case m_Page_take_row => k_is); (case i_Page_take_row => k_is); (case l_Page_take_row => k_is); (case c_Page_take_row => k_is); (case k_Page_take_row => k_is)
    (case m_Page_init => k_is); (case i_Page_init => k_is); (case l_Page_init => k_is); (case c_Page_init => k_is); (case k_Page_init => k_is)
    (case gL => k_is); (case gF => k_is); (case gN => k_is); (case gS => k_is); (case gO => k_is); (case lS => k_is); (case lO => k_is)
    (case vS => decide +kernel); (case vO => decide +kernel)
    (case gI => k_is); (case gM => k_is)
    (case a_worth_tree => k_is); (case l_worth_tree => k_is); (case c_worth_tree => k_is); (case k_worth_tree => k_is)
    (case a__law_dice => k_is); (case l__law_dice => k_is); (case c__law_dice => k_is); (case k__law_dice => k_is)
    (case a__law_next => k_is); (case l__law_next => k_is); (case c__law_next => k_is); (case k__law_next => k_is)
    (case a__law_like => k_is); (case l__law_like => k_is); (case c__law_like => k_is); (case k__law_like => k_is)
    (case a__law_pick => k_is); (case l__law_pick => k_is); (case c__law_pick => k_is); (case k__law_pick => k_is)
    (case a__law_e => k_is); (case l__law_e => k_is); (case c__law_e => k_is); (case k__law_e => k_is)
    (case a__law_emit => k_is); (case l__law_emit => k_is); (case c__law_emit => k_is); (case k__law_emit => k_is)
    (case a__law_level => k_is); (case l__law_level => k_is); (case c__law_level => k_is); (case k__law_level => k_is)
    (case a__law_put_e => k_is); (case l__law_put_e => k_is); (case c__law_put_e => k_is); (case k__law_put_e => k_is)
    (case a__law_put_name => k_is); (case l__law_put_name => k_is); (case c__law_put_name => k_is); (case k__law_put_name => k_is)
    (case a__law_told => k_is); (case l__law_told => k_is); (case c__law_told => k_is); (case k__law_told => k_is)
    (case a_law => k_is); (case l_law => k_is); (case c_law => k_is); (case k_law => k_is)
    (case z_len => k_is)
    (case z_enumerate => k_is)
    (case z_int => k_is)
    (case z_str => k_is)
    (case z_bool => k_is)
    (case z_tuple => k_is)
    (case z_list => k_is)
    (case z_range => k_is)
    (case z_isinstance => k_is)
