import PyProof.Rows.All
import Wide.All
import OpenK.AllK
import Wide.FinOn
import HandS.ForMost
import HandS.Codes
import HandS.Evl
import HandS.IsInst
import KE.GoesEnumKw
import KE.GoesMore
import HandS.SortKw
import HandS.Walk
import HandS.ExcOwn
import HandS.ExcInit
import HandS.ExcField
import HandS.Lambda
import HandS.CallLocal
import HandS.TupAny
import KE.GoesEnum
import HandS.DictComp
import HandS.SetFor
import HandS.ExcIs
import HandS.Style
import HandS.EndTab
import KE.KNestM
import PySem.Challenge.RW_wholetongue_k19_files_laid_and_edited
set_option Elab.async false
set_option linter.all false
set_option maxRecDepth 100000
/-! What is general: texts as lists of signs, readings of further rules. -/
namespace Wt
open PySem PySem.Spec PyProof.Rows L2 SX Evl

/-! ### texts -/
theorem slice_mid {a : List Nat} {i j : Nat} (h : i ≤ j) (hj : j ≤ a.length) : Txt.slice (S a) (some (i : Int)) (some (j : Int)) = S ((a.drop i).take (j - i)) := by
  have hl : (S a).length = a.length := S_len a
  have e := beq_iff_eq.mp (PyProof.Rows.slice_closesL (x := S a) (i := (i : Int)) (j := (j : Int)) (by omega) (by omega) (by rw [hl]; omega))
  refine e.trans (TL.ext_tl ?_)
  show (a.drop (i : Int).toNat).take ((j : Int) - (i : Int)).toNat = (a.drop i).take (j - i)
  rw [Int.toNat_natCast, show ((j : Int) - (i : Int)).toNat = j - i by omega]
theorem S1 (c : Nat) : (⟨#[c]⟩ : Str) = S [c] := rfl
theorem S_list (a : List Nat) : (S a).cps.toList = a := by simp [S]

/-! ### readings -/
section
variable {K : PySem.W.Frag} {σ : L2.St} {H H' : Hp} {ta tb te tx : TE} {t u : TT} {x y z v : V}
theorem rc_lenS {a : List Nat} (h : a.length ≤ 100000) : RC (fun xs H Q => ∃ z, xs = [.str z] ∧ z.length ≤ sizeLine ∧ Q (.int z.length) H) [.str (S a)] H (.int (a.length : Int)) := fun H1 _ Q q => by
  refine ⟨S a, rfl, ?_, ?_⟩
  · rw [S_len]
    exact sz_of h
  · rw [S_len]
    exact q H1 (Ex.refl H1)
theorem ev_lenS {a : List Nat} (ha : Ev ta σ H (.str (S a))) (h : a.length ≤ 100000) : Ev (tCB (fun xs H Q => ∃ z, xs = [.str z] ∧ z.length ≤ sizeLine ∧ Q (.int z.length) H) (tCons ta tNil)) σ H (.int (a.length : Int)) :=
  ev_cb (ea_cons ha ea_nil) (rc_lenS h)
theorem rv_inSign {c : Nat} {w : List Nat} : RV (fun x y H Q => ∃ (c : Nat) (z : Str), x = .str ⟨#[c]⟩ ∧ y = .str z ∧ Q (.bl (decide (c ∈ z.cps.toList))) H) (.str (S [c])) (.str (S w)) H (.bl (decide (c ∈ w))) := fun H1 _ Q q => by
  refine ⟨c, S w, rfl, rfl, ?_⟩
  rw [S_list]
  exact q H1 (Ex.refl H1)
/-- a text's sign -/
theorem rv_at {w : List Nat} {i : Nat} {c : Nat} (h : w.length ≤ 100000) (ha : w[i]? = some c) : RV rIxS (.str (S w)) (.int (i : Int)) H (.str (S [c])) := fun H1 _ Q q =>
  ⟨S w, (i : Int), c, rfl, rfl, by rw [S_len]; exact sz_of h, by rw [S_list]; exact atI_nat ha, q H1 (Ex.refl H1)⟩
theorem ev_sl {te : TE} {tl th : TO} {a : List Nat} {i j : Nat} (h : Ev te σ H (.str (S a))) (h1 : EvO tl σ H (some (i : Int))) (h2 : EvO th σ H (some (j : Int))) (hl : a.length ≤ 100000) (hi : i ≤ j) (hj : j ≤ a.length) :
    Ev (tSl C8.rSlX te tl th) σ H (.str (S ((a.drop i).take (j - i)))) := fun H1 e Q q =>
  h H1 e _ fun H2 e2 => h1 H2 (e.trans e2) _ fun H3 e3 => h2 H3 ((e.trans e2).trans e3) _ fun H4 e4 => by
    refine ⟨S a, rfl, ?_, ?_⟩
    · rw [S_len]
      exact sz_of hl
    · rw [slice_mid hi hj]
      exact q H4 ((e2.trans e3).trans e4)
end
end Wt

set_option Elab.async false
set_option linter.all false
set_option maxRecDepth 100000
set_option maxHeartbeats 4000000
/-! Rules of ours: enumerate from a start, dict.update, a text many times. -/
namespace Wt
open PySem PySem.Spec PyProof.Rows L2 SX Evl

theorem bt_int : bootBuiltins "int" = some (.type "int") := by decide +kernel
theorem bt_str : bootBuiltins "str" = some (.type "str") := by decide +kernel
theorem bt_bool : bootBuiltins "bool" = some (.type "bool") := by decide +kernel
theorem bt_list : bootBuiltins "list" = some (.type "list") := by decide +kernel
theorem bt_tuple : bootBuiltins "tuple" = some (.type "tuple") := by decide +kernel
theorem bt_enum : bootBuiltins "enumerate" = some (.type "enumerate") := by decide +kernel
theorem bt_isinstance : bootBuiltins "isinstance" = some (.builtin "isinstance") := by decide +kernel

/-! ### d.update(e) -/
def rDUpd : V → List V → Hp → VK → Prop := fun x vs H Q =>
  ∃ (a b : Addr) (ks ls : List (Key × V)), x = .ref a ∧ vs = [.ref b] ∧ a ≠ b ∧ H a = some (.dK ks) ∧ H b = some (.dK ls) ∧ ks.length + ls.length ≤ sizeLine ∧
    Q .non (upd H a (.dK (mergeK ks ls)))
theorem mt_dupdate {X : Cx} : MtR X "dict.update" rDUpd := by
  intro pins s σ H x vs v us Q I rx rv hyp
  obtain ⟨a, b, ks, ls, rfl, rfl, hab, ea, eb, hz, q⟩ := hyp
  obtain rfl : v = Value.ref a := rx
  obtain ⟨u, rfl, ru⟩ := rv.one
  obtain rfl : u = Value.ref b := ru
  obtain ⟨za, ha, va, ra, da⟩ := dk_of I.hok ea
  obtain ⟨zb, hb, vb, rb, db⟩ := dk_of I.hok eb
  have hsum : va.length + vb.length ≤ sizeLine := by
    rw [← ra.length, ← rb.length]
    exact hz
  refine call_meetsIn PySem.F.slot_dict_update da.typeIs PySem.F.entry_dict_update (PySem.F.args_dict_update_2 _ _)
    (meets_dict_update (mixKind X.prog X.w) a b hab hb) ⟨va, vb, da, db, hsum, fun h2 dd2 _ hs => ?_⟩
  have there : ∃ q, h2.get? a = some q := by
    obtain ⟨q, _, _, hq, _⟩ := dd2
    exact ⟨q, hq⟩
  have hl : (mergeK ks ls).length ≤ sizeLine := Nat.le_trans (length_mergeK ls ks) hz
  exact ⟨.non, _, d_write (t' := s.toks) I (by rw [ea]; exact True.intro) hs there (dk_new hl ha (KV.merge rb ra) dd2), rfl, q⟩

/-! ### a text many times -/
theorem mul_S {a : List Nat} {k : Nat} : Txt.mul (S a) (k : Int) = S (List.replicate k a).flatten := by
  unfold Txt.mul
  by_cases h0 : (k : Int) < 1
  · have e : k = 0 := by omega
    subst e
    rw [if_pos (by decide)]
    rfl
  · rw [if_neg h0]
    by_cases h1 : ((k : Int) == 1 || (S a).length == 0) = true
    · rw [if_pos h1]
      rw [Bool.or_eq_true] at h1
      rcases h1 with h1 | h1
      · have e : k = 1 := by
          have := eq_of_beq h1
          omega
        subst e
        show S a = S (a ++ [])
        rw [List.append_nil]
      · have e : a = [] := by
          have := eq_of_beq h1
          rw [S_len] at this
          exact List.length_eq_zero_iff.mp this
        subst e
        refine congrArg S ?_
        have : ∀ n : Nat, (List.replicate n ([] : List Nat)).flatten = [] := fun n => by
          induction n with
          | zero => rfl
          | succ n ih => rw [List.replicate_succ, List.flatten_cons, ih] <;> rfl
        rw [this]
    · rw [if_neg h1]
      have go : ∀ (n : Nat) (acc : List Nat), (List.replicate n (S a).cps).foldl (· ++ ·) acc.toArray = (acc ++ (List.replicate n a).flatten).toArray := fun n => by
        induction n with
        | zero =>
          intro acc
          show acc.toArray = (acc ++ []).toArray
          rw [List.append_nil]
        | succ n ih =>
          intro acc
          rw [List.replicate_succ, List.replicate_succ, List.foldl_cons, List.flatten_cons]
          have e : acc.toArray ++ (S a).cps = (acc ++ a).toArray := by simp [S]
          rw [e, ih, List.append_assoc]
      have e2 := go ((k : Int).toNat) []
      rw [Int.toNat_natCast] at e2 ⊢
      have e3 : (List.replicate k (S a).cps).foldl (· ++ ·) #[] = ((List.replicate k a).flatten).toArray := by
        refine Eq.trans ?_ (e2.trans ?_)
        · rfl
        · rw [List.nil_append]
      rw [e3]
def rRepS : R2 := fun x y H Q => ∃ (a : List Nat) (k : Nat), x = .str (S a) ∧ y = .int (k : Int) ∧ a.length ≤ 16 ∧ k ≤ 100000 ∧ Q (.str (S (List.replicate k a).flatten)) H
theorem op_rep_str {X : Cx} : OpR X (binaryOp .Mult) rRepS := by
  intro pins s σ H x y v u Q I rx ry hyp
  obtain ⟨a, k, rfl, rfl, ha, hk, q⟩ := hyp
  obtain ⟨t, rfl⟩ := rx
  obtain ⟨t2, rfl⟩ := ry
  refine SB.mul (mulOk_of 16 100000 (by rw [S_len]; exact ha) (by omega) (by omega) (by decide) (by decide)) fun t3 k3 => ?_
  rw [mul_S]
  exact ⟨.str (S (List.replicate k a).flatten), H, I.tok _, ⟨_, rfl⟩, q⟩

/-! ### enumerate(xs, start=k) -/
/-- the list at a as it stands at each turn, each item behind its number, from k on -/
def Itk0 (K : PySem.W.Frag) (a : Addr) (k : Int) : It where
  go := fun i H => ∃ (xs : List V) (x : V), SqL K H a xs ∧ xs[i]? = some x
  yld := fun i H v H' => ∃ (T : Addr) (x : V), v = .ref T ∧ H T = none ∧ H' = upd H T (.tup [.int (k + (i : Nat)), x]) ∧ ∀ xs, SqL K H a xs → xs[i]? = some x
  stop := fun i H => ∃ xs : List V, SqL K H a xs ∧ xs.length ≤ i
theorem turn_from {P : Program} {w : World} {K : PySem.W.Frag} {elts : List Expr} {kk : Nat} {tpos : Pos} (a e it : Addr) (k : Int) (hai : a ≠ it) (hae : a ≠ e) :
    Turn P w K (.Tuple elts kk tpos) (Itk0 K a k) [e, it] e (fun i h => (∃ old, IsEnum h e it (k + (i : Nat)) old) ∧ h.IsListIter it a i ∧ e ≠ it) where
  mem := List.mem_cons_self ..
  obj := by
    rintro i h ⟨⟨old, he⟩, ⟨o, ho, hc, hd⟩, _⟩ b hb
    rcases List.mem_cons.mp hb with rfl | hb
    · exact ⟨_, he, fun v q => nomatch q⟩
    · rw [List.mem_singleton.mp hb]
      exact ⟨o, ho, fun v q => by rw [hd] at q; cases q⟩
  keep := by
    rintro i h h2 ⟨⟨old, he⟩, hi, hne⟩ kp
    exact ⟨⟨old, kp e (List.mem_cons_self ..) _ he⟩, hi.at fun o q => kp it (List.mem_cons_of_mem _ (List.mem_singleton.mpr rfl)) o q, hne⟩
  item := by
    intro X hP hw hK hc i pins s σ H E I hf st hg
    subst hP hw hK
    obtain ⟨⟨old, he⟩, hit, hne⟩ := st
    obtain ⟨xs, x, hq, hx⟩ := hg
    obtain ⟨its, rv, p, hz⟩ := I.list hq
    obtain ⟨u, hu, ru⟩ := rv.get hx
    have hel : e < s.heap.objs.size := Heap.lt_size he
    have hil : it < s.heap.objs.size := by
      obtain ⟨_, q, _⟩ := hit
      exact Heap.lt_size q
    have hlt : i < its.toArray.size := by
      have := (List.getElem?_eq_some_iff.mp hu).1
      rw [List.size_toArray]
      exact this
    refine wpAny_pyNext_enum_itemC (Draws.list (prog := X.prog) (w := X.w) (A := X.A.in1) (show X.A.in1.handled = none from I.ok.hd hc) it a hai its.toArray) he ⟨hit, p.isList⟩ hlt hne (fun m => ?_) fun y h2 tk hy ho st2 hT hsz hk => ?_
    · rcases List.mem_cons.mp m with z | z
      · exact hne z
      · exact hae (List.mem_singleton.mp z).symm
    have hyu : y = u := by
      have z : its[i]? = some y := by simpa using hy
      rw [hu] at z
      exact (Option.some.inj z).symm
    subst hyu
    refine ⟨_, rfl, wpAny_letOwnedTupleGo_enum (s := { s with heap := h2, toks := tk + 1 }) ho fun h3 he3 sb => ?_⟩
    have hT2 := (sb.2 s.heap.objs.size (Nat.ne_of_gt hel)).trans hT
    have new : ObjOk X.prog X.w (upd H s.heap.objs.size (.tup [.int (k + (i : Nat)), x])) h3 s.heap.objs.size (.tup [.int (k + (i : Nat)), x]) :=
      ⟨by show 2 ≤ sizeLine; decide, [.int (k + (i : Nat)) tk, y], .cons ⟨_, rfl⟩ (.cons ru .nil), ⟨_, hT2, rfl, _, rfl⟩⟩
    have I1 := I.turnedNew (h' := h3) (t' := tk + 1) (ch := [e, it]) (fun b ob hb q => by
      have n1 : b ≠ e := fun z => hb (z ▸ List.mem_cons_self ..)
      have n2 : b ≠ it := fun z => hb (z ▸ List.mem_cons_of_mem _ (List.mem_singleton.mpr rfl))
      exact (sb.2 b n1).trans (hk b ob n1 n2 q)) hf (Nat.le_refl _) new
    refine ⟨.ref s.heap.objs.size, _, I1, rfl, ⟨_, x, rfl, I.hok.fresh (Nat.le_refl _), rfl, fun ys hy2 => ?_⟩, ⟨⟨y, ?_⟩, ?_, hne⟩, fun b hb => ?_⟩
    · rw [I.list_inj hy2 hq]
      exact hx
    · have e1 : k + ((i + 1 : Nat) : Int) = k + (i : Int) + 1 := by omega
      rw [e1]
      exact he3
    · exact st2.1.at fun o q => (sb.2 it (Ne.symm hne)).trans q
    · have hb2 : b < s.heap.objs.size := by
        rcases List.mem_cons.mp hb with rfl | z
        · exact hel
        · rw [List.mem_singleton.mp z]
          exact hil
      rw [upd_ne (Nat.ne_of_lt hb2)]
      exact (hf b hb).1
  done := by
    intro X hP hw hK hc i pins s σ H E I hf st hg
    subst hP hw hK
    obtain ⟨⟨old, he⟩, hit, hne⟩ := st
    obtain ⟨xs, hq, hx⟩ := hg
    obtain ⟨its, rv, p, hz⟩ := I.list hq
    obtain ⟨f0, f1, f2, f3, f4, f5⟩ := hf it (List.mem_cons_of_mem _ (List.mem_singleton.mpr rfl))
    have hl := rv.length
    have hT : s.TypeIs (.ref e) "enumerate" := ⟨_, he, rfl⟩
    have hnone : its.toArray[i]? = none := by
      simp
      omega
    unfold pyNext
    refine wpAny_bind (wpAny_attempt (wpAny_callSpecial?_slot (name := Str.ofString "__next__") hT PySem.F.slot_enumerate_next
      (wpAny_call_entry PySem.F.slot_enumerate_next hT PySem.F.entry_enumerate_next ?_ (PySem.F.args_enumerate_next_1 _))))
    show wpAny _ _ (field (.ref e) 2 >>= _) _ _ _
    refine wpAny_bind (wpAny_field he rfl (x := .ref it) rfl (wpAny_bind (wpAny_nextOf_list_end (I.ok.hd hc) hit p.isList hnone fun h2 x2 hE2 hx2 => ?_)))
    obtain ⟨o2, ho2, hc2⟩ := hx2
    exact wpAny_bind (wpAny_isInstance (T := "StopIteration") (b := true) ⟨o2, ho2, hc2⟩ isSubtype_stop
      (wpAny_pure ⟨rfl, I.turned (t' := s.toks) (fun b o hb q => hE2 b o hb q) f0 f1 f3 f4 f5⟩))
  self := by
    rintro A i s Q E ⟨⟨_, he⟩, _⟩ h
    exact wpAny_pyIter_enum he h
/-- a built-in class called with keywords -/
theorem callWith_tyKw {M : Model} {A : Around} {E : Value → Shared → Prop} {s : Shared} {env : Env} {pos : Pos} {T : String} {e : Expr} {rest : List Expr} {kws : List Keyword} {Q : Value → Shared → Prop}
    (h : wpAny M A (spliced (backTo pos (starEach (e :: rest) env))) (fun vs s1 => wpAny M A (evalAll ((backToKw pos (keywordEach kws env)).map (·.2)))
      (fun ks s2 => wpAny M A (call (.type T) vs (((backToKw pos (keywordEach kws env)).filterMap (·.1)).zip ks)) Q E s2) E s1) E s)
    (he : backTo pos (starEach (e :: rest) env) = (false, eval e env) :: backTo pos (starEach rest env) := by rfl)
    (hpl : (backTo pos (starEach (e :: rest) env)).any (·.1) = false := by rfl)
    (hall : (backToKw pos (keywordEach kws env)).all (·.1.isSome) = true := by rfl)
    (hkw : (backToKw pos (keywordEach kws env)).any (·.1.isNone) = false := by rfl) :
    wpAny M A (callWith pos (.type T) [] (backTo pos (starEach (e :: rest) env)) (backToKw pos (keywordEach kws env))) Q E s := by
  unfold callWith
  have h2 : wpAny M A (evalArgs (.type T) true (backTo pos (starEach (e :: rest) env)) (backToKw pos (keywordEach kws env))) (fun a s1 => wpAny M A (call (.type T) a.pos a.kw) Q E s1) E s := by
    rw [he] at h ⊢
    exact evalArgs_kwB hall h
  refine wpAny_bind (wpAny_holding (wpAny_mono h2 (fun a s1 h1 => wpAny_bind (wpAny_standAt ?_)) fun _ _ x => x))
  rw [hpl, hkw]
  refine wpAny_bind (wpAny_pure ?_)
  refine wpAny_bind (wpAny_mono h1 (fun r s2 hr => ?_) fun _ _ x => x)
  exact wpAny_bind (wpAny_holding (wpAny_point (wpAny_pure hr)))
def iFrom (K : PySem.W.Frag) (k : Int) (ta : TA) : TI := fun σ H R => ta σ H fun vs H1 => ∃ a xs, vs = [.ref a] ∧ SqL K H1 a xs ∧ R (Itk0 K a k) H1
theorem pi_enumS {X : Cx} {e : Expr} {ta : TA} {p pos tpos p1 p2 : Pos} {elts : List Expr} {kk j : Nat} {k : Int} (hg : Gl X "enumerate") (hm : X.mg "enumerate" = none) (ha : PA X [e] ta)
    (hk0 : -(2 ^ 63) ≤ k := by decide) (hk1 : k < 2 ^ 63 := by decide)
    (he : backTo pos (starEach [e] X.env) = (false, eval e X.env) :: backTo pos (starEach [] X.env) := by rfl) (hpl : (backTo pos (starEach [e] X.env)).any (·.1) = false := by rfl)
    (hall : (backToKw pos (keywordEach [⟨some "start", .Constant (.int k) j p1, p2⟩] X.env)).all (·.1.isSome) = true := by rfl)
    (hkw : (backToKw pos (keywordEach [⟨some "start", .Constant (.int k) j p1, p2⟩] X.env)).any (·.1.isNone) = false := by rfl)
    (hks : (backToKw pos (keywordEach [⟨some "start", .Constant (.int k) j p1, p2⟩] X.env)).filterMap (·.1) = [Str.ofString "start"] := by rfl) :
    PI X (.Tuple elts kk tpos) (.Call (.Name "enumerate" p) [e] [⟨some "start", .Constant (.int k) j p1, p2⟩] pos) (iFrom X.K k ta) := by
  refine ⟨fun pins s σ H R I h => wpAny_Call_Name_kw (ld_blt I hg hm bt_enum ?_ (by decide))⟩
  refine callWith_tyKw (thn (ha.run pos pins s σ H _ I h) fun us s1 ⟨vs, H1, I1, r1, q1⟩ => ?_) he hpl hall hkw
  refine thn ((pk_cons (pe_int (X := X) (pos := p1) (j := j) (i := k)) pk_nil).run pos pins s1 σ H1 (fun zs H2 => zs = [.int k] ∧ H2 = H1) I1 ⟨rfl, rfl⟩) fun ws s2 ⟨zs, H2, I2, r2, q2⟩ => ?_
  rw [hks]
  obtain ⟨rfl, rfl⟩ := q2
  obtain ⟨a, xs, rfl, hq, q⟩ := q1
  obtain ⟨u, rfl, ru⟩ := r1.one
  cases ru
  obtain ⟨u2, rfl, t2, rfl⟩ := r2.one
  obtain ⟨its, rv, p3, hz⟩ := I2.list hq
  refine enum_begins_start (begins_list a its.toArray) p3.isList hk0 hk1 fun h2 he2 hit hsz hk => wpAny_pyIter_enum he2 ?_
  have I3 : Inv X pins σ H2 { s2 with heap := h2 } := I2.kept (t' := s2.toks) hk
  have hal : a < s2.heap.objs.size := by
    obtain ⟨o, n, ho, _⟩ := p3
    exact Heap.lt_size ho
  refine ⟨s2.heap.objs.size + 1, [s2.heap.objs.size + 1, s2.heap.objs.size], _, _, H2, rfl, I3,
    turn_from a (s2.heap.objs.size + 1) s2.heap.objs.size k (Nat.ne_of_lt hal) (Nat.ne_of_lt (Nat.lt_succ_of_lt hal)), ⟨⟨.none, ?_⟩, ⟨_, hit, rfl, rfl⟩, Nat.succ_ne_self _⟩, fun b hb => ?_, q⟩
  · show IsEnum h2 (s2.heap.objs.size + 1) s2.heap.objs.size (k + ((0 : Nat) : Int)) .none
    rw [show k + ((0 : Nat) : Int) = k by omega]
    exact he2
  · have hle : s2.heap.objs.size ≤ b := by
      rcases List.mem_cons.mp hb with rfl | z
      · exact Nat.le_succ _
      · rw [List.mem_singleton.mp z]
        exact Nat.le_refl _
    exact I2.fpOk hle (I2.hok.fresh hle)
/-- a walk of it by its invariant -/
theorem for_from {K : PySem.W.Frag} {a : Addr} {xs : List V} {k : Int} {g : TG} {tb : TS} {D : Ends} {σ : L2.St} {H : Hp} (Pv : Nat → L2.St → Hp → Prop) (h0 : Pv 0 σ H) (hl : ∀ i σ H, i ≤ xs.length → Pv i σ H → SqL K H a xs)
    (hs : ∀ i x T σ H, xs[i]? = some x → Pv i σ H → H T = none → g (.ref T) σ (upd H T (.tup [.int (k + (i : Nat)), x])) fun σ2 H2 => tb { D with nx := Pv (i + 1), ct := Pv (i + 1), bk := D.nx } σ2 H2)
    (hd : ∀ σ H, Pv xs.length σ H → D.nx σ H) :
    ∃ W : Nat → Nat → L2.St → Hp → Prop, (∃ m, W 0 m σ H) ∧ ∀ i m σ H, W i m σ H →
      ((Itk0 K a k).stop i H ∧ D.nx σ H) ∨ ((Itk0 K a k).go i H ∧ ∃ N : L2.St → Hp → Prop, (∀ σ' H', N σ' H' → ∃ m', m' < m ∧ W (i + 1) m' σ' H') ∧
        ∀ x H', (Itk0 K a k).yld i H x H' → g x σ H' fun σ2 H2 => tb { D with nx := N, ct := N, bk := D.nx } σ2 H2) := by
  refine ⟨fun i m σ H => i + m = xs.length ∧ Pv i σ H, ⟨xs.length, by omega, h0⟩, ?_⟩
  rintro i m σ H ⟨hm, p⟩
  have hq := hl i σ H (by omega) p
  by_cases hi : i < xs.length
  · have hx : xs[i]? = some xs[i] := List.getElem?_eq_getElem hi
    refine .inr ⟨⟨xs, _, hq, hx⟩, fun σ' H' => Pv (i + 1) σ' H', fun σ' H' p2 => ⟨m - 1, by omega, by omega, p2⟩, ?_⟩
    rintro v H' ⟨T, x, rfl, hT, rfl, hf⟩
    exact hs i x T σ H (hf xs hq) p hT
  · have e : i = xs.length := by omega
    subst e
    exact .inl ⟨⟨xs, hq, Nat.le_refl _⟩, hd σ H p⟩
end Wt

set_option Elab.async false
set_option linter.all false
set_option maxRecDepth 100000
set_option maxHeartbeats 4000000
/-! Data; values that are not known but by what is true of them; the dice. -/
namespace Wt
open PySem PySem.Spec PyProof.Rows L2 SX Evl

/-! ### data -/
mutual
theorem Dp.ex {K : PySem.W.Frag} {H H' : Hp} (e : Ex H H') : ∀ (d : PyData) (v : V), Dp K H v d → Dp K H' v d
  | .none, _, h => by
    cases h
    exact .non
  | .bool b, _, h => by
    cases h
    exact .bl b
  | .int i, _, h => by
    cases h
    exact .int i
  | .str x, _, h => by
    cases h
    exact .str x
  | .list ds, _, h => by
    cases h with
    | lst h1 h2 => exact .lst (ex_l e h1) (DpAll.ex e ds _ h2)
  | .tuple ds, _, h => by
    cases h with
    | tup h1 h2 => exact .tup (ex_t e h1) (DpAll.ex e ds _ h2)
  | .dict kvs, _, h => by cases h
theorem DpAll.ex {K : PySem.W.Frag} {H H' : Hp} (e : Ex H H') : ∀ (ds : List PyData) (vs : List V), DpAll K H vs ds → DpAll K H' vs ds
  | [], _, h => by
    cases h
    exact .nil
  | d :: ds, _, h => by
    cases h with
    | cons h1 h2 => exact .cons (Dp.ex e d _ h1) (DpAll.ex e ds _ h2)
end
theorem dpa_len {K : PySem.W.Frag} {H : Hp} : ∀ {vs : List V} {ds : List PyData}, DpAll K H vs ds → vs.length = ds.length
  | _, _, .nil => rfl
  | _, _, .cons _ h => congrArg (· + 1) (dpa_len h)
theorem dpa_get {K : PySem.W.Frag} {H : Hp} : ∀ {vs : List V} {ds : List PyData} {i : Nat}, DpAll K H vs ds → i < ds.length → ∃ v d, vs[i]? = some v ∧ ds[i]? = some d ∧ Dp K H v d
  | _, _, _, .nil, h => absurd h (Nat.not_lt_zero _)
  | _, _, 0, .cons h _, _ => ⟨_, _, rfl, rfl, h⟩
  | _, _, i + 1, .cons _ t, h => by
    obtain ⟨v, d, h1, h2, h3⟩ := dpa_get t (i := i) (Nat.lt_of_succ_lt_succ h)
    exact ⟨v, d, h1, h2, h3⟩
theorem dpa_app {K : PySem.W.Frag} {H : Hp} : ∀ {vs : List V} {ds : List PyData} {us : List V} {es : List PyData}, DpAll K H vs ds → DpAll K H us es → DpAll K H (vs ++ us) (ds ++ es)
  | _, _, _, _, .nil, h => h
  | _, _, _, _, .cons h t, g => .cons h (dpa_app t g)
theorem dpa_snoc {K : PySem.W.Frag} {H : Hp} {vs : List V} {ds : List PyData} {v : V} {d : PyData} (h : DpAll K H vs ds) (g : Dp K H v d) : DpAll K H (vs ++ [v]) (ds ++ [d]) := dpa_app h (.cons g .nil)

/-- what stands in tuples alone: it stays whatever else changes -/
def Tx (H H' : Hp) : Prop := ∀ a xs, H a = some (.tup xs) → H' a = some (.tup xs)
theorem Tx.refl (H : Hp) : Tx H H := fun _ _ h => h
theorem Tx.trans {H H1 H2 : Hp} (a : Tx H H1) (b : Tx H1 H2) : Tx H H2 := fun x xs h => b x xs (a x xs h)
theorem Tx.of {H H' : Hp} (e : Ex H H') : Tx H H' := fun a xs h => e a _ h
theorem Tx.lst {H : Hp} {l : Addr} {xs ys : List V} (h : H l = some (.lst xs)) : Tx H (upd H l (.lst ys)) := fun a zs q => by
  rw [upd_ne (ne_of q h (by intro z; cases z))]
  exact q
theorem Tx.dK {H : Hp} {l : Addr} {ks ls : List (Key × V)} (h : H l = some (.dK ks)) : Tx H (upd H l (.dK ls)) := fun a zs q => by
  rw [upd_ne (ne_of q h (by intro z; cases z))]
  exact q
mutual
inductive Td (H : Hp) : V → PyData → Prop
  | non : Td H .non .none
  | bl (b : Bool) : Td H (.bl b) (.bool b)
  | int (i : Int) : Td H (.int i) (.int i)
  | str (x : Str) : Td H (.str x) (.str x)
  | tup {a : Addr} {xs : List V} {ds : List PyData} : H a = some (.tup xs) → TdAll H xs ds → Td H (.ref a) (.tuple ds)
inductive TdAll (H : Hp) : List V → List PyData → Prop
  | nil : TdAll H [] []
  | cons {v : V} {vs : List V} {d : PyData} {ds : List PyData} : Td H v d → TdAll H vs ds → TdAll H (v :: vs) (d :: ds)
end
mutual
theorem Td.tx {H H' : Hp} (e : Tx H H') : ∀ (d : PyData) (v : V), Td H v d → Td H' v d
  | .none, _, h => by
    cases h
    exact .non
  | .bool b, _, h => by
    cases h
    exact .bl b
  | .int i, _, h => by
    cases h
    exact .int i
  | .str x, _, h => by
    cases h
    exact .str x
  | .list ds, _, h => by cases h
  | .tuple ds, _, h => by
    cases h with
    | tup h1 h2 => exact .tup (e _ _ h1) (TdAll.tx e ds _ h2)
  | .dict kvs, _, h => by cases h
theorem TdAll.tx {H H' : Hp} (e : Tx H H') : ∀ (ds : List PyData) (vs : List V), TdAll H vs ds → TdAll H' vs ds
  | [], _, h => by
    cases h
    exact .nil
  | d :: ds, _, h => by
    cases h with
    | cons h1 h2 => exact .cons (Td.tx e d _ h1) (TdAll.tx e ds _ h2)
end
mutual
theorem Td.dp {K : PySem.W.Frag} {H : Hp} : ∀ (d : PyData) (v : V), Td H v d → Dp K H v d
  | .none, _, h => by
    cases h
    exact .non
  | .bool b, _, h => by
    cases h
    exact .bl b
  | .int i, _, h => by
    cases h
    exact .int i
  | .str x, _, h => by
    cases h
    exact .str x
  | .list ds, _, h => by cases h
  | .tuple ds, _, h => by
    cases h with
    | tup h1 h2 => exact .tup (st_of h1) (TdAll.dp ds _ h2)
  | .dict kvs, _, h => by cases h
theorem TdAll.dp {K : PySem.W.Frag} {H : Hp} : ∀ (ds : List PyData) (vs : List V), TdAll H vs ds → DpAll K H vs ds
  | [], _, h => by
    cases h
    exact .nil
  | d :: ds, _, h => by
    cases h with
    | cons h1 h2 => exact .cons (Td.dp d _ h1) (TdAll.dp ds _ h2)
end
theorem TdAll.app {H : Hp} : ∀ {vs : List V} {ds : List PyData} {us : List V} {es : List PyData}, TdAll H vs ds → TdAll H us es → TdAll H (vs ++ us) (ds ++ es)
  | _, _, _, _, .nil, h => h
  | _, _, _, _, .cons h t, g => .cons h (t.app g)
theorem TdAll.snoc {H : Hp} {vs : List V} {ds : List PyData} {v : V} {d : PyData} (h : TdAll H vs ds) (g : Td H v d) : TdAll H (vs ++ [v]) (ds ++ [d]) := h.app (.cons g .nil)
theorem TdAll.len {H : Hp} : ∀ {vs : List V} {ds : List PyData}, TdAll H vs ds → vs.length = ds.length
  | _, _, .nil => rfl
  | _, _, .cons _ h => congrArg (· + 1) h.len

/-! ### a value that is known by what is true of it -/
def EvN (te : TE) (σ : L2.St) (H : Hp) (P : V → Prop) : Prop := ∀ H1, Ex H H1 → ∀ Q : VK, (∀ v H2, P v → Ex H1 H2 → Q v H2) → te σ H1 Q
def SpN (sp : Sp) (vs : List V) (H : Hp) (P : V → Prop) : Prop := ∀ H1, Ex H H1 → ∀ Q : VK, (∀ v H2, P v → Ex H1 H2 → Q v H2) → ∀ E : XK, sp vs H1 Q E
def EvTN (tt : TT) (σ : L2.St) (H : Hp) (P : Bool → Prop) : Prop := ∀ H1, Ex H H1 → ∀ Q : Bool → Hp → Prop, (∀ b H2, P b → Ex H1 H2 → Q b H2) → tt σ H1 Q
section
variable {K : PySem.W.Frag} {σ : L2.St} {H H' : Hp} {ta tb te tx : TE} {t u : TT} {x y z v : V} {r : R2} {P P2 : V → Prop}
theorem EvN.of (h : Ev te σ H v) : EvN te σ H (· = v) := fun H1 e Q q => h H1 e Q fun H2 e2 => q v H2 rfl e2
theorem EvN.mono (e : Ex H H') (h : EvN te σ H P) : EvN te σ H' P := fun H1 e1 Q q => h H1 (e.trans e1) Q q
theorem EvN.imp (h : EvN te σ H P) (i : ∀ v, P v → P2 v) : EvN te σ H P2 := fun H1 e Q q => h H1 e Q fun v H2 p e2 => q v H2 (i v p) e2
theorem EvN.one (h : EvN te σ H P) (i : ∀ w, P w → w = v) : Ev te σ H v := fun H1 e Q q => h H1 e Q fun w H2 p e2 => by
  rw [i w p]
  exact q H2 e2
theorem en_op (ha : EvN ta σ H P) (hb : ∀ x, P x → EvN tb σ H P2) {P3 : V → Prop} (hr : ∀ x y H1, P x → P2 y → Ex H H1 → ∀ Q : VK, (∀ z H2, P3 z → Ex H1 H2 → Q z H2) → r x y H1 Q) : EvN (tOp r ta tb) σ H P3 := fun H1 e Q q =>
  ha H1 e _ fun x H2 px e2 => hb x px H2 (e.trans e2) _ fun y H3 py e3 => hr x y H3 px py ((e.trans e2).trans e3) Q fun z H4 pz e4 => q z H4 pz ((e2.trans e3).trans e4)
/-- both operands, then a value -/
theorem en_opV (ha : EvN ta σ H P) (hb : ∀ x, P x → EvN tb σ H P2) {P3 : V → Prop} (hr : ∀ x y, P x → P2 y → ∃ z, P3 z ∧ RV r x y H z) : EvN (tOp r ta tb) σ H P3 := en_op ha hb fun x y H1 px py e Q q => by
  obtain ⟨z, pz, rz⟩ := hr x y px py
  exact rz H1 e Q fun H2 e2 => q z H2 pz e2
theorem en_call {sp : Sp} {dvs vs : List V} {E : XK} {ta : TA} (h : EvA ta σ H vs) (hs : SpN sp (vs ++ dvs) H P) : EvN (tCall sp dvs E ta) σ H P := fun H1 e Q q =>
  h H1 e _ fun H2 e2 => hs H2 (e.trans e2) Q (fun v H3 p e3 => q v H3 p (e2.trans e3)) E
theorem etn_test (h : EvN te σ H P) {B : Bool → Prop} (i : ∀ v, P v → ∃ b, v = .bl b ∧ B b) : EvTN (tTest te) σ H B := fun H1 e Q q => h H1 e _ fun v H2 p e2 => by
  obtain ⟨b, rfl, pb⟩ := i v p
  exact ⟨b, rfl, q b H2 pb e2⟩
theorem en_if {b : Bool} (h : EvT t σ H b) (h1 : b = true → EvN ta σ H P) (h2 : b = false → EvN tb σ H P) : EvN (tIf t ta tb) σ H P := fun H1 e Q q => h H1 e _ fun H2 e2 => by
  cases b with
  | true =>
    show ta σ H2 Q
    exact h1 rfl H2 (e.trans e2) Q fun v H3 p e3 => q v H3 p (e2.trans e3)
  | false =>
    show tb σ H2 Q
    exact h2 rfl H2 (e.trans e2) Q fun v H3 p e3 => q v H3 p (e2.trans e3)
variable {D : Ends} {tu tw tz : TS} {g : TG}
theorem sn_asg {i : Nat} (h : EvN te σ H P) (k : ∀ v H1, P v → Ex H H1 → D.nx (σ.set i (some v)) H1) : tAsg te (gName i) D σ H := h H (Ex.refl H) _ fun v H1 p e => k v H1 p e
theorem qn_asg {i : Nat} (h : EvN te σ H P) (k : ∀ v H1, P v → Ex H H1 → tz D (σ.set i (some v)) H1) : tSeq (tAsg te (gName i)) tz D σ H := sn_asg (D := { D with nx := tz D }) h k
theorem sn_ret (h : EvN te σ H P) (k : ∀ v H1, P v → Ex H H1 → D.rt v H1) : tRet te D σ H := h H (Ex.refl H) _ k
theorem sn_if (h : EvTN t σ H B) (h1 : B true → ∀ H1, Ex H H1 → tu D σ H1) (h2 : B false → ∀ H1, Ex H H1 → tw D σ H1) : tIfS t tu tw D σ H := h H (Ex.refl H) _ fun b H1 p e => by
  cases b with
  | true =>
    show tu D σ H1
    exact h1 p H1 e
  | false =>
    show tw D σ H1
    exact h2 p H1 e
theorem qn_if (h : EvTN t σ H B) (h1 : B true → ∀ H1, Ex H H1 → tu { D with nx := tz D } σ H1) (h2 : B false → ∀ H1, Ex H H1 → tw { D with nx := tz D } σ H1) : tSeq (tIfS t tu tw) tz D σ H := sn_if (D := { D with nx := tz D }) h h1 h2
end

/-! ### a promise seen through other words of the heap -/
/-- B tells of the same heap otherwise -/
structure Alike (A B : Hp) : Prop where
  free : ∀ b, A b = none → B b = none
  tups : ∀ b xs, A b = some (.tup xs) → B b = some (.tup xs)
  frzs : ∀ b o u, A b = some (.frz o u) → B b = some (.frz o u)
  tbls : ∀ b ps, A b = some (.tbl ps) → B b = some (.tbl ps)
section
variable {P : Program} {w : World} {K : PySem.W.Frag} {mg : Str → Option Value} {base : Heap}
theorem fn_seen {k : Nat} {f : Addr} {fd : FuncData} {ps : List Str} {sp sp' : Sp} (F : FnOk P w K mg base CX0 k f fd ps sp) (hlen : ∀ vs H Q E, sp' vs H Q E → vs.length = ps.length)
    (h : ∀ vs H Q E, sp' vs H Q E → ∀ hp : Heap, HOk P w H hp → ∃ (H1 : Hp) (Q1 : VK), Alike H H1 ∧ HOk P w H1 hp ∧ sp vs H1 Q1 E ∧
      ∀ v H2 (hp2 : Heap), HOk P w H2 hp2 → Q1 v H2 → ∃ H3, Alike H2 H3 ∧ HOk P w H3 hp2 ∧ Q v H3) : FnOk P w K mg base CX0 k f fd ps sp' := by
  refine ⟨hlen, fun A outer s H args us vs Q E hr e0 hb hv hs => ?_⟩
  obtain ⟨H1, Q1, al, ok1, hs1, back⟩ := h vs H Q E hs s.heap e0.hok
  have e1 : Env0 P w K mg base A outer s H1 := ⟨e0.frames, e0.mod, fun b o e => ⟨(e0.bs b o e).1, al.free b (e0.bs b o e).2⟩, e0.bsz, e0.funs, fun b hb => al.free b (e0.frf b hb), ok1, e0.bare⟩
  refine codeAny_mono (F.run A outer s H1 args us vs Q1 E hr e1 hb hv hs1) fun r s' hr' => ?_
  cases r with
  | error e => exact hr'
  | ok fl =>
    cases fl with
    | ret u =>
      obtain ⟨v, H2, os, br, un, ok2, rv, q⟩ := hr'
      obtain ⟨H3, al2, ok3, q3⟩ := back v H2 s'.heap ok2 q
      exact ⟨v, H3, os, br, ⟨fun b o e n h1 h2 => un.keep b o e (al.free b n) h1 h2, fun b o e n h1 h2 => un.slot b o e (al.free b n) h1 h2, fun b o e n h1 => al2.free b (un.free b o e (al.free b n) h1), un.there,
        fun b xs e => al2.tups b xs (un.tups b xs (al.tups b xs e)), fun b o u e => al2.frzs b o u (un.frzs b o u (al.frzs b o u e)), fun b ps e => by
          obtain ⟨more, e2⟩ := un.tbls b ps (al.tbls b ps e)
          exact ⟨more, al2.tbls b _ e2⟩⟩, ok3, rv, q3⟩
    | _ => exact hr'.elim
/-- one changing object told otherwise -/
theorem alike_at {H : Hp} {d : Addr} {o o2 : HO} (h : H d = some o) (m : Mut (some o)) (h1 : ∀ xs, o2 ≠ .tup xs) (h2 : ∀ ob u, o2 ≠ .frz ob u) (h3 : ∀ ps, o2 ≠ .tbl ps) : Alike H (upd H d o2) where
  free := fun b n => by
    rw [upd_ne (ne_of_none h n).symm]
    exact n
  tups := fun b xs e => by
    rw [upd_ne (ne_of e h (by intro z; subst z; exact m))]
    exact e
  frzs := fun b ob u e => by
    rw [upd_ne (ne_of e h (by intro z; subst z; exact m))]
    exact e
  tbls := fun b ps e => by
    rw [upd_ne (ne_of e h (by intro z; subst z; exact m))]
    exact e
theorem hok_at {H : Hp} {hp : Heap} {d : Addr} {o o2 : HO} (ok : HOk P w H hp) (h : H d = some o) (m : Mut (some o)) (new : ObjOk P w (upd H d o2) hp d o2) : HOk P w (upd H d o2) hp := fun b u e => by
  by_cases hb : b = d
  · subst hb
    rw [upd_same] at e
    cases e
    exact new
  · rw [upd_ne hb] at e
    refine (ok b u e).stay (fun c z _ q => q) (fun c q => ?_) (fun c xs q => ?_)
    · rw [upd_ne (ne_of q h (by intro z; subst z; exact m))]
      exact q
    · rw [upd_ne (ne_of q h (by intro z; subst z; exact m))]
      exact q
end

/-! ### the dice: the list of the script, a place, a mixed number, a rest -/
def diceP (d a : Addr) (h : Heap) : Prop := ∃ (i m r : Int) (t1 t2 t3 : Tok) (n : Nat), h.get? d = some { cls := .type "list", data := .seq #[.ref a, .int i t1, .int m t2, .int r t3] n } ∧ 0 ≤ i ∧ 0 ≤ m ∧ m < 2147483647
/-- a dice over the script at a -/
def DiceO (d a : Addr) : HO := .ext (diceP d a)
theorem dice_ok {P : Program} {w : World} {H : Hp} {hp : Heap} {d a : Addr} (h : diceP d a hp) : ObjOk P w H hp d (DiceO d a) := by
  refine ⟨h, ?_, ?_⟩
  · obtain ⟨i, m, r, t1, t2, t3, n, e, _⟩ := h
    exact ⟨_, e⟩
  · rintro h1 h2 ⟨i, m, r, t1, t2, t3, n, e, z⟩ k
    exact ⟨i, m, r, t1, t2, t3, n, k _ e, z⟩
theorem dice_of {P : Program} {w : World} {H : Hp} {hp : Heap} {d a : Addr} {i m r : Int} (ok : HOk P w H hp) (h : H d = some (.lst [.ref a, .int i, .int m, .int r])) (h0 : 0 ≤ i) (h1 : 0 ≤ m) (h2 : m < 2147483647) : diceP d a hp := by
  obtain ⟨_, its, n, rv, e⟩ := (show ObjOk P w H hp d (.lst [.ref a, .int i, .int m, .int r]) from ok d _ h)
  cases rv with
  | cons ra rest =>
    cases ra
    cases rest with
    | cons ri rest =>
      obtain ⟨t1, rfl⟩ := ri
      cases rest with
      | cons rm rest =>
        obtain ⟨t2, rfl⟩ := rm
        cases rest with
        | cons rr rest =>
          obtain ⟨t3, rfl⟩ := rr
          cases rest
          exact ⟨i, m, r, t1, t2, t3, n, e, h0, h1, h2⟩
theorem dice_out {P : Program} {w : World} {H : Hp} {hp : Heap} {d a : Addr} (ok : HOk P w H hp) (h : H d = some (DiceO d a)) : ∃ i m r, 0 ≤ i ∧ 0 ≤ m ∧ m < 2147483647 ∧
    Alike H (upd H d (.lst [.ref a, .int i, .int m, .int r])) ∧ HOk P w (upd H d (.lst [.ref a, .int i, .int m, .int r])) hp := by
  obtain ⟨⟨i, m, r, t1, t2, t3, n, e, z0, z1, z2⟩, _⟩ := (show ObjOk P w H hp d (DiceO d a) from ok d _ h)
  refine ⟨i, m, r, z0, z1, z2, alike_at h True.intro (fun _ z => nomatch z) (fun _ _ z => nomatch z) (fun _ z => nomatch z), hok_at ok h True.intro ⟨(by show 4 ≤ sizeLine; decide), [.ref a, .int i t1, .int m t2, .int r t3], n, ?_, e⟩⟩
  exact .cons rfl (.cons ⟨_, rfl⟩ (.cons ⟨_, rfl⟩ (.cons ⟨_, rfl⟩ .nil)))
theorem dice_in {P : Program} {w : World} {H : Hp} {hp : Heap} {d a : Addr} {i m r : Int} (ok : HOk P w H hp) (h : H d = some (.lst [.ref a, .int i, .int m, .int r])) (h0 : 0 ≤ i) (h1 : 0 ≤ m) (h2 : m < 2147483647) :
    Alike H (upd H d (DiceO d a)) ∧ HOk P w (upd H d (DiceO d a)) hp :=
  ⟨alike_at h True.intro (fun _ z => nomatch z) (fun _ _ z => nomatch z) (fun _ z => nomatch z), hok_at ok h True.intro (dice_ok (dice_of ok h h0 h1 h2))⟩
end Wt

set_option Elab.async false
set_option linter.all false
set_option maxRecDepth 100000
set_option maxHeartbeats 4000000
/-! Words of a row: the plain functions. -/
namespace Wt
open PySem PySem.Spec PyProof.Rows L2 SX Evl

def letters : List Nat := [97, 98, 99, 100, 101, 102, 103, 104, 105, 106, 107, 108, 109, 110, 111, 112, 113, 114, 115, 116, 117, 118, 119, 120, 121, 122]
def figures : List Nat := [48, 49, 50, 51, 52, 53, 54, 55, 56, 57]
def signs : List (List Nat) := [[60, 62], [60, 61], [40], [41], [44], [46], [61], [60], [43], [45], [42], [47]]
def owns : List (List Nat) := [[117, 115, 101], [99, 111, 110, 115, 116], [107, 101, 101, 112], [111, 117, 116], [100, 101, 102], [110, 117, 109], [121, 101, 115], [110, 111], [108, 101, 116], [105, 102],
  [101, 108, 115, 101], [119, 104, 105, 108, 101], [101, 110, 100], [103, 105, 118, 101], [115, 97, 121], [100, 111], [111, 114], [97, 110, 100], [110, 111, 116], [109, 111, 100]]
def kName : List Nat := [110, 97, 109, 101]
def kNum : List Nat := [110, 117, 109]
def kSign : List Nat := [115, 105, 103, 110]
def kOwn : List Nat := [111, 119, 110]
def isL (c : Nat) : Bool := decide (c ∈ letters)
def isF (c : Nat) : Bool := decide (c ∈ figures)
/-- the longest word that begins what is left -/
def wordAt : List Nat → List Nat
  | [] => []
  | c :: r => if isL c = true then (c :: r).takeWhile isL else if isF c = true then (c :: r).takeWhile isF else (signs.find? fun s => decide ((c :: r).take s.length = s)).getD []
def kindOf (w : List Nat) : List Nat :=
  if w ∈ owns then kOwn else if w ∈ signs then kSign else if w = [] ∨ 6 < w.length then [] else
  if isL (w.headD 0) = true then kName else if w.headD 0 = 48 ∧ 1 < w.length then [] else kNum
/-- a word: kind, word, column -/
abbrev Word := List Nat × List Nat × Nat
/-- the words of what is left of a row, which stands behind so many signs; where the first that is none begins -/
def lexAt : Nat → Nat → List Nat → List Word × Option Nat
  | 0, _, _ => ([], none)
  | _ + 1, _, [] => ([], none)
  | f + 1, i, c :: r => if c = 32 then lexAt f (i + 1) r else
    if kindOf (wordAt (c :: r)) = [] then ([], some (i + 1)) else
      ((kindOf (wordAt (c :: r)), wordAt (c :: r), i + 1) :: (lexAt f (i + (wordAt (c :: r)).length) ((c :: r).drop (wordAt (c :: r)).length)).1,
        (lexAt f (i + (wordAt (c :: r)).length) ((c :: r).drop (wordAt (c :: r)).length)).2)
def told (row : List Nat) : List Nat := row.takeWhile fun c => decide (c ≠ 35)
def lexRow (row : List Nat) : List Word × Option Nat := lexAt (told row).length 0 (told row)

/-! ### facts -/
theorem takeWhile_len {p : Nat → Bool} : ∀ l : List Nat, (l.takeWhile p).length ≤ l.length
  | [] => Nat.le_refl _
  | c :: r => by
    rw [List.takeWhile_cons]
    split
    · exact Nat.succ_le_succ (takeWhile_len r)
    · exact Nat.zero_le _
theorem find_len {l s : List Nat} {ss : List (List Nat)} (h : ss.find? (fun s => decide (l.take s.length = s)) = some s) : s.length ≤ l.length := by
  have e := List.find?_some h
  have e2 : l.take s.length = s := of_decide_eq_true e
  have e3 := congrArg List.length e2
  rw [List.length_take] at e3
  omega
theorem wordAt_cons (c : Nat) (r : List Nat) : wordAt (c :: r) = if isL c = true then (c :: r).takeWhile isL else if isF c = true then (c :: r).takeWhile isF else (signs.find? fun s => decide ((c :: r).take s.length = s)).getD [] := rfl
theorem lexAt_cons (f i c : Nat) (r : List Nat) : lexAt (f + 1) i (c :: r) = if c = 32 then lexAt f (i + 1) r else
    if kindOf (wordAt (c :: r)) = [] then ([], some (i + 1)) else
      ((kindOf (wordAt (c :: r)), wordAt (c :: r), i + 1) :: (lexAt f (i + (wordAt (c :: r)).length) ((c :: r).drop (wordAt (c :: r)).length)).1,
        (lexAt f (i + (wordAt (c :: r)).length) ((c :: r).drop (wordAt (c :: r)).length)).2) := rfl
theorem wordAt_len : ∀ l : List Nat, (wordAt l).length ≤ l.length
  | [] => Nat.le_refl _
  | c :: r => by
    rw [wordAt_cons]
    split
    · exact takeWhile_len _
    · split
      · exact takeWhile_len _
      · cases h : signs.find? (fun s => decide ((c :: r).take s.length = s)) with
        | none => exact Nat.zero_le _
        | some s => exact find_len h
/-- what is a word is not empty -/
theorem kind_ne {w : List Nat} (h : kindOf w ≠ []) : w ≠ [] := fun e => by
  subst e
  exact h (by decide +kernel)
theorem kind_pos {w : List Nat} (h : kindOf w ≠ []) : 0 < w.length := List.length_pos_iff.mpr (kind_ne h)
/-- enough turns are enough -/
theorem lexAt_fuel : ∀ (f g i : Nat) (l : List Nat), l.length ≤ f → l.length ≤ g → lexAt f i l = lexAt g i l
  | 0, 0, _, _, _, _ => rfl
  | 0, g + 1, _, [], _, _ => rfl
  | 0, _ + 1, _, _ :: _, h, _ => absurd h (Nat.not_succ_le_zero _)
  | f + 1, 0, _, [], _, _ => rfl
  | _ + 1, 0, _, _ :: _, _, h => absurd h (Nat.not_succ_le_zero _)
  | _ + 1, _ + 1, _, [], _, _ => rfl
  | f + 1, g + 1, i, c :: r, hf, hg => by
    have hf1 : r.length ≤ f := Nat.le_of_succ_le_succ hf
    have hg1 : r.length ≤ g := Nat.le_of_succ_le_succ hg
    rw [lexAt_cons, lexAt_cons]
    by_cases h1 : c = 32
    · rw [if_pos h1, if_pos h1]
      exact lexAt_fuel f g _ r hf1 hg1
    · rw [if_neg h1, if_neg h1]
      by_cases h2 : kindOf (wordAt (c :: r)) = []
      · rw [if_pos h2, if_pos h2]
      · rw [if_neg h2, if_neg h2]
        have hp := kind_pos h2
        have hl : ((c :: r).drop (wordAt (c :: r)).length).length ≤ r.length := by
          rw [List.length_drop, List.length_cons]
          omega
        rw [lexAt_fuel f g _ _ (Nat.le_trans hl hf1) (Nat.le_trans hl hg1)]
/-- with just enough turns: the equations -/
def lexR (i : Nat) (l : List Nat) : List Word × Option Nat := lexAt l.length i l
theorem lexR_nil (i : Nat) : lexR i [] = ([], none) := rfl
theorem lexR_blank (i : Nat) (r : List Nat) : lexR i (32 :: r) = lexR (i + 1) r := by
  unfold lexR
  show lexAt (r.length + 1) i (32 :: r) = _
  rw [lexAt_cons, if_pos rfl]
theorem lexR_bad {i c : Nat} {r : List Nat} (h1 : c ≠ 32) (h2 : kindOf (wordAt (c :: r)) = []) : lexR i (c :: r) = ([], some (i + 1)) := by
  unfold lexR
  show lexAt (r.length + 1) i (c :: r) = _
  rw [lexAt_cons, if_neg h1, if_pos h2]
theorem lexR_word {i c : Nat} {r : List Nat} (h1 : c ≠ 32) (h2 : kindOf (wordAt (c :: r)) ≠ []) :
    lexR i (c :: r) = ((kindOf (wordAt (c :: r)), wordAt (c :: r), i + 1) :: (lexR (i + (wordAt (c :: r)).length) ((c :: r).drop (wordAt (c :: r)).length)).1,
      (lexR (i + (wordAt (c :: r)).length) ((c :: r).drop (wordAt (c :: r)).length)).2) := by
  have hp := kind_pos h2
  have hl : ((c :: r).drop (wordAt (c :: r)).length).length ≤ r.length := by
    rw [List.length_drop, List.length_cons]
    omega
  have e : lexR i (c :: r) = lexAt (r.length + 1) i (c :: r) := rfl
  rw [e, lexAt_cons, if_neg h1, if_neg h2]
  unfold lexR
  rw [lexAt_fuel r.length _ _ _ hl (Nat.le_refl _)]
theorem lexRow_R (row : List Nat) : lexRow row = lexR 0 (told row) := rfl
theorem lexR_count : ∀ (n i : Nat) (l : List Nat), l.length ≤ n → (lexR i l).1.length ≤ l.length
  | _, i, [], _ => by
    rw [lexR_nil]
    exact Nat.le_refl _
  | 0, _, _ :: _, h => absurd h (Nat.not_succ_le_zero _)
  | n + 1, i, c :: r, h => by
    by_cases h1 : c = 32
    · subst h1
      rw [lexR_blank]
      exact Nat.le_succ_of_le (lexR_count n _ r (Nat.le_of_succ_le_succ h))
    · by_cases h2 : kindOf (wordAt (c :: r)) = []
      · rw [lexR_bad h1 h2]
        exact Nat.zero_le _
      · rw [lexR_word h1 h2]
        have hp := kind_pos h2
        have hl : ((c :: r).drop (wordAt (c :: r)).length).length ≤ r.length := by
          rw [List.length_drop, List.length_cons]
          omega
        have ih := lexR_count n (i + (wordAt (c :: r)).length) _ (Nat.le_trans hl (Nat.le_of_succ_le_succ h))
        show _ + 1 ≤ r.length + 1
        exact Nat.succ_le_succ (Nat.le_trans ih hl)
theorem lexRow_count (row : List Nat) : (lexRow row).1.length ≤ row.length := by
  rw [lexRow_R]
  exact Nat.le_trans (lexR_count _ 0 _ (Nat.le_refl _)) (takeWhile_len _)

/-- a word as data, in a row of this number -/
def wordD (n : Nat) (w : Word) : PyData := .tuple [.str (S w.1), .str (S w.2.1), .tuple [.int (n : Int), .int (w.2.2 : Nat)]]
/-- all words of rows numbered from n on -/
def allD (n : Nat) : List (List Nat) → List PyData
  | [] => []
  | row :: rest => (lexRow row).1.map (wordD n) ++ allD (n + 1) rest
end Wt

set_option Elab.async false
set_option linter.all false
set_option maxRecDepth 100000
set_option maxHeartbeats 4000000
/-! What stands ahead of a remark; words told, row by row. -/
namespace Wt
open PySem PySem.Spec PyProof.Rows L2 SX Evl
/-- a new list of what is told -/
def RetTd (ds : List PyData) (H : Hp) (Q : VK) : Prop := ∀ p H2 vs, H p = none → Ex H H2 → H2 p = some (.lst vs) → TdAll H2 vs ds → Q (.ref p) H2
theorem told_split (row : List Nat) : (35 ∉ row ∧ told row = row) ∨ ∃ r, row = told row ++ 35 :: r ∧ 35 ∉ told row := by
  have hno : ∀ l : List Nat, 35 ∉ told l := fun l => by
    induction l with
    | nil => intro h; cases h
    | cons c r ih =>
      unfold told at ih ⊢
      rw [List.takeWhile_cons]
      by_cases h : c = 35
      · rw [if_neg (by simp [h])]
        intro z
        cases z
      · rw [if_pos (by simp [h])]
        intro z
        rcases List.mem_cons.mp z with z | z
        · exact h z.symm
        · exact ih z
  have hsp : ∀ l : List Nat, 35 ∈ l → ∃ r, l = told l ++ 35 :: r := fun l => by
    induction l with
    | nil => intro h; cases h
    | cons c r ih =>
      intro h
      unfold told at ih ⊢
      rw [List.takeWhile_cons]
      by_cases hc : c = 35
      · rw [if_neg (by simp [hc])]
        exact ⟨r, by rw [hc] <;> rfl⟩
      · rw [if_pos (by simp [hc])]
        rcases List.mem_cons.mp h with z | z
        · exact absurd z.symm hc
        · obtain ⟨q, e⟩ := ih z
          exact ⟨q, by rw [List.cons_append, ← e]⟩
  by_cases h : 35 ∈ row
  · obtain ⟨r, e⟩ := hsp row h
    exact .inr ⟨r, e, hno row⟩
  · refine .inl ⟨h, ?_⟩
    have all : ∀ l : List Nat, 35 ∉ l → told l = l := fun l => by
      induction l with
      | nil => intro _; rfl
      | cons c r ih =>
        intro hn
        unfold told at ih ⊢
        have hc : c ≠ 35 := fun z => hn (z ▸ List.mem_cons_self ..)
        rw [List.takeWhile_cons, if_pos (by simp [hc]), ih fun z => hn (List.mem_cons_of_mem _ z)]
    exact all row h
theorem part_told (row : List Nat) : (Txt.partition (S row) (S [35])).1 = S (told row) := by
  rcases told_split row with ⟨h, e⟩ | ⟨r, e, h⟩
  · rw [SX.partition_none (by simp) (par_head_none h), e]
  · have z : TL.par [35] [] row = some (told row, r) := by
      have q := par_head (c := 35) (sep := []) r h
      rw [show told row ++ ([35] ++ r) = row from e.symm] at q
      exact q
    rw [SX.partition_some (by simp) z]
theorem told_len (row : List Nat) : (told row).length ≤ row.length := takeWhile_len row
section
variable {K : PySem.W.Frag} {σ : L2.St} {H H' : Hp} {ta tb te tx : TE} {t u : TT} {x y z v : V}
/-- t.partition("#")[0] -/
theorem ev_told {row : List Nat} (ha : Ev ta σ H (.str (S row))) (hb : Ev tb σ H (.str (S [35]))) (hl : row.length ≤ 100000) :
    Ev (tOp (rIxT K) (tM1 (fun x xs H Q => ∃ a b, x = .str a ∧ xs = [.str b] ∧ (b.length == 0) = false ∧ a.length ≤ sizeLine ∧
      ∀ p, H p = none → Q (.ref p) (upd H p (.tup [.str (Txt.partition a b).1, .str (Txt.partition a b).2.1, .str (Txt.partition a b).2.2]))) ta tb) (tC (.int 0))) σ H (.str (S (told row))) := fun H1 e Q q =>
  ha H1 e _ fun H2 e2 => ⟨⟨S row, rfl⟩, hb H2 (e.trans e2) _ fun H3 e3 => ⟨S row, S [35], rfl, rfl, by decide +kernel, by rw [S_len]; exact sz_of hl, fun p hp =>
    ⟨p, _, 0, _, rfl, rfl, st_of upd_same, atI_nat (j := 0) rfl, by
      rw [part_told]
      exact q _ ((e2.trans e3).trans (Ex.new hp))⟩⟩⟩
end
/-- all rows are words -/
def AllWords (rows : List (List Nat)) : Prop := ∀ r ∈ rows, (lexRow r).2 = none
theorem allD_snoc : ∀ (n : Nat) (rs : List (List Nat)) (r : List Nat), allD n (rs ++ [r]) = allD n rs ++ (lexRow r).1.map (wordD (n + rs.length))
  | n, [], r => by
    show (lexRow r).1.map (wordD n) ++ [] = [] ++ _
    rw [List.append_nil, List.nil_append] <;> rfl
  | n, x :: rs, r => by
    show (lexRow x).1.map (wordD n) ++ allD (n + 1) (rs ++ [r]) = ((lexRow x).1.map (wordD n) ++ allD (n + 1) rs) ++ _
    rw [allD_snoc, List.append_assoc, show n + 1 + rs.length = n + (x :: rs).length by rw [List.length_cons]; omega]
end Wt

set_option Elab.async false
set_option linter.all false
set_option maxRecDepth 100000
set_option maxHeartbeats 4000000
/-! Lists, arguments, loops known by what is true of them. -/
namespace Wt
open PySem PySem.Spec PyProof.Rows L2 SX Evl
/-- a new list, known by what is true of its items -/
def EvNL (te : TE) (σ : L2.St) (H : Hp) (P : List V → Prop) : Prop := ∀ H1, Ex H H1 → ∀ Q : VK, (∀ p H2 xs, P xs → H1 p = none → Ex H1 H2 → H2 p = some (.lst xs) → Q (.ref p) H2) → te σ H1 Q
section
variable {K : PySem.W.Frag} {σ : L2.St} {H H' : Hp} {ta tb te tx : TE} {t u : TT} {x y z v : V}
/-- [e for k in range(n)], n and e known by what is true of them -/
theorem en_lcR {j : Nat} {vs : List Nat} {N : Nat} {P : V → Prop} (h : EvN ta σ H (fun v => ∃ z : Int, v = .int z ∧ 0 ≤ z ∧ z ≤ (N : Int))) (hN : N ≤ 10000) (hw : ∀ x, wipe ((wipe σ vs).set j (some x)) vs = wipe σ vs)
    (he : ∀ (i : Nat) H1, Ex H H1 → EvN te ((wipe σ vs).set j (some (.int (i : Int)))) H1 P) : EvNL (tLc (iRng1 (tCons ta tNil)) (gName j) tYes te vs) σ H (fun xs => xs.length ≤ N ∧ ∀ x ∈ xs, P x) := fun H0 e Q q =>
  h H0 e _ fun v H1 hv e1 => by
    obtain ⟨z, rfl, z0, z1⟩ := hv
    refine ⟨z, rfl, by omega, by omega, fun Dl hD => ?_⟩
    refine lc_range (lo := 0) (n := z.toNat) (fun i H2 => ∃ xs, Ex H1 H2 ∧ H2 Dl = some (.lst xs) ∧ xs.length = i ∧ ∀ x ∈ xs, P x) ⟨[], Ex.new hD, upd_same, rfl, fun _ h => absurd h (by simp)⟩ ?_ ?_
    · rintro i H2 hi ⟨xs, e2, h2, hl, hP⟩
      have e0 : (0 : Int) + (i : Int) = (i : Int) := Int.zero_add _
      show wipe ((wipe σ vs).set j (some (.int ((0 : Int) + (i : Int))))) vs = wipe σ vs ∧ tYes ((wipe σ vs).set j (some (.int ((0 : Int) + (i : Int))))) H2 _
      rw [e0]
      refine ⟨hw _, ?_⟩
      show te ((wipe σ vs).set j (some (.int (i : Int)))) H2 _
      refine he i H2 ((e.trans e1).trans e2) H2 (Ex.refl H2) _ fun y H3 py e3 => ⟨xs, e3 Dl _ h2, sz_lt (by omega), xs ++ [y], ?_, upd_same, by rw [List.length_append, hl] <;> rfl, fun x hx => ?_⟩
      · exact Ex.mut (e2.trans e3) hD
      · rcases List.mem_append.mp hx with h | h
        · exact hP x h
        · rw [List.mem_singleton.mp h]
          exact py
    · rintro H2 ⟨xs, e2, h2, hl, hP⟩
      exact q Dl H2 xs ⟨by omega, hP⟩ (fresh_back e1 hD) (e1.trans e2) h2
theorem ev_dget {kvs : List (Key × V)} {a : Addr} {k : Str} (ha : Ev ta σ H (.ref a)) (hb : Ev tb σ H (.str k)) (h : H a = some (.dK kvs)) (hv : valV kvs (Sum.inr k : Key) = some v) : Ev (tDGet ta tb) σ H v := fun H1 e Q q =>
  ha H1 e _ fun H2 e2 => hb H2 (e.trans e2) _ fun H3 e3 => ⟨a, v, rfl, by
    have g := DGet.k (k := (Sum.inr k : Key)) (((e.trans e2).trans e3) a _ h)
    rw [hv] at g
    exact g, q H3 (e2.trans e3)⟩
theorem rv_addS {a b : List Nat} (h : a.length + b.length ≤ 100000) : RV (fun x y H Q => ∃ i j, x = .str i ∧ y = .str j ∧ i.length + j.length ≤ sizeLine ∧ Q (.str (i ++ j)) H) (.str (S a)) (.str (S b)) H (.str (S (a ++ b))) := fun H1 _ Q q =>
  ⟨S a, S b, rfl, rfl, by rw [S_len, S_len]; exact sz_of h, by rw [S_cat]; exact q H1 (Ex.refl H1)⟩
theorem rv_repS {a : List Nat} {k : Nat} (h : a.length ≤ 16) (hk : k ≤ 100000) : RV rRepS (.str (S a)) (.int (k : Int)) H (.str (S (List.replicate k a).flatten)) := fun H1 _ Q q => ⟨a, k, rfl, rfl, h, hk, q H1 (Ex.refl H1)⟩
end
theorem joinL_nil : ∀ l : List Nat, TL.joinL [] (l.map fun c => [c]) = l
  | [] => rfl
  | [c] => rfl
  | c :: d :: r => by
    show [c] ++ ([] ++ TL.joinL [] ((d :: r).map fun c => [c])) = _
    rw [joinL_nil (d :: r)] <;> rfl
theorem given_nil {n : Nat} {f : Nat → Bool} {v : Nat → V} : (given n f v = []) ↔ ∀ i, i < n → f i = false := by
  unfold given
  rw [List.map_eq_nil_iff, List.filter_eq_nil_iff]
  constructor
  · intro h i hi
    have := h i (List.mem_range.mpr hi)
    simpa using this
  · intro h i hi
    rw [h i (List.mem_range.mp hi)]
    exact Bool.false_ne_true
/-- [1, ..] != [] -/
theorem eqvAll_nil : ∀ ds : List PyData, PyData.eqvAll ds [] = decide (ds = [])
  | [] => by decide +kernel
  | d :: ds => by
    have e : PyData.eqvAll (d :: ds) [] = false := by
      unfold PyData.eqvAll
      rfl
    rw [e]
    exact (decide_eq_false (List.cons_ne_nil _ _)).symm
/-- arguments known by what is true of them -/
def EAN (ta : TA) (σ : L2.St) (H : Hp) (P : List V → Prop) : Prop := ∀ H1, Ex H H1 → ∀ Q : List V → Hp → Prop, (∀ vs H2, P vs → Ex H1 H2 → Q vs H2) → ta σ H1 Q
section
variable {K : PySem.W.Frag} {σ : L2.St} {H H' : Hp} {ta tb te tx t1 t2 : TE} {t u : TT} {x y z v : V} {P : V → Prop} {L : List V → Prop} {D : Ends} {tz : TS}
theorem ean_nil : EAN tNil σ H (· = []) := fun H1 _ _ q => q [] H1 rfl (Ex.refl H1)
theorem ean_cons {tr : TA} (h : EvN te σ H P) (hr : EAN tr σ H L) : EAN (tCons te tr) σ H (fun l => ∃ v r, l = v :: r ∧ P v ∧ L r) := fun H1 e Q q =>
  h H1 e _ fun v H2 pv e2 => hr H2 (e.trans e2) _ fun r H3 pr e3 => q (v :: r) H3 ⟨v, r, rfl, pv, pr⟩ (e2.trans e3)
theorem ean_one {tr : TA} (h : Ev te σ H v) (hr : EAN tr σ H L) : EAN (tCons te tr) σ H (fun l => ∃ r, l = v :: r ∧ L r) := fun H1 e Q q =>
  h H1 e _ fun H2 e2 => hr H2 (e.trans e2) _ fun r H3 pr e3 => q (v :: r) H3 ⟨r, rfl, pr⟩ (e2.trans e3)
theorem enl_lst {ta : TA} (h : EAN ta σ H L) (hl : ∀ l, L l → l.length ≤ 100000) : EvNL (tLst ta) σ H L := fun H1 e Q q =>
  h H1 e _ fun vs H2 pv e2 => ⟨sz_of (hl vs pv), fun p hp => q p _ vs pv (fresh_back e2 hp) (e2.trans (Ex.new hp)) upd_same⟩
theorem EvNL.of {xs : List V} (h : EvL te σ H xs) : EvNL te σ H (· = xs) := fun H1 e Q q => h H1 e Q fun p H2 hp e2 h2 => q p H2 xs rfl hp e2 h2
/-- an item of such a list at a number below its length -/
theorem en_ixNL {n : Nat} (ha : EvNL ta σ H L) (hb : EvN tb σ H (fun v => ∃ z : Int, v = .int z ∧ 0 ≤ z ∧ z < (n : Int))) (hl : ∀ l, L l → l.length = n ∧ ∀ v ∈ l, P v) : EvN (tOp (rIxL K) ta tb) σ H P := fun H1 e Q q =>
  ha H1 e _ fun p H2 xs hL hp e2 h2 => hb H2 (e.trans e2) _ fun v H3 hv e3 => by
    obtain ⟨z, rfl, z0, z1⟩ := hv
    obtain ⟨k, rfl⟩ : ∃ k : Nat, z = (k : Int) := ⟨z.toNat, by omega⟩
    obtain ⟨h5, h6⟩ := hl xs hL
    have hlt : k < xs.length := by omega
    exact ⟨p, xs, (k : Int), xs[k], rfl, rfl, sq_of (e3 p _ h2), atI_nat (List.getElem?_eq_getElem hlt), q _ H3 (h6 _ (List.getElem_mem hlt)) (e2.trans e3)⟩
/-- a, b = e, a new list -/
theorem q_tupL {i j : Nat} {xs : List V} (h1 : Ev t1 σ H v) (h2 : EvL t2 σ H xs) (k : ∀ p H1, H p = none → Ex H H1 → H1 p = some (.lst xs) → tz D ((σ.set i (some v)).set j (some (.ref p))) H1) :
    tSeq (tAsg (tTup (tCons t1 (tCons t2 tNil))) (gTup K 2 (gCons (gName i) (gCons (gName j) gNil)))) tz D σ H :=
  h1 H (Ex.refl H) _ fun H1 e1 => h2 H1 e1 _ fun p H2 hp e2 hpl => ⟨by show 2 ≤ sizeLine; decide, fun c hc =>
    ⟨c, [v, .ref p], rfl, st_of upd_same, rfl, v, [.ref p], rfl, .ref p, [], rfl, rfl, k p _ (fresh_back e1 hp) ((e1.trans e2).trans (Ex.new hc)) (by
      rw [upd_ne (ne_of_none hpl hc)]
      exact hpl)⟩⟩
/-- a new list of flat data is not empty -/
theorem ev_neNil {n : Nat} {f : Nat → Bool} (ha : EvL ta σ H (given n f fun _ => .int 1)) (hn : n ≤ 60) : Ev (tOp (rNeD K) ta (tLst tNil)) σ H (.bl ((List.range n).any f)) := ev_opLL ha (el_lst ea_nil (Nat.zero_le _)) fun p q H1 h1 h2 _ H2 e2 Q q2 => by
  obtain ⟨m, hm, em⟩ : ∃ m, m ≤ n ∧ (given n f fun _ => V.int 1) = List.replicate m (V.int 1) := by
    have hl := given_len n f fun _ => V.int 1
    refine ⟨_, hl, List.eq_replicate_iff.mpr ⟨rfl, fun b hb => ?_⟩⟩
    unfold given at hb
    obtain ⟨_, _, e⟩ := List.mem_map.mp hb
    exact e.symm
  have hall : ∀ m : Nat, DpAll K H2 (List.replicate m (V.int 1)) (List.replicate m (PyData.int 1)) := fun m => by
    induction m with
    | zero => exact .nil
    | succ m ih => exact .cons (.int 1) ih
  have hany : (List.range n).any f = !decide (m = 0) := by
    have h3 : (m = 0) ↔ ∀ i, i < n → f i = false := by
      rw [← given_nil (v := fun _ => V.int 1), em]
      cases m with
      | zero => exact ⟨fun _ => rfl, fun _ => rfl⟩
      | succ m => exact ⟨fun z => absurd z (Nat.succ_ne_zero m), fun z => by rw [List.replicate_succ] at z; cases z⟩
    cases hb : (List.range n).any f with
    | false =>
      rw [List.any_eq_false] at hb
      have hm0 : m = 0 := h3.mpr fun i hi => by
        have := hb i (List.mem_range.mpr hi)
        simpa using this
      rw [decide_eq_true hm0] <;> rfl
    | true =>
      rw [List.any_eq_true] at hb
      obtain ⟨i, hi, hfi⟩ := hb
      have hm0 : ¬ m = 0 := fun z => by
        have := h3.mp z i (List.mem_range.mp hi)
        rw [hfi] at this
        cases this
      rw [decide_eq_false hm0] <;> rfl
  rw [em] at h1
  have hsh : ∀ m, m ≤ 60 → SeqAt.shaped (.list (List.replicate m (PyData.int 1))) = true := by decide +kernel
  refine ⟨.list (List.replicate m (.int 1)), .list [], .lst (sq_of (e2 p _ h1)) (hall m), .lst (sq_of (e2 q _ h2)) .nil, hsh m (by omega), by decide +kernel, ?_⟩
  have e : PyData.eqv (.list (List.replicate m (PyData.int 1))) (.list []) = decide (m = 0) := by
    refine (eqvAll_nil _).trans ?_
    cases m with
    | zero => rfl
    | succ m =>
      rw [decide_eq_false (Nat.succ_ne_zero m), List.replicate_succ]
      exact decide_eq_false (List.cons_ne_nil _ _)
  rw [e, ← hany]
  exact q2 H2 (Ex.refl H2)
end
section
variable {K : PySem.W.Frag} {σ : L2.St} {H H' : Hp} {ta tb te tx t1 t2 : TE} {t u : TT} {x y z v : V} {P : V → Prop} {L : List V → Prop} {D : Ends} {tz tu : TS}
theorem el_cat {l : Addr} {xs zs : List V} (ha : Ev ta σ H (.ref l)) (hl : H l = some (.lst xs)) (hb : EvL tb σ H zs) (hz : xs.length + zs.length ≤ 100000) : EvL (tOp rCat ta tb) σ H (xs ++ zs) := fun H1 e Q q =>
  ha H1 e _ fun H2 e2 => hb H2 (e.trans e2) _ fun p H3 hp e3 h3 => ⟨l, p, xs, zs, rfl, rfl, e3 l _ (e2 l _ (e l _ hl)), h3, sz_of hz, fun c hc => q c _ (fresh_back (e2.trans e3) hc) ((e2.trans e3).trans (Ex.new hc)) upd_same⟩
theorem en_callN {sp : Sp} {dvs : List V} {E : XK} {ta : TA} (h : EAN ta σ H L) (hs : ∀ vs, L vs → SpN sp (vs ++ dvs) H P) : EvN (tCall sp dvs E ta) σ H P := fun H1 e Q q =>
  h H1 e _ fun vs H2 hv e2 => hs vs hv H2 (e.trans e2) Q (fun v H3 p e3 => q v H3 p (e2.trans e3)) E
/-- a loop over range(n), n known by what is true of it -/
theorem q_forRN {j N : Nat} (h : EvN te σ H (fun v => ∃ z : Int, v = .int z ∧ 0 ≤ z ∧ z < (N : Int))) (hN : N ≤ 10000) (Pv : Nat → L2.St → Hp → Prop) (h0 : ∀ H1, Ex H H1 → Pv 0 σ H1)
    (hs : ∀ (i : Nat) σ' H', i < N → Pv i σ' H' → tu { D with nx := Pv (i + 1), ct := Pv (i + 1), bk := tz D } (σ'.set j (some (.int (i : Int)))) H') (hd : ∀ n σ' H', n < N → Pv n σ' H' → tz D σ' H') :
    tSeq (tFor (iRng1 (tCons te tNil)) (gName j) tu) tz D σ H := h H (Ex.refl H) _ fun v H1 hv e1 => by
  obtain ⟨z, rfl, z0, z1⟩ := hv
  refine ⟨z, rfl, by omega, by omega, for_range (D := { D with nx := tz D }) (lo := 0) (n := z.toNat) Pv (h0 H1 e1) (fun i σ' H' hi p => ?_) fun σ' H' p => hd z.toNat σ' H' (by omega) p⟩
  have e0 : (0 : Int) + (i : Int) = (i : Int) := Int.zero_add _
  show tu { D with nx := Pv (i + 1), ct := Pv (i + 1), bk := tz D } (σ'.set j (some (.int ((0 : Int) + (i : Int))))) H'
  rw [e0]
  exact hs i σ' H' (by omega) p
theorem s_forRN {j N : Nat} (h : EvN te σ H (fun v => ∃ z : Int, v = .int z ∧ 0 ≤ z ∧ z < (N : Int))) (hN : N ≤ 10000) (Pv : Nat → L2.St → Hp → Prop) (h0 : ∀ H1, Ex H H1 → Pv 0 σ H1)
    (hs : ∀ (i : Nat) σ' H', i < N → Pv i σ' H' → tu { D with nx := Pv (i + 1), ct := Pv (i + 1), bk := D.nx } (σ'.set j (some (.int (i : Int)))) H') (hd : ∀ n σ' H', n < N → Pv n σ' H' → D.nx σ' H') :
    tFor (iRng1 (tCons te tNil)) (gName j) tu D σ H := q_forRN (D := D) (tz := tNext) h hN Pv h0 hs hd
/-- a, b = x, y -/
theorem q_par {i j : Nat} {ta : TA} {a b : V} (h : EvA ta σ H [a, b]) (k : ∀ H1, Ex H H1 → tz D ((σ.set i (some a)).set j (some b)) H1) : tSeq (tPar i j ta) tz D σ H := h H (Ex.refl H) _ fun H1 e1 => ⟨_, _, rfl, k H1 e1⟩
end
end Wt

set_option Elab.async false
set_option linter.all false
set_option maxRecDepth 100000
set_option maxHeartbeats 4000000
/-! What an expression comes to, told as data; texts as lists of signs. -/
namespace Wt
open PySem PySem.Spec PyProof.Rows L2 SX Evl
def lt (s : String) : List Nat := (Str.ofString s).cps.toList
theorem S_lt (s : String) : Str.ofString s = S (lt s) := by rw [lt, S_tl]
/-- data in tuples -/
def EvD (te : TE) (σ : L2.St) (H : Hp) (d : PyData) : Prop := ∀ H1, Ex H H1 → ∀ Q : VK, (∀ v H2, Ex H1 H2 → Td H2 v d → Q v H2) → te σ H1 Q
def EAD (ta : TA) (σ : L2.St) (H : Hp) (ds : List PyData) : Prop := ∀ H1, Ex H H1 → ∀ Q : List V → Hp → Prop, (∀ vs H2, Ex H1 H2 → TdAll H2 vs ds → Q vs H2) → ta σ H1 Q
/-- a new list of data -/
def EvDL (te : TE) (σ : L2.St) (H : Hp) (ds : List PyData) : Prop := ∀ H1, Ex H H1 → ∀ Q : VK, (∀ p H2 vs, H1 p = none → Ex H1 H2 → H2 p = some (.lst vs) → TdAll H2 vs ds → Q (.ref p) H2) → te σ H1 Q
/-- a new list of texts -/
abbrev EvLT (te : TE) (σ : L2.St) (H : Hp) (ts : List (List Nat)) : Prop := EvL te σ H (ts.map fun z => V.str (S z))
abbrev EvS (te : TE) (σ : L2.St) (H : Hp) (t : List Nat) : Prop := Ev te σ H (.str (S t))
abbrev EAT (ta : TA) (σ : L2.St) (H : Hp) (ts : List (List Nat)) : Prop := EvA ta σ H (ts.map fun z => V.str (S z))
theorem wide_texts (l : List (List Nat)) : (l.map fun z => V.str (S z)).length = l.length := List.length_map ..
section
variable {K : PySem.W.Frag} {σ : L2.St} {H H' : Hp} {ta tb te tx : TE} {tr : TA} {t u : TT} {v w : V} {d : PyData} {ds es : List PyData} {D : Ends} {tu tw tz : TS} {g : TG}
theorem ed_of (h : Ev te σ H v) (hv : Td H v d) : EvD te σ H d := fun H1 e Q q => h H1 e Q fun H2 e2 => q v H2 e2 (Td.tx (Tx.of (e.trans e2)) _ _ hv)
theorem ed_str {x : Str} (h : Ev te σ H (.str x)) : EvD te σ H (.str x) := ed_of h (.str x)
theorem ed_int {i : Int} (h : Ev te σ H (.int i)) : EvD te σ H (.int i) := ed_of h (.int i)
theorem ed_bl {b : Bool} (h : Ev te σ H (.bl b)) : EvD te σ H (.bool b) := ed_of h (.bl b)
theorem ed_non (h : Ev te σ H .non) : EvD te σ H .none := ed_of h .non
theorem EvD.mono (e : Ex H H') (h : EvD te σ H d) : EvD te σ H' d := fun H1 e1 Q q => h H1 (e.trans e1) Q q
theorem EvDL.mono (e : Ex H H') (h : EvDL te σ H ds) : EvDL te σ H' ds := fun H1 e1 Q q => h H1 (e.trans e1) Q q
theorem ed_is {d2 : PyData} (h : EvD te σ H d) (e : d = d2) : EvD te σ H d2 := e ▸ h
theorem ead_nil : EAD tNil σ H [] := fun H1 _ Q q => q [] H1 (Ex.refl _) .nil
theorem ead_cons (h : EvD te σ H d) (hr : EAD tr σ H ds) : EAD (tCons te tr) σ H (d :: ds) := fun H1 e Q q =>
  h H1 e _ fun v H2 e2 hv => hr H2 (e.trans e2) _ fun vs H3 e3 hvs => q (v :: vs) H3 (e2.trans e3) (.cons (Td.tx (Tx.of e3) _ _ hv) hvs)
theorem ed_tup {tr : TA} (h : EAD tr σ H ds) (hl : ds.length ≤ 100000) : EvD (tTup tr) σ H (.tuple ds) := fun H1 e Q q =>
  h H1 e _ fun vs H2 e2 hvs => ⟨sz_of (by rw [hvs.len]; exact hl), fun p hp => q (.ref p) _ (e2.trans (Ex.new hp)) (.tup upd_same (TdAll.tx (Tx.of (Ex.new hp)) _ _ hvs))⟩
theorem edl_lst {tr : TA} (h : EAD tr σ H ds) (hl : ds.length ≤ 100000) : EvDL (tLst tr) σ H ds := fun H1 e Q q =>
  h H1 e _ fun vs H2 e2 hvs => ⟨sz_of (by rw [hvs.len]; exact hl), fun p hp => q p _ vs (fresh_back e2 hp) (e2.trans (Ex.new hp)) upd_same (TdAll.tx (Tx.of (Ex.new hp)) _ _ hvs)⟩
theorem edl_cat {l : Addr} {xs : List V} (ha : Ev ta σ H (.ref l)) (hl : H l = some (.lst xs)) (hx : TdAll H xs ds) (hb : EvDL tb σ H es) (hz : ds.length + es.length ≤ 100000) : EvDL (tOp rCat ta tb) σ H (ds ++ es) := fun H1 e Q q =>
  ha H1 e _ fun H2 e2 => hb H2 (e.trans e2) _ fun p H3 ys hp e3 h3 hy => ⟨l, p, xs, ys, rfl, rfl, e3 l _ (e2 l _ (e l _ hl)), h3, sz_of (by rw [hx.len, hy.len]; exact hz), fun c hc =>
    q c _ _ (fresh_back (e2.trans e3) hc) ((e2.trans e3).trans (Ex.new hc)) upd_same (TdAll.tx (Tx.of (Ex.new hc)) _ _ ((TdAll.tx (Tx.of ((e.trans e2).trans e3)) _ _ hx).app hy))⟩
theorem ed_if {b : Bool} (h : EvT t σ H b) (h1 : b = true → EvD ta σ H d) (h2 : b = false → EvD tb σ H d) : EvD (tIf t ta tb) σ H d := fun H1 e Q q => h H1 e _ fun H2 e2 => by
  cases b with
  | true =>
    show ta σ H2 Q
    exact h1 rfl H2 (e.trans e2) Q fun v H3 e3 => q v H3 (e2.trans e3)
  | false =>
    show tb σ H2 Q
    exact h2 rfl H2 (e.trans e2) Q fun v H3 e3 => q v H3 (e2.trans e3)
theorem q_asgD {i : Nat} (h : EvD te σ H d) (k : ∀ v H1, Ex H H1 → Td H1 v d → tz D (σ.set i (some v)) H1) : tSeq (tAsg te (gName i)) tz D σ H := h H (Ex.refl H) _ k
theorem s_asgD {i : Nat} (h : EvD te σ H d) (k : ∀ v H1, Ex H H1 → Td H1 v d → D.nx (σ.set i (some v)) H1) : tAsg te (gName i) D σ H := h H (Ex.refl H) _ k
theorem q_asgDL {i : Nat} (h : EvDL te σ H ds) (k : ∀ p H1 vs, H p = none → Ex H H1 → H1 p = some (.lst vs) → TdAll H1 vs ds → tz D (σ.set i (some (.ref p))) H1) : tSeq (tAsg te (gName i)) tz D σ H := h H (Ex.refl H) _ k
theorem s_asgDL {i : Nat} (h : EvDL te σ H ds) (k : ∀ p H1 vs, H p = none → Ex H H1 → H1 p = some (.lst vs) → TdAll H1 vs ds → D.nx (σ.set i (some (.ref p))) H1) : tAsg te (gName i) D σ H := h H (Ex.refl H) _ k
/-- texts -/
theorem es_lit {s : String} : EvS (tC (.str (Str.ofString s))) σ H (lt s) := ev_is ev_c (congrArg V.str (S_lt s))
theorem ed_S {x : List Nat} (h : EvS te σ H x) : EvD te σ H (.str (S x)) := ed_str h
theorem es_add {a b : List Nat} (ha : EvS ta σ H a) (hb : EvS tb σ H b) (h : a.length + b.length ≤ 100000) : EvS (tOp (fun x y H Q => ∃ i j, x = .str i ∧ y = .str j ∧ i.length + j.length ≤ sizeLine ∧ Q (.str (i ++ j)) H) ta tb) σ H (a ++ b) := ev_op ha hb (rv_addS h)
theorem es_rep {a : List Nat} {k : Nat} (ha : EvS ta σ H a) (hb : Ev tb σ H (.int (k : Int))) (h : a.length ≤ 16) (hk : k ≤ 100000) : EvS (tOp rRepS ta tb) σ H (List.replicate k a).flatten := ev_op ha hb (rv_repS h hk)
theorem eat_nil : EAT tNil σ H [] := ea_nil
theorem eat_cons {a : List Nat} {ts : List (List Nat)} (h : EvS te σ H a) (hr : EAT tr σ H ts) : EAT (tCons te tr) σ H (a :: ts) := ea_cons h hr
theorem elt_lst {ts : List (List Nat)} (h : EAT tr σ H ts) (hl : ts.length ≤ 100000) : EvLT (tLst tr) σ H ts := el_lst h (by rw [List.length_map]; exact hl)
theorem el_catLL {xs zs : List V} (ha : EvL ta σ H xs) (hb : EvL tb σ H zs) (hz : xs.length + zs.length ≤ 100000) : EvL (tOp rCat ta tb) σ H (xs ++ zs) := fun H1 e Q q =>
  ha H1 e _ fun l H2 hl0 e2 hl => hb H2 (e.trans e2) _ fun p H3 hp e3 h3 => ⟨l, p, xs, zs, rfl, rfl, e3 l _ hl, h3, sz_of hz, fun c hc => q c _ (fresh_back (e2.trans e3) hc) ((e2.trans e3).trans (Ex.new hc)) upd_same⟩
theorem elt_cat {ts us : List (List Nat)} (ha : EvLT ta σ H ts) (hb : EvLT tb σ H us) (hz : ts.length + us.length ≤ 100000) : EvLT (tOp rCat ta tb) σ H (ts ++ us) := by
  have := el_catLL ha hb (by rw [List.length_map, List.length_map]; exact hz)
  rw [← List.map_append] at this
  exact this
theorem elt_catV {l : Addr} {ts us : List (List Nat)} (ha : Ev ta σ H (.ref l)) (hl : H l = some (.lst (ts.map fun z => V.str (S z)))) (hb : EvLT tb σ H us) (hz : ts.length + us.length ≤ 100000) : EvLT (tOp rCat ta tb) σ H (ts ++ us) := by
  have := el_cat ha hl hb (by rw [List.length_map, List.length_map]; exact hz)
  rw [← List.map_append] at this
  exact this
theorem rep_map {α β : Type} (f : α → β) (xs : List α) : ∀ k, (List.replicate k (xs.map f)).flatten = ((List.replicate k xs).flatten).map f
  | 0 => rfl
  | k + 1 => by rw [List.replicate_succ, List.replicate_succ, List.flatten_cons, List.flatten_cons, List.map_append, rep_map f xs k]
theorem elt_rep {ts : List (List Nat)} {i : Int} {k : Nat} (ha : EvLT ta σ H ts) (hb : Ev tb σ H (.int i)) (hi : i = (k : Int)) (hz : ts.length * k ≤ 100000) (hk : k ≤ 100000) : EvLT (tOp rRep ta tb) σ H (List.replicate k ts).flatten := fun H1 e Q q =>
  ha H1 e _ fun l H2 hl0 e2 hl => hb H2 (e.trans e2) _ fun H3 e3 => ⟨l, i, _, rfl, rfl, e3 l _ hl, by subst hi; omega, by subst hi; omega, by
    subst hi
    rw [List.length_map]
    exact sz_of hz, fun c hc => q c _ (fresh_back (e2.trans e3) hc) ((e2.trans e3).trans (Ex.new hc)) (by
      subst hi
      rw [← rep_map]
      exact upd_same)⟩
abbrev rJoin (K : PySem.W.Frag) : V → List V → Hp → VK → Prop := fun x xs H Q => ∃ a p, ∃ ys : List Str, x = .str a ∧ xs = [.ref p] ∧ (SqL K H p (ys.map V.str) ∨ SqT K H p (ys.map V.str)) ∧
      (ys.map (·.length)).sum + ys.length * a.length ≤ 16777216 ∧ Q (.str (Txt.join a ys)) H
def fitsJ (sep : List Nat) (ts : List (List Nat)) : Prop := (ts.map (fun x => x.length)).sum + ts.length * sep.length ≤ 100000
instance (sep : List Nat) (ts : List (List Nat)) : Decidable (fitsJ sep ts) := by unfold fitsJ; infer_instance
theorem join_at {sep : List Nat} {ts : List (List Nat)} {p : Addr} {Q : VK} (hp : H p = some (.lst (ts.map fun z => V.str (S z)))) (hz : fitsJ sep ts) (q : Q (.str (S (TL.joinL sep ts))) H) : rJoin K (.str (S sep)) [.ref p] H Q := by
  refine ⟨S sep, p, ts.map S, rfl, rfl, .inl ?_, ?_, ?_⟩
  · rw [List.map_map]
    exact sq_of hp
  · unfold fitsJ at hz
    rw [lens, List.length_map, S_len]
    omega
  · rw [join_S]
    exact q
theorem es_join {sep : List Nat} {ts : List (List Nat)} (ha : EvS ta σ H sep) (hb : EvLT tb σ H ts) (hz : fitsJ sep ts) : EvS (tM1 (rJoin K) ta tb) σ H (TL.joinL sep ts) := fun H1 e Q q =>
  ha H1 e _ fun H2 e2 => ⟨⟨S sep, rfl⟩, hb H2 (e.trans e2) _ fun p H3 hp e3 h3 => join_at h3 hz (q H3 (e2.trans e3))⟩
theorem es_joinV {sep : List Nat} {ts : List (List Nat)} {l : Addr} (ha : EvS ta σ H sep) (hb : Ev tb σ H (.ref l)) (hl : H l = some (.lst (ts.map fun z => V.str (S z)))) (hz : fitsJ sep ts) : EvS (tM1 (rJoin K) ta tb) σ H (TL.joinL sep ts) := fun H1 e Q q =>
  ha H1 e _ fun H2 e2 => ⟨⟨S sep, rfl⟩, hb H2 (e.trans e2) _ fun H3 e3 => join_at (e3 l _ (e2 l _ (e l _ hl))) hz (q H3 (e2.trans e3))⟩
/-- int(truth) -/
theorem ev_intB {b : Bool} (h : Ev te σ H (.bl b)) {r : List V → Hp → VK → Prop} (hr : ∀ H1 Q, Q (.int (if b = true then 1 else 0)) H1 → r [.bl b] H1 Q) : Ev (tCB r (tCons te tNil)) σ H (.int (if b = true then 1 else 0)) :=
  ev_cb (ea_cons h ea_nil) fun H1 _ Q q => hr H1 Q (q H1 (Ex.refl H1))
/-- [e for k in range(n)], e known by what is true of it: just n of them -/
theorem en_lcRn {j : Nat} {vs : List Nat} {n : Nat} {P : V → Prop} (h : Ev ta σ H (.int (n : Int))) (hN : n ≤ 10000) (hw : ∀ x, wipe ((wipe σ vs).set j (some x)) vs = wipe σ vs)
    (he : ∀ (i : Nat) H1, Ex H H1 → EvN te ((wipe σ vs).set j (some (.int (i : Int)))) H1 P) : EvNL (tLc (iRng1 (tCons ta tNil)) (gName j) tYes te vs) σ H (fun xs => xs.length = n ∧ ∀ x ∈ xs, P x) := fun H0 e Q q =>
  h H0 e _ fun H1 e1 => by
    refine ⟨(n : Int), rfl, by omega, by omega, fun Dl hD => ?_⟩
    refine lc_range (lo := 0) (n := (n : Int).toNat) (fun i H2 => ∃ xs, Ex H1 H2 ∧ H2 Dl = some (.lst xs) ∧ xs.length = i ∧ ∀ x ∈ xs, P x) ⟨[], Ex.new hD, upd_same, rfl, fun _ h => absurd h (by simp)⟩ ?_ ?_
    · rintro i H2 hi ⟨xs, e2, h2, hl, hP⟩
      have e0 : (0 : Int) + (i : Int) = (i : Int) := Int.zero_add _
      show wipe ((wipe σ vs).set j (some (.int ((0 : Int) + (i : Int))))) vs = wipe σ vs ∧ tYes ((wipe σ vs).set j (some (.int ((0 : Int) + (i : Int))))) H2 _
      rw [e0]
      refine ⟨hw _, ?_⟩
      show te ((wipe σ vs).set j (some (.int (i : Int)))) H2 _
      refine he i H2 ((e.trans e1).trans e2) H2 (Ex.refl H2) _ fun y H3 py e3 => ⟨xs, e3 Dl _ h2, sz_lt (by omega), xs ++ [y], ?_, upd_same, by rw [List.length_append, hl] <;> rfl, fun x hx => ?_⟩
      · exact Ex.mut (e2.trans e3) hD
      · rcases List.mem_append.mp hx with h | h
        · exact hP x h
        · rw [List.mem_singleton.mp h]
          exact py
    · rintro H2 ⟨xs, e2, h2, hl, hP⟩
      exact q Dl H2 xs ⟨by omega, hP⟩ (fresh_back e1 hD) (e1.trans e2) h2
end
/-! readings of lists that are known by what is true of them, of loops over new lists -/
section
variable {K : PySem.W.Frag} {σ : L2.St} {H H' : Hp} {ta tb te tx tl : TE} {tr : TA} {t u : TT} {v w : V} {d : PyData} {ds es : List PyData} {D : Ends} {tu tw tz : TS} {g : TG} {L : List V → Prop} {P : V → Prop}
theorem edl_is {es : List PyData} (h : EvDL te σ H ds) (e : ds = es) : EvDL te σ H es := e ▸ h
theorem ed_place {a b : Nat} {i j : Int} (h1 : Ev ta σ H (.int i)) (h2 : Ev tb σ H (.int j)) (e1 : i = (a : Int)) (e2 : j = (b : Int)) : EvD (tTup (tCons ta (tCons tb tNil))) σ H (.tuple [.int (a : Int), .int (b : Int)]) := by
  subst e1 e2
  exact ed_tup (ead_cons (ed_int h1) (ead_cons (ed_int h2) ead_nil)) (by show 2 ≤ 100000; decide)
theorem q_asgNL {i : Nat} (h : EvNL te σ H L) (k : ∀ p H1 xs, L xs → H p = none → Ex H H1 → H1 p = some (.lst xs) → tz D (σ.set i (some (.ref p))) H1) : tSeq (tAsg te (gName i)) tz D σ H := h H (Ex.refl H) _ k
theorem enl_cat {zs : List V} {n : Nat} (ha : EvNL ta σ H L) (hb : EvL tb σ H zs) (hn : ∀ xs, L xs → xs.length ≤ n) (hz : n + zs.length ≤ 100000) : EvNL (tOp rCat ta tb) σ H (fun xs => ∃ ys, L ys ∧ xs = ys ++ zs) := fun H1 e Q q =>
  ha H1 e _ fun l H2 xs hL hl0 e2 hl => hb H2 (e.trans e2) _ fun p H3 hp e3 h3 => ⟨l, p, xs, zs, rfl, rfl, e3 l _ hl, h3, sz_of (by have := hn xs hL; omega), fun c hc => q c _ _ ⟨xs, hL, rfl⟩ (fresh_back (e2.trans e3) hc) ((e2.trans e3).trans (Ex.new hc)) upd_same⟩
theorem enl_rep {ts : List (List Nat)} {B : Nat} (ha : EvLT ta σ H ts) (hb : EvN tb σ H (fun v => ∃ z : Int, v = .int z ∧ 0 ≤ z ∧ z < (B : Int))) (hz : ts.length * B ≤ 100000) (hB : B ≤ 100000) : EvNL (tOp rRep ta tb) σ H (fun xs => ∃ k, k < B ∧ xs = (List.replicate k ts).flatten.map fun z => V.str (S z)) := fun H1 e Q q =>
  ha H1 e _ fun l H2 hl0 e2 hl => hb H2 (e.trans e2) _ fun v H3 hv e3 => by
    obtain ⟨z, rfl, z0, z1⟩ := hv
    obtain ⟨k, rfl⟩ : ∃ k : Nat, z = (k : Int) := ⟨z.toNat, by omega⟩
    have hk : k < B := by omega
    have hm : ts.length * k ≤ ts.length * B := Nat.mul_le_mul_left _ (by omega)
    exact ⟨l, k, _, rfl, rfl, e3 l _ hl, by omega, by omega, by
      rw [List.length_map, Int.toNat_natCast]
      exact sz_of (by omega), fun c hc => q c _ _ ⟨k, hk, rfl⟩ (fresh_back (e2.trans e3) hc) ((e2.trans e3).trans (Ex.new hc)) (by
        rw [← rep_map, Int.toNat_natCast]
        exact upd_same)⟩
theorem qn_par {i j : Nat} {L : List V → Prop} (h : EAN tr σ H L) (k : ∀ vs H1, L vs → Ex H H1 → ∃ v w, vs = [v, w] ∧ tz D ((σ.set i (some v)).set j (some w)) H1) : tSeq (tPar i j tr) tz D σ H := h H (Ex.refl H) _ k
theorem s_appD {l : Addr} {xs : List V} (hl : H l = some (.lst xs)) (ha : Ev ta σ H (.ref l)) (h : EvD te σ H d) (hz : xs.length < 100000) (k : ∀ v H1, Ex H H1 → Td H1 v d → D.nx σ (upd H1 l (.lst (xs ++ [v])))) : tDrop (tBM K "list" rAppend ta (tCons te tNil)) D σ H := ha H (Ex.refl H) _ fun H1 e1 =>
  ⟨Or.inl ⟨rfl, xs, sq_of (e1 l _ hl)⟩, h H1 e1 _ fun v H2 e2 hv => ⟨l, xs, v, rfl, rfl, e2 l _ (e1 l _ hl), sz_lt hz, k v H2 (e1.trans e2) hv⟩⟩
theorem q_appD {l : Addr} {xs : List V} (hl : H l = some (.lst xs)) (ha : Ev ta σ H (.ref l)) (h : EvD te σ H d) (hz : xs.length < 100000) (k : ∀ v H1, Ex H H1 → Td H1 v d → tz D σ (upd H1 l (.lst (xs ++ [v])))) : tSeq (tDrop (tBM K "list" rAppend ta (tCons te tNil))) tz D σ H := s_appD (D := { D with nx := tz D }) hl ha h hz k
theorem q_forDL (h : EvDL tl σ H ds) (k : ∀ p H1 vs, H p = none → Ex H H1 → H1 p = some (.lst vs) → TdAll H1 vs ds → ∃ Pv : Nat → L2.St → Hp → Prop, Pv 0 σ H1 ∧ (∀ i σ' H', i ≤ vs.length → Pv i σ' H' → SqL K H' p vs) ∧
    (∀ i x σ' H', vs[i]? = some x → Pv i σ' H' → g x σ' H' fun σ2 H2 => tu { D with nx := Pv (i + 1), ct := Pv (i + 1), bk := tz D } σ2 H2) ∧ (∀ σ' H', Pv vs.length σ' H' → tz D σ' H')) : tSeq (tFor (iList K tl) g tu) tz D σ H :=
  h H (Ex.refl H) _ fun p H1 vs hp e h1 hT => by
    obtain ⟨Pv, p0, p1, p2, p3⟩ := k p H1 vs hp e h1 hT
    exact ⟨p, rfl, ⟨vs, sq_of h1⟩, for_list (D := { D with nx := tz D }) Pv p0 p1 p2 p3⟩
theorem TdAll.at {vs : List V} {i : Nat} {x : V} (h : TdAll H vs ds) (hx : vs[i]? = some x) : ∃ d, ds[i]? = some d ∧ Td H x d := by
  induction i generalizing vs ds with
  | zero =>
    cases h with
    | nil => cases hx
    | cons a b =>
      cases hx
      exact ⟨_, rfl, a⟩
  | succ i ih =>
    cases h with
    | nil => cases hx
    | cons a b => exact ih b hx
/-- a, b = x where x is a pair -/
theorem g_pair {i j : Nat} {x : V} {d1 d2 : PyData} {Q : L2.St → Hp → Prop} (h : Td H x (.tuple [d1, d2])) (k : ∀ v w, Td H v d1 → Td H w d2 → Q ((σ.set i (some v)).set j (some w)) H) : gTup K 2 (gCons (gName i) (gCons (gName j) gNil)) x σ H Q := by
  cases h with
  | @tup a xs _ h1 h2 =>
    cases h2 with
    | @cons v _ _ _ g1 g2 =>
      cases g2 with
      | @cons w _ _ _ g3 g4 =>
        cases g4
        exact ⟨a, [v, w], rfl, st_of h1, rfl, v, [w], rfl, w, [], rfl, rfl, k v w g1 g3⟩
theorem td_S {x : V} {l : List Nat} (h : Td H x (.str (S l))) : x = .str (S l) := by cases h; rfl
theorem td_int {x : V} {i : Int} (h : Td H x (.int i)) : x = .int i := by cases h; rfl
/-- [e for c in text]: texts -/
theorem elt_lcS {l : List Nat} {j : Nat} {vs : List Nat} {f : Nat → List Nat} (h : EvS tl σ H l) (hz : l.length ≤ 40000) (hw : ∀ x, wipe ((wipe σ vs).set j (some x)) vs = wipe σ vs)
    (he : ∀ (c : Nat) H1, Ex H H1 → EvS te ((wipe σ vs).set j (some (.str (S [c])))) H1 (f c)) : EvLT (tLc (iStr tl) (gName j) tYes te vs) σ H (l.map f) := fun H0 e Q q => h H0 e _ fun H1 e1 => by
  refine ⟨S l, rfl, fun Dl hD => ?_⟩
  have hsz : (S l).cps.size = l.length := by simp [S]
  refine lc_it (walk_str (z := S l)) (fun i H' => Ex H1 H' ∧ H' Dl = some (.lst (((l.take i).map f).map fun z => V.str (S z)))) ⟨Ex.new hD, upd_same⟩ (fun _ _ _ _ => trivial) ?_ ?_
  · rintro i x H2 H3 hi ⟨e2, h2⟩ ⟨rfl, c, hc, rfl⟩
    refine ⟨hw _, ?_⟩
    have hc2 : l[i]? = some c := by
      have : (S l).cps.toList[i]? = some c := by rw [Array.getElem?_toList]; exact hc
      rw [S_list] at this
      exact this
    have hlt : i < l.length := by rw [← hsz]; exact hi
    show te _ H3 _
    refine he c H3 ((e.trans e1).trans e2) H3 (Ex.refl H3) _ fun H4 e4 => ⟨_, e4 _ _ h2, sz_lt (by simp; omega), Ex.mut (e2.trans e4) hD, ?_⟩
    rw [show l.take (i + 1) = l.take i ++ [c] by rw [List.take_succ, hc2]; rfl, List.map_append, List.map_append]
    exact upd_same
  · rintro H2 ⟨e2, h2⟩
    rw [hsz, List.take_length] at h2
    exact q Dl H2 (fresh_back e1 hD) (e1.trans e2) h2
theorem ev_slS {l r : List Nat} {i : Int} {tl2 : TO} {th : TO} (h : EvS te σ H l) (h1 : EvO tl2 σ H none) (h2 : EvO th σ H (some i)) (hl : l.length ≤ 100000) (hr : Txt.slice (S l) none (some i) = S r) : EvS (tSl C8.rSlX te tl2 th) σ H r := fun H1 e Q q =>
  h H1 e _ fun H2 e2 => h1 H2 (e.trans e2) _ fun H3 e3 => h2 H3 ((e.trans e2).trans e3) _ fun H4 e4 => ⟨S l, rfl, by rw [S_len]; exact sz_of hl, by
    rw [hr]
    exact q H4 ((e2.trans e3).trans e4)⟩
end
end Wt

set_option Elab.async false
set_option linter.all false
set_option maxRecDepth 100000
set_option maxHeartbeats 4000000
namespace Wt
open PySem PySem.Spec PyProof.Rows L2 SX Evl
open C8 (Def Cal cal0 fnScope_by fnScope)
/-! ### further readings -/
theorem lit0 : (Str.ofString "" : Str) = S [] := by decide +kernel
theorem lit_letters : Str.ofString "abcdefghijklmnopqrstuvwxyz" = S letters := by decide +kernel
theorem lit_figures : Str.ofString "0123456789" = S figures := by decide +kernel
theorem slice_any {a : List Nat} {i j : Nat} (h : i ≤ j) (hi : i ≤ a.length) : Txt.slice (S a) (some (i : Int)) (some (j : Int)) = S ((a.drop i).take (j - i)) := by
  by_cases hj : j ≤ a.length
  · exact slice_mid h hj
  · have e : Txt.slice (S a) (some (i : Int)) (some (j : Int)) = Txt.slice (S a) (some (i : Int)) (some (a.length : Int)) := by
      unfold Txt.slice
      rw [S_len, idx_hi (by omega)]
    rw [e, slice_mid hi (Nat.le_refl _)]
    refine congrArg S ?_
    rw [List.take_of_length_le (by rw [List.length_drop]; omega), List.take_of_length_le (by rw [List.length_drop]; omega)]
theorem inV_S (w : List Nat) : ∀ ws : List (List Nat), inV (.str (S w)) (ws.map fun z => V.str (S z)) = decide (w ∈ ws)
  | [] => (decide_eq_false (by simp)).symm
  | z :: ws => by
    have ih := inV_S w ws
    have e : inV (.str (S w)) ((z :: ws).map fun z => V.str (S z)) = (eqV (.str (S z)) (.str (S w)) || inV (.str (S w)) (ws.map fun z => V.str (S z))) := rfl
    have e2 : eqV (.str (S z)) (.str (S w)) = decide (z = w) := by
      show (S z == S w) = _
      exact S_beq_eq
    rw [e, ih, e2]
    by_cases h : z = w
    · subst h
      simp
    · have h2 : ¬ w = z := fun q => h q.symm
      simp [h, h2]
theorem flat_S : ∀ ws : List (List Nat), (ws.map fun z => V.str (S z)).all flatV = true
  | [] => rfl
  | z :: ws => by
    rw [List.map_cons, List.all_cons, flat_S ws] <;> rfl
theorem strEq {a b : List Nat} : decide ((V.str (S a)) = V.str (S b)) = decide (a = b) := by
  by_cases h : a = b
  · subst h
    simp
  · rw [decide_eq_false h]
    exact decide_eq_false fun e => h (S_inj (V.str.inj e))
section
variable {K : PySem.W.Frag} {σ : L2.St} {H H' : Hp} {ta tb te tx : TE} {t u : TT} {x y z v : V}
theorem ev_slA {te : TE} {tl th : TO} {a : List Nat} {i j : Nat} (h : Ev te σ H (.str (S a))) (h1 : EvO tl σ H (some (i : Int))) (h2 : EvO th σ H (some (j : Int))) (hl : a.length ≤ 100000) (hi : i ≤ j) (hj : i ≤ a.length) :
    Ev (tSl C8.rSlX te tl th) σ H (.str (S ((a.drop i).take (j - i)))) := fun H1 e Q q =>
  h H1 e _ fun H2 e2 => h1 H2 (e.trans e2) _ fun H3 e3 => h2 H3 ((e.trans e2).trans e3) _ fun H4 e4 => by
    refine ⟨S a, rfl, ?_, ?_⟩
    · rw [S_len]
      exact sz_of hl
    · rw [slice_any hi hj]
      exact q H4 ((e2.trans e3).trans e4)
theorem ev_eqS {a b : List Nat} (ha : Ev ta σ H (.str (S a))) (hb : Ev tb σ H (.str (S b))) : Ev (tOp rEq ta tb) σ H (.bl (decide (a = b))) := ev_is (ev_op ha hb (rv_eq rfl)) (congrArg V.bl strEq)
theorem ev_neS {a b : List Nat} (ha : Ev ta σ H (.str (S a))) (hb : Ev tb σ H (.str (S b))) : Ev (tOp rNe ta tb) σ H (.bl (!decide (a = b))) := ev_is (ev_op ha hb (rv_ne rfl)) (congrArg (fun b => V.bl (!b)) strEq)
theorem ev_inSg {c : Nat} {w : List Nat} (ha : Ev ta σ H (.str (S [c]))) (hb : Ev tb σ H (.str (S w))) :
    Ev (tOp (fun x y H Q => ∃ (c : Nat) (z : Str), x = .str ⟨#[c]⟩ ∧ y = .str z ∧ Q (.bl (decide (c ∈ z.cps.toList))) H) ta tb) σ H (.bl (decide (c ∈ w))) := ev_op ha hb rv_inSign
theorem ev_inTs {w : List Nat} {ws : List (List Nat)} {p : Addr} (ha : Ev ta σ H (.str (S w))) (hb : Ev tb σ H (.ref p)) (hp : SqT K H p (ws.map fun z => V.str (S z))) :
    Ev (tOp (rIn K false) ta tb) σ H (.bl (decide (w ∈ ws))) := ev_is (ev_op ha hb (rv_isT hp rfl (flat_S ws))) (congrArg V.bl (inV_S w ws))
/-- x in [..], a list made on the way, of texts -/
theorem ev_inLs {w : List Nat} {ws : List (List Nat)} {xs : List V} (ha : Ev ta σ H (.str (S w))) (hb : EvL tb σ H xs) (e : xs = ws.map fun z => V.str (S z)) : Ev (tOp (rIn K false) ta tb) σ H (.bl (decide (w ∈ ws))) := by
  subst e
  exact ev_is (ev_opL ha hb fun _ _ h _ => rv_isL (sq_of h) rfl (flat_S ws)) (congrArg V.bl (inV_S w ws))
theorem ev_inUs {w : List Nat} {ws : List (List Nat)} {xs : List V} (ha : Ev ta σ H (.str (S w))) (hb : EvU tb σ H xs) (e : xs = ws.map fun z => V.str (S z)) : Ev (tOp (rIn K false) ta tb) σ H (.bl (decide (w ∈ ws))) := by
  subst e
  exact ev_is (ev_inU ha hb rfl (flat_S ws)) (congrArg V.bl (inV_S w ws))
theorem ev_inLv {w : List Nat} {ws : List (List Nat)} {p : Addr} (ha : Ev ta σ H (.str (S w))) (hb : Ev tb σ H (.ref p)) (hp : H p = some (.lst (ws.map fun z => V.str (S z)))) : Ev (tOp (rIn K false) ta tb) σ H (.bl (decide (w ∈ ws))) :=
  ev_is (ev_op ha hb (rv_isL (sq_of hp) rfl (flat_S ws))) (congrArg V.bl (inV_S w ws))
theorem ev_eqI {i j : Int} (ha : Ev ta σ H (.int i)) (hb : Ev tb σ H (.int j)) : Ev (tOp rEq ta tb) σ H (.bl (decide (i = j))) := ev_is (ev_op ha hb (rv_eq rfl)) (by
  by_cases h : i = j
  · subst h
    simp
  · rw [decide_eq_false h, decide_eq_false fun z => h (V.int.inj z)])
end
end Wt

set_option Elab.async false
set_option linter.all false
set_option maxRecDepth 100000
set_option maxHeartbeats 4000000
namespace Wt
open PySem PySem.Spec PyProof.Rows L2 SX Evl
open C8 (Def Cal cal0 fnScope_by fnScope)
def topS (i : Nat) : Stmt := PySem.Challenge.pw_wholetongue_k19_files_laid_and_edited.main.body.getD i (.Pass ⟨0, 0, 0, 0⟩)
end Wt

set_option Elab.async false
set_option linter.all false
set_option maxRecDepth 100000
set_option maxHeartbeats 4000000
namespace Wt
open PySem PySem.Spec PyProof.Rows L2 SX Evl
open C8 (Def Cal cal0 fnScope_by fnScope)
/-! The dice, as laws draw from it. -/
structure ModsL (K : PySem.W.Frag) (mg : Str → Option Value) : Prop where
  m_len : mg "len" = none
  m_int : mg "int" = none
  m_str : mg "str" = none
  m_bool : mg "bool" = none
  m_tuple : mg "tuple" = none
  m_list : mg "list" = none
  m_range : mg "range" = none
  m_isinstance : mg "isinstance" = none
/-- what is locked stays -/
def Fx (H H' : Hp) : Prop := ∀ b o u, H b = some (.frz o u) → H' b = some (.frz o u)
theorem Fx.of {H H' : Hp} (e : Ex H H') : Fx H H' := fun b o u h => e b _ h
theorem Fx.trans {H H1 H2 : Hp} (a : Fx H H1) (b : Fx H1 H2) : Fx H H2 := fun x o u h => b x o u (a x o u h)
theorem Fx.mut {H : Hp} {d : Addr} {o o2 : HO} (h : H d = some o) (m : Mut (some o)) : Fx H (upd H d o2) := fun b ob u q => by
  rw [upd_ne (ne_of q h (by intro z; subst z; exact m))]
  exact q
/-- the script: locked, or of the written part -/
def Scr (K : PySem.W.Frag) (H : Hp) (a : Addr) (ns : List Int) : Prop := ns.length ≤ 63 ∧ ∀ H', Fx H H' → SqL K H' a (ns.map V.int)
theorem Scr.fx {K : PySem.W.Frag} {H H' : Hp} {a : Addr} {ns : List Int} (f : Fx H H') (h : Scr K H a ns) : Scr K H' a ns := ⟨h.1, fun H2 f2 => h.2 H2 (f.trans f2)⟩
theorem Scr.ex {K : PySem.W.Frag} {H H' : Hp} {a : Addr} {ns : List Int} (e : Ex H H') (h : Scr K H a ns) : Scr K H' a ns := h.fx (Fx.of e)
theorem Scr.sq {K : PySem.W.Frag} {H : Hp} {a : Addr} {ns : List Int} (h : Scr K H a ns) : SqL K H a (ns.map V.int) := h.2 H fun _ _ _ q => q
def Exd (d : Addr) (H H' : Hp) : Prop := ∀ b o, b ≠ d → H b = some o → H' b = some o

section
variable {K : PySem.W.Frag}
def spDice0 (K : PySem.W.Frag) : Sp := fun vs H Q _ => ∃ (a : Addr) (ns : List Int), vs = [.ref a] ∧ Scr K H a ns ∧ ∀ p H2 m, H p = none → Ex H H2 → 0 ≤ m → m < 2147483647 → H2 p = some (.lst [.ref a, .int 0, .int m, .int 0]) → Q (.ref p) H2
/-- .. as a dice -/
def spDice (K : PySem.W.Frag) : Sp := fun vs H Q _ => ∃ (a : Addr) (ns : List Int), vs = [.ref a] ∧ Scr K H a ns ∧ ∀ p H2, H p = none → Ex H H2 → H2 p = some (DiceO p a) → Q (.ref p) H2
def spNext0 (K : PySem.W.Frag) : Sp := fun vs H Q _ => ∃ (d a : Addr) (ns : List Int) (many i m r : Int), vs = [.ref d, .int many] ∧ 0 < many ∧ many < 1073741824 ∧ H d = some (.lst [.ref a, .int i, .int m, .int r]) ∧ 0 ≤ i ∧ 0 ≤ m ∧ m < 2147483647 ∧ Scr K H a ns ∧
  ∀ z H2 i' m' r', 0 ≤ z → z < many → 0 ≤ i' → 0 ≤ m' → m' < 2147483647 → H2 d = some (.lst [.ref a, .int i', .int m', .int r']) → Exd d H H2 → Q (.int z) H2
/-- .. over a dice: some number below what is handed in, nothing else is told -/
def spNext (K : PySem.W.Frag) : Sp := fun vs H Q _ => ∃ (d a : Addr) (ns : List Int) (many : Int), vs = [.ref d, .int many] ∧ 0 < many ∧ many < 1073741824 ∧ H d = some (DiceO d a) ∧ Scr K H a ns ∧
  ∀ z H2, 0 ≤ z → z < many → Ex H H2 → Q (.int z) H2
/-- the dice at d over the script at a -/
structure Dc (K : PySem.W.Frag) (H : Hp) (d a : Addr) (ns : List Int) : Prop where
  o : H d = some (DiceO d a)
  s : Scr K H a ns
theorem Dc.ex {H H' : Hp} {d a : Addr} {ns : List Int} (h : Dc K H d a ns) (e : Ex H H') : Dc K H' d a ns := ⟨e d _ h.o, h.s.ex e⟩
theorem sn_next {H : Hp} {d a : Addr} {ns : List Int} {many : Int} (h : Dc K H d a ns) (m0 : 0 < many) (m1 : many < 1073741824) : SpN (spNext K) [.ref d, .int many] H (fun v => ∃ z : Int, v = .int z ∧ 0 ≤ z ∧ z < many) :=
  fun H1 e Q q E => ⟨d, a, ns, many, rfl, m0, m1, e d _ h.o, h.s.ex e, fun z H2 z0 z1 e2 => q _ H2 ⟨z, rfl, z0, z1⟩ e2⟩
theorem en_next {H : Hp} {σ : L2.St} {E : XK} {ta tb : TE} {d a : Addr} {ns : List Int} {many : Int} (h : Dc K H d a ns) (ha : Ev ta σ H (.ref d)) (hb : Ev tb σ H (.int many)) (m0 : 0 < many := by decide) (m1 : many < 1073741824 := by decide) :
    EvN (tCall (spNext K) [] E (tCons ta (tCons tb tNil))) σ H (fun v => ∃ z : Int, v = .int z ∧ 0 ≤ z ∧ z < many) := en_call (ea_cons ha (ea_cons hb ea_nil)) (sn_next h m0 m1)
end
end Wt

set_option Elab.async false
set_option linter.all false
set_option maxRecDepth 100000
set_option maxHeartbeats 4000000
namespace Wt
open PySem PySem.Spec PyProof.Rows L2 SX Evl
open C8 (Def Cal cal0 fnScope_by fnScope)
/-! Likeness of data: what both laws' and programs' texts ask. -/
def tyN : PyData → String
  | .none => "NoneType"
  | .bool _ => "bool"
  | .int _ => "int"
  | .str _ => "str"
  | .list _ => "list"
  | .tuple _ => "tuple"
  | .dict _ => "dict"
theorem dp_ty {K : PySem.W.Frag} {H : Hp} {v : V} {d : PyData} (h : Dp K H v d) : TyX K H v (.type (tyN d)) := by
  cases h with
  | non => exact .base .non
  | bl b => exact .base (.bl b)
  | int i => exact .base (.int i)
  | str x => exact .base (.str x)
  | lst h1 _ =>
    rcases h1 with (h1 | ⟨o, h1⟩) | ⟨o, its, n, h1, h2, _⟩
    · exact .base (.lst h1)
    · exact .base (.frz h1)
    · exact .kList h1 h2
  | tup h1 _ =>
    rcases h1 with (h1 | ⟨o, h1⟩) | ⟨o, its, n, h1, h2, _⟩
    · exact .base (.tup h1)
    · exact .fTuple h1
    · exact .kTuple h1 h2
mutual
def wideD : PyData → Bool
  | .list xs => decide (xs.length ≤ 40000) && wideAll xs
  | .tuple xs => decide (xs.length ≤ 40000) && wideAll xs
  | .dict _ => false
  | .none => true
  | .bool _ => true
  | .int _ => true
  | .str _ => true
def wideAll : List PyData → Bool
  | [] => true
  | d :: ds => wideD d && wideAll ds
end
theorem wide_get : ∀ {ds : List PyData} {i : Nat} {d : PyData}, wideAll ds = true → ds[i]? = some d → wideD d = true
  | [], _, _, _, h => by simp at h
  | x :: ds, 0, d, h, e => by
    have e2 : x = d := Option.some.inj e
    subst e2
    unfold wideAll at h
    exact (Bool.and_eq_true_iff.mp h).1
  | x :: ds, i + 1, d, h, e => by
    unfold wideAll at h
    exact wide_get (Bool.and_eq_true_iff.mp h).2 e
theorem depth_get : ∀ {ds : List PyData} {i : Nat} {d : PyData}, ds[i]? = some d → d.depth ≤ PyData.depthAll ds
  | [], _, _, h => by simp at h
  | x :: ds, 0, d, e => by
    have e2 : x = d := Option.some.inj e
    subst e2
    unfold PyData.depthAll
    exact Nat.le_max_left _ _
  | x :: ds, i + 1, d, e => by
    unfold PyData.depthAll
    exact Nat.le_trans (depth_get (ds := ds) (i := i) e) (Nat.le_max_right _ _)
section
variable {K : PySem.W.Frag} {σ : L2.St} {H H' : Hp} {ta tb te tx : TE} {t u : TT} {x y z v : V}
theorem ev_isi {d : PyData} {n : String} {b : Bool} (ha : Ev ta σ H x) (hb : Ev tb σ H (.ty n)) (hx : Dp K H x d) (hk : kitB (tyN d) n = some b) : Ev (tCB (rIsi K) (tCons ta (tCons tb tNil))) σ H (.bl b) :=
  ev_cb (ea_cons ha (ea_cons hb ea_nil)) fun H1 e Q q => ⟨x, .ty n, .type (tyN d), .type n, b, rfl, .ty n, dp_ty (Dp.ex e d x hx), kit_ty hk, q H1 (Ex.refl H1)⟩
theorem ev_lenD {p : Addr} {xs : List V} (ha : Ev ta σ H (.ref p)) (h : SqL K H p xs ∨ SqT K H p xs) : Ev (tCB (rLenS K) (tCons ta tNil)) σ H (.int (xs.length : Int)) := fun H1 e Q q =>
  ha H1 e _ fun H2 e2 => ⟨p, xs, rfl, h.imp (ex_l (e.trans e2)) (ex_t (e.trans e2)), q H2 e2⟩
theorem ev_ixD {p : Addr} {xs : List V} {i : Nat} (ha : Ev ta σ H (.ref p)) (hb : Ev tb σ H (.int (i : Int))) (h : SqL K H p xs ∨ SqT K H p xs) (hv : xs[i]? = some v) : Ev (tOp (rIx K) ta tb) σ H v :=
  ev_op ha hb fun H1 e Q q => by
    rcases h with h | h
    · exact .inl ⟨p, xs, (i : Int), v, rfl, rfl, ex_l e h, atI_nat hv, q H1 (Ex.refl H1)⟩
    · exact .inr (.inl ⟨p, xs, (i : Int), v, rfl, rfl, ex_t e h, atI_nat hv, q H1 (Ex.refl H1)⟩)
theorem given_none (n : Nat) (v : Nat → V) : given n (fun _ => false) v = [] := by
  unfold given
  have e : (List.range n).filter (fun _ => false) = [] := by simp
  rw [e] <;> rfl
/-- [..] == [] where nothing was given -/
theorem ev_eqNil (ha : EvL ta σ H []) : Ev (tOp (rEqD K) ta (tLst tNil)) σ H (.bl true) := ev_opLL ha (el_lst ea_nil (Nat.zero_le _)) fun p q H1 h1 h2 _ H2 e2 Q q2 =>
  ⟨.list [], .list [], .lst (sq_of (e2 p _ h1)) .nil, .lst (sq_of (e2 q _ h2)) .nil, by decide +kernel, by decide +kernel, by
    have e : PyData.eqv (.list []) (.list []) = true := by decide +kernel
    rw [e]
    exact q2 H2 (Ex.refl H2)⟩
end
section
variable {K : PySem.W.Frag}
/-- two of the same data, a list or a tuple -/
theorem like_seq {H : Hp} {x y : V} {ds : List PyData} {d : PyData} (hd : d = .list ds ∨ d = .tuple ds) (hx : Dp K H x d) (hy : Dp K H y d) :
    ∃ p xs q ys, x = .ref p ∧ y = .ref q ∧ (SqL K H p xs ∨ SqT K H p xs) ∧ (SqL K H q ys ∨ SqT K H q ys) ∧ DpAll K H xs ds ∧ DpAll K H ys ds := by
  rcases hd with rfl | rfl
  · cases hx with
    | lst h1 h2 =>
      cases hy with
      | lst g1 g2 => exact ⟨_, _, _, _, rfl, rfl, .inl h1, .inl g1, h2, g2⟩
  · cases hx with
    | tup h1 h2 =>
      cases hy with
      | tup g1 g2 => exact ⟨_, _, _, _, rfl, rfl, .inr h1, .inr g1, h2, g2⟩
theorem like_flat {H : Hp} {x y : V} {d : PyData} (h1 : ∀ ds, d ≠ .list ds) (h2 : ∀ ds, d ≠ .tuple ds) (hx : Dp K H x d) (hy : Dp K H y d) : x = y ∧ scal x y = true := by
  cases hx with
  | non => cases hy; exact ⟨rfl, rfl⟩
  | bl b => cases hy; exact ⟨rfl, rfl⟩
  | int i => cases hy; exact ⟨rfl, rfl⟩
  | str z => cases hy; exact ⟨rfl, rfl⟩
  | lst _ _ => exact absurd rfl (h1 _)
  | tup _ _ => exact absurd rfl (h2 _)
end
end Wt

set_option Elab.async false
set_option linter.all false
set_option maxRecDepth 100000
set_option maxHeartbeats 4000000
/-! What raises: a def that may, its call; a Fault that is made; try with several clauses, the first one taken; a lambda handed in. -/
namespace Wt
open PySem PySem.Spec PyProof.Rows L2 SX Evl
open C8 (Def fnBody fnScope)
section
variable {P : Program} {w : World} {K : PySem.W.Frag} {mg : Str → Option Value} {base : Heap}
/-! ### defs that may raise -/
structure CalX (P : Program) (w : World) (K : PySem.W.Frag) (mg : Str → Option Value) (base : Heap) (k : Nat) (x : Str) (sp : Sp) : Prop where
  ex : ∃ (f : Addr) (fd : FuncData) (ps : List Str), FnOk P w K mg base (L2.CX P w) k f fd ps sp ∧ mg x = some (.ref f) ∧ PySem.W.keepIn K (.ref f) = true ∧ Binds K fd ps []
theorem calX {x : Str} {st : Stmt} {f : Addr} {fd : FuncData} {N ps : List Str} {k : Nat} {sp : Sp} (F : Def K mg x st f fd) (b : Binds K fd ps []) (S : FnScope N ps (fnScope st)) (len : ∀ vs H Q E, sp vs H Q E → vs.length = ps.length)
    (body : ∀ (cdv : Value) (A : Around) (outer : List Env) (s : Shared) (H : Hp) (vs : List V) (Q : VK) (E : XK), Room k (A.deeper (envOfC x (fnScope st) s.heap.objs.size f cdv)) → sp vs H Q E →
      ∃ t, PSs (cxOf (L2.CX P w) P w K mg base N x (fnScope st) f cdv A outer s H E) (fnBody st) t ∧ t { nx := fun _ H' => Q .non H', rt := Q } (start N vs) H) : CalX P w K mg base (k + 1) x sp := by
  obtain ⟨oc, od, dV, kV, doc, pm, an, cdv, ct, osl, rfl, lk, hcd⟩ := F.fn.ex
  exact ⟨f, _, ps, fn_of lk hcd S len fun A outer s H vs Q E hr hsp => body cdv A outer s H vs Q E hr hsp, F.mgf, F.kp, b⟩
/-- what such a def lets out -/
theorem tk_cx {N : List Str} {q : Str} {sc : Scope} {f : Addr} {cdv : Value} {A : Around} {outer : List Env} {s : Shared} {H : Hp} {E : XK} : Takes (cxOf (L2.CX P w) P w K mg base N q sc f cdv A outer s H E) (fun cls d _ H' => E cls d H') :=
  takes_of (E := E) rfl rfl rfl rfl
end
section
variable {X : Cx} {k j : Nat} {x : Str} {sp : Sp} {p pos : Pos} {e : Expr} {es : List Expr} {t : TA} {W : WX}
theorem pe_cX (c : CalX X.prog X.w X.K X.mg X.base k x sp) (tk : Takes X W) (hr : Room j X.A) (hk : k ≤ j) (hg : Gl X x) (ha : PA X (e :: es) t)
    (hdb : (x == ("__debug__" : Str)) = false := by decide) (he : starEach (e :: es) X.env = (false, eval e X.env) :: starEach es X.env := by rfl) (hpl : (backTo pos (starEach es X.env)).any (·.1) = false := by rfl) :
    PE X (.Call (.Name x p) (e :: es) [] pos) (tCallS sp (WE W) t) := by
  obtain ⟨f, fd, ps, F, hm, kp, b⟩ := c.ex
  exact pe_callS F (hr.mono hk) hg hm kp b (fun σ => passAt tk σ) ha hdb he hpl
end

/-! ### an exception of four fields, made by its own __init__ -/
def spFault (C : Addr) : Sp := fun vs H Q _ => ∃ (a : Addr) (v1 v2 v3 v4 : V), vs = [.ref a, v1, v2, v3, v4] ∧ H a = some (exo a C none) ∧
  ∀ dx H2, H dx = none → dx ≠ a → (∀ b, b ≠ a → b ≠ dx → H2 b = H b) → H2 a = some (exo a C (some dx)) → H2 dx = some (exd dx [("why", v4), ("place", v3), ("file", v2), ("stage", v1)]) → Q .non H2
theorem mk_fault {C : Addr} {ta : TA} {σ : L2.St} {H : Hp} {Q : XK} {v1 v2 v3 v4 : V} (h : EvA ta σ H [v1, v2, v3, v4]) (q : ∀ d H2, Ex H H2 → H2 d = some (.xd [("why", v4), ("place", v3), ("file", v2), ("stage", v1)]) → Q (.ref C) (some d) H2) :
    tMkO C (spFault C) [] ta σ H Q := h H (Ex.refl H) _ fun H1 e1 => by
  refine ⟨by show 4 ≤ 1000; decide, fun a ha => ⟨a, v1, v2, v3, v4, rfl, upd_same, fun dx H2 hdx hne hb h2a h2d => ⟨rfl, dx, _, h2a, h2d, ?_, q dx _ (fun b o ho => ?_) upd_same⟩⟩⟩
  · rw [upd_ne hne] at hdx
    exact hdx
  · have h1 := e1 b o ho
    have nba : b ≠ a := ne_of_none h1 ha
    have nbd : b ≠ dx := by
      rw [upd_ne hne] at hdx
      exact ne_of_none h1 hdx
    rw [upd_ne nbd, del_ne nba, hb b nba nbd, upd_ne nba]
    exact h1
theorem fault_end {C : Addr} {H1 : Hp} {Q : XK} {v1 v2 v3 v4 : V} (q : ∀ d H2, Ex H1 H2 → H2 d = some (.xd [("why", v4), ("place", v3), ("file", v2), ("stage", v1)]) → Q (.ref C) (some d) H2) :
    ([v1, v2, v3, v4] : List V).length ≤ 1000 ∧ ∀ a, H1 a = none → spFault C (.ref a :: ([v1, v2, v3, v4] ++ [])) (upd H1 a (exo a C none)) (fun v H2 => v = .non ∧ ∃ (d : Addr) (fs : List (Str × V)), H2 a = some (exo a C (some d)) ∧ H2 d = some (exd d fs) ∧ H1 d = none ∧ Q (.ref C) (some d) (upd (del H2 a) d (.xd fs))) (fun _ _ _ => False) :=
  mk_fault (ta := fun _ H Q => Q [v1, v2, v3, v4] H) (σ := []) (fun H2 e Q q2 => q2 H2 (Ex.refl H2)) q
/-- the class that makes it -/
structure MakF (P : Program) (w : World) (K : PySem.W.Frag) (mg : Str → Option Value) (base : Heap) (k : Nat) (x : Str) (C : Addr) : Prop where
  ex : ∃ (fI : Addr) (fd : FuncData) (ps : List Str), OexC K C ∧ PySem.W.findIn K (.ref C) "__init__" = some (some (.ref fI)) ∧ PySem.W.typeIn K (.ref fI) = some (.type "function") ∧ FnOk P w K mg base C8.CX0 k fI fd ps (spFault C) ∧ Binds K fd ps [] ∧ mg x = some (.ref C)
theorem ps_fault {X : Cx} {k j : Nat} {x : Str} {C : Addr} {p pos pos' : Pos} {e : Expr} {es : List Expr} {ta : TA} {W : WX} (c : MakF X.prog X.w X.K X.mg X.base k x C) (hr : Room j X.A) (hk : k + 1 ≤ j) (hc : X.calm = true) (tk : Takes X W) (hg : Gl X x) (ha : PA X (e :: es) ta)
    (hdb : (x == ("__debug__" : Str)) = false := by decide) (he : starEach (e :: es) X.env = (false, eval e X.env) :: starEach es X.env := by rfl) (hpl : (backTo pos (starEach es X.env)).any (·.1) = false := by rfl) :
    PS X (.Raise (some (.Call (.Name x p) (e :: es) [] pos)) none pos') (fun _ σ H => tMkO C (spFault C) [] ta σ H fun cls d H' => W cls d σ H') := by
  obtain ⟨fI, fd, ps, T, iC, tI, F, b, hm⟩ := c.ex
  exact ps_raise hc tk (pmk_oex T iC tI F (hr.mono hk) b .nil C8.pass0 hg hm ha hdb he hpl)
/-- self.f = v, four times -/
theorem init4 {K : PySem.W.Frag} {C a : Addr} {σ : L2.St} {H : Hp} {D : Ends} {f1 f2 f3 f4 : Str} {v1 v2 v3 v4 : V} (T : OexC K C) (n1 : PySem.W.findIn K (.ref C) f1 = some none) (n2 : PySem.W.findIn K (.ref C) f2 = some none) (n3 : PySem.W.findIn K (.ref C) f3 = some none) (n4 : PySem.W.findIn K (.ref C) f4 = some none)
    (s0 : σ[0]? = some (some (.ref a))) (s1 : σ[1]? = some (some v1)) (s2 : σ[2]? = some (some v2)) (s3 : σ[3]? = some (some v3)) (s4 : σ[4]? = some (some v4)) (ha : H a = some (exo a C none))
    (q : ∀ dx H2, H dx = none → dx ≠ a → (∀ b, b ≠ a → b ≠ dx → H2 b = H b) → H2 a = some (exo a C (some dx)) → H2 dx = some (exd dx [(f4, v4), (f3, v3), (f2, v2), (f1, v1)]) → D.nx σ H2) :
    tSeq (tOst K f1 (tVar 0) (tVar 1)) (tSeq (tOst K f2 (tVar 0) (tVar 2)) (tSeq (tOst K f3 (tVar 0) (tVar 3)) (tOst K f4 (tVar 0) (tVar 4)))) D σ H := by
  refine ⟨_, s1, _, s0, a, C, rfl, T, n1, .inl ⟨ha, fun dx hdx hne => ?_⟩⟩
  refine ⟨_, s2, _, s0, a, C, rfl, T, n2, .inr ⟨dx, _, upd_same, by rw [upd_ne hne]; exact upd_same, by show 1 ≤ 900; decide, ?_⟩⟩
  refine ⟨_, s3, _, s0, a, C, rfl, T, n3, .inr ⟨dx, _, by rw [upd_ne hne.symm]; exact upd_same, upd_same, by show 2 ≤ 900; decide, ?_⟩⟩
  refine ⟨_, s4, _, s0, a, C, rfl, T, n4, .inr ⟨dx, _, by rw [upd_ne hne.symm, upd_ne hne.symm]; exact upd_same, upd_same, by show 3 ≤ 900; decide, ?_⟩⟩
  refine q dx _ hdx hne (fun b h1 h2 => by rw [upd_ne h2, upd_ne h2, upd_ne h2, upd_ne h1, upd_ne h2]) ?_ upd_same
  rw [upd_ne hne.symm, upd_ne hne.symm, upd_ne hne.symm]
  exact upd_same

/-! ### try: body, several clauses, the first one taken -/
/-- only what the first clause takes comes out of the body; slot i is the clause's name -/
def wHit (K : PySem.W.Frag) (m : Nat) (c : Value) (i : Nat) (ts : Addr → Value → Option Addr → TS) (D : Ends) : WX := fun cls d σ H => PySem.W.exmOne K cls c = some true ∧ ∀ a, H a = none → σ.length = m →
  ts a cls d { nx := fun σ' H' => D.nx (σ'.set i none) H', rt := D.rt, bk := fun σ' H' => D.bk (σ'.set i none) H', ct := fun σ' H' => D.ct (σ'.set i none) H' } (σ.set i (some (.ref a))) H
section
variable {X : Cx} {x n : Str} {c : Value} {i : Nat} {body suite : List Stmt} {b₀ : Stmt} {hds : List ExceptHandler} {np pos pos' : Pos} {tb : WX → TS} {ts : Addr → Value → Option Addr → TS}
/-- a caught one stands at no frame -/
theorem caught_off {B h : Heap} {l : List Env} {a : Addr} {o : Obj} {vs : Array Value} (ff : h.FunFrames B l) (e : h.get? a = some o) (dd : o.data = .fields vs) : a ∉ frs l := fun hm => by
  obtain ⟨_, u, eu, no⟩ := ff.mem hm
  have z : o = u := Option.some.inj (e.symm.trans eu)
  exact no vs (z ▸ dd)
theorem ps_try_hit (hs : X.stack = X.env :: X.outer) (hf : X.env.frame = some X.env.locals) (hN : X.N.Nodup) (hi : X.N[i]? = some n) (hln : X.env.kindOf n = some .local) (hc : Names X x c)
    (hb : ∀ (W : WX) (pn : List (Addr × Obj)) (xe : Value → Shared → Prop), Takes (X.tr pn xe) W → PassesOwn (model X.prog X.w) X.A X.env xe → PSs (X.tr pn xe) body (tb W))
    (hsu : ∀ (a : Addr) (oe : Obj) (cls : Value) (d : Option Addr) (pn : List (Addr × Obj)), Zc cls d oe → (∃ vs, oe.data = .fields vs) → PSs (X.suite a ((a, oe) :: pn)) (b₀ :: suite) (ts a cls d)) :
    PS X (.Try body (.ExceptHandler (some (.Name x np)) (some n) (b₀ :: suite) pos' :: hds) [] [] pos) (fun D σ H => tb (wHit X.K X.N.length c i ts D) D σ H) := by
  refine ⟨fun pins s σ H D I h => ?_⟩
  have ok := I.ok
  have frames : X.A.frames = some (X.env :: X.outer) := by rw [ok.frames, hs]
  -- what the clauses do with what comes out
  have caught : ∀ u s', XE (X.tr (X.pn ++ pins) (fun e s₁ => wpAny (model X.prog X.w) X.A (noteFrame e X.env) (fun _ s₂ => wpAny (model X.prog X.w) X.A (setFlight e none) (fun _ s₃ =>
      wpAny (model X.prog X.w) X.A (handleBy e X.env (.ExceptHandler (some (.Name x np)) (some n) (b₀ :: suite) pos' :: hds)) (SP X pins D) X.xe s₃) X.xe s₂) X.xe s₁)) (wHit X.K X.N.length c i ts D) u s' →
      wpAny (model X.prog X.w) X.A (noteFrame u X.env) (fun _ s₂ => wpAny (model X.prog X.w) X.A (setFlight u none) (fun _ s₃ =>
        wpAny (model X.prog X.w) X.A (handleBy u X.env (.ExceptHandler (some (.Name x np)) (some n) (b₀ :: suite) pos' :: hds)) (SP X pins D) X.xe s₃) X.xe s₂) X.xe s' := by
    rintro u s' ⟨a, B, sI, pins', σ', H', cls, d, rfl, J0, ground, up, sky, na, os, ag, hit, go⟩
    have J : Inv X pins σ' H' sI := J0.ofTry ok
    refine Sky.land Zc.steady frames hf (by rw [← hs]; exact sky) fun h1 fl1 up1 => ?_
    have J1 : Inv X pins σ' H' { s' with heap := h1 } := J.landed ground fl1.1 (up.trans up1) os ag
    obtain ⟨o1, vs1, g1, z1, d1⟩ := fl1.there
    have off := caught_off fl1.2.2.1 g1 d1
    have offL : a ≠ X.env.locals := fun z => off (List.mem_filterMap.mpr ⟨X.env, List.mem_cons_self, by rw [hf, z]⟩)
    have offF : a ∉ X.fs := fun hm => by
      obtain ⟨e, he, q⟩ := List.mem_filterMap.mp hm
      exact off (List.mem_filterMap.mpr ⟨e, List.mem_cons_of_mem _ he, q⟩)
    have T1 := J1.suite g1 d1 na offL offF
    refine wpAny_handleBy_cons (codeAny_handlers_test ?_) (fun q => by cases q)
    have look : PySem.W.Looks (model X.prog X.w) h1 (excMatches (.ref a) c) true := PySem.W.exm_one J1.kIn (fun A Q E s k q => wpAny_typeOf_ref (k _ _ g1) (by rw [z1.1]; exact q)) hit
    have named : ∀ {Q : Value → Shared → Prop} {E : Value → Shared → Prop}, Q c { s' with heap := h1 } → wpAny (model X.prog X.w) (X.A.mark (some (.ref a))) (eval (.Name x np) X.env) Q E { s' with heap := h1 } := fun {Q E} q => by
      obtain ⟨hg, hdb, hm | ⟨hm, hv, hnn⟩⟩ := hc
      · exact ld_glob (X := X.suite a ((a, o1) :: (X.pn ++ pins))) T1 hg hm q hdb
      · exact ld_blt (X := X.suite a ((a, o1) :: (X.pn ++ pins))) T1 hg hm hv q hnn hdb
    refine named (look.here (codeAny_handlers_suite_as ?_))
    refine HandSPX.lands_againZ fl1 fun h2 fl2 up2 => ?_
    have J2 : Inv X pins σ' H' { s' with heap := h2 } := J.landed ground fl2.1 ((up.trans up1).trans up2) os ag
    obtain ⟨o2, vs2, g2, z2, d2⟩ := fl2.there
    have T2 := J2.suite g2 d2 na offL offF
    refine store_ok (X := X.suite a ((a, o2) :: (X.pn ++ pins))) (v := .ref a) T2 hN hi (.inl hln) rfl (fun s3 T3 => ?_) (.inr hln)
    refine wpAny_mono ((hsu a o2 cls d (X.pn ++ pins) z2 ⟨_, d2⟩).run [] s3 _ H' _ T3 (go a na J.len)) (fun fl s4 hsp => ?_) fun _ _ z => z.elim
    have done : ∀ {σ4 : L2.St} {H4 : Hp} {Q : Shared → Prop}, Inv (X.suite a ((a, o2) :: (X.pn ++ pins))) [] σ4 H4 s4 → (∀ s5, Inv X pins (σ4.set i none) H4 s5 → Q s5) →
        wpAny (model X.prog X.w) X.A (do bindName X.env n .none; unbindBehindTheSuite X.env n pos') (fun _ s5 => Q s5) X.xe s4 := fun T4 hq => gone_ok (T4.unsuite ok) hN hi hln hq
    match fl, hsp with
    | .next, ⟨_, _, T4, q4⟩ => exact done T4 fun s5 J5 => ⟨_, _, J5, q4⟩
    | .brk, ⟨_, _, T4, q4⟩ => exact done T4 fun s5 J5 => ⟨_, _, J5, q4⟩
    | .cont, ⟨_, _, T4, q4⟩ => exact done T4 fun s5 J5 => ⟨_, _, J5, q4⟩
    | .ret u4, ⟨_, _, _, T4, r4, q4⟩ => exact done T4 fun s5 J5 => ⟨_, _, _, J5, r4, q4⟩
  refine wpAny_Try_except (wpAny_mono ((hb (wHit X.K X.N.length c i ts D) (X.pn ++ pins) _ caught PassesOwn.looking).run [] s σ H D (I.toTry _) h) (fun fl s1 hsp => ?_) fun e s1 he => he)
  match fl, hsp with
  | .next, ⟨σ', H', J', q⟩ => exact wpAny_execs_nil ⟨σ', H', J'.ofTry ok, q⟩
  | .brk, ⟨σ', H', J', q⟩ => exact ⟨σ', H', J'.ofTry ok, q⟩
  | .cont, ⟨σ', H', J', q⟩ => exact ⟨σ', H', J'.ofTry ok, q⟩
  | .ret u, ⟨v, σ', H', J', r, q⟩ => exact ⟨v, σ', H', J'.ofTry ok, r, q⟩
end

/-! ### the harness's _law_told over a lambda -/
/-- what is told of a lambda's reading tl: its result, or a tuple of what the Fault tells -/
def TToldF (K : PySem.W.Frag) (CF : Addr) (ret f1 f2 f3 f4 : Str) : (XK → Hp → VK → Prop) → Hp → VK → Prop := fun tl H Q =>
  tl (fun cls d H' => cls = .ref CF ∧ ∃ (dd : Addr) (fs : List (Str × V)) (v1 v2 v3 v4 : V), d = some dd ∧ H' dd = some (.xd fs) ∧ fs.lookup f1 = some v1 ∧ fs.lookup f2 = some v2 ∧ fs.lookup f3 = some v3 ∧ fs.lookup f4 = some v4 ∧
    ∀ p, H' p = none → Q (.ref p) (upd H' p (.tup [.str ret, v1, v2, v3, v4]))) H Q
/-- what must be known of the exception's class -/
structure FltC (K : PySem.W.Frag) (CF : Addr) (f1 f2 f3 f4 : Str) : Prop where
  x : XfC K CF
  hit : PySem.W.exmOne K (.ref CF) (.ref CF) = some true
  n1 : PySem.W.findIn K (.ref CF) f1 = some none
  n2 : PySem.W.findIn K (.ref CF) f2 = some none
  n3 : PySem.W.findIn K (.ref CF) f3 = some none
  n4 : PySem.W.findIn K (.ref CF) f4 = some none
theorem told_hit {X : Cx} {Ng : List Str} {x a e n q ret f1 f2 f3 f4 : Str} {sg : Scope} {g CF : Addr} {cdg : Value} {j kt : Nat} {hds : List ExceptHandler} {p1 p2 p3 p4 p5 p6 p7 p8 p9 p10 p11 p12 p13 p14 p15 p16 p17 : Pos}
    (T : FltC X.K CF f1 f2 f3 f4) (hN : Ng.Nodup) (hi : Ng[1]? = some n) (hln : sg.names.lookup n = some .local) (hge : sg.names.lookup e = some .globalImplicit) (hme : X.mg e = some (.ref CF)) (h0 : ∀ f : Addr, (L2.start Ng [V.ref f])[0]? = some (some (V.ref f))) (hlen : 1 < Ng.length)
    (hde : (e == ("__debug__" : Str)) = false) (hdn : (n == ("__debug__" : Str)) = false) (hcn : (n == ("__classdict__" : Str)) = false) :
    LamX.GivesTo X Ng x sg g cdg [.Try [.Return (some (.Call (.Name a p1) [] [] p2)) p3] (.ExceptHandler (some (.Name e p4)) (some n) [.Return (some (.Tuple [.Constant (.str ret) j p5, .Attribute (.Name n p6) f1 p7, .Attribute (.Name n p8) f2 p9, .Attribute (.Name n p10) f3 p11, .Attribute (.Name n p12) f4 p13] kt p14)) p15] p16 :: hds) [] [] p17]
      a q (TToldF X.K CF ret f1 f2 f3 f4) := by
  intro f c' s H Q tl act hc h
  have hgl : Gl (cxOf C8.CX0 X.prog X.w X.K X.mg X.base Ng x sg g cdg X.A X.stack s H C8.E0).nox e := hge
  have vis : Vis sg n := .inl hln
  refine ⟨_, pss_one (ps_try_hit (X := (cxOf C8.CX0 X.prog X.w X.K X.mg X.base Ng x sg g cdg X.A X.stack s H C8.E0).nox) (c := .ref CF) (i := 1)
      (tb := fun W D σ H => ∃ Ech : XK, (∀ cls d σ' H', Ech cls d H' → W cls d σ' H') ∧ σ[0]? = some (some (.ref f)) ∧ H c' = some (LamX.CodeO c' q) ∧ tl Ech H D.rt)
      rfl rfl hN hi hln ⟨hgl, hde, .inl hme⟩ (fun W pn xe tk _ => ?_) (fun a oe cls d pn hz hf => pss_one (ps_ret (pe_tup (pa_cons pe_str (pa_cons (pe_xf T.x T.n1 hz hf (pe_var (i := 1) hi vis hdn hcn))
        (pa_cons (pe_xf T.x T.n2 hz hf (pe_var (i := 1) hi vis hdn hcn)) (pa_cons (pe_xf T.x T.n3 hz hf (pe_var (i := 1) hi vis hdn hcn)) (pa_cons (pe_xf T.x T.n4 hz hf (pe_var (i := 1) hi vis hdn hcn)) pa_nil))))))))), ?_⟩
  · refine ⟨fun pins s' σ H' D I h' => ?_⟩
    obtain ⟨Ech, hW, h1, h2, h3⟩ := h'
    exact (pss_one (ps_ret (pos := p3) (act W pn xe Ech p1 p2 tk hW))).run pins s' σ H' D I ⟨h1, h2, h3⟩
  · refine ⟨_, ?_, h0 f, hc, h⟩
    rintro cls d σ' H' ⟨rfl, dd, fs, v1, v2, v3, v4, rfl, hx, l1, l2, l3, l4, go⟩
    refine ⟨T.hit, fun a na hl => ?_⟩
    have sa : (σ'.set 1 (some (.ref a)))[1]? = some (some (.ref a)) := List.getElem?_set_self (by rw [hl]; exact hlen)
    exact ⟨_, sa, rfl, rfl, dd, fs, v1, rfl, hx, l1, _, sa, rfl, rfl, dd, fs, v2, rfl, hx, l2, _, sa, rfl, rfl, dd, fs, v3, rfl, hx, l3, _, sa, rfl, rfl, dd, fs, v4, rfl, hx, l4, (by show 5 ≤ sizeLine; exact sz_of (by decide)), fun p hp => go p hp⟩
/-- _law_told(lambda: body) -/
theorem pe_toldL {X : Cx} {T : List (Addr × Str)} {TT : (XK → Hp → VK → Prop) → Hp → VK → Prop} {x a : Str} {st : Stmt} {g c P : Addr} {fd : FuncData} {k : Nat} {Ng : List Str} {params : Arguments} {body : Expr} {scope : Scope} {t : XK → TE} {p lpos pos : Pos}
    (hg : Gl X x) (F : Def X.K X.mg x st g fd) (hb : L2.Binds X.K fd [a] []) (Sg : FnScope Ng [a] (fnScope st)) (hNg : Ng[0]? = some a) (hva : Vis (fnScope st) a) (hG : ∀ cdv, LamX.GivesTo X Ng x (fnScope st) g cdv (fnBody st) a (X.env.qual ++ "<lambda>") TT)
    (TB : LamX.TabB X.base X.mg c P) (hcode : X.env.code = .ref c) (hmT : (P, X.env.qual ++ "<lambda>") ∈ T) (hu : ∀ p ∈ T, p.1 = P → p.2 = X.env.qual ++ "<lambda>") (hr : Room (k + 2) X.A) (L : LamX.LamS X.env.scope scope) (hdef : defaultsOf params X.env = ([], []))
    (hbind : ∀ (q : Str) (cl : List (Str × Addr)) (pm cv ctv : Value), bindArgs (PySem.W.kla_fn "<lambda>" q params body scope cl pm cv ctv) ⟨[], []⟩ = pure [])
    (hbody : ∀ (A : Around) (outer : List Env) (s : Shared) (H : Hp) (E : XK) (f c' : Addr), Room k (A.deeper (LamX.lamEnv X scope s.heap.objs.size f c')) → PE (LamX.lamCx X A outer s H E scope f c') body (t E))
    (hdb : (x == ("__debug__" : Str)) = false := by decide) (hd : (a == ("__debug__" : Str)) = false := by decide) (hcd : (a == ("__classdict__" : Str)) = false := by decide) :
    PE X (.Call (.Name x p) [.Lambda params body scope lpos] [] pos) (LamX.tLam T TT t) := by
  obtain ⟨oc, od, dV, kV, doc, pm, an, cdv, ct, osl, rfl, lk, hc2⟩ := F.fn.ex
  exact LamX.pe_lamcall hg F.mgf F.kp lk hc2 hb Sg hNg hva (hG cdv) TB hcode hmT hu hr L hdef hbind hbody hdb hd hcd
/-- what a lambda lets out -/
theorem tk_lam {X : Cx} {A : Around} {outer : List Env} {s : Shared} {H : Hp} {E : XK} {scope : Scope} {f c' : Addr} : Takes (LamX.lamCx X A outer s H E scope f c') (fun cls d _ H' => E cls d H') := takes_of (E := E) rfl rfl rfl rfl
end Wt

set_option Elab.async false
set_option linter.all false
set_option maxRecDepth 100000
set_option maxHeartbeats 4000000
/-! What may raise, further: methods, defs handed in, classes made; fields read and written. -/
namespace Wt
open PySem PySem.Spec PyProof.Rows L2 SX Evl
open C8 (Def fnBody fnScope)
section
variable {P : Program} {w : World} {K : PySem.W.Frag} {mg : Str → Option Value} {base : Heap}
structure MetX (P : Program) (w : World) (K : PySem.W.Frag) (mg : Str → Option Value) (base : Heap) (k : Nat) (C : Addr) (m : Str) (sp : Sp) : Prop where
  ex : ∃ (f : Addr) (fd : FuncData) (ps : List Str), Cls K C ∧ Meth K C m f ∧ FnOk P w K mg base (L2.CX P w) k f fd ps sp ∧ Binds K fd ps []
theorem metX {m qual : Str} {C : Addr} {st : Stmt} {f : Addr} {fd : FuncData} {N ps : List Str} {k : Nat} {sp : Sp} (c : Cls K C) (me : Meth K C m f) (F : C8.Fun K m qual st f fd) (b : Binds K fd ps []) (S : FnScope N ps (fnScope st)) (len : ∀ vs H Q E, sp vs H Q E → vs.length = ps.length)
    (body : ∀ (cdv : Value) (A : Around) (outer : List Env) (s : Shared) (H : Hp) (vs : List V) (Q : VK) (E : XK), Room k (A.deeper (envOfC qual (fnScope st) s.heap.objs.size f cdv)) → sp vs H Q E →
      ∃ t, PSs (cxOf (L2.CX P w) P w K mg base N qual (fnScope st) f cdv A outer s H E) (fnBody st) t ∧ t { nx := fun _ H' => Q .non H', rt := Q } (start N vs) H) : MetX P w K mg base (k + 1) C m sp := by
  obtain ⟨oc, od, dV, kV, doc, pm, an, cdv, ct, osl, rfl, lk, hcd⟩ := F.ex
  exact ⟨f, _, ps, c, me, fn_of lk hcd S len fun A outer s H vs Q E hr hsp => body cdv A outer s H vs Q E hr hsp, b⟩
/-- a class whose __init__ may raise -/
structure MakX (P : Program) (w : World) (K : PySem.W.Frag) (mg : Str → Option Value) (base : Heap) (k : Nat) (x : Str) (C : Addr) (sp : Sp) : Prop where
  ex : ∃ (f : Addr) (fd : FuncData) (ps : List Str), Mk K C f ∧ FnOk P w K mg base (L2.CX P w) k f fd ps sp ∧ mg x = some (.ref C) ∧ Binds K fd ps []
theorem makX {x qual : Str} {C : Addr} {st : Stmt} {f : Addr} {fd : FuncData} {N ps : List Str} {k : Nat} {sp : Sp} (M : Mk K C f) (hm : mg x = some (.ref C)) (F : C8.Fun K "__init__" qual st f fd) (b : Binds K fd ps []) (S : FnScope N ps (fnScope st)) (len : ∀ vs H Q E, sp vs H Q E → vs.length = ps.length)
    (body : ∀ (cdv : Value) (A : Around) (outer : List Env) (s : Shared) (H : Hp) (vs : List V) (Q : VK) (E : XK), Room k (A.deeper (envOfC qual (fnScope st) s.heap.objs.size f cdv)) → sp vs H Q E →
      ∃ t, PSs (cxOf (L2.CX P w) P w K mg base N qual (fnScope st) f cdv A outer s H E) (fnBody st) t ∧ t { nx := fun _ H' => Q .non H', rt := Q } (start N vs) H) : MakX P w K mg base (k + 1) x C sp := by
  obtain ⟨oc, od, dV, kV, doc, pm, an, cdv, ct, osl, rfl, lk, hcd⟩ := F.ex
  exact ⟨f, _, ps, M, fn_of lk hcd S len fun A outer s H vs Q E hr hsp => body cdv A outer s H vs Q E hr hsp, hm, b⟩
end
/-- what this def lets out is what its caller wants -/
abbrev Lets (X : Cx) (E : XK) : Prop := Takes X (fun cls d _ H => E cls d H)
section
variable {X : Cx} {k j i : Nat} {C f : Addr} {x m : Str} {sp : Sp} {p pos apos : Pos} {e o : Expr} {es : List Expr} {ta : TE} {t : TA} {E : XK}
theorem pe_cE (c : CalX X.prog X.w X.K X.mg X.base k x sp) (tk : Lets X E) (hr : Room j X.A) (hk : k ≤ j) (hg : Gl X x) (ha : PA X (e :: es) t)
    (hdb : (x == ("__debug__" : Str)) = false := by decide) (he : starEach (e :: es) X.env = (false, eval e X.env) :: starEach es X.env := by rfl) (hpl : (backTo pos (starEach es X.env)).any (·.1) = false := by rfl) :
    PE X (.Call (.Name x p) (e :: es) [] pos) (tCall sp [] E t) := by
  obtain ⟨f, fd, ps, F, hm, kp, b⟩ := c.ex
  exact pe_call F (hr.mono hk) hg hm kp b .nil (passes_call tk fun _ _ _ _ h => h) ha hdb he hpl
theorem pe_mkX (c : MakX X.prog X.w X.K X.mg X.base k x C sp) (tk : Lets X E) (hr : Room j X.A) (hk : k + 1 ≤ j) (hg : Gl X x) (ha : PA X (e :: es) t)
    (hdb : (x == ("__debug__" : Str)) = false := by decide) (he : starEach (e :: es) X.env = (false, eval e X.env) :: starEach es X.env := by rfl) (hpl : (backTo pos (starEach es X.env)).any (·.1) = false := by rfl) :
    PE X (.Call (.Name x p) (e :: es) [] pos) (tMake C sp [] E t) := by
  obtain ⟨f, fd, ps, M, F, hm, b⟩ := c.ex
  exact pe_make M F (hr.mono hk) hg hm b .nil (passes_call tk fun _ _ _ _ h => h) ha hdb he hpl
theorem pe_mtX {pl : Sem Bool} (c : MetX X.prog X.w X.K X.mg X.base k C m sp) (tk : Lets X E) (hr : Room j X.A) (hk : k ≤ j) (he : PE X o ta) (ha : PA X (e :: es) t)
    (hst : starEach (e :: es) X.env = (false, eval e X.env) :: starEach es X.env := by rfl) (hpl : (backTo pos (starEach es X.env)).any (·.1) = false := by rfl)
    (ht : eval (.Call (.Attribute o m apos) (e :: es) [] pos) X.env = (do
      let ov ← eval o X.env
      standAt apos.atName
      let (f, first) ← holding [ov] (getMethod ov m pl)
      callWith pos f first (backTo pos (starEach (e :: es) X.env)) (backToKw pos (keywordEach [] X.env))) := by rfl) :
    PE X (.Call (.Attribute o m apos) (e :: es) [] pos) (tMeth C m sp [] E ta t) := by
  obtain ⟨f, fd, ps, hc, hm, F, b⟩ := c.ex
  exact pe_meth (pl := pl) he hc hm F (hr.mono hk) b .nil (passes_call tk fun _ _ _ _ h => h) ha hst hpl ht
theorem pe_mtX0 {pl : Sem Bool} (c : MetX X.prog X.w X.K X.mg X.base k C m sp) (tk : Lets X E) (hr : Room j X.A) (hk : k ≤ j) (he : PE X o ta)
    (ht : eval (.Call (.Attribute o m apos) [] [] pos) X.env = (do
      let ov ← eval o X.env
      standAt apos.atName
      let (f, first) ← holding [ov] (getMethod ov m pl)
      callWith pos f first (backTo pos (starEach [] X.env)) (backToKw pos (keywordEach [] X.env))) := by rfl) :
    PE X (.Call (.Attribute o m apos) [] [] pos) (tMeth C m sp [] E ta tNil) := by
  obtain ⟨f, fd, ps, hc, hm, F, b⟩ := c.ex
  exact pe_meth0 (pl := pl) he hc hm F (hr.mono hk) b .nil (passes_call tk fun _ _ _ _ h => h) ht
/-- a def handed in, as it is called -/
theorem pe_clX {fd : FuncData} {ps : List Str} (F : FnOk X.prog X.w X.K X.mg X.base (L2.CX X.prog X.w) k f fd ps sp) (kp : PySem.W.keepIn X.K (.ref f) = true) (b : Binds X.K fd ps []) (tk : Lets X E) (hr : Room j X.A) (hk : k ≤ j) (hN : X.N[i]? = some x) (hv : Vis X.env.scope x) (ha : PA X (e :: es) t)
    (hdb : (x == ("__debug__" : Str)) = false := by decide) (hcd : (x == ("__classdict__" : Str)) = false := by decide)
    (he : starEach (e :: es) X.env = (false, eval e X.env) :: starEach es X.env := by rfl) (hpl : (backTo pos (starEach es X.env)).any (·.1) = false := by rfl) : PE X (.Call (.Name x p) (e :: es) [] pos) (tCallL i f sp [] E t) :=
  pe_callL F (hr.mono hk) hN hv kp b .nil (passes_call tk fun _ _ _ _ h => h) ha hdb hcd he hpl
end
section
variable {K : PySem.W.Frag} {σ : L2.St} {H H' : Hp} {ta tb te tx : TE} {t : TA} {x y z v : V} {D : Ends} {tz : TS}
theorem ev_fld {a C dx : Addr} {fs : List (Str × V)} {f : Str} (ha : Ev ta σ H (.ref a)) (h : H a = some (.ins C dx fs)) (c : Cls K C) (n : NoAttr K C f) (l : fs.lookup f = some v) : Ev (tFld K ta f) σ H v := fun H1 e Q q =>
  ha H1 e _ fun H2 e2 => ⟨a, C, dx, fs, v, rfl, e2 _ _ (e _ _ h), c, n, l, q H2 e2⟩
/-- o.m() where nothing but new things come of it -/
theorem ev_meth {C a dx : Addr} {fs : List (Str × V)} {m : Str} {sp : Sp} {E : XK} {vs : List V} (ha : Ev ta σ H (.ref a)) (h : H a = some (.ins C dx fs)) (l : fs.lookup m = none) (ht : EvA t σ H vs) (hs : ∀ H1, Ex H H1 → ∀ Q : VK, (∀ H2, Ex H1 H2 → Q v H2) → sp (.ref a :: (vs ++ [])) H1 Q E) :
    Ev (tMeth C m sp [] E ta t) σ H v := fun H1 e Q q => ha H1 e _ fun H2 e2 => ⟨a, dx, fs, rfl, e2 _ _ (e _ _ h), l, ht H2 (e.trans e2) _ fun H3 e3 => hs H3 ((e.trans e2).trans e3) Q fun H4 e4 => q H4 ((e2.trans e3).trans e4)⟩
end
end Wt

set_option Elab.async false
set_option linter.all false
set_option maxRecDepth 100000
set_option maxHeartbeats 4000000
namespace Wt
open PySem PySem.Spec PyProof.Rows L2 SX Evl
open C8 (Def Cal cal0 fnScope_by fnScope)
/-! run_at alone (stands for K01W where a law has no other word of words.py). -/
structure ModsR (K : PySem.W.Frag) (mg : Str → Option Value) : Prop where
  m_len : mg "len" = none
section
variable {P : Program} {w : World} {K : PySem.W.Frag} {mg : Str → Option Value} {base : Heap} {aS aO : Addr}
/-! ### run_at -/
abbrev s_run_at : Stmt := topS 14
theorem sc_run_at : FnScope ["row", "at", "characters", "end"] ["row", "at", "characters"] (fnScope s_run_at) := fnScope_by (by decide +kernel)
def spRun : Sp := fun vs H Q _ => ∃ (row : List Nat) (i : Nat) (cs : List Nat), vs = [.str (S row), .int (i : Int), .str (S cs)] ∧ i ≤ row.length ∧ row.length ≤ 100000 ∧
  RetV (.str (S ((row.drop i).takeWhile fun c => decide (c ∈ cs)))) H Q
theorem ok_run_at (T : ModsR K mg) {f : Addr} {fd : FuncData} (F : Def K mg "run_at" s_run_at f fd) (b : Binds K fd ["row", "at", "characters"] []) : Cal P w K mg base 1 "run_at" spRun [] := by
  refine cal0 F b .nil sc_run_at (fun vs H Q E h => ?_) (fun cdv A outer s H vs Q E hr h => ?_)
  · obtain ⟨_, _, _, rfl, _⟩ := h
    rfl
  · obtain ⟨row, i, cs, rfl, hi, hl, q⟩ := h
    have m_len := T.m_len
    refine ⟨_, (pss_cons (ps_set (i := 3) sc_run_at.nd rfl (.inl rfl) (pv 1))
      (pss_cons (ps_while PassesOwn.never (PW.pt (pw_and (pt_cmpR op_lt (pv 3) (pe_callB call_len_str (by rfl) m_len PySem.boot_len (pa_cons (pv 0) pa_nil)) (nomark _)) (pw_and1 (pt_cmpR op_in_sign (pe_ix ix_str (pv 0) (pv 3) (fun _ _ => rfl)) (pv 2) (by with_unfolding_all rfl))))) (pss_one (ps_aug (i := 3) sc_run_at.nd rfl (.inl rfl) pe_int ip_add)))
      (pss_one (ps_ret (pe_slice C8.sl_txt (pv 0) (po_some (pv 1)) (po_some (pv 3))))))), ?_⟩
    refine q_asg (ev_var rfl) fun H1 e1 => ?_
    refine q_while (fun m σ' H' => ∃ e : Nat, σ' = [some (.str (S row)), some (.int (i : Int)), some (.str (S cs)), some (.int (e : Int))] ∧ Ex H H' ∧ i ≤ e ∧ e + m = row.length ∧
      (row.drop i).takeWhile (fun c => decide (c ∈ cs)) = (row.drop i).take (e - i) ++ (row.drop e).takeWhile (fun c => decide (c ∈ cs))) (row.length - i) ⟨i, rfl, e1, Nat.le_refl _, by omega, ?_⟩ ?_
    · rw [Nat.sub_self, List.take_zero, List.nil_append]
    · rintro m σ' H' ⟨e, rfl, eH, hie, hm, hw⟩
      by_cases hlt : e < row.length
      · have hg : row[e]? = some row[e] := List.getElem?_eq_getElem hlt
        have hd : row.drop e = row[e] :: row.drop (e + 1) := List.drop_eq_getElem_cons hlt
        refine ⟨true && decide (row[e] ∈ cs), et_and (et_is (et_test (ev_op (ev_var rfl) (ev_lenS (ev_var rfl) hl) rv_I0)) (decide_eq_true (by omega))) fun _ => et_test (ev_inSg (ev_op (ev_var rfl) (ev_var rfl) (rv_at hl hg)) (ev_var rfl)), fun hb H1 e1' => ?_, fun hb H1 e1' => ?_⟩
        · have hc : row[e] ∈ cs := of_decide_eq_true (by simpa using hb)
          refine ⟨fun σ2 H2 => σ2 = [some (.str (S row)), some (.int (i : Int)), some (.str (S cs)), some (.int ((e + 1 : Nat) : Int))] ∧ Ex H H2, fun σ2 H2 hN => ⟨m - 1, by omega, e + 1, hN.1, hN.2, by omega, by omega, ?_⟩, ?_⟩
          · rw [hw, hd, List.takeWhile_cons, if_pos (by simpa using hc)]
            have e2 : (row.drop i).take (e + 1 - i) = (row.drop i).take (e - i) ++ [row[e]] := by
              rw [show e + 1 - i = (e - i) + 1 by omega, List.take_add_one]
              congr 1
              rw [List.getElem?_drop, show i + (e - i) = e by omega, hg]
              rfl
            rw [e2, List.append_assoc]
            rfl
          · refine s_aug (a := (e : Int)) (b := 1) rfl ev_c fun H2 e2 => ⟨?_, (eH.trans e1').trans e2⟩
            show [some (V.str (S row)), some (.int (i : Int)), some (.str (S cs)), some (.int ((e : Int) + 1))] = _
            rw [show ((e + 1 : Nat) : Int) = (e : Int) + 1 by omega]
        · have hc : ¬ row[e] ∈ cs := of_decide_eq_false (by simpa using hb)
          rw [hd, List.takeWhile_cons, if_neg (by simpa using hc), List.append_nil] at hw
          refine s_ret (ev_sl (ev_var rfl) (eo_some (ev_var rfl)) (eo_some (ev_var rfl)) hl hie (by omega)) fun H2 e2 => ?_
          rw [← hw]
          exact q.go ((eH.trans e1').trans e2)
      · refine ⟨false && false, et_and (et_is (et_test (ev_op (ev_var rfl) (ev_lenS (ev_var rfl) hl) rv_I0)) (decide_eq_false (by omega))) (fun z => by cases z), (fun z => by cases z), fun _ H1 e1' => ?_⟩
        have hz : row.drop e = [] := List.drop_eq_nil_of_le (by omega)
        rw [hz, List.takeWhile_nil, List.append_nil] at hw
        refine s_ret (ev_sl (ev_var rfl) (eo_some (ev_var rfl)) (eo_some (ev_var rfl)) hl hie (by omega)) fun H2 e2 => ?_
        rw [← hw]
        exact q.go ((eH.trans e1').trans e2)

end
end Wt

set_option Elab.async false
set_option linter.all false
set_option maxRecDepth 100000
set_option maxHeartbeats 4000000
/-! What an expression comes to, told as data of which something is true. -/
namespace Wt
open PySem PySem.Spec PyProof.Rows L2 SX Evl
def EvR (te : TE) (σ : L2.St) (H : Hp) (R : PyData → Prop) : Prop := ∀ H1, Ex H H1 → ∀ Q : VK, (∀ v H2 d, R d → Ex H1 H2 → Td H2 v d → Q v H2) → te σ H1 Q
def EAR (ta : TA) (σ : L2.St) (H : Hp) (R : List PyData → Prop) : Prop := ∀ H1, Ex H H1 → ∀ Q : List V → Hp → Prop, (∀ vs H2 ds, R ds → Ex H1 H2 → TdAll H2 vs ds → Q vs H2) → ta σ H1 Q
/-- a new list -/
def EvRL (te : TE) (σ : L2.St) (H : Hp) (R : List PyData → Prop) : Prop := ∀ H1, Ex H H1 → ∀ Q : VK, (∀ p H2 vs ds, R ds → H1 p = none → Ex H1 H2 → H2 p = some (.lst vs) → TdAll H2 vs ds → Q (.ref p) H2) → te σ H1 Q
/-- a list of texts that stands there, or a new one -/
def EvLs (te : TE) (σ : L2.St) (H : Hp) (P : List (List Nat) → Prop) : Prop := ∀ H1, Ex H H1 → ∀ Q : VK, (∀ p H2 ts, P ts → Ex H1 H2 → H2 p = some (.lst (ts.map fun z => V.str (S z))) → Q (.ref p) H2) → te σ H1 Q
theorem td_get {H : Hp} : ∀ {us : List V} {ds : List PyData} {i : Nat} {d : PyData}, TdAll H us ds → ds[i]? = some d → ∃ v, us[i]? = some v ∧ Td H v d
  | _, _, _, _, .nil, h => by simp at h
  | _, _, 0, _, .cons a b, h => ⟨_, rfl, by
    cases Option.some.inj h
    exact a⟩
  | _, _, i + 1, _, .cons a b, h => td_get (i := i) b h
theorem td_mem {H : Hp} : ∀ {us : List V} {ds : List PyData} {v : V}, TdAll H us ds → v ∈ us → ∃ d ∈ ds, Td H v d
  | _, _, _, .nil, h => by cases h
  | _, _, v, .cons a b, h => by
    rcases List.mem_cons.mp h with rfl | h
    · exact ⟨_, List.mem_cons_self .., a⟩
    · obtain ⟨d, hd, hT⟩ := td_mem b h
      exact ⟨d, List.mem_cons_of_mem _ hd, hT⟩
theorem cutV_from {xs : List V} {k : Nat} (h : k ≤ xs.length) : cutV xs (some (k : Int)) none = xs.drop k := by
  have h1 : HT.sIx xs.length 0 (some (k : Int)) = k := by
    rw [HT.sIx_nat]
    omega
  have h2 : HT.sIx xs.length xs.length none = xs.length := rfl
  unfold cutV
  rw [h1, h2]
  exact List.take_of_length_le (by rw [List.length_drop]; omega)
theorem td_drop {H : Hp} : ∀ {n : Nat} {us : List V} {ds : List PyData}, TdAll H us ds → TdAll H (us.drop n) (ds.drop n)
  | 0, _, _, h => h
  | _ + 1, _, _, .nil => .nil
  | n + 1, _, _, .cons a b => td_drop (n := n) b
section
variable {K : PySem.W.Frag} {σ : L2.St} {H H' : Hp} {ta tb te tx tl : TE} {tr : TA} {t u : TT} {v w : V} {R R2 : PyData → Prop} {L : List PyData → Prop} {D : Ends} {tu tw tz : TS} {P : V → Prop}
theorem er_of {d : PyData} (h : EvD te σ H d) : EvR te σ H (· = d) := fun H1 e Q q => h H1 e Q fun v H2 e2 hv => q v H2 d rfl e2 hv
theorem EvR.imp (h : EvR te σ H R) (i : ∀ d, R d → R2 d) : EvR te σ H R2 := fun H1 e Q q => h H1 e Q fun v H2 d r => q v H2 d (i d r)
theorem EvR.mono (e : Ex H H') (h : EvR te σ H R) : EvR te σ H' R := fun H1 e1 Q q => h H1 (e.trans e1) Q q
theorem er_N (h : EvN te σ H P) (hP : ∀ v, P v → ∃ d, R d ∧ ∀ H', Td H' v d) : EvR te σ H R := fun H1 e Q q => h H1 e Q fun v H2 p e2 => by
  obtain ⟨d, r, hd⟩ := hP v p
  exact q v H2 d r e2 (hd H2)
theorem ear_nil : EAR tNil σ H (· = []) := fun H1 _ Q q => q [] H1 [] rfl (Ex.refl _) .nil
theorem ear_cons (h : EvR te σ H R) (hr : EAR tr σ H L) : EAR (tCons te tr) σ H (fun l => ∃ d ds, l = d :: ds ∧ R d ∧ L ds) := fun H1 e Q q =>
  h H1 e _ fun v H2 d r e2 hv => hr H2 (e.trans e2) _ fun vs H3 ds rs e3 hvs => q (v :: vs) H3 (d :: ds) ⟨d, ds, rfl, r, rs⟩ (e2.trans e3) (.cons (Td.tx (Tx.of e3) _ _ hv) hvs)
theorem ear_one {d : PyData} (h : EvD te σ H d) (hr : EAR tr σ H L) : EAR (tCons te tr) σ H (fun l => ∃ ds, l = d :: ds ∧ L ds) := fun H1 e Q q =>
  h H1 e _ fun v H2 e2 hv => hr H2 (e.trans e2) _ fun vs H3 ds rs e3 hvs => q (v :: vs) H3 (d :: ds) ⟨ds, rfl, rs⟩ (e2.trans e3) (.cons (Td.tx (Tx.of e3) _ _ hv) hvs)
theorem EAR.imp {L2 : List PyData → Prop} (h : EAR tr σ H L) (i : ∀ d, L d → L2 d) : EAR tr σ H L2 := fun H1 e Q q => h H1 e Q fun v H2 d r => q v H2 d (i d r)
theorem er_tup (h : EAR tr σ H L) (hl : ∀ ds, L ds → ds.length ≤ 100000) : EvR (tTup tr) σ H (fun d => ∃ ds, L ds ∧ d = .tuple ds) := fun H1 e Q q =>
  h H1 e _ fun vs H2 ds r e2 hvs => ⟨sz_of (by rw [hvs.len]; exact hl ds r), fun p hp => q (.ref p) _ (.tuple ds) ⟨ds, r, rfl⟩ (e2.trans (Ex.new hp)) (.tup upd_same (TdAll.tx (Tx.of (Ex.new hp)) _ _ hvs))⟩
theorem erl_lst (h : EAR tr σ H L) (hl : ∀ ds, L ds → ds.length ≤ 100000) : EvRL (tLst tr) σ H L := fun H1 e Q q =>
  h H1 e _ fun vs H2 ds r e2 hvs => ⟨sz_of (by rw [hvs.len]; exact hl ds r), fun p hp => q p _ vs ds r (fresh_back e2 hp) (e2.trans (Ex.new hp)) upd_same (TdAll.tx (Tx.of (Ex.new hp)) _ _ hvs)⟩
theorem er_if {b : Bool} (h : EvT t σ H b) (h1 : b = true → EvR ta σ H R) (h2 : b = false → EvR tb σ H R) : EvR (tIf t ta tb) σ H R := fun H1 e Q q => h H1 e _ fun H2 e2 => by
  cases b with
  | true =>
    show ta σ H2 Q
    exact h1 rfl H2 (e.trans e2) Q fun v H3 d r e3 => q v H3 d r (e2.trans e3)
  | false =>
    show tb σ H2 Q
    exact h2 rfl H2 (e.trans e2) Q fun v H3 d r e3 => q v H3 d r (e2.trans e3)
theorem er_tupleOf (h : EvRL te σ H L) : EvR (tCB (fun xs H Q => ∃ p ys, xs = [.ref p] ∧ ((SqL K H p ys ∧ ∀ l, H l = none → Q (.ref l) (upd H l (.tup ys))) ∨ (SqT K H p ys ∧ Q (.ref p) H))) (tCons te tNil)) σ H (fun d => ∃ ds, L ds ∧ d = .tuple ds) := fun H1 e Q q =>
  h H1 e _ fun l H2 vs ds r hl e2 hl2 hvs => ⟨l, vs, rfl, .inl ⟨sq_of hl2, fun c hc => q _ _ _ ⟨ds, r, rfl⟩ (e2.trans (Ex.new hc)) (.tup upd_same (TdAll.tx (Tx.of (Ex.new hc)) _ _ hvs))⟩⟩
/-- (a, b, ..) + e[k:] -/
theorem er_catSl {k : Nat} {ds1 : List PyData} (h : EAD tr σ H ds1) (he : EvR te σ H R) (hR : ∀ d, R d → ∃ es, d = .tuple es ∧ k < es.length ∧ es.length ≤ 100) (hk : 0 < k) (h1 : ds1 ≠ []) (hl1 : ds1.length ≤ 100) :
    EvR (tOp (rCatA K) (tTup tr) (tSl (rSlA K) te (tPart (tC (.int (k : Int)))) tNoPart)) σ H (fun d => ∃ es, R (.tuple es) ∧ d = .tuple (ds1 ++ es.drop k)) := fun H1 e Q q => h H1 e _ fun vs H2 e2 hvs => ⟨sz_of (by rw [hvs.len]; omega), fun pa hpa => by
  have e3 := Ex.new (o := HO.tup vs) hpa
  refine he _ ((e.trans e2).trans e3) _ fun v H4 d r e4 hv => ?_
  obtain ⟨es, rfl, hkl, hl⟩ := hR d r
  refine ⟨(k : Int), rfl, ?_⟩
  cases hv with
  | @tup ea xs _ hx1 hx2 =>
    have hxl := hx2.len
    have h2 : HT.sIx xs.length 0 (some (k : Int)) = k := by
      rw [HT.sIx_nat]
      omega
    refine ⟨ea, xs, rfl, st_of hx1, fun z => ?_, fun _ pb hpb => ?_⟩
    · exfalso
      have := z.1
      rw [h2] at this
      omega
    · rw [cutV_from (by omega)] at *
      have e5 := Ex.new (o := HO.tup (xs.drop k)) hpb
      have hvs5 := TdAll.tx (Tx.of ((e3.trans e4).trans e5)) _ _ hvs
      have hd5 := td_drop (n := k) (TdAll.tx (Tx.of e5) _ _ hx2)
      have ne1 : vs ≠ [] := fun z => h1 (by
        rw [z] at hvs
        cases hvs
        rfl)
      have ne2 : xs.drop k ≠ [] := fun z => by
        have := congrArg List.length z
        rw [List.length_drop] at this
        simp at this
        omega
      refine ⟨pa, pb, vs, xs.drop k, rfl, rfl, st_of (e5 _ _ (e4 _ _ upd_same)), st_of upd_same, sz_of (by
        rw [List.length_drop, hvs.len]
        omega), fun z => absurd z ne1, fun _ z => absurd z ne2, fun _ _ pc hpc => ?_⟩
      have e6 := Ex.new (o := HO.tup (vs ++ xs.drop k)) hpc
      exact q _ _ _ ⟨es, r, rfl⟩ ((((e2.trans e3).trans e4).trans e5).trans e6) (.tup upd_same (TdAll.tx (Tx.of e6) _ _ (hvs5.app hd5)))⟩
theorem q_asgR {i : Nat} (h : EvR te σ H R) (k : ∀ v H1 d, R d → Ex H H1 → Td H1 v d → tz D (σ.set i (some v)) H1) : tSeq (tAsg te (gName i)) tz D σ H := h H (Ex.refl H) _ k
theorem q_asgRL {i : Nat} (h : EvRL te σ H L) (k : ∀ p H1 vs ds, L ds → H p = none → Ex H H1 → H1 p = some (.lst vs) → TdAll H1 vs ds → tz D (σ.set i (some (.ref p))) H1) : tSeq (tAsg te (gName i)) tz D σ H := h H (Ex.refl H) _ k
theorem s_retR (h : EvR te σ H R) (k : ∀ v H1 d, R d → Ex H H1 → Td H1 v d → D.rt v H1) : tRet te D σ H := h H (Ex.refl H) _ k
/-- lists of texts -/
theorem els_new {ts : List (List Nat)} {Pt : List (List Nat) → Prop} (h : EvLT te σ H ts) (p : Pt ts) : EvLs te σ H Pt := fun H1 e Q q => h H1 e Q fun l H2 _ e2 hl => q l H2 ts p e2 hl
theorem els_at {l : Addr} {ts : List (List Nat)} {Pt : List (List Nat) → Prop} (h : Ev te σ H (.ref l)) (hl : H l = some (.lst (ts.map fun z => V.str (S z)))) (p : Pt ts) : EvLs te σ H Pt := fun H1 e Q q => h H1 e Q fun H2 e2 => q l H2 ts p e2 ((e.trans e2) _ _ hl)
theorem els_if {b : Bool} {Pt : List (List Nat) → Prop} (h : EvT t σ H b) (h1 : b = true → EvLs ta σ H Pt) (h2 : b = false → EvLs tb σ H Pt) : EvLs (tIf t ta tb) σ H Pt := fun H1 e Q q => h H1 e _ fun H2 e2 => by
  cases b with
  | true =>
    show ta σ H2 Q
    exact h1 rfl H2 (e.trans e2) Q fun p H3 ts r e3 => q p H3 ts r (e2.trans e3)
  | false =>
    show tb σ H2 Q
    exact h2 rfl H2 (e.trans e2) Q fun p H3 ts r e3 => q p H3 ts r (e2.trans e3)
/-- [x for x in xs if ..] over a list of data -/
theorem edl_filter {a : Addr} {xs : List V} {ds : List PyData} {j : Nat} {vs : List Nat} (p : PyData → Bool) (h : Ev tl σ H (.ref a)) (hx : H a = some (.lst xs)) (hT : TdAll H xs ds) (hz : ds.length ≤ 40000) (hw : ∀ x, wipe ((wipe σ vs).set j (some x)) vs = wipe σ vs) (hj : ∀ x, ((wipe σ vs).set j (some x))[j]? = some (some x))
    (ht : ∀ (x : V) (d : PyData) H1, Ex H H1 → d ∈ ds → Td H1 x d → EvT t ((wipe σ vs).set j (some x)) H1 (p d)) : EvDL (tLc (iList K tl) (gName j) t (tVar j) vs) σ H (ds.filter p) := fun H0 e Q q => h H0 e _ fun H1 e1 => ⟨a, rfl, ⟨xs, sq_of ((e.trans e1) _ _ hx)⟩, fun Dl hD => by
  have hx1 := (e.trans e1) _ _ hx
  have hT1 := TdAll.tx (Tx.of (e.trans e1)) _ _ hT
  refine lc_it (walk_list (K := K) (a := a) (xs := xs)) (fun i H' => ∃ acc, Ex H1 H' ∧ H' Dl = some (.lst acc) ∧ TdAll H' acc ((ds.take i).filter p)) ⟨[], Ex.new hD, upd_same, .nil⟩ (fun _ H' _ ⟨_, e2, _⟩ => sq_of (e2 _ _ hx1)) ?_ ?_
  · rintro i x H2 H3 hi ⟨acc, e2, hDl, hA⟩ ⟨rfl, hxi⟩
    refine ⟨hw x, ?_⟩
    have hlen := hT1.len
    have hi2 : i < ds.length := by omega
    have hd : ds[i]? = some ds[i] := List.getElem?_eq_getElem hi2
    obtain ⟨v, hv, hTv⟩ := td_get hT1 hd
    rw [hxi] at hv
    cases hv
    have hal : acc.length ≤ ds.length := by
      have := List.length_filter_le p (ds.take i)
      rw [List.length_take] at this
      have := hA.len
      omega
    refine ht x ds[i] H3 ((e.trans e1).trans e2) (List.getElem_mem hi2) (Td.tx (Tx.of e2) _ _ hTv) H3 (Ex.refl _) _ fun H4 e4 => ?_
    have tk : (ds.take (i + 1)).filter p = (ds.take i).filter p ++ if p ds[i] = true then [ds[i]] else [] := by
      rw [List.take_succ, hd, List.filter_append]
      congr 1
      show List.filter p [ds[i]] = _
      rw [List.filter_cons]
      rfl
    cases hp : p ds[i] with
    | false =>
      rw [if_neg (by decide)]
      refine ⟨acc, e2.trans e4, e4 _ _ hDl, ?_⟩
      rw [tk, hp, if_neg (by decide), List.append_nil]
      exact TdAll.tx (Tx.of e4) _ _ hA
    | true =>
      rw [if_pos rfl]
      refine ev_var (hj x) H4 (Ex.refl _) _ fun H5 e5 => ⟨acc, e5 _ _ (e4 _ _ hDl), sz_lt (by omega), acc ++ [x], Ex.mut ((e2.trans e4).trans e5) hD, upd_same, ?_⟩
      rw [tk, hp, if_pos rfl]
      have tx : Tx H5 (upd H5 Dl (.lst (acc ++ [x]))) := Tx.lst (e5 _ _ (e4 _ _ hDl))
      exact (TdAll.tx ((Tx.of (e4.trans e5)).trans tx) _ _ hA).snoc (Td.tx ((Tx.of ((e2.trans e4).trans e5)).trans tx) _ _ hTv)
  · rintro H2 ⟨acc, e2, hDl, hA⟩
    rw [hT1.len, List.take_length] at hA
    exact q Dl H2 acc (fresh_back e1 hD) (e1.trans e2) hDl hA⟩
/-- [e for x in t] over a tuple of data -/
theorem erl_lcT {a : Addr} {xs : List V} {ds : List PyData} {j : Nat} {vs : List Nat} (h : Ev tl σ H (.ref a)) (hx : H a = some (.tup xs)) (hT : TdAll H xs ds) (hz : ds.length ≤ 40000) (hw : ∀ x, wipe ((wipe σ vs).set j (some x)) vs = wipe σ vs)
    (he : ∀ (x : V) (d : PyData) H1, Ex H H1 → d ∈ ds → Td H1 x d → EvR te ((wipe σ vs).set j (some x)) H1 R) : EvRL (tLc (iTup K tl) (gName j) tYes te vs) σ H (fun es => es.length = ds.length ∧ ∀ d ∈ es, R d) := fun H0 e Q q => h H0 e _ fun H1 e1 => ⟨a, rfl, ⟨xs, st_of ((e.trans e1) _ _ hx)⟩, fun Dl hD => by
  have hx1 := (e.trans e1) _ _ hx
  have hT1 := TdAll.tx (Tx.of (e.trans e1)) _ _ hT
  refine lc_it (walk_tup (K := K) (a := a) (xs := xs)) (fun i H' => ∃ acc es, Ex H1 H' ∧ H' Dl = some (.lst acc) ∧ TdAll H' acc es ∧ es.length = i ∧ ∀ d ∈ es, R d) ⟨[], [], Ex.new hD, upd_same, .nil, rfl, fun _ h => by cases h⟩ (fun _ H' _ ⟨_, _, e2, _⟩ => st_of (e2 _ _ hx1)) ?_ ?_
  · rintro i x H2 H3 hi ⟨acc, es, e2, hDl, hA, hes, hR⟩ ⟨rfl, hxi⟩
    refine ⟨hw x, ?_⟩
    have hlen := hT1.len
    have hi2 : i < ds.length := by omega
    have hd : ds[i]? = some ds[i] := List.getElem?_eq_getElem hi2
    obtain ⟨v, hv, hTv⟩ := td_get hT1 hd
    rw [hxi] at hv
    cases hv
    show te ((wipe σ vs).set j (some x)) H3 _
    refine he x ds[i] H3 ((e.trans e1).trans e2) (List.getElem_mem hi2) (Td.tx (Tx.of e2) _ _ hTv) H3 (Ex.refl _) _ fun y H4 d r e4 hy => ?_
    have hal := hA.len
    refine ⟨acc, e4 _ _ hDl, sz_lt (by omega), acc ++ [y], es ++ [d], Ex.mut (e2.trans e4) hD, upd_same, ?_, by rw [List.length_append, hes] <;> rfl, fun d2 hd2 => ?_⟩
    · have tx : Tx H4 (upd H4 Dl (.lst (acc ++ [y]))) := Tx.lst (e4 _ _ hDl)
      exact (TdAll.tx ((Tx.of e4).trans tx) _ _ hA).snoc (Td.tx tx _ _ hy)
    · rcases List.mem_append.mp hd2 with z | z
      · exact hR d2 z
      · rw [List.mem_singleton.mp z]
        exact r
  · rintro H2 ⟨acc, es, e2, hDl, hA, hes, hR⟩
    exact q Dl H2 acc es ⟨by rw [hes, hT1.len], hR⟩ (fresh_back e1 hD) (e1.trans e2) hDl hA⟩
/-- {k1: v1, k2: v2}[k] -/
theorem ev_disp2 {k1 k2 k : Str} {v1 v2 v : V} (hne : k1 ≠ k2) (hb : Ev tb σ H (.str k)) (hv : (k = k1 ∧ v = v1) ∨ (k = k2 ∧ v = v2)) : Ev (tDGet (tDisp [(tC (.str k1), tC v1), (tC (.str k2), tC v2)]) tb) σ H v := fun H1 e Q q => fun p hp => by
  refine ⟨upd_same, [(Sum.inr k1, v1), (Sum.inr k2, v2)], rfl, by show 2 ≤ 15; decide, ?_⟩
  have hne2 : ¬ (Sum.inr k1 : Key) = Sum.inr k2 := fun z => hne (Sum.inr.inj z)
  have hm : mergeK [] [((Sum.inr k1 : Key), v1), (Sum.inr k2, v2)] = [(Sum.inr k1, v1), (Sum.inr k2, v2)] := by
    unfold mergeK
    simp only [List.foldl_cons, List.foldl_nil, putK, List.any_nil, List.any_cons, Bool.or_false, Bool.false_eq_true, if_false, List.nil_append, decide_eq_true_eq, hne2, List.cons_append, Bool.or_self, decide_false]
  have e1 : Ex H1 (upd (upd H1 p (.dK [])) p (.dK (mergeK [] [((Sum.inr k1 : Key), v1), (Sum.inr k2, v2)]))) := Ex.mut (Ex.new hp) hp
  refine hb _ (e.trans e1) _ fun H2 e2 => ⟨p, v, rfl, ?_, q H2 (e1.trans e2)⟩
  have g := DGet.k (k := (Sum.inr k : Key)) (e2 p _ upd_same)
  rw [hm] at g
  rcases hv with ⟨rfl, rfl⟩ | ⟨rfl, rfl⟩
  · rw [valV_pos (p := ((Sum.inr k : Key), v)) rfl] at g
    exact g
  · rw [valV_neg (p := ((Sum.inr k1 : Key), v1)) hne2, valV_pos (p := ((Sum.inr k : Key), v)) rfl] at g
    exact g
end
end Wt

set_option Elab.async false
set_option linter.all false
set_option maxRecDepth 100000
set_option maxHeartbeats 4000000
/-! enumerate(tuple). -/
namespace Wt
open PySem PySem.Spec PyProof.Rows L2 SX Evl
set_option maxHeartbeats 4000000 in
theorem meets_enumerate_newT {v : Value} {o : Obj} {H : Heap → Prop} (B : Begins v o H) :
    Meets (Builtin.«enumerate.__new__» ⟨[.type "enumerate", v], []⟩) (fun _ R s => H s.heap ∧
      R (.ok (.ret (.ref (s.heap.push o).objs.size))) { s with heap := (s.heap.push o).push { cls := .type "enumerate", data := .fields #[.none, .bool false, .ref s.heap.objs.size, rawInt 0, .none, .none] } }) :=
  .of_wp fun prog w A R s h => by
    obtain ⟨hp, g, d, tk, os⟩ := s; obtain ⟨h1, h⟩ := h
    have hsub := sub_enumerate
    have q1 : ∀ {A' : Around} {E : Value → Shared → Prop} {Q : Value → Shared → Prop}, Q (.ref hp.objs.size) ⟨hp.push o, g, d, tk, os⟩ → wpAny (model prog w) A' (pyIter v) Q E ⟨hp, g, d, tk, os⟩ :=
      fun q => B.iter prog w _ _ ⟨hp, g, d, tk, os⟩ _ h1 q
    wp_walk using q1
    refine wpAny_stack_any fun st => wpAny_pure ?_
    split
    · rename_i c _ _ _ _ _
      cases (c == Value.type "enumerate")
      · wp_walk using q1
        exact ⟨_, rfl, h⟩
      · wp_walk using q1
        exact ⟨_, rfl, h⟩
    · wp_walk using q1
      exact ⟨_, rfl, h⟩
section
variable {prog : Program} {w : World} {A : Around} {E : Value → Shared → Prop} {s : Shared}
theorem enum_begins1 {v : Value} {o : Obj} {H : Heap → Prop} {Q : Value → Shared → Prop} (B : Begins v o H) (h1 : H s.heap)
    (h : ∀ h', IsEnum h' (s.heap.objs.size + 1) s.heap.objs.size 0 .none → h'.get? s.heap.objs.size = some o → h'.objs.size = s.heap.objs.size + 2 →
      (∀ b o, s.heap.get? b = some o → h'.get? b = some o) → Q (.ref (s.heap.objs.size + 1)) { s with heap := h' }) :
    wpAny (model prog w) A (call (.type "enumerate") [v]) Q E s := by
  refine callType_new F.called_enumerate (by decide) (F.typeCall_enumerate_1 _) (F.newCall_enumerate_1 _) (fun obj => F.args_object_init_2 obj _) F.entry_enumerate_new
    (meets_enumerate_newT B) ⟨h1, ?_⟩
  have hz : (s.heap.push o).objs.size = s.heap.objs.size + 1 := Heap.size_push ..
  show _ ∧ _
  rw [hz]
  have he : IsEnum ((s.heap.push o).push { cls := .type "enumerate", data := .fields #[.none, .bool false, .ref s.heap.objs.size, rawInt 0, .none, .none] }) (s.heap.objs.size + 1) s.heap.objs.size 0 .none := by
    have := Heap.get?_push_size (s.heap.push o) (o := { cls := .type "enumerate", data := .fields #[.none, .bool false, .ref s.heap.objs.size, rawInt 0, .none, .none] }) rfl
    rw [hz] at this; exact this
  refine ⟨⟨_, he, rfl⟩, h _ he (Heap.get?_push_of_some _ (Heap.get?_push_size _ B.free)) (by rw [Heap.size_push, hz]) fun b o x => Heap.get?_push_of_some _ (Heap.get?_push_of_some _ x)⟩
end
/-- the tuple at a, each item in a new pair behind its number -/
def Itet (K : PySem.W.Frag) (a : Addr) : It :=
  ⟨fun i H => ∃ (xs : List V) (x : V), SqT K H a xs ∧ xs[i]? = some x, fun i H v H' => ∃ T x, v = .ref T ∧ H T = none ∧ H' = upd H T (.tup [.int (i : Nat), x]) ∧ ∀ xs, SqT K H a xs → xs[i]? = some x, fun i H => ∃ xs : List V, SqT K H a xs ∧ xs.length ≤ i⟩
theorem turn_enumT {P : Program} {w : World} {K : PySem.W.Frag} {elts : List Expr} {kk : Nat} {tpos : Pos} (a e it : Addr) (hai : a ≠ it) (hae : a ≠ e) :
    Turn P w K (.Tuple elts kk tpos) (Itet K a) [e, it] e (fun i h => (∃ old, IsEnum h e it ((i : Nat) : Int) old) ∧ h.IsTupleIter it a i ∧ e ≠ it) where
  mem := List.mem_cons_self ..
  obj := by
    rintro i h ⟨⟨old, he⟩, ⟨o, ho, hc, hd⟩, _⟩ b hb
    rcases List.mem_cons.mp hb with rfl | hb
    · exact ⟨_, he, fun v q => nomatch q⟩
    · rw [List.mem_singleton.mp hb]
      exact ⟨o, ho, fun v q => by rw [hd] at q; cases q⟩
  keep := by
    rintro i h h2 ⟨⟨old, he⟩, hi, hne⟩ kp
    exact ⟨⟨old, kp e (List.mem_cons_self ..) _ he⟩, hi.at fun o q => kp it (List.mem_cons_of_mem _ (List.mem_singleton.mpr rfl)) o q, hne⟩
  item := by
    intro X hP hw hK hc i pins s σ H E I hf st hg
    subst hP hw hK
    obtain ⟨⟨old, he⟩, hit, hne⟩ := st
    obtain ⟨xs, x, hq, hx⟩ := hg
    obtain ⟨its, rv, p, hz⟩ := I.tuple hq
    obtain ⟨u, hu, ru⟩ := rv.get hx
    have hel : e < s.heap.objs.size := Heap.lt_size he
    have hil : it < s.heap.objs.size := by
      obtain ⟨_, q, _⟩ := hit
      exact Heap.lt_size q
    have hlt : i < its.toArray.size := by
      have := (List.getElem?_eq_some_iff.mp hu).1
      rw [List.size_toArray]
      exact this
    refine wpAny_pyNext_enum_itemC (Draws.tuple (prog := X.prog) (w := X.w) (A := X.A.in1) (show X.A.in1.handled = none from I.ok.hd hc) it a hai its.toArray) he ⟨hit, show s.heap.IsTuple a its.toArray from p⟩ hlt hne (fun m => ?_) fun y h2 tk hy ho st2 hT hsz hk => ?_
    · rcases List.mem_cons.mp m with z | z
      · exact hne z
      · exact hae (List.mem_singleton.mp z).symm
    have hyu : y = u := by
      have z : its[i]? = some y := by simpa using hy
      rw [hu] at z
      exact (Option.some.inj z).symm
    subst hyu
    refine ⟨_, rfl, wpAny_letOwnedTupleGo_enum (s := { s with heap := h2, toks := tk + 1 }) ho fun h3 he3 sb => ?_⟩
    have hT2 := (sb.2 s.heap.objs.size (Nat.ne_of_gt hel)).trans hT
    have new : ObjOk X.prog X.w (upd H s.heap.objs.size (.tup [.int (i : Nat), x])) h3 s.heap.objs.size (.tup [.int (i : Nat), x]) :=
      ⟨by show 2 ≤ sizeLine; decide, [.int (i : Nat) tk, y], .cons ⟨_, rfl⟩ (.cons ru .nil), ⟨_, hT2, rfl, _, rfl⟩⟩
    have I1 := I.turnedNew (h' := h3) (t' := tk + 1) (ch := [e, it]) (fun b ob hb q => by
      have n1 : b ≠ e := fun z => hb (z ▸ List.mem_cons_self ..)
      have n2 : b ≠ it := fun z => hb (z ▸ List.mem_cons_of_mem _ (List.mem_singleton.mpr rfl))
      exact (sb.2 b n1).trans (hk b ob n1 n2 q)) hf (Nat.le_refl _) new
    refine ⟨.ref s.heap.objs.size, _, I1, rfl, ⟨_, x, rfl, I.hok.fresh (Nat.le_refl _), rfl, fun ys hy2 => ?_⟩, ⟨⟨y, ?_⟩, ?_, hne⟩, fun b hb => ?_⟩
    · rw [I.tuple_inj hy2 hq]
      exact hx
    · have e1 : ((i + 1 : Nat) : Int) = (i : Int) + 1 := by omega
      rw [e1]
      exact he3
    · exact st2.1.at fun o q => (sb.2 it (Ne.symm hne)).trans q
    · have hb2 : b < s.heap.objs.size := by
        rcases List.mem_cons.mp hb with rfl | z
        · exact hel
        · rw [List.mem_singleton.mp z]
          exact hil
      rw [upd_ne (Nat.ne_of_lt hb2)]
      exact (hf b hb).1
  done := by
    intro X hP hw hK hc i pins s σ H E I hf st hg
    subst hP hw hK
    obtain ⟨⟨old, he⟩, hit, hne⟩ := st
    obtain ⟨xs, hq, hx⟩ := hg
    obtain ⟨its, rv, p, hz⟩ := I.tuple hq
    obtain ⟨f0, f1, f2, f3, f4, f5⟩ := hf it (List.mem_cons_of_mem _ (List.mem_singleton.mpr rfl))
    have hl := rv.length
    have hT : s.TypeIs (.ref e) "enumerate" := ⟨_, he, rfl⟩
    have hnone : its.toArray[i]? = none := by
      simp
      omega
    unfold pyNext
    refine wpAny_bind (wpAny_attempt (wpAny_callSpecial?_slot (name := Str.ofString "__next__") hT PySem.F.slot_enumerate_next
      (wpAny_call_entry PySem.F.slot_enumerate_next hT PySem.F.entry_enumerate_next ?_ (PySem.F.args_enumerate_next_1 _))))
    show wpAny _ _ (field (.ref e) 2 >>= _) _ _ _
    refine wpAny_bind (wpAny_field he rfl (x := .ref it) rfl (wpAny_bind (wpAny_nextOf_tuple_end (I.ok.hd hc) hit (show s.heap.IsTuple a its.toArray from p) hnone fun h2 x2 hE2 hx2 => ?_)))
    obtain ⟨o2, ho2, hc2⟩ := hx2
    exact wpAny_bind (wpAny_isInstance (T := "StopIteration") (b := true) ⟨o2, ho2, hc2⟩ isSubtype_stop
      (wpAny_pure ⟨rfl, I.turned (t' := s.toks) (fun b o hb q => hE2 b o hb q) f0 f1 f3 f4 f5⟩))
  self := by
    rintro A i s Q E ⟨⟨_, he⟩, _⟩ h
    exact wpAny_pyIter_enum he h
def iEnumT (K : PySem.W.Frag) (ta : TA) : TI := fun σ H R => ta σ H fun vs H1 => ∃ a xs, vs = [.ref a] ∧ SqT K H1 a xs ∧ R (Itet K a) H1
theorem pi_enumT {X : Cx} {e : Expr} {ta : TA} {p pos tpos : Pos} {elts : List Expr} {kk : Nat} (hg : Gl X "enumerate") (hm : X.mg "enumerate" = none) (ha : PA X [e] ta) (hs : starEach [e] X.env = [(false, eval e X.env)] := by rfl) :
    PI X (.Tuple elts kk tpos) (.Call (.Name "enumerate" p) [e] [] pos) (iEnumT X.K ta) := by
  refine ⟨fun pins s σ H R I h => ?_⟩
  refine Call_ (ld_blt I hg hm boot_enumerate (PyProof.Rows.callWith_type1 (thn (ha.run pos pins s σ H _ I h) fun us s1 ⟨vs, H1, I1, r1, q1⟩ => ?_) hs rfl))
  obtain ⟨a, xs, ex, hq, q⟩ := q1
  subst ex
  cases r1 with
  | cons r rr =>
    cases rr
    cases r
    obtain ⟨its, rv, p', hz⟩ := I1.tuple hq
    have p2 : s1.heap.IsTuple a its.toArray := p'
    refine enum_begins1 (begins_tuple a its.toArray) p2 fun h' he hit hsz hk => wpAny_pyIter_enum he ?_
    have I2 : Inv X pins σ H1 { s1 with heap := h' } := I1.kept (t' := s1.toks) hk
    have hal : a < s1.heap.objs.size := by
      obtain ⟨o, ho, _⟩ := p2
      exact Heap.lt_size ho
    refine ⟨s1.heap.objs.size + 1, [s1.heap.objs.size + 1, s1.heap.objs.size], _, _, H1, rfl, I2, turn_enumT a (s1.heap.objs.size + 1) s1.heap.objs.size (Nat.ne_of_lt hal) (Nat.ne_of_lt (Nat.lt_succ_of_lt hal)), ⟨⟨.none, he⟩, ⟨_, hit, rfl, rfl⟩, Nat.succ_ne_self _⟩, fun b hb => ?_, q⟩
    have e' : b = s1.heap.objs.size + 1 ∨ b = s1.heap.objs.size := by simpa using hb
    have hle : s1.heap.objs.size ≤ b := by
      rcases e' with z | z
      · rw [z]; exact Nat.le_add_right _ _
      · rw [z]; exact Nat.le_refl _
    exact I1.fpOk hle (I1.hok.fresh hle)
theorem walk_enumT {K : PySem.W.Frag} {a : Addr} {xs : List V} : Walk (Itet K a) xs.length (fun H => SqT K H a xs) (YPair (fun i => some (.int (i : Nat))) (fun i => xs[i]?)) := by
  refine ⟨fun i _ hi q => ⟨xs, xs[i], q, by simp [hi]⟩, fun _ q => ⟨xs, q, Nat.le_refl _⟩, ?_⟩
  rintro i H v H' hi q ⟨T, x, rfl, hT, rfl, h⟩
  exact ⟨T, _, x, rfl, hT, rfl, rfl, h xs q⟩
end Wt

set_option Elab.async false
set_option linter.all false
set_option maxRecDepth 100000
set_option maxHeartbeats 4000000
/-! Readings: a dict made and walked, enumerate(tuple), comprehensions of data. -/
namespace Wt
open PySem PySem.Spec PyProof.Rows L2 SX Evl
/-- a thing that is made while an expression is worked out, locked from then on -/
def tFrz (t : TE) : TE := fun σ H Q => t σ H fun x H1 => ∃ d u, x = .ref d ∧ H1 d = some u ∧ Mut (some u) ∧ ∀ od, Q x (upd H1 d (.frz od u))
theorem pe_frz {X : Cx} {e : Expr} {t : TE} (h : PE X e t) : PE X e (tFrz t) := by
  refine ⟨fun pins s σ H Q I hw => ?_⟩
  refine thn (h.run pins s σ _ _ I hw) fun v s1 ⟨x, H1, I1, r, q⟩ => ?_
  obtain ⟨d, u, rfl, hd, mu, q⟩ := q
  obtain ⟨od, I2⟩ := I1.lock hd mu
  exact ⟨_, _, I2, r, q od⟩
/-- a new list of data -/
def RetDL (ds : List PyData) (H : Hp) (Q : VK) : Prop := ∀ p H2 vs, H p = none → Ex H H2 → H2 p = some (.lst vs) → TdAll H2 vs ds → Q (.ref p) H2
section
variable {K : PySem.W.Frag} {σ : L2.St} {H H' : Hp} {ta tb te tl t0 t1 t2 tv : TE} {tr : TA} {D : Ends} {tz tu : TS} {E : XK} {R : PyData → Prop}
/-- t[j], t a tuple of data -/
theorem ev_ixTd {v : V} {ds : List PyData} {j : Nat} {d : PyData} (ha : Ev ta σ H v) (hv : Td H v (.tuple ds)) (hb : Ev tb σ H (.int (j : Int))) (hj : ds[j]? = some d) : ∃ x, Td H x d ∧ Ev (tOp (rIxT K) ta tb) σ H x := by
  cases hv with
  | @tup a xs _ h1 h2 =>
    obtain ⟨x, hx, hT⟩ := td_get h2 hj
    exact ⟨x, hT, ev_op ha hb (rv_ixT (st_of h1) (atI_nat hx))⟩
theorem ed_ixTd {v : V} {ds : List PyData} {j : Nat} {d : PyData} (ha : Ev ta σ H v) (hv : Td H v (.tuple ds)) (hb : Ev tb σ H (.int (j : Int))) (hj : ds[j]? = some d) : EvD (tOp (rIxT K) ta tb) σ H d := by
  obtain ⟨x, hT, h⟩ := ev_ixTd (K := K) ha hv hb hj
  exact ed_of h hT
theorem ev_ixTs {v : V} {ds : List PyData} {j : Nat} {x : Str} (ha : Ev ta σ H v) (hv : Td H v (.tuple ds)) (hb : Ev tb σ H (.int (j : Int))) (hj : ds[j]? = some (.str x)) : Ev (tOp (rIxT K) ta tb) σ H (.str x) := by
  obtain ⟨x, hT, h⟩ := ev_ixTd (K := K) ha hv hb hj
  cases hT
  exact h
theorem ev_ixTi {v : V} {ds : List PyData} {j : Nat} {x : Int} (ha : Ev ta σ H v) (hv : Td H v (.tuple ds)) (hb : Ev tb σ H (.int (j : Int))) (hj : ds[j]? = some (.int x)) : Ev (tOp (rIxT K) ta tb) σ H (.int x) := by
  obtain ⟨x, hT, h⟩ := ev_ixTd (K := K) ha hv hb hj
  cases hT
  exact h
/-- for i, x in enumerate(t) -/
theorem q_forEnumT {a : Addr} {xs : List V} {i j : Nat} (h : Ev tl σ H (.ref a)) (hx : SqT K H a xs) (Pv : Nat → L2.St → Hp → Prop) (h0 : ∀ H1, Ex H H1 → Pv 0 σ H1) (hl : ∀ k σ' H', k ≤ xs.length → Pv k σ' H' → SqT K H' a xs)
    (hs : ∀ k x σ' H' H1, xs[k]? = some x → Pv k σ' H' → Ex H' H1 → tu { D with nx := Pv (k + 1), ct := Pv (k + 1), bk := tz D } ((σ'.set i (some (.int (k : Int)))).set j (some x)) H1) (hd : ∀ σ' H', Pv xs.length σ' H' → tz D σ' H') :
    tSeq (tFor (iEnumT K (tCons tl tNil)) (gTup K 2 (gCons (gName i) (gCons (gName j) gNil))) tu) tz D σ H := h H (Ex.refl H) _ fun H1 e1 => ⟨a, xs, rfl, ex_t e1 hx, by
  refine for_it (D := { D with nx := tz D }) (walk_enumT (K := K) (a := a) (xs := xs)) Pv (h0 H1 e1) (fun k σ' H' hk p => hl k σ' H' hk p) ?_ hd
  rintro k v σ' H2 H3 hk p ⟨T, x, y, rfl, hT, rfl, hx1, hy⟩
  cases hx1
  exact ⟨T, [.int (k : Int), y], rfl, st_of upd_same, rfl, .int (k : Int), [y], rfl, y, [], rfl, rfl, hs k y σ' H2 _ hy p (Ex.new hT)⟩⟩
/-- [e for x in t] over a tuple of data -/
theorem edl_lcT {a : Addr} {xs : List V} {ds : List PyData} {j : Nat} {vs : List Nat} {f : PyData → PyData} (h : Ev tl σ H (.ref a)) (hx : H a = some (.tup xs)) (hT : TdAll H xs ds) (hz : ds.length ≤ 40000) (hw : ∀ x, wipe ((wipe σ vs).set j (some x)) vs = wipe σ vs)
    (he : ∀ (x : V) (d : PyData) H1, Ex H H1 → d ∈ ds → Td H1 x d → EvD te ((wipe σ vs).set j (some x)) H1 (f d)) : EvDL (tLc (iTup K tl) (gName j) tYes te vs) σ H (ds.map f) := fun H0 e Q q => h H0 e _ fun H1 e1 => ⟨a, rfl, ⟨xs, st_of ((e.trans e1) _ _ hx)⟩, fun Dl hD => by
  have hx1 := (e.trans e1) _ _ hx
  have hT1 := TdAll.tx (Tx.of (e.trans e1)) _ _ hT
  refine lc_it (walk_tup (K := K) (a := a) (xs := xs)) (fun i H' => ∃ acc, Ex H1 H' ∧ H' Dl = some (.lst acc) ∧ TdAll H' acc ((ds.take i).map f)) ⟨[], Ex.new hD, upd_same, .nil⟩ (fun _ H' _ ⟨_, e2, _⟩ => st_of (e2 _ _ hx1)) ?_ ?_
  · rintro i x H2 H3 hi ⟨acc, e2, hDl, hA⟩ ⟨rfl, hxi⟩
    refine ⟨hw x, ?_⟩
    have hlen := hT1.len
    have hi2 : i < ds.length := by omega
    have hd : ds[i]? = some ds[i] := List.getElem?_eq_getElem hi2
    obtain ⟨v, hv, hTv⟩ := td_get hT1 hd
    rw [hxi] at hv
    cases hv
    show te ((wipe σ vs).set j (some x)) H3 _
    refine he x ds[i] H3 ((e.trans e1).trans e2) (List.getElem_mem hi2) (Td.tx (Tx.of e2) _ _ hTv) H3 (Ex.refl _) _ fun y H4 e4 hy => ?_
    have hal := hA.len
    rw [List.length_map, List.length_take] at hal
    refine ⟨acc, e4 _ _ hDl, sz_lt (by omega), acc ++ [y], Ex.mut (e2.trans e4) hD, upd_same, ?_⟩
    have tx : Tx H4 (upd H4 Dl (.lst (acc ++ [y]))) := Tx.lst (e4 _ _ hDl)
    rw [List.take_succ, hd, List.map_append]
    exact (TdAll.tx ((Tx.of e4).trans tx) _ _ hA).snoc (Td.tx tx _ _ hy)
  · rintro H2 ⟨acc, e2, hDl, hA⟩
    rw [hT1.len, List.take_length] at hA
    exact q Dl H2 acc (fresh_back e1 hD) (e1.trans e2) hDl hA⟩
/-- [e for x in l] over a list of data -/
theorem edl_lcL {a : Addr} {xs : List V} {ds : List PyData} {j : Nat} {vs : List Nat} {f : PyData → PyData} (h : Ev tl σ H (.ref a)) (hx : H a = some (.lst xs)) (hT : TdAll H xs ds) (hz : ds.length ≤ 40000) (hw : ∀ x, wipe ((wipe σ vs).set j (some x)) vs = wipe σ vs)
    (he : ∀ (x : V) (d : PyData) H1, Ex H H1 → d ∈ ds → Td H1 x d → EvD te ((wipe σ vs).set j (some x)) H1 (f d)) : EvDL (tLc (iList K tl) (gName j) tYes te vs) σ H (ds.map f) := fun H0 e Q q => h H0 e _ fun H1 e1 => ⟨a, rfl, ⟨xs, sq_of ((e.trans e1) _ _ hx)⟩, fun Dl hD => by
  have hx1 := (e.trans e1) _ _ hx
  have hT1 := TdAll.tx (Tx.of (e.trans e1)) _ _ hT
  refine lc_it (walk_list (K := K) (a := a) (xs := xs)) (fun i H' => ∃ acc, Ex H1 H' ∧ H' Dl = some (.lst acc) ∧ TdAll H' acc ((ds.take i).map f)) ⟨[], Ex.new hD, upd_same, .nil⟩ (fun _ H' _ ⟨_, e2, _⟩ => sq_of (e2 _ _ hx1)) ?_ ?_
  · rintro i x H2 H3 hi ⟨acc, e2, hDl, hA⟩ ⟨rfl, hxi⟩
    refine ⟨hw x, ?_⟩
    have hlen := hT1.len
    have hi2 : i < ds.length := by omega
    have hd : ds[i]? = some ds[i] := List.getElem?_eq_getElem hi2
    obtain ⟨v, hv, hTv⟩ := td_get hT1 hd
    rw [hxi] at hv
    cases hv
    show te ((wipe σ vs).set j (some x)) H3 _
    refine he x ds[i] H3 ((e.trans e1).trans e2) (List.getElem_mem hi2) (Td.tx (Tx.of e2) _ _ hTv) H3 (Ex.refl _) _ fun y H4 e4 hy => ?_
    have hal := hA.len
    rw [List.length_map, List.length_take] at hal
    refine ⟨acc, e4 _ _ hDl, sz_lt (by omega), acc ++ [y], Ex.mut (e2.trans e4) hD, upd_same, ?_⟩
    have tx : Tx H4 (upd H4 Dl (.lst (acc ++ [y]))) := Tx.lst (e4 _ _ hDl)
    rw [List.take_succ, hd, List.map_append]
    exact (TdAll.tx ((Tx.of e4).trans tx) _ _ hA).snoc (Td.tx tx _ _ hy)
  · rintro H2 ⟨acc, e2, hDl, hA⟩
    rw [hT1.len, List.take_length] at hA
    exact q Dl H2 acc (fresh_back e1 hD) (e1.trans e2) hDl hA⟩
/-- .. over a list that is new -/
theorem edl_lcDL {ds : List PyData} {j : Nat} {vs : List Nat} {f : PyData → PyData} (h : EvDL tl σ H ds) (hz : ds.length ≤ 40000) (hw : ∀ x, wipe ((wipe σ vs).set j (some x)) vs = wipe σ vs)
    (he : ∀ (x : V) (d : PyData) H1, Ex H H1 → d ∈ ds → Td H1 x d → EvD te ((wipe σ vs).set j (some x)) H1 (f d)) : EvDL (tLc (iList K tl) (gName j) tYes te vs) σ H (ds.map f) := fun H0 e Q q => h H0 e _ fun a H1 xs ha e1 hx1 hT1 => ⟨a, rfl, ⟨xs, sq_of hx1⟩, fun Dl hD => by
  refine lc_it (walk_list (K := K) (a := a) (xs := xs)) (fun i H' => ∃ acc, Ex H1 H' ∧ H' Dl = some (.lst acc) ∧ TdAll H' acc ((ds.take i).map f)) ⟨[], Ex.new hD, upd_same, .nil⟩ (fun _ H' _ ⟨_, e2, _⟩ => sq_of (e2 _ _ hx1)) ?_ ?_
  · rintro i x H2 H3 hi ⟨acc, e2, hDl, hA⟩ ⟨rfl, hxi⟩
    refine ⟨hw x, ?_⟩
    have hlen := hT1.len
    have hi2 : i < ds.length := by omega
    have hd : ds[i]? = some ds[i] := List.getElem?_eq_getElem hi2
    obtain ⟨v, hv, hTv⟩ := td_get hT1 hd
    rw [hxi] at hv
    cases hv
    show te ((wipe σ vs).set j (some x)) H3 _
    refine he x ds[i] H3 ((e.trans e1).trans e2) (List.getElem_mem hi2) (Td.tx (Tx.of e2) _ _ hTv) H3 (Ex.refl _) _ fun y H4 e4 hy => ?_
    have hal := hA.len
    rw [List.length_map, List.length_take] at hal
    refine ⟨acc, e4 _ _ hDl, sz_lt (by omega), acc ++ [y], Ex.mut (e2.trans e4) hD, upd_same, ?_⟩
    have tx : Tx H4 (upd H4 Dl (.lst (acc ++ [y]))) := Tx.lst (e4 _ _ hDl)
    rw [List.take_succ, hd, List.map_append]
    exact (TdAll.tx ((Tx.of e4).trans tx) _ _ hA).snoc (Td.tx tx _ _ hy)
  · rintro H2 ⟨acc, e2, hDl, hA⟩
    rw [hT1.len, List.take_length] at hA
    exact q Dl H2 acc (fresh_back e1 hD) (e1.trans e2) hDl hA⟩
theorem s_retDL {ds : List PyData} {Q : VK} (h : EvDL te σ H ds) (hq : D.rt = Q) (q : RetDL ds H Q) : tRet te D σ H := h H (Ex.refl H) _ fun p H1 vs hp e h1 hT => by
  rw [hq]
  exact q p H1 vs hp e h1 hT
theorem RetDL.go {ds : List PyData} {Q : VK} (k : RetDL ds H Q) (e : Ex H H') : RetDL ds H' Q := fun p H2 vs hp e2 h hT => k p H2 vs (fresh_back e hp) (e.trans e2) h hT
theorem eqW {a b : Str} (ha : Ev ta σ H (.str a)) (hb : Ev tb σ H (.str b)) : Ev (tOp rEq ta tb) σ H (.bl (decide (V.str a = V.str b))) := ev_op ha hb (rv_eq rfl)
/-- a comprehension of a dict over a walk -/
theorem dc_it {J : It} {n : Nat} {G : Hp → Prop} {Y : Nat → Hp → V → Hp → Prop} (w : Walk J n G Y) {g : TG} {tt : TT} {tk tv : TE} {vs : List Nat} {σ : L2.St} {H1 : Hp} {D : Addr} {Qd : Hp → Prop} (Pv : Nat → Hp → Prop) (h0 : Pv 0 (upd H1 D (.dK []))) (hG : ∀ i H, i ≤ n → Pv i H → G H)
    (hs : ∀ i x H H', i < n → Pv i H → Y i H x H' → g x (wipe σ vs) H' fun σ2 H2 => wipe σ2 vs = wipe σ vs ∧ tt σ2 H2 fun b H3 =>
      if b = true then tk σ2 H3 fun y H4 => tv σ2 H4 fun z H5 => ∃ kvs k, y = kV k ∧ H5 D = some (.dK kvs) ∧ kvs.length < sizeLine ∧ Pv (i + 1) (upd H5 D (.dK (putK kvs k z))) else Pv (i + 1) H3) (hd : ∀ H, Pv n H → Qd H) :
    ∃ W : Nat → Nat → Hp → Prop, (∃ m, W 0 m (upd H1 D (.dK []))) ∧ ∀ i m H, W i m H →
      (J.stop i H ∧ Qd H) ∨ (J.go i H ∧ ∃ Nx : Hp → Prop, (∀ H', Nx H' → ∃ m', m' < m ∧ W (i + 1) m' H') ∧ ∀ x H', J.yld i H x H' → g x (wipe σ vs) H' fun σ2 H2 => wipe σ2 vs = wipe σ vs ∧ tt σ2 H2 fun b H3 =>
        if b = true then tk σ2 H3 fun y H4 => tv σ2 H4 fun z H5 => ∃ kvs k, y = kV k ∧ H5 D = some (.dK kvs) ∧ kvs.length < sizeLine ∧ Nx (upd H5 D (.dK (putK kvs k z))) else Nx H3) := by
  refine ⟨fun i m H => m = n - i ∧ i ≤ n ∧ Pv i H, ⟨n, by simp, Nat.zero_le _, h0⟩, ?_⟩
  rintro i m H ⟨rfl, hi, p⟩
  have q := hG i H hi p
  by_cases hlt : i < n
  · refine .inr ⟨w.goes i H hlt q, Pv (i + 1), fun H' p' => ⟨n - (i + 1), by omega, rfl, hlt, p'⟩, fun x H' y => hs i x H H' hlt p (w.yields i H x H' hlt q y)⟩
  · have e : i = n := by omega
    subst e
    exact .inl ⟨w.stops H q, hd H p⟩
theorem putK_new {kvs : List (Key × V)} {k : Key} {v : V} (h : k ∉ kvs.map Prod.fst) : putK kvs k v = kvs ++ [(k, v)] := by
  unfold putK
  rw [if_neg]
  intro z
  obtain ⟨p, hp, e⟩ := List.any_eq_true.mp z
  exact h (List.mem_map.mpr ⟨p, hp, of_decide_eq_true e⟩)
/-- numbers as keys -/
def intKv (l : List (Int × Nat)) (f : Nat → Nat) : List (Key × V) := l.map fun p => ((Sum.inl p.1 : Key), V.int (f p.2 : Int))
theorem intKv_val (f : Nat → Nat) (k : Int) : ∀ l : List (Int × Nat), valV (intKv l f) (Sum.inl k : Key) = (l.lookup k).map fun i => V.int (f i : Int)
  | [] => rfl
  | (a, b) :: l => by
    have ih := intKv_val f k l
    show valV (((Sum.inl a : Key), V.int (f b : Int)) :: intKv l f) (Sum.inl k) = _
    by_cases h : k = a
    · subst h
      rw [valV_pos (p := ((Sum.inl k : Key), V.int (f b : Int))) rfl]
      simp [List.lookup]
    · have hne : ¬ (Sum.inl a : Key) = Sum.inl k := fun z => h (Sum.inl.inj z).symm
      rw [valV_neg (p := ((Sum.inl a : Key), V.int (f b : Int))) hne, ih]
      have h2 : (k == a) = false := by simpa using h
      simp [List.lookup, h2]
theorem intKv_keys (f : Nat → Nat) (l : List (Int × Nat)) : (intKv l f).map Prod.fst = (l.map Prod.fst).map Sum.inl := by
  unfold intKv
  rw [List.map_map, List.map_map]
  rfl
theorem ev_dgetI {kvs : List (Key × V)} {a : Addr} {k : Int} {v : V} (ha : Ev ta σ H (.ref a)) (hb : Ev tb σ H (.int k)) (h : H a = some (.dK kvs)) (hv : valV kvs (Sum.inl k : Key) = some v) : Ev (tDGet ta tb) σ H v := fun H1 e Q q =>
  ha H1 e _ fun H2 e2 => hb H2 (e.trans e2) _ fun H3 e3 => ⟨a, v, rfl, by
    have g := DGet.k (k := (Sum.inl k : Key)) ((e2.trans e3) a _ (e a _ h))
    rw [hv] at g
    exact g, q H3 (e2.trans e3)⟩
/-- l.extend(new) -/
theorem q_extDL {l : Addr} {xs : List V} {ds : List PyData} (hl : H l = some (.lst xs)) (ha : Ev ta σ H (.ref l)) (h : EvDL te σ H ds) (hz : xs.length + ds.length ≤ 100000) (k : ∀ vs H1, Ex H H1 → TdAll H1 vs ds → tz D σ (upd H1 l (.lst (xs ++ vs)))) :
    tSeq (tDrop (tBM K "list" rExtend ta (tCons te tNil))) tz D σ H := ha H (Ex.refl H) _ fun H1 e1 =>
  ⟨Or.inl ⟨rfl, xs, sq_of (e1 l _ hl)⟩, h H1 e1 _ fun p H2 vs hp e2 hpl hT => ⟨l, p, xs, vs, rfl, rfl, e2 l _ (e1 l _ hl), hpl, sz_of (by rw [hT.len]; exact hz), k vs H2 (e1.trans e2) hT⟩⟩
theorem s_extDL {l : Addr} {xs : List V} {ds : List PyData} (hl : H l = some (.lst xs)) (ha : Ev ta σ H (.ref l)) (h : EvDL te σ H ds) (hz : xs.length + ds.length ≤ 100000) (k : ∀ vs H1, Ex H H1 → TdAll H1 vs ds → D.nx σ (upd H1 l (.lst (xs ++ vs)))) :
    tDrop (tBM K "list" rExtend ta (tCons te tNil)) D σ H := q_extDL (D := D) (tz := tNext) hl ha h hz k
theorem edl_callRet {sp : Sp} {vs : List V} {ds : List PyData} (h : EvA tr σ H vs) (hs : ∀ H1, Ex H H1 → ∀ Q : VK, RetDL ds H1 Q → sp vs H1 Q E) : EvDL (tCall sp [] E tr) σ H ds := fun H1 e Q q => h H1 e _ fun H2 e2 => by
  rw [List.append_nil]
  exact hs H2 (e.trans e2) Q fun p H3 ws hp e3 h3 hT => q p H3 ws (fresh_back e2 hp) (e2.trans e3) h3 hT
/-- t + u, both of data -/
theorem ed_catA {va : V} {ds1 ds2 : List PyData} (ha : Ev ta σ H va) (hv : Td H va (.tuple ds1)) (h1 : ds1 ≠ []) (l1 : ds1.length ≤ 100) (hb : EvD tb σ H (.tuple ds2)) (h2 : ds2 ≠ []) (l2 : ds2.length ≤ 100) : EvD (tOp (rCatA K) ta tb) σ H (.tuple (ds1 ++ ds2)) := fun H1 e Q q => ha H1 e _ fun H2 e2 => hb H2 (e.trans e2) _ fun v H3 e3 hw => by
  have hv3 := Td.tx (Tx.of ((e.trans e2).trans e3)) _ _ hv
  cases hv3 with
  | @tup a xs _ hx1 hx2 =>
    cases hw with
    | @tup b ys _ hy1 hy2 =>
      have lx := hx2.len
      have ly := hy2.len
      have nx : xs ≠ [] := fun z => h1 (by rw [z] at hx2; cases hx2; rfl)
      have ny : ys ≠ [] := fun z => h2 (by rw [z] at hy2; cases hy2; rfl)
      exact ⟨a, b, xs, ys, rfl, rfl, st_of hx1, st_of hy1, sz_of (by omega), fun z => absurd z nx, fun _ z => absurd z ny, fun _ _ p hp => q _ _ ((e2.trans e3).trans (Ex.new hp)) (.tup upd_same (TdAll.tx (Tx.of (Ex.new hp)) _ _ (hx2.app hy2)))⟩
theorem et_notNone {v : V} {b : Bool} (h : Ev te σ H v) (e : (!decide (v = .non)) = b) : EvT (tTest (tOp (fun x y H Q => y = .non ∧ Q (.bl (!decide (x = .non))) H) te (tC .non))) σ H b := et_test (ev_is (ev_op h ev_c fun H1 _ Q q => ⟨rfl, q H1 (Ex.refl H1)⟩) (congrArg V.bl e))
theorem et_isNone {v : V} {b : Bool} (h : Ev te σ H v) (e : decide (v = .non) = b) : EvT (tTest (tOp (fun x y H Q => y = .non ∧ Q (.bl (decide (x = .non))) H) te (tC .non))) σ H b := et_test (ev_is (ev_op h ev_c fun H1 _ Q q => ⟨rfl, q H1 (Ex.refl H1)⟩) (congrArg V.bl e))
/-- a, b, .. = a tuple -/
theorem q_unpack {n : Nat} {gs : TGs} {a : Addr} {xs : List V} (h : Ev te σ H (.ref a)) (ha : H a = some (.tup xs)) (hn : xs.length = n) (k : ∀ H1, Ex H H1 → gs xs σ H1 fun σ' H' => tz D σ' H') : tSeq (tAsg te (gTup K n gs)) tz D σ H :=
  h H (Ex.refl H) _ fun H1 e1 => ⟨a, xs, rfl, st_of (e1 _ _ ha), hn, k H1 e1⟩
theorem eqWT {a b c : Str} {r : Bool} (ha : Ev ta σ H (.str a)) (hb : Ev tb σ H (.str b)) (e : a = c) (h : decide (c = b) = r) : EvT (tTest (tOp rEq ta tb)) σ H r := by
  subst e h
  refine et_test (ev_is (ev_op ha hb (rv_eq rfl)) (congrArg V.bl ?_))
  by_cases z : a = b
  · subst z
    rw [decide_eq_true rfl, decide_eq_true rfl]
  · rw [decide_eq_false z, decide_eq_false fun y => z (V.str.inj y)]
theorem inWT {p : Addr} {xs : List V} {a c : Str} {r : Bool} (ha : Ev ta σ H (.str a)) (hb : Ev tb σ H (.ref p)) (hp : SqT K H p xs) (hf : xs.all flatV = true) (e : a = c) (h : inV (.str c) xs = r) : EvT (tTest (tOp (rIn K false) ta tb)) σ H r := by
  subst e h
  exact et_test (ev_op ha hb (rv_isT hp rfl hf))
theorem inWU {xs : List V} {a c : Str} {r : Bool} (ha : Ev ta σ H (.str a)) (hb : EvU tb σ H xs) (hf : xs.all flatV = true) (e : a = c) (h : inV (.str c) xs = r) : EvT (tTest (tOp (rIn K false) ta tb)) σ H r := by
  subst e h
  exact et_test (ev_inU ha hb rfl hf)
theorem ev_lenT {p : Addr} {xs : List V} (ha : Ev ta σ H (.ref p)) (h : SqT K H p xs) : Ev (tCB (rLenS K) (tCons ta tNil)) σ H (.int (xs.length : Int)) := fun H1 e Q q =>
  ha H1 e _ fun H2 e2 => ⟨p, xs, rfl, .inr (ex_t (e.trans e2) h), q H2 e2⟩
/-- [e for x in l], item by item -/
theorem edl_lcLi {a : Addr} {xs : List V} {ds es : List PyData} {j : Nat} {vs : List Nat} (h : Ev tl σ H (.ref a)) (hx : H a = some (.lst xs)) (hT : TdAll H xs ds) (hz : ds.length ≤ 40000) (hes : es.length = ds.length) (hw : ∀ x, wipe ((wipe σ vs).set j (some x)) vs = wipe σ vs)
    (he : ∀ (i : Nat) (x : V) (d e : PyData) H1, Ex H H1 → ds[i]? = some d → es[i]? = some e → Td H1 x d → EvD te ((wipe σ vs).set j (some x)) H1 e) : EvDL (tLc (iList K tl) (gName j) tYes te vs) σ H es := fun H0 e Q q => h H0 e _ fun H1 e1 => ⟨a, rfl, ⟨xs, sq_of ((e.trans e1) _ _ hx)⟩, fun Dl hD => by
  have hx1 := (e.trans e1) _ _ hx
  have hT1 := TdAll.tx (Tx.of (e.trans e1)) _ _ hT
  refine lc_it (walk_list (K := K) (a := a) (xs := xs)) (fun i H' => ∃ acc, Ex H1 H' ∧ H' Dl = some (.lst acc) ∧ TdAll H' acc (es.take i)) ⟨[], Ex.new hD, upd_same, .nil⟩ (fun _ H' _ ⟨_, e2, _⟩ => sq_of (e2 _ _ hx1)) ?_ ?_
  · rintro i x H2 H3 hi ⟨acc, e2, hDl, hA⟩ ⟨rfl, hxi⟩
    refine ⟨hw x, ?_⟩
    have hlen := hT1.len
    have hi2 : i < ds.length := by omega
    have hd : ds[i]? = some ds[i] := List.getElem?_eq_getElem hi2
    have hi3 : i < es.length := by omega
    have hd3 : es[i]? = some es[i] := List.getElem?_eq_getElem hi3
    obtain ⟨v, hv, hTv⟩ := td_get hT1 hd
    rw [hxi] at hv
    cases hv
    show te ((wipe σ vs).set j (some x)) H3 _
    refine he i x ds[i] es[i] H3 ((e.trans e1).trans e2) hd hd3 (Td.tx (Tx.of e2) _ _ hTv) H3 (Ex.refl _) _ fun y H4 e4 hy => ?_
    have hal := hA.len
    rw [List.length_take] at hal
    refine ⟨acc, e4 _ _ hDl, sz_lt (by omega), acc ++ [y], Ex.mut (e2.trans e4) hD, upd_same, ?_⟩
    have tx : Tx H4 (upd H4 Dl (.lst (acc ++ [y]))) := Tx.lst (e4 _ _ hDl)
    rw [List.take_succ, hd3]
    exact (TdAll.tx ((Tx.of e4).trans tx) _ _ hA).snoc (Td.tx tx _ _ hy)
  · rintro H2 ⟨acc, e2, hDl, hA⟩
    rw [hT1.len, ← hes, List.take_length] at hA
    exact q Dl H2 acc (fresh_back e1 hD) (e1.trans e2) hDl hA⟩
theorem tYes_go {f h : Hp → Prop} (x : f H) : tYes σ H (fun b H3 => if b = true then f H3 else h H3) := by
  show (if true = true then f H else h H)
  rw [if_pos rfl]
  exact x
/-- a cut of data -/
def cutDs (ds : List PyData) (lo hi : Option Int) : List PyData := (ds.drop (HT.sIx ds.length 0 lo)).take (HT.sIx ds.length ds.length hi - HT.sIx ds.length 0 lo)
theorem td_takeM {H : Hp} : ∀ {n : Nat} {us : List V} {ds : List PyData}, TdAll H us ds → TdAll H (us.take n) (ds.take n)
  | 0, _, _, _ => .nil
  | _ + 1, _, _, .nil => .nil
  | n + 1, _, _, .cons a b => .cons a (td_takeM (n := n) b)
theorem td_cut {xs : List V} {ds : List PyData} (h : TdAll H xs ds) (lo hi : Option Int) : TdAll H (cutV xs lo hi) (cutDs ds lo hi) := by
  unfold cutV cutDs
  rw [h.len]
  exact td_takeM (td_drop h)
theorem ed_slT {v : V} {ds es : List PyData} {lo hi : Option Int} {tlo thi : TO} (ha : Ev ta σ H v) (hv : Td H v (.tuple ds)) (hlo : EvO tlo σ H lo) (hhi : EvO thi σ H hi) (e : cutDs ds lo hi = es) : EvD (tSl (rSlA K) ta tlo thi) σ H (.tuple es) := fun H1 e1 Q q =>
  ha H1 e1 _ fun H2 e2 => hlo H2 (e1.trans e2) _ fun H3 e3 => hhi H3 ((e1.trans e2).trans e3) _ fun H4 e4 => by
    subst e
    have e14 := ((e1.trans e2).trans e3).trans e4
    have hv4 := Td.tx (Tx.of e14) _ _ hv
    cases hv4 with
    | @tup a xs _ h1 h2 =>
      refine ⟨a, xs, rfl, st_of h1, fun hw => ?_, fun _ p hp => q _ _ (((e2.trans e3).trans e4).trans (Ex.new hp)) (.tup upd_same (TdAll.tx (Tx.of (Ex.new hp)) _ _ (td_cut h2 lo hi)))⟩
      refine q _ H4 ((e2.trans e3).trans e4) (.tup h1 ?_)
      have : cutDs ds lo hi = ds := by
        unfold cutDs
        rw [← h2.len, hw.1, hw.2, List.drop_zero, Nat.sub_zero, h2.len]
        exact List.take_length ..
      rw [this]
      exact h2
/-- t[-1] -/
theorem ev_ixTl {v : V} {ds : List PyData} {k : Int} (ha : Ev ta σ H v) (hv : Td H v (.tuple (ds ++ [.int k]))) : Ev (tOp (rIxT K) ta (tUn (rU fun i => .int (-i)) (tC (.int 1)))) σ H (.int k) := by
  cases hv with
  | @tup a xs _ h1 h2 =>
    have hl := h2.len
    rw [List.length_append] at hl
    obtain ⟨x, hx, hT⟩ := td_get h2 (i := ds.length) (d := .int k) (by simp)
    cases hT
    have e : xs = xs.dropLast ++ [.int k] := by
      have hne : xs ≠ [] := fun z => by rw [z] at hl; simp at hl
      have h3 := List.dropLast_concat_getLast hne
      have h4 : xs.getLast hne = .int k := by
        rw [List.getLast_eq_getElem]
        have h5 : xs.length - 1 = ds.length := by rw [hl]; rfl
        have h6 := List.getElem?_eq_some_iff.mp hx
        obtain ⟨h7, h8⟩ := h6
        simp only [h5]
        exact h8
      rw [h4] at h3
      exact h3.symm
    refine ev_op ha (ev_un ev_c ru_neg) (rv_ixT (i := -1) (st_of h1) ?_)
    rw [e]
    exact atI_last _ _
/-- [e for x in t], t a tuple that may be new -/
theorem edl_lcTD {ds : List PyData} {j : Nat} {vs : List Nat} {f : PyData → PyData} (h : EvD tl σ H (.tuple ds)) (hz : ds.length ≤ 40000) (hw : ∀ x, wipe ((wipe σ vs).set j (some x)) vs = wipe σ vs)
    (he : ∀ (x : V) (d : PyData) H1, Ex H H1 → d ∈ ds → Td H1 x d → EvD te ((wipe σ vs).set j (some x)) H1 (f d)) : EvDL (tLc (iTup K tl) (gName j) tYes te vs) σ H (ds.map f) := fun H0 e Q q => h H0 e _ fun v H1 e1 hv => by
  cases hv with
  | @tup a xs _ hx1 hT1 =>
  refine ⟨a, rfl, ⟨xs, st_of hx1⟩, fun Dl hD => ?_⟩
  refine lc_it (walk_tup (K := K) (a := a) (xs := xs)) (fun i H' => ∃ acc, Ex H1 H' ∧ H' Dl = some (.lst acc) ∧ TdAll H' acc ((ds.take i).map f)) ⟨[], Ex.new hD, upd_same, .nil⟩ (fun _ H' _ ⟨_, e2, _⟩ => st_of (e2 _ _ hx1)) ?_ ?_
  · rintro i x H2 H3 hi ⟨acc, e2, hDl, hA⟩ ⟨rfl, hxi⟩
    refine ⟨hw x, ?_⟩
    have hlen := hT1.len
    have hi2 : i < ds.length := by omega
    have hd : ds[i]? = some ds[i] := List.getElem?_eq_getElem hi2
    obtain ⟨v, hv, hTv⟩ := td_get hT1 hd
    rw [hxi] at hv
    cases hv
    show te ((wipe σ vs).set j (some x)) H3 _
    refine he x ds[i] H3 ((e.trans e1).trans e2) (List.getElem_mem hi2) (Td.tx (Tx.of e2) _ _ hTv) H3 (Ex.refl _) _ fun y H4 e4 hy => ?_
    have hal := hA.len
    rw [List.length_map, List.length_take] at hal
    refine ⟨acc, e4 _ _ hDl, sz_lt (by omega), acc ++ [y], Ex.mut (e2.trans e4) hD, upd_same, ?_⟩
    have tx : Tx H4 (upd H4 Dl (.lst (acc ++ [y]))) := Tx.lst (e4 _ _ hDl)
    rw [List.take_succ, hd, List.map_append]
    exact (TdAll.tx ((Tx.of e4).trans tx) _ _ hA).snoc (Td.tx tx _ _ hy)
  · rintro H2 ⟨acc, e2, hDl, hA⟩
    rw [hT1.len, List.take_length] at hA
    exact q Dl H2 acc (fresh_back e1 hD) (e1.trans e2) hDl hA
/-- a <= b < c -/
theorem ev_chain {i j k : Int} (ha : Ev ta σ H (.int i)) (hb : Ev tb σ H (.int j)) (hc : Ev te σ H (.int k)) : Ev (tChain (rI0 fun i j => .bl (decide (i ≤ j))) (rI0 fun i j => .bl (decide (i < j))) ta tb te) σ H (.bl (decide (i ≤ j) && decide (j < k))) := fun H1 e Q q =>
  ha H1 e _ fun H2 e2 => hb H2 (e.trans e2) _ fun H3 e3 => ⟨i, j, rfl, rfl, decide (i ≤ j), rfl, by
    by_cases h : i ≤ j
    · rw [decide_eq_true h, if_pos rfl]
      refine hc H3 ((e.trans e2).trans e3) _ fun H4 e4 => ⟨j, k, rfl, rfl, ?_⟩
      have := q H4 ((e2.trans e3).trans e4)
      rw [decide_eq_true h, Bool.true_and] at this
      exact this
    · rw [decide_eq_false h, if_neg Bool.false_ne_true]
      have := q H3 (e2.trans e3)
      rw [decide_eq_false h, Bool.false_and] at this
      exact this⟩
theorem dpa_bools : ∀ bs : List Bool, DpAll K H (bs.map V.bl) (bs.map PyData.bool)
  | [] => .nil
  | x :: xs => .cons (.bl x) (dpa_bools xs)
/-- two lists of truths, the same ones -/
theorem ev_eqBL {bs : List Bool} (ha : EvL ta σ H (bs.map .bl)) (hb : EvL tb σ H (bs.map .bl)) (hs : SeqAt.shaped (.list (bs.map .bool)) = true) : Ev (tOp (rEqD K) ta tb) σ H (.bl true) := ev_opLL ha hb fun p q H1 h1 h2 _ H2 e2 Q q2 =>
  ⟨.list (bs.map .bool), .list (bs.map .bool), .lst (sq_of (e2 p _ h1)) (dpa_bools bs), .lst (sq_of (e2 q _ h2)) (dpa_bools bs), hs, hs, by
    rw [SeqAt.eqv_refl]
    · exact q2 H2 (Ex.refl H2)
    · exact (Bool.and_eq_true_iff.mp hs).1⟩
theorem ev_eqBLv {bs : List Bool} {l : Addr} (ha : Ev ta σ H (.ref l)) (hl : H l = some (.lst (bs.map .bl))) (hb : EvL tb σ H (bs.map .bl)) (hs : SeqAt.shaped (.list (bs.map .bool)) = true) : Ev (tOp (rEqD K) ta tb) σ H (.bl true) := ev_opL ha hb fun q H1 h2 e1 H2 e2 Q q2 =>
  ⟨.list (bs.map .bool), .list (bs.map .bool), .lst (sq_of ((e1.trans e2) _ _ hl)) (dpa_bools bs), .lst (sq_of (e2 q _ h2)) (dpa_bools bs), hs, hs, by
    rw [SeqAt.eqv_refl]
    · exact q2 H2 (Ex.refl H2)
    · exact (Bool.and_eq_true_iff.mp hs).1⟩
/-- two things of the same data -/
theorem ev_eqDD {d : PyData} (ha : EvD ta σ H d) (hb : EvD tb σ H d) (hs : SeqAt.shaped d = true) : Ev (tOp (rEqD K) ta tb) σ H (.bl true) := fun H1 e Q q => ha H1 e _ fun v H2 e2 hv => hb H2 (e.trans e2) _ fun w H3 e3 hw =>
  ⟨d, d, Td.dp _ _ (Td.tx (Tx.of e3) _ _ hv), Td.dp _ _ hw, hs, hs, by
    rw [SeqAt.eqv_refl]
    · exact q H3 (e2.trans e3)
    · exact (Bool.and_eq_true_iff.mp hs).1⟩
theorem td_bools : ∀ {vs : List V} {bs : List Bool}, TdAll H vs (bs.map .bool) → vs = bs.map .bl
  | _, [], .nil => rfl
  | _, b :: bs, .cons a t => by
    cases a
    rw [td_bools t] <;> rfl
theorem ev_lenTd {v : V} {ds : List PyData} (ha : Ev ta σ H v) (hv : Td H v (.tuple ds)) : Ev (tCB (rLenS K) (tCons ta tNil)) σ H (.int (ds.length : Int)) := by
  cases hv with
  | @tup a xs _ h1 h2 => exact ev_is (ev_lenT (K := K) ha (st_of h1)) (by rw [h2.len])
theorem ev_eqSame {a : Str} (ha : Ev ta σ H (.str a)) (hb : Ev tb σ H (.str a)) : Ev (tOp rEq ta tb) σ H (.bl true) := ev_is (ev_op ha hb (rv_eq rfl)) (congrArg V.bl (decide_eq_true rfl))
theorem ev_eqSameI {a b : Int} (ha : Ev ta σ H (.int a)) (hb : Ev tb σ H (.int b)) (h : a = b) : Ev (tOp rEq ta tb) σ H (.bl true) := by
  subst h
  exact ev_is (ev_op ha hb (rv_eq rfl)) (congrArg V.bl (decide_eq_true rfl))
theorem ev_tt {x y : TE} (h1 : Ev x σ H (.bl true)) (h2 : Ev y σ H (.bl true)) : Ev (tAndV x y) σ H (.bl true) := ev_is (ev_andV h1 fun _ => h2) rfl
theorem el_rep2 {b : V} : EvL (tOp rRep (tLst (tCons (tC b) tNil)) (tC (.int 2))) σ H [b, b] := fun H1 e Q q =>
  (show EvL (tLst (tCons (tC b) tNil)) σ H [b] from el_lst (ea_cons ev_c ea_nil) (by show 1 ≤ 100000; decide)) H1 e _ fun l H2 hl0 e2 hl => ⟨l, 2, _, rfl, rfl, hl, by decide, by decide, by show 1 * 2 ≤ sizeLine; decide, fun c hc => q c _ (fresh_back e2 hc) (e2.trans (Ex.new hc)) upd_same⟩
theorem ed_catDD {ds1 ds2 : List PyData} (ha : EvD ta σ H (.tuple ds1)) (h1 : ds1 ≠ []) (l1 : ds1.length ≤ 100) (hb : EvD tb σ H (.tuple ds2)) (h2 : ds2 ≠ []) (l2 : ds2.length ≤ 100) : EvD (tOp (rCatA K) ta tb) σ H (.tuple (ds1 ++ ds2)) := fun H1 e Q q => ha H1 e _ fun u H2 e2 hu => hb H2 (e.trans e2) _ fun v H3 e3 hw => by
  have hv3 := Td.tx (Tx.of e3) _ _ hu
  cases hv3 with
  | @tup a xs _ hx1 hx2 =>
    cases hw with
    | @tup b ys _ hy1 hy2 =>
      have lx := hx2.len
      have ly := hy2.len
      have nx : xs ≠ [] := fun z => h1 (by rw [z] at hx2; cases hx2; rfl)
      have ny : ys ≠ [] := fun z => h2 (by rw [z] at hy2; cases hy2; rfl)
      exact ⟨a, b, xs, ys, rfl, rfl, st_of hx1, st_of hy1, sz_of (by omega), fun z => absurd z nx, fun _ z => absurd z ny, fun _ _ p hp => q _ _ ((e2.trans e3).trans (Ex.new hp)) (.tup upd_same (TdAll.tx (Tx.of (Ex.new hp)) _ _ (hx2.app hy2)))⟩
/-- {k: v}.get(x, z) -/
theorem ev_get1 {k1 k : Str} {v1 z : V} {r : V} (hb : ∀ H', Ev tb σ H' (.str k)) (hz : ∀ H', Ev te σ H' z) (h : (k = k1 ∧ r = v1) ∨ (k ≠ k1 ∧ r = z)) : Ev (tDGet2 (tDisp [(tC (.str k1), tC v1)]) tb te) σ H r := fun H1 e Q q => fun p hp => by
  refine ⟨upd_same, [((Sum.inr k1 : Key), v1)], rfl, by show 1 ≤ 15; decide, ?_⟩
  have hm : mergeK [] [((Sum.inr k1 : Key), v1)] = [((Sum.inr k1 : Key), v1)] := rfl
  rw [hm]
  have e1 : Ex H1 (upd (upd H1 p (.dK [])) p (.dK [((Sum.inr k1 : Key), v1)])) := Ex.mut (Ex.new hp) hp
  have hp2 : (upd (upd H1 p (.dK [])) p (.dK [((Sum.inr k1 : Key), v1)])) p = some (.dK [((Sum.inr k1 : Key), v1)]) := upd_same
  generalize upd (upd H1 p (.dK [])) p (.dK [((Sum.inr k1 : Key), v1)]) = H2 at e1 hp2 ⊢
  refine ⟨p, rfl, .inl ⟨_, .inl hp2⟩, hb H2 H2 (Ex.refl _) _ fun H3 e3 => hz H3 H3 (Ex.refl _) _ fun H4 e4 => ?_⟩
  refine ⟨_, DGet.k (k := (Sum.inr k : Key)) ((e3.trans e4) _ _ hp2), ?_⟩
  rcases h with ⟨rfl, rfl⟩ | ⟨hne, rfl⟩
  · rw [valV_pos (p := ((Sum.inr k : Key), r)) rfl]
    exact q H4 (e1.trans (e3.trans e4))
  · rw [valV_neg (p := ((Sum.inr k1 : Key), v1)) (fun y => hne (Sum.inr.inj y).symm)]
    exact q H4 (e1.trans (e3.trans e4))
theorem cutP_from1 {d : PyData} {es : List PyData} : cutDs (d :: es) (some 1) none = es := by
  unfold cutDs
  have h1 : HT.sIx (d :: es).length 0 (some 1) = 1 := by
    have := HT.sIx_nat (d :: es).length 0 1
    rw [show ((1 : Nat) : Int) = 1 from rfl] at this
    rw [this, List.length_cons]
    omega
  rw [h1, HT.sIx_none, List.drop_succ_cons, List.drop_zero, List.length_cons]
  exact List.take_length ..
theorem cutV_last {xs : List V} {x : V} : cutV (xs ++ [x]) (some (-1)) none = [x] := by
  unfold cutV
  have h1 : HT.sIx (xs ++ [x]).length 0 (some (-1)) = xs.length := by
    show (if (-1 : Int) < 0 then ((-1 : Int) + ((xs ++ [x]).length : Int)).toNat else min (-1 : Int).toNat (xs ++ [x]).length) = _
    rw [if_pos (by decide), List.length_append]
    show (-1 + ((xs.length + 1 : Nat) : Int)).toNat = _
    omega
  rw [h1, HT.sIx_none, List.drop_left, List.length_append]
  show [x].take (xs.length + 1 - xs.length) = [x]
  rw [show xs.length + 1 - xs.length = 1 by omega] <;> rfl
end
end Wt

set_option Elab.async false
set_option linter.all false
set_option maxRecDepth 100000
set_option maxHeartbeats 4000000
/-! Values of which something is true in the heap that stands then; displays; comprehensions with tests. -/
namespace Wt
open PySem PySem.Spec PyProof.Rows L2 SX Evl
/-- a block within a block that takes nothing out of the outer one -/
theorem blkOk_any {N : List Str} {sc scope : Scope} {own : List (Str × Nat)} (h : blkC N { kind := ScopeKind.function, names := [], isGenerator := false, isCoroutine := false } scope own = true) : BlkOk N sc scope own := by
  refine blkOk_by ?_
  unfold blkC at h ⊢
  simp only [Bool.and_eq_true, List.all_eq_true] at h ⊢
  refine ⟨h.1, fun y hy => ?_⟩
  have := h.2 y hy
  revert this
  cases y.2 <;> intro hz
  all_goals first | exact hz | (exfalso; revert hz; simp)
/-- tuple(..) -/
abbrev rTupO (K : PySem.W.Frag) : List V → Hp → VK → Prop := fun xs H Q => ∃ p ys, xs = [.ref p] ∧ ((SqL K H p ys ∧ ∀ l, H l = none → Q (.ref l) (upd H l (.tup ys))) ∨ (SqT K H p ys ∧ Q (.ref p) H))
def EvP (te : TE) (σ : L2.St) (H : Hp) (P : V → Hp → Prop) : Prop := ∀ H1, Ex H H1 → ∀ Q : VK, (∀ v H2, Ex H1 H2 → P v H2 → Q v H2) → te σ H1 Q
def EPs (trs : List (TE × TE)) (σ : L2.St) (H : Hp) (L : List (Key × V) → Hp → Prop) : Prop := ∀ H1, Ex H H1 → ∀ Q : List (V × V) → Hp → Prop, (∀ kvs H2, Ex H1 H2 → L kvs H2 → Q (kvs.map fun kv => (kV kv.1, kv.2)) H2) → tPairs trs σ H1 Q
/-- what stays where things only come -/
def Ups (P : V → Hp → Prop) : Prop := ∀ v H H', Ex H H' → P v H → P v H'
/-- a list of data at l of which something is true -/
def LAtP (H : Hp) (l : Addr) (L : List PyData → Prop) : Prop := ∃ vs ds, H l = some (.lst vs) ∧ TdAll H vs ds ∧ L ds
theorem LAtP.ex {H H' : Hp} {l : Addr} {L : List PyData → Prop} (h : LAtP H l L) (e : Ex H H') : LAtP H' l L := by
  obtain ⟨vs, ds, h1, h2, h3⟩ := h
  exact ⟨vs, ds, e _ _ h1, TdAll.tx (Tx.of e) _ _ h2, h3⟩
theorem LAtP.imp {H : Hp} {l : Addr} {L L2 : List PyData → Prop} (h : LAtP H l L) (i : ∀ ds, L ds → L2 ds) : LAtP H l L2 := by
  obtain ⟨vs, ds, h1, h2, h3⟩ := h
  exact ⟨vs, ds, h1, h2, i ds h3⟩
theorem LAtP.dK {H : Hp} {l p : Addr} {L : List PyData → Prop} {ks ls : List (Key × V)} (h : LAtP H l L) (hp : H p = some (.dK ks)) : LAtP (upd H p (.dK ls)) l L := by
  obtain ⟨vs, ds, h1, h2, h3⟩ := h
  exact ⟨vs, ds, by rw [upd_ne (ne_of h1 hp (by intro z; cases z))]; exact h1, TdAll.tx (Tx.dK hp) _ _ h2, h3⟩
theorem LAtP.lst {H : Hp} {l p : Addr} {L : List PyData → Prop} {xs ys : List V} (h : LAtP H l L) (hp : H p = some (.lst xs)) (hn : l ≠ p) : LAtP (upd H p (.lst ys)) l L := by
  obtain ⟨vs, ds, h1, h2, h3⟩ := h
  exact ⟨vs, ds, by rw [upd_ne hn]; exact h1, TdAll.tx (Tx.lst hp) _ _ h2, h3⟩
/-- .. a new one, since H0 -/
def NLs (H0 : Hp) (L : List PyData → Prop) : V → Hp → Prop := fun v H => ∃ l, v = .ref l ∧ H0 l = none ∧ LAtP H l L
theorem nls_ups {H0 : Hp} {L : List PyData → Prop} : Ups (NLs H0 L) := fun v H H' e ⟨l, h1, h2, h3⟩ => ⟨l, h1, h2, h3.ex e⟩
section
variable {K : PySem.W.Frag} {σ : L2.St} {H H' H0 : Hp} {ta tb te tx tl : TE} {tr : TA} {t u : TT} {v w : V} {R R2 : PyData → Prop} {L L1 L2 : List PyData → Prop} {D : Ends} {tu tw tz : TS} {P P2 : V → Hp → Prop} {trs : List (TE × TE)}
theorem ep_of (h : Ev te σ H v) : EvP te σ H (fun x _ => x = v) := fun H1 e Q q => h H1 e Q fun H2 e2 => q v H2 e2 rfl
theorem ep_N {Pn : V → Prop} (h : EvN te σ H Pn) : EvP te σ H (fun x _ => Pn x) := fun H1 e Q q => h H1 e Q fun x H2 p e2 => q x H2 e2 p
theorem ep_R (h : EvR te σ H R) : EvP te σ H (fun x H' => ∃ d, R d ∧ Td H' x d) := fun H1 e Q q => h H1 e Q fun x H2 d r e2 hv => q x H2 e2 ⟨d, r, hv⟩
theorem ep_RL (h : EvRL te σ H L) : EvP te σ H (NLs H L) := fun H1 e Q q => h H1 e Q fun p H2 vs ds r hp e2 h2 hT => q _ H2 e2 ⟨p, rfl, fresh_back e hp, vs, ds, h2, hT, r⟩
theorem ep_LT {ts : List (List Nat)} (h : EvLT te σ H ts) : EvP te σ H (fun x H' => ∃ l, x = .ref l ∧ H l = none ∧ H' l = some (.lst (ts.map fun z => V.str (S z)))) := fun H1 e Q q => h H1 e Q fun l H2 hl e2 h2 => q _ H2 e2 ⟨l, rfl, fresh_back e hl, h2⟩
theorem EvP.imp (h : EvP te σ H P) (i : ∀ v H', P v H' → P2 v H') : EvP te σ H P2 := fun H1 e Q q => h H1 e Q fun v H2 e2 p => q v H2 e2 (i v H2 p)
theorem EvP.mono (e : Ex H H') (h : EvP te σ H P) : EvP te σ H' P := fun H1 e1 Q q => h H1 (e.trans e1) Q q
theorem EvRL.imp (h : EvRL te σ H L) (i : ∀ ds, L ds → L1 ds) : EvRL te σ H L1 := fun H1 e Q q => h H1 e Q fun p H2 vs ds r => q p H2 vs ds (i ds r)
theorem EvRL.mono (e : Ex H H') (h : EvRL te σ H L) : EvRL te σ H' L := fun H1 e1 Q q => h H1 (e.trans e1) Q q
theorem erl_of {ds : List PyData} (h : EvDL te σ H ds) : EvRL te σ H (· = ds) := fun H1 e Q q => h H1 e Q fun p H2 vs hp e2 h2 hT => q p H2 vs ds rfl hp e2 h2 hT
theorem eps_nil : EPs [] σ H (fun l _ => l = []) := fun H1 _ Q q => q [] H1 (Ex.refl _) rfl
theorem eps_cons {k : Str} {Lk : List (Key × V) → Hp → Prop} (h : EvP te σ H P) (up : Ups P) (hr : EPs trs σ H Lk) : EPs ((tC (.str k), te) :: trs) σ H (fun l H' => ∃ v r, l = ((Sum.inr k : Key), v) :: r ∧ P v H' ∧ Lk r H') := fun H1 e Q q =>
  ev_c H1 (Ex.refl _) _ fun H2 e2 => h H2 (e.trans e2) _ fun v H3 e3 p => hr H3 ((e.trans e2).trans e3) _ fun r H4 e4 l => q (((Sum.inr k : Key), v) :: r) H4 ((e2.trans e3).trans e4) ⟨v, r, rfl, up v H3 H4 e4 p, l⟩
theorem ups_c {w : V} : Ups (fun x _ => x = w) := fun _ _ _ _ h => h
theorem ups_N {Pn : V → Prop} : Ups (fun x _ => Pn x) := fun _ _ _ _ h => h
theorem ups_lt {H0 : Hp} {ts : List (List Nat)} : Ups (fun x H' => ∃ l, x = .ref l ∧ H0 l = none ∧ H' l = some (.lst (ts.map fun z => V.str (S z)))) := fun v H H' e ⟨l, h1, h2, h3⟩ => ⟨l, h1, h2, e _ _ h3⟩
/-- d = {..} -/
theorem q_disp {i : Nat} {Lk : List (Key × V) → Hp → Prop} (h : EPs trs σ H Lk) (hl : ∀ kvs H', Lk kvs H' → kvs.length ≤ 15) (k : ∀ p H2 kvs, H p = none → Ex (upd H p (.dK [])) H2 → Ex H H2 → Lk kvs H2 → H2 p = some (.dK []) → tz D (σ.set i (some (.ref p))) (upd H2 p (.dK (mergeK [] kvs)))) :
    tSeq (tAsg (tDisp trs) (gName i)) tz D σ H := fun p hp => h _ (Ex.new hp) _ fun kvs H2 e2 l => ⟨e2 _ _ upd_same, kvs, rfl, hl kvs H2 l, k p H2 kvs hp e2 ((Ex.new hp).trans e2) l (e2 _ _ upd_same)⟩
theorem q_dputP {ca : Addr} {kvs : List (Key × V)} {k : Str} (ht : EvP te σ H P) (up : Ups P) (ha : ∀ H', Ex H H' → Ev ta σ H' (.ref ca)) (hd : H ca = some (.dK kvs)) (hl : kvs.length < 100000) (c : ∀ y H1, Ex H H1 → P y H1 → tz D σ (upd H1 ca (.dK (putK kvs (Sum.inr k : Key) y)))) : tSeq (sDPut ta (tC (.str k)) te) tz D σ H := ht H (Ex.refl H) _ fun y H1 e1 p => ha H1 e1 H1 (Ex.refl _) _ fun H2 e2 => ev_c H2 (Ex.refl H2) _ fun H3 e3 => by
  have e13 := (e1.trans e2).trans e3
  exact ⟨ca, _, rfl, DPut.k (k := (Sum.inr k : Key)) (e13 _ _ hd) (sz_lt hl), c y H3 e13 (up _ _ _ (e2.trans e3) p)⟩
theorem s_dputP {ca : Addr} {kvs : List (Key × V)} {k : Str} (ht : EvP te σ H P) (up : Ups P) (ha : ∀ H', Ex H H' → Ev ta σ H' (.ref ca)) (hd : H ca = some (.dK kvs)) (hl : kvs.length < 100000) (c : ∀ y H1, Ex H H1 → P y H1 → D.nx σ (upd H1 ca (.dK (putK kvs (Sum.inr k : Key) y)))) : sDPut ta (tC (.str k)) te D σ H := ht H (Ex.refl H) _ fun y H1 e1 p => ha H1 e1 H1 (Ex.refl _) _ fun H2 e2 => ev_c H2 (Ex.refl H2) _ fun H3 e3 => by
  have e13 := (e1.trans e2).trans e3
  exact ⟨ca, _, rfl, DPut.k (k := (Sum.inr k : Key)) (e13 _ _ hd) (sz_lt hl), c y H3 e13 (up _ _ _ (e2.trans e3) p)⟩
/-- d.update({..}) -/
theorem q_updP {ca : Addr} {kvs : List (Key × V)} {Lk : List (Key × V) → Hp → Prop} (ha : ∀ H', Ex H H' → Ev ta σ H' (.ref ca)) (h : EPs trs σ H Lk) (hk : ∀ more H', Lk more H' → more.length ≤ 15 ∧ mergeK [] more = more) (hd : H ca = some (.dK kvs)) (hl : kvs.length ≤ 1000)
    (k : ∀ p H2 more, H p = none → ca ≠ p → Ex H H2 → H2 p = some (.dK []) → Lk more H2 → tz D σ (upd (upd H2 p (.dK more)) ca (.dK (mergeK kvs more)))) :
    tSeq (tDrop (tBM K "dict" rDUpd ta (tCons (tDisp trs) tNil))) tz D σ H :=
  ha H (Ex.refl H) H (Ex.refl H) _ fun H1 e1 => ⟨.inr (.inr (.inl ⟨rfl, .inl ⟨_, e1 _ _ hd⟩⟩)), fun p hp => h _ (e1.trans (Ex.new hp)) _ fun more H2 e2 l => by
    obtain ⟨h15, hm⟩ := hk more H2 l
    have hwp : ca ≠ p := ne_of_none (e1 _ _ hd) hp
    have hp0 := fresh_back e1 hp
    have e3 : Ex H H2 := e1.trans ((Ex.new hp).trans e2)
    refine ⟨e2 _ _ upd_same, more, rfl, h15, ca, p, kvs, more, rfl, rfl, hwp, ?_, by rw [hm]; exact upd_same, sz_of (by omega), ?_⟩
    · rw [upd_ne hwp]
      exact e3 _ _ hd
    · rw [hm]
      exact k p H2 more hp0 hwp e3 (e2 _ _ upd_same) l⟩
/-- l + new -/
theorem erl_cat {l : Addr} {xs : List V} {ds : List PyData} {n : Nat} (ha : Ev ta σ H (.ref l)) (hl : H l = some (.lst xs)) (hT : TdAll H xs ds) (hb : EvRL tb σ H L) (hn : ∀ es, L es → es.length ≤ n) (hz : ds.length + n ≤ 100000) : EvRL (tOp rCat ta tb) σ H (fun zs => ∃ es, L es ∧ zs = ds ++ es) := fun H1 e Q q =>
  ha H1 e _ fun H2 e2 => hb H2 (e.trans e2) _ fun p H3 ys es r hp e3 h3 hy => ⟨l, p, xs, ys, rfl, rfl, e3 l _ (e2 l _ (e l _ hl)), h3, sz_of (by rw [hT.len, hy.len]; have := hn es r; omega), fun c hc =>
    q c _ _ _ ⟨es, r, rfl⟩ (fresh_back (e2.trans e3) hc) ((e2.trans e3).trans (Ex.new hc)) upd_same (TdAll.tx (Tx.of (Ex.new hc)) _ _ ((TdAll.tx (Tx.of ((e.trans e2).trans e3)) _ _ hT).app hy))⟩
/-- new + new -/
theorem erl_catN {n1 n2 : Nat} (ha : EvRL ta σ H L1) (hb : EvRL tb σ H L2) (h1 : ∀ es, L1 es → es.length ≤ n1) (h2 : ∀ es, L2 es → es.length ≤ n2) (hz : n1 + n2 ≤ 100000) : EvRL (tOp rCat ta tb) σ H (fun zs => ∃ ds es, L1 ds ∧ L2 es ∧ zs = ds ++ es) := fun H1 e Q q =>
  ha H1 e _ fun l H2 xs ds r1 hl0 e2 hl hT => hb H2 (e.trans e2) _ fun p H3 ys es r hp e3 h3 hy => ⟨l, p, xs, ys, rfl, rfl, e3 l _ hl, h3, sz_of (by rw [hT.len, hy.len]; have := h1 ds r1; have := h2 es r; omega), fun c hc =>
    q c _ _ _ ⟨ds, es, r1, r, rfl⟩ (fresh_back (e2.trans e3) hc) ((e2.trans e3).trans (Ex.new hc)) upd_same (TdAll.tx (Tx.of (Ex.new hc)) _ _ ((TdAll.tx (Tx.of e3) _ _ hT).app hy))⟩
theorem tdAll_rep {H : Hp} {xs : List V} {ds : List PyData} (h : TdAll H xs ds) : ∀ k, TdAll H (List.replicate k xs).flatten (List.replicate k ds).flatten
  | 0 => .nil
  | k + 1 => by
    rw [List.replicate_succ, List.replicate_succ, List.flatten_cons, List.flatten_cons]
    exact h.app (tdAll_rep h k)
theorem edl_rep {ds : List PyData} {k : Nat} {i : Int} (ha : EvDL ta σ H ds) (hb : Ev tb σ H (.int i)) (hi : i = (k : Int)) (hz : ds.length * k ≤ 100000) (hk : k ≤ 100000) : EvDL (tOp rRep ta tb) σ H (List.replicate k ds).flatten := fun H1 e Q q =>
  ha H1 e _ fun l H2 xs hl0 e2 hl hT => hb H2 (e.trans e2) _ fun H3 e3 => ⟨l, i, xs, rfl, rfl, e3 l _ hl, by subst hi; omega, by subst hi; omega, by
    subst hi
    rw [hT.len]
    exact sz_of hz, fun c hc => q c _ _ (fresh_back (e2.trans e3) hc) ((e2.trans e3).trans (Ex.new hc)) upd_same (by
      subst hi
      exact TdAll.tx (Tx.of (e3.trans (Ex.new hc))) _ _ (tdAll_rep hT k))⟩
theorem et_yes : EvT tYes σ H true := fun H1 _ Q q => q H1 (Ex.refl _)
/-- [e for x in xs if ..] -/
theorem erl_lcF {a : Addr} {xs : List V} {ds : List PyData} {j : Nat} {vs : List Nat} (h : Ev tl σ H (.ref a)) (hx : H a = some (.lst xs)) (hT : TdAll H xs ds) (hz : ds.length ≤ 40000) (hw : ∀ x, wipe ((wipe σ vs).set j (some x)) vs = wipe σ vs)
    (he : ∀ (x : V) (d : PyData) H1, Ex H H1 → d ∈ ds → Td H1 x d → ∃ b, EvT t ((wipe σ vs).set j (some x)) H1 b ∧ (b = true → EvR te ((wipe σ vs).set j (some x)) H1 R)) : EvRL (tLc (iList K tl) (gName j) t te vs) σ H (fun es => es.length ≤ ds.length ∧ ∀ d ∈ es, R d) := fun H0 e Q q => h H0 e _ fun H1 e1 => ⟨a, rfl, ⟨xs, sq_of ((e.trans e1) _ _ hx)⟩, fun Dl hD => by
  have hx1 := (e.trans e1) _ _ hx
  have hT1 := TdAll.tx (Tx.of (e.trans e1)) _ _ hT
  refine lc_it (walk_list (K := K) (a := a) (xs := xs)) (fun i H' => ∃ acc es, Ex H1 H' ∧ H' Dl = some (.lst acc) ∧ TdAll H' acc es ∧ es.length ≤ i ∧ ∀ d ∈ es, R d) ⟨[], [], Ex.new hD, upd_same, .nil, Nat.le_refl _, fun _ h => by cases h⟩ (fun _ H' _ ⟨_, _, e2, _⟩ => sq_of (e2 _ _ hx1)) ?_ ?_
  · rintro i x H2 H3 hi ⟨acc, es, e2, hDl, hA, hes, hR⟩ ⟨rfl, hxi⟩
    refine ⟨hw x, ?_⟩
    have hlen := hT1.len
    have hi2 : i < ds.length := by omega
    have hd : ds[i]? = some ds[i] := List.getElem?_eq_getElem hi2
    obtain ⟨v, hv, hTv⟩ := td_get hT1 hd
    rw [hxi] at hv
    cases hv
    obtain ⟨b, h1, h2⟩ := he x ds[i] H3 ((e.trans e1).trans e2) (List.getElem_mem hi2) (Td.tx (Tx.of e2) _ _ hTv)
    refine h1 H3 (Ex.refl _) _ fun H4 e4 => ?_
    cases b with
    | false =>
      rw [if_neg (by decide)]
      exact ⟨acc, es, e2.trans e4, e4 _ _ hDl, TdAll.tx (Tx.of e4) _ _ hA, by omega, hR⟩
    | true =>
      rw [if_pos rfl]
      refine h2 rfl H4 e4 _ fun y H5 d r e5 hy => ?_
      have hal := hA.len
      refine ⟨acc, (e4.trans e5) _ _ hDl, sz_lt (by omega), acc ++ [y], es ++ [d], Ex.mut (e2.trans (e4.trans e5)) hD, upd_same, ?_, by rw [List.length_append, List.length_singleton]; omega, fun d2 hd2 => ?_⟩
      · have tx : Tx H5 (upd H5 Dl (.lst (acc ++ [y]))) := Tx.lst ((e4.trans e5) _ _ hDl)
        exact (TdAll.tx ((Tx.of (e4.trans e5)).trans tx) _ _ hA).snoc (Td.tx tx _ _ hy)
      · rcases List.mem_append.mp hd2 with z | z
        · exact hR d2 z
        · rw [List.mem_singleton.mp z]
          exact r
  · rintro H2 ⟨acc, es, e2, hDl, hA, hes, hR⟩
    exact q Dl H2 acc es ⟨by rw [← hT1.len]; exact hes, hR⟩ (fresh_back e1 hD) (e1.trans e2) hDl hA⟩
/-- .. over a list of texts -/
theorem erl_lcS {a : Addr} {us : List (List Nat)} {j : Nat} {vs : List Nat} (h : Ev tl σ H (.ref a)) (hx : H a = some (.lst (us.map fun z => V.str (S z)))) (hz : us.length ≤ 40000) (hw : ∀ x, wipe ((wipe σ vs).set j (some x)) vs = wipe σ vs)
    (he : ∀ (z : List Nat) H1, Ex H H1 → z ∈ us → EvR te ((wipe σ vs).set j (some (.str (S z)))) H1 R) : EvRL (tLc (iList K tl) (gName j) tYes te vs) σ H (fun es => es.length ≤ us.length ∧ ∀ d ∈ es, R d) := by
  have hT : ∀ us : List (List Nat), TdAll H (us.map fun z => V.str (S z)) (us.map fun z => PyData.str (S z)) := fun us => by
    induction us with
    | nil => exact .nil
    | cons z us ih => exact .cons (.str _) ih
  have := erl_lcF (K := K) (t := tYes) (te := te) (R := R) (j := j) h hx (hT us) (by rw [List.length_map]; exact hz) hw (fun x d H1 e hd hT => ⟨true, et_yes, fun _ => by
    obtain ⟨z, hz, rfl⟩ := List.mem_map.mp hd
    cases hT
    exact he z H1 e hz⟩)
  rw [List.length_map] at this
  exact this
/-- t[i] -/
theorem er_ixT {v : V} {ds : List PyData} {j : Nat} {d : PyData} (ha : Ev ta σ H v) (hv : Td H v (.tuple ds)) (hj : ds[j]? = some d) : EvR (tOp (rIxT K) ta (tC (.int (j : Int)))) σ H (· = d) := er_of (ed_ixTd ha hv ev_c hj)
theorem cutP_from {ds : List PyData} {k : Nat} (h : k ≤ ds.length) : cutDs ds (some (k : Int)) none = ds.drop k := by
  have h1 : HT.sIx ds.length 0 (some (k : Int)) = k := by
    rw [HT.sIx_nat]
    omega
  have h2 : HT.sIx ds.length ds.length none = ds.length := rfl
  unfold cutDs
  rw [h1, h2]
  exact List.take_of_length_le (by rw [List.length_drop]; omega)
theorem cutP_to {ds : List PyData} {k : Nat} (h : k ≤ ds.length) : cutDs ds none (some (k : Int)) = ds.take k := by
  have h1 : HT.sIx ds.length 0 none = 0 := rfl
  have h2 : HT.sIx ds.length ds.length (some (k : Int)) = k := by
    rw [HT.sIx_nat]
    omega
  unfold cutDs
  rw [h1, h2]
  rfl
theorem ed_slF {v : V} {ds : List PyData} {k : Nat} (ha : Ev ta σ H v) (hv : Td H v (.tuple ds)) (h : k ≤ ds.length) : EvD (tSl (rSlA K) ta (tPart (tC (.int (k : Int)))) tNoPart) σ H (.tuple (ds.drop k)) := ed_slT ha hv (eo_some ev_c) eo_none (cutP_from h)
theorem ed_slTo {v : V} {ds : List PyData} {k : Nat} (ha : Ev ta σ H v) (hv : Td H v (.tuple ds)) (h : k ≤ ds.length) : EvD (tSl (rSlA K) ta tNoPart (tPart (tC (.int (k : Int))))) σ H (.tuple (ds.take k)) := ed_slT ha hv eo_none (eo_some ev_c) (cutP_to h)
/-- return f(..) -/
theorem s_retC {sp : Sp} {E : XK} (h : tr σ H fun vs H1 => sp (vs ++ []) H1 D.rt E) : tRet (tCall sp [] E tr) D σ H := h
theorem s_retS {z : List Nat} (h : EvS te σ H z) (k : ∀ H1, Ex H H1 → D.rt (.str (S z)) H1) : tRet te D σ H := h H (Ex.refl H) _ k
/-- if c: x = e, then the rest, told by what both ways reach -/
theorem q_whenK2 {b : Bool} (M : List (Option V) → Hp → Prop) (h : EvT t σ H b) (k : ∀ σ' H', M σ' H' → tz D σ' H') (h1 : (∀ σ' H', M σ' H' → tz D σ' H') → b = true → ∀ H1, Ex H H1 → tu { D with nx := tz D } σ H1) (h2 : b = false → ∀ H1, Ex H H1 → M σ H1) : tSeq (tIfS t tu tNext) tz D σ H := q_when h (h1 k) fun b H1 e => k σ H1 (h2 b H1 e)
end
end Wt

set_option Elab.async false
set_option linter.all false
set_option maxRecDepth 100000
set_option maxHeartbeats 4000000
namespace Wt
open PySem PySem.Spec PyProof.Rows L2 SX Evl
open C8 (Def Cal cal0 fnScope_by fnScope)
/-! The dice, likeness, a pick. -/
section
variable {P : Program} {w : World} {K : PySem.W.Frag} {mg : Str → Option Value} {base : Heap}
/-! ### _law_dice -/
abbrev s__law_dice : Stmt := topS 25
theorem sc__law_dice : FnScope ["_law_script", "_law_mixed", "_law_cell"] ["_law_script"] (fnScope s__law_dice) := fnScope_by (by decide +kernel)
theorem ok_dice0 (T : ModsL K mg) {f : Addr} {fd : FuncData} (F : Def K mg "_law_dice" s__law_dice f fd) (b : Binds K fd ["_law_script"] []) : Cal P w K mg base 1 "_law_dice" (spDice0 K) [] := by
  refine cal0 F b .nil sc__law_dice (fun vs H Q E h => ?_) (fun cdv A outer s H vs Q E hr h => ?_)
  · obtain ⟨_, _, rfl, _⟩ := h
    rfl
  · obtain ⟨a, ns, rfl, hS, q⟩ := h
    have m_int := T.m_int
    have m_len := T.m_len
    refine ⟨_, (pss_cons (ps_set (i := 1) sc__law_dice.nd rfl (.inl rfl) pe_int)
      (pss_cons (ps_for PassesOwn.never rfl (pi_list (pv 0)) (pg_name (i := 2) sc__law_dice.nd rfl (.inl rfl)) (pss_one (ps_set (i := 1) sc__law_dice.nd rfl (.inl rfl) (pe_op op_mod (pe_op op_add (pe_op op_add (pe_op op_mul (pv 1) pe_int) (pe_op op_mul (pe_op op_mod (pv 2) pe_int) pe_int)) pe_int) pe_int))))
      (pss_one (ps_ret (pe_lst (pa_cons (pv 0) (pa_cons pe_int (pa_cons (pe_op op_mul (pv 1) (pe_callTy call_int1 (by rfl) m_int Wt.bt_int (pa_cons (pe_cmpR op_gt (pe_callB call_len_seq (by rfl) m_len PySem.boot_len (pa_cons (pv 0) pa_nil)) pe_int (nomark _)) pa_nil))) (pa_cons pe_int pa_nil))))))))), ?_⟩
    refine q_asg ev_c fun H1 e1 => ?_
    refine q_forLn (ev_var rfl) (hS.ex e1).sq (fun i σ' H' => ∃ (m : Int) (y : Option V), σ' = [some (.ref a), some (.int m), y] ∧ 0 ≤ m ∧ m < 2147483647 ∧ Ex H H')
      (fun H2 e2 => ⟨0, none, rfl, by decide, by decide, e1.trans e2⟩) (fun i σ' H' _ ⟨_, _, _, _, _, e⟩ => (hS.ex e).sq) ?_ ?_
    · rintro i x σ' H' hx ⟨m, y, rfl, h0, h1, eH⟩
      rw [List.getElem?_map] at hx
      obtain ⟨c, rfl⟩ : ∃ c, x = V.int c := by
        cases hc : ns[i]? with
        | none =>
          rw [hc] at hx
          cases hx
        | some c =>
          rw [hc] at hx
          exact ⟨c, (Option.some.inj hx).symm⟩
      have b1 := Int.emod_nonneg c (show (2147483647 : Int) ≠ 0 by decide)
      have b2 := Int.emod_lt_of_pos c (show (0 : Int) < 2147483647 by decide)
      refine s_asg (ev_op (ev_op (ev_op (ev_op (ev_var rfl) ev_c (rv_I (.inl ⟨by omega, by omega⟩))) (ev_op (ev_op (ev_var rfl) ev_c (rv_I (show (0 : Int) < 2147483647 by decide))) ev_c (rv_I (.inl ⟨by omega, by omega⟩))) rv_I0) ev_c rv_I0) ev_c (rv_I (show (0 : Int) < 2147483647 by decide))) fun H2 e2 => ?_
      exact ⟨_, _, rfl, Int.emod_nonneg _ (by decide), Int.emod_lt_of_pos _ (by decide), eH.trans e2⟩
    · rintro σ' H' ⟨m, y, rfl, h0, h1, eH⟩
      have hq := hS.ex eH
      refine s_retL (xs := [.ref a, .int 0, .int (m * (if decide ((2 : Int) < ((ns.map V.int).length : Int)) = true then 1 else 0)), .int 0])
        (el_lst (ea_cons (ev_var rfl) (ea_cons ev_c (ea_cons (ev_op (ev_var rfl) (ev_cb (ea_cons (ev_op (ev_len (K := K) (ev_var rfl) hq.sq) ev_c rv_I0) ea_nil) (fun H1 _ Q q => .inr ⟨_, rfl, q H1 (Ex.refl H1)⟩)) (rv_I (.inl ⟨by omega, by omega⟩))) (ea_cons ev_c ea_nil)))) (by show 4 ≤ 100000; decide))
        fun p H2 hp e2 h2 => q p H2 _ (fresh_back eH hp) (eH.trans e2) ?_ ?_ h2
      · split <;> omega
      · split <;> omega
theorem ok_dice (c : Cal P w K mg base 1 "_law_dice" (spDice0 K) []) : Cal P w K mg base 1 "_law_dice" (spDice K) [] := by
  obtain ⟨f, fd, ps, ds, F, h1, h2, h3, h4⟩ := c.ex
  cases h4
  refine ⟨f, fd, ps, [], fn_seen F (fun vs H Q E h => ?_) (fun vs H Q E h hp ok => ?_), h1, h2, h3, .nil⟩
  · obtain ⟨a, ns, rfl, hS, q⟩ := h
    exact F.len [.ref a] H (fun v H' => True) E ⟨a, ns, rfl, hS, fun _ _ _ _ _ _ _ _ => trivial⟩
  · obtain ⟨a, ns, rfl, hS, q⟩ := h
    refine ⟨H, fun v H2 => ∃ p m, v = .ref p ∧ H p = none ∧ Ex H H2 ∧ 0 ≤ m ∧ m < 2147483647 ∧ H2 p = some (.lst [.ref a, .int 0, .int m, .int 0]), ⟨fun _ h => h, fun _ _ h => h, fun _ _ _ h => h, fun _ _ h => h⟩, ok,
      ⟨a, ns, rfl, hS, fun p H2 m hp2 e h0 h1 h2 => ⟨p, m, rfl, hp2, e, h0, h1, h2⟩⟩, ?_⟩
    rintro v H2 hp2 ok2 ⟨p, m, rfl, hn, e, h0, h1, h2⟩
    obtain ⟨al, ok3⟩ := dice_in ok2 h2 (Int.le_refl 0) h0 h1
    exact ⟨_, al, ok3, q p _ hn (Ex.mut e hn) upd_same⟩

/-! ### _law_next -/
abbrev s__law_next : Stmt := topS 26
theorem sc__law_next : FnScope ["_law_dice_here", "_law_many", "_law_found", "_law_cell"] ["_law_dice_here", "_law_many"] (fnScope s__law_next) := fnScope_by (by decide +kernel)
theorem ok_next0 (T : ModsL K mg) {f : Addr} {fd : FuncData} (F : Def K mg "_law_next" s__law_next f fd) (b : Binds K fd ["_law_dice_here", "_law_many"] []) : Cal P w K mg base 1 "_law_next" (spNext0 K) [] := by
  refine cal0 F b .nil sc__law_next (fun vs H Q E h => ?_) (fun cdv A outer s H vs Q E hr h => ?_)
  · obtain ⟨_, _, _, _, _, _, _, rfl, _⟩ := h
    rfl
  · obtain ⟨d, a, ns, many, i, m, r, rfl, hm0, hm1, hd, hi, h0, h1, hS, q⟩ := h
    have m_len := T.m_len
    refine ⟨_, (pss_cons (ps_if (pt_cmpR op_gt (pe_ix ix_list (pv 0) pe_int (fun _ _ => rfl)) pe_int (nomark _)) (pss_cons (ps_set (i := 2) sc__law_next.nd rfl (.inl rfl) (pe_op op_mod (pe_ix ix_list (pv 0) pe_int (fun _ _ => rfl)) (pv 1)))
      (pss_cons (ps_asg (pe_op op_fdiv (pe_ix ix_list (pv 0) pe_int (fun _ _ => rfl)) (pv 1)) (pg_sub (pv 0) pe_int set_list))
      (pss_one (ps_ret (pv 2))))) pss_nil)
      (pss_cons (ps_asg (pe_op op_add (pe_ix ix_list (pv 0) pe_int (fun _ _ => rfl)) pe_int) (pg_sub (pv 0) pe_int set_list))
      (pss_cons (ps_if (pt_cmpR op_le (pe_ix ix_list (pv 0) pe_int (fun _ _ => rfl)) (pe_callB call_len_seq (by rfl) m_len PySem.boot_len (pa_cons (pe_ix ix_list (pv 0) pe_int (fun _ _ => rfl)) pa_nil)) (nomark _)) (pss_cons (ps_set (i := 3) sc__law_next.nd rfl (.inl rfl) (pe_ix ix_list (pe_ix ix_list (pv 0) pe_int (fun _ _ => rfl)) (pe_op op_sub (pe_ix ix_list (pv 0) pe_int (fun _ _ => rfl)) pe_int) (fun _ _ => rfl)))
      (pss_cons (ps_asg (pe_ifExp (pt_cmpR op_ge (pv 3) (pe_op op_pow pe_int pe_int) (nomark _)) (pe_op op_fdiv (pv 3) (pv 1)) pe_int) (pg_sub (pv 0) pe_int set_list))
      (pss_one (ps_ret (pe_op op_mod (pv 3) (pv 1)))))) pss_nil)
      (pss_cons (ps_asg (pe_op op_mod (pe_op op_mul (pe_ix ix_list (pv 0) pe_int (fun _ _ => rfl)) pe_int) pe_int) (pg_sub (pv 0) pe_int set_list))
      (pss_one (ps_ret (pe_op op_mod (pe_op op_fdiv (pe_ix ix_list (pv 0) pe_int (fun _ _ => rfl)) pe_int) (pv 1)))))))), ?_⟩
    have ix : ∀ {H' : Hp} {σ : L2.St} {ta tb : TE} {xs : List V} {j : Nat} {v : V}, Ev ta σ H' (.ref d) → Ev tb σ H' (.int (j : Int)) → H' d = some (.lst xs) → xs[j]? = some v → Ev (tOp (rIxL K) ta tb) σ H' v :=
      fun ha hb h1 h2 => ev_op ha hb (rv_ixL (sq_of h1) (atI_nat h2))
    have c0 : ∀ {H' : Hp} {σ : L2.St}, Ev (tC (.int 0)) σ H' (.int ((0 : Nat) : Int)) := ev_c
    have c1 : ∀ {H' : Hp} {σ : L2.St}, Ev (tC (.int 1)) σ H' (.int ((1 : Nat) : Int)) := ev_c
    have c2 : ∀ {H' : Hp} {σ : L2.St}, Ev (tC (.int 2)) σ H' (.int ((2 : Nat) : Int)) := ev_c
    have c3 : ∀ {H' : Hp} {σ : L2.St}, Ev (tC (.int 3)) σ H' (.int ((3 : Nat) : Int)) := ev_c
    have hdiv : ∀ x : Int, CDiv x many := fun x => ⟨hm0, hm1⟩
    have rz : ∀ x : Int, 0 ≤ x % many ∧ x % many < many := fun x => ⟨Int.emod_nonneg x (by omega), Int.emod_lt_of_pos x hm0⟩
    refine q_when (et_test (ev_op (ix (ev_var rfl) c3 hd rfl) ev_c rv_I0)) (fun hb H1 e1 => ?_) (fun hb H1 e1 => ?_)
    · have hd1 := e1 d _ hd
      refine q_asg (ev_op (ix (ev_var rfl) c3 hd1 rfl) (ev_var rfl) (rv_I hm0)) fun H2 e2 => ?_
      have hd2 := e2 d _ hd1
      refine q_setL (xs := [.ref a, .int i, .int m, .int r]) (j := 3) hd2 (ev_op (ix (ev_var rfl) c3 hd2 rfl) (ev_var rfl) (rv_I (hdiv r))) (ev_var rfl) c3 (by show 3 < 4; decide) fun H3 e3 => ?_
      have x3 : Exd d H (upd H3 d (.lst ([V.ref a, .int i, .int m, .int r].set 3 (.int (r / many))))) := fun b o hb2 ho => by
        rw [upd_ne hb2]
        exact e3 b o (e2 b o (e1 b o ho))
      refine s_ret (ev_var rfl) fun H4 e4 => q _ H4 i m (r / many) (rz r).1 (rz r).2 hi h0 h1 (e4 d _ upd_same) fun b o hb2 ho => e4 b o (x3 b o hb2 ho)
    · have hd1 := e1 d _ hd
      refine q_setL (xs := [.ref a, .int i, .int m, .int r]) (j := 1) hd1 (ev_op (ix (ev_var rfl) c1 hd1 rfl) ev_c rv_I0) (ev_var rfl) c1 (by show 1 < 4; decide) fun H2 e2 => ?_
      have hd2 := e2 d _ hd1
      have hd3 : (upd H2 d (.lst ([V.ref a, .int i, .int m, .int r].set 1 (.int (i + 1))))) d = some (.lst [.ref a, .int (i + 1), .int m, .int r]) := upd_same
      have x3 : Exd d H (upd H2 d (.lst ([V.ref a, .int i, .int m, .int r].set 1 (.int (i + 1))))) := fun b o hb2 ho => by
        rw [upd_ne hb2]
        exact e2 b o (e1 b o ho)
      have hS3 : Scr K (upd H2 d (.lst ([V.ref a, .int i, .int m, .int r].set 1 (.int (i + 1))))) a ns := (hS.ex (e1.trans e2)).fx (Fx.mut hd2 True.intro)
      generalize upd H2 d (.lst ([V.ref a, .int i, .int m, .int r].set 1 (.int (i + 1)))) = H3 at hd3 x3 hS3 ⊢
      refine q_when (et_test (ev_op (ix (ev_var rfl) c1 hd3 rfl) (ev_len (K := K) (ix (ev_var rfl) c0 hd3 rfl) hS3.sq) rv_I0)) (fun hb2 H4 e4 => ?_) (fun hb2 H4 e4 => ?_)
      · have hle := of_decide_eq_true hb2
        rw [List.length_map] at hle
        have hd4 := e4 d _ hd3
        have hlt : i.toNat < ns.length := by omega
        have hg : (ns.map V.int)[i.toNat]? = some (.int ns[i.toNat]) := by
          rw [List.getElem?_map, List.getElem?_eq_getElem hlt] <;> rfl
        refine q_asg (ev_op (ix (ev_var rfl) c0 hd4 rfl) (ev_is (ev_op (ix (ev_var rfl) c1 hd4 rfl) ev_c rv_I0) (show V.int (i + 1 - 1) = V.int ((i.toNat : Nat) : Int) by rw [show i + 1 - 1 = ((i.toNat : Nat) : Int) by omega])) (rv_ixL (hS3.ex e4).sq (atI_nat hg))) fun H5 e5 => ?_
        have hd5 := e5 d _ hd4
        refine q_setL (xs := [.ref a, .int (i + 1), .int m, .int r]) (j := 3) (v := .int (if decide ((10 : Int) ^ (18 : Int).toNat ≤ ns[i.toNat]) = true then ns[i.toNat] / many else 0)) hd5
          (ev_if (et_test (ev_op (ev_var rfl) (ev_op ev_c ev_c (rv_I ⟨by decide, by decide, by decide⟩)) rv_I0)) (fun z => ?_) (fun z => ?_)) (ev_var rfl) c3 (by show 3 < 4; decide) fun H6 e6 => ?_
        · rw [if_pos z]
          exact ev_op (ev_var rfl) (ev_var rfl) (rv_I (hdiv _))
        · rw [if_neg (by rw [z]; exact Bool.false_ne_true)]
          exact ev_c
        · have x6 : Exd d H (upd H6 d (.lst ([V.ref a, .int (i + 1), .int m, .int r].set 3 (.int (if decide ((10 : Int) ^ (18 : Int).toNat ≤ ns[i.toNat]) = true then ns[i.toNat] / many else 0))))) := fun b o hb2 ho => by
            rw [upd_ne hb2]
            exact e6 b o (e5 b o (e4 b o (x3 b o hb2 ho)))
          refine s_ret (ev_op (ev_var rfl) (ev_var rfl) (rv_I hm0)) fun H7 e7 => q _ H7 (i + 1) m _ (rz _).1 (rz _).2 (by omega) h0 h1 (e7 d _ upd_same) fun b o hb2 ho => e7 b o (x6 b o hb2 ho)
      · have hd4 := e4 d _ hd3
        refine q_setL (xs := [.ref a, .int (i + 1), .int m, .int r]) (j := 2) hd4 (ev_op (ev_op (ix (ev_var rfl) c2 hd4 rfl) ev_c (rv_I (.inl ⟨by omega, by omega⟩))) ev_c (rv_I (show (0 : Int) < 2147483647 by decide))) (ev_var rfl) c2 (by show 2 < 4; decide) fun H5 e5 => ?_
        have hd6 : (upd H5 d (.lst ([V.ref a, .int (i + 1), .int m, .int r].set 2 (.int (m * 48271 % 2147483647))))) d = some (.lst [.ref a, .int (i + 1), .int (m * 48271 % 2147483647), .int r]) := upd_same
        have x6 : Exd d H (upd H5 d (.lst ([V.ref a, .int (i + 1), .int m, .int r].set 2 (.int (m * 48271 % 2147483647))))) := fun b o hb2 ho => by
          rw [upd_ne hb2]
          exact e5 b o (e4 b o (x3 b o hb2 ho))
        generalize upd H5 d (.lst ([V.ref a, .int (i + 1), .int m, .int r].set 2 (.int (m * 48271 % 2147483647)))) = H6 at hd6 x6 ⊢
        refine s_ret (ev_op (ev_op (ix (ev_var rfl) c2 hd6 rfl) ev_c (rv_I ⟨by decide, by decide⟩)) (ev_var rfl) (rv_I hm0)) fun H7 e7 => q _ H7 (i + 1) _ r (rz _).1 (rz _).2 (by omega) (Int.emod_nonneg _ (by decide)) (Int.emod_lt_of_pos _ (by decide)) (e7 d _ hd6) fun b o hb2 ho => e7 b o (x6 b o hb2 ho)
theorem ok_next (c : Cal P w K mg base 1 "_law_next" (spNext0 K) []) : Cal P w K mg base 1 "_law_next" (spNext K) [] := by
  obtain ⟨f, fd, ps, ds, F, h1, h2, h3, h4⟩ := c.ex
  cases h4
  refine ⟨f, fd, ps, [], fn_seen F (fun vs H Q E h => ?_) (fun vs H Q E h hp ok => ?_), h1, h2, h3, .nil⟩
  · obtain ⟨d, a, ns, many, rfl, m0, m1, hd, hS, q⟩ := h
    have hS2 : Scr K (upd H d (.lst [.ref a, .int 0, .int 0, .int 0])) a ns := hS.fx (Fx.mut hd True.intro)
    exact F.len [.ref d, .int many] _ (fun v H' => True) E ⟨d, a, ns, many, 0, 0, 0, rfl, m0, m1, upd_same, by decide, by decide, by decide, hS2, fun _ _ _ _ _ _ _ _ _ _ _ _ => trivial⟩
  · obtain ⟨d, a, ns, many, rfl, m0, m1, hd, hS, q⟩ := h
    obtain ⟨i, m, r, b0, b1, b2, al, ok1⟩ := dice_out ok hd
    refine ⟨_, fun v H2 => ∃ z i' m' r', v = .int z ∧ 0 ≤ z ∧ z < many ∧ 0 ≤ i' ∧ 0 ≤ m' ∧ m' < 2147483647 ∧ H2 d = some (.lst [.ref a, .int i', .int m', .int r']) ∧ Exd d (upd H d (.lst [.ref a, .int i, .int m, .int r])) H2, al, ok1,
      ⟨d, a, ns, many, i, m, r, rfl, m0, m1, upd_same, b0, b1, b2, hS.fx (Fx.mut hd True.intro), fun z H2 i' m' r' z0 z1 z2 z3 z4 z5 z6 => ⟨z, i', m', r', rfl, z0, z1, z2, z3, z4, z5, z6⟩⟩, ?_⟩
    rintro v H2 hp2 ok2 ⟨z, i', m', r', rfl, z0, z1, z2, z3, z4, z5, z6⟩
    obtain ⟨al2, ok3⟩ := dice_in ok2 z5 z2 z3 z4
    refine ⟨_, al2, ok3, q z _ z0 z1 fun b o ho => ?_⟩
    by_cases hb : b = d
    · subst hb
      rw [hd] at ho
      cases ho
      exact upd_same
    · rw [upd_ne hb]
      exact z6 b o hb (by rw [upd_ne hb]; exact ho)

/-! ### _law_pick -/
abbrev s__law_pick : Stmt := topS 28
theorem sc__law_pick : FnScope ["_law_d", "_law_some"] ["_law_d", "_law_some"] (fnScope s__law_pick) := fnScope_by (by decide +kernel)
def spPick (K : PySem.W.Frag) : Sp := fun vs H Q _ => ∃ (d a s : Addr) (ns : List Int) (xs : List V), vs = [.ref d, .ref s] ∧ Dc K H d a ns ∧ SqL K H s xs ∧ 0 < xs.length ∧ xs.length ≤ 1000 ∧ ∀ x H2, x ∈ xs → Ex H H2 → Q x H2
theorem ok_pick (T : ModsL K mg) (c__law_next : Cal P w K mg base 1 "_law_next" (spNext K) []) {f : Addr} {fd : FuncData} (F : Def K mg "_law_pick" s__law_pick f fd) (b : Binds K fd ["_law_d", "_law_some"] []) : Cal P w K mg base 2 "_law_pick" (spPick K) [] := by
  refine cal0 F b .nil sc__law_pick (fun vs H Q E h => ?_) (fun cdv A outer s H vs Q E hr h => ?_)
  · obtain ⟨_, _, _, _, _, rfl, _⟩ := h
    rfl
  · obtain ⟨d, a, sa, ns, xs, rfl, hD, hS, hl0, hl1, q⟩ := h
    have m_len := T.m_len
    refine ⟨_, (pss_one (ps_ret (pe_ix ix_list (pv 1) (C8.pe_c c__law_next hr (by first | decide | exact Nat.le_refl _ | omega) (by rfl) (pa_cons (pv 0) (pa_cons (pe_callB call_len_seq (by rfl) m_len PySem.boot_len (pa_cons (pv 1) pa_nil)) pa_nil))) (fun _ _ => rfl)))), ?_⟩
    refine sn_ret (P := fun x => x ∈ xs) (en_opV (EvN.of (ev_var rfl)) (fun x hx => en_next hD (ev_var rfl) (ev_len (K := K) (ev_var rfl) hS) (by omega) (by omega)) ?_) fun v H1 hv e1 => q v H1 hv e1
    rintro x y rfl ⟨z, rfl, z0, z1⟩
    obtain ⟨k, rfl⟩ : ∃ k : Nat, z = (k : Int) := ⟨z.toNat, by omega⟩
    have hlt : k < xs.length := by omega
    refine ⟨xs[k], List.getElem_mem hlt, ?_⟩
    exact rv_ixL hS (atI_nat (List.getElem?_eq_getElem hlt))
theorem sn_pick {H : Hp} {d a s : Addr} {ns : List Int} {xs : List V} (h : Dc K H d a ns) (hs : SqL K H s xs) (l0 : 0 < xs.length) (l1 : xs.length ≤ 1000) : SpN (spPick K) [.ref d, .ref s] H (fun v => v ∈ xs) :=
  fun H1 e Q q E => ⟨d, a, s, ns, xs, rfl, h.ex e, ex_l e hs, l0, l1, fun x H2 hx e2 => q x H2 hx e2⟩
/-- a pick out of a list made on the way -/
theorem en_pickL {H : Hp} {σ : L2.St} {E : XK} {ta tb : TE} {d a : Addr} {ns : List Int} {xs : List V} (h : Dc K H d a ns) (ha : Ev ta σ H (.ref d)) (hb : EvL tb σ H xs) (l0 : 0 < xs.length) (l1 : xs.length ≤ 1000) :
    EvN (tCall (spPick K) [] E (tCons ta (tCons tb tNil))) σ H (fun v => v ∈ xs) := fun H1 e Q q =>
  ha H1 e _ fun H2 e2 => hb H2 (e.trans e2) _ fun p H3 _ e3 hp => ⟨d, a, p, ns, xs, rfl, h.ex ((e.trans e2).trans e3), sq_of hp, l0, l1, fun x H4 hx e4 => q x H4 hx ((e2.trans e3).trans e4)⟩
end
end Wt

set_option Elab.async false
set_option linter.all false
set_option maxRecDepth 100000
set_option maxHeartbeats 4000000
namespace Wt
open PySem PySem.Spec PyProof.Rows L2 SX Evl
open C8 (Def Cal cal0 fnScope_by fnScope)
/-! Likeness: of two of the same data it tells True. -/
section
variable {P : Program} {w : World} {K : PySem.W.Frag} {mg : Str → Option Value} {base : Heap}
abbrev s__law_like : Stmt := topS 27
theorem sc__law_like : FnScope ["_law_found", "_law_due", "_law_k"] ["_law_found", "_law_due"] (fnScope s__law_like) := fnScope_by (by decide +kernel)
def spLike (K : PySem.W.Frag) (n : Nat) : Sp := fun vs H Q _ => ∃ (x y : V) (d : PyData), vs = [x, y] ∧ Dp K H x d ∧ Dp K H y d ∧ d.depth < n ∧ wideD d = true ∧ RetV (.bl true) H Q
theorem ok_like1 (T : ModsL K mg) (n : Nat) (c__law_like : Cal P w K mg base n "_law_like" (spLike K n) []) {f : Addr} {fd : FuncData} (F : Def K mg "_law_like" s__law_like f fd) (b : Binds K fd ["_law_found", "_law_due"] []) : Cal P w K mg base (n + 1) "_law_like" (spLike K (n + 1)) [] := by
  refine cal0 F b .nil sc__law_like (fun vs H Q E h => ?_) (fun cdv A outer s H vs Q E hr h => ?_)
  · obtain ⟨_, _, _, rfl, _⟩ := h
    rfl
  · obtain ⟨x, y, d, rfl, hx, hy, hdep, hwd, q⟩ := h
    have m_isinstance := T.m_isinstance
    have m_tuple := T.m_tuple
    have m_list := T.m_list
    have m_len := T.m_len
    have m_range := T.m_range
    have m_bool := T.m_bool
    have m_int := T.m_int
    have m_str := T.m_str
    have hu64 := hr.units
    refine ⟨_, (pss_cons (ps_if (PW.pt (pw_or (pt_val (pe_callB call_isi (by rfl) m_isinstance Wt.bt_isinstance (pa_cons (pv 1) (pa_cons (pe_bltn (v := .ty "tuple") (by rfl) m_tuple Wt.bt_tuple rfl) pa_nil)))) (pw_or1 (pt_val (pe_callB call_isi (by rfl) m_isinstance Wt.bt_isinstance (pa_cons (pv 1) (pa_cons (pe_bltn (v := .ty "list") (by rfl) m_list Wt.bt_list rfl) pa_nil))))))) (pss_cons (ps_if (pt_cmpR op_ne (pe_callB call_isi (by rfl) m_isinstance Wt.bt_isinstance (pa_cons (pv 0) (pa_cons (pe_bltn (v := .ty "tuple") (by rfl) m_tuple Wt.bt_tuple rfl) pa_nil))) (pe_callB call_isi (by rfl) m_isinstance Wt.bt_isinstance (pa_cons (pv 1) (pa_cons (pe_bltn (v := .ty "tuple") (by rfl) m_tuple Wt.bt_tuple rfl) pa_nil))) (nomark _)) (pss_one (ps_ret pe_bl)) pss_nil)
      (pss_cons (ps_if (PW.pt (pw_or (pt_cmpR op_ne (pe_callB call_isi (by rfl) m_isinstance Wt.bt_isinstance (pa_cons (pv 0) (pa_cons (pe_bltn (v := .ty "list") (by rfl) m_list Wt.bt_list rfl) pa_nil))) (pe_callB call_isi (by rfl) m_isinstance Wt.bt_isinstance (pa_cons (pv 1) (pa_cons (pe_bltn (v := .ty "list") (by rfl) m_list Wt.bt_list rfl) pa_nil))) (nomark _)) (pw_or1 (pt_cmpR op_ne (pe_callB call_len_seq (by rfl) m_len PySem.boot_len (pa_cons (pv 0) pa_nil)) (pe_callB call_len_seq (by rfl) m_len PySem.boot_len (pa_cons (pv 1) pa_nil)) (nomark _))))) (pss_one (ps_ret pe_bl)) pss_nil)
      (pss_one (ps_ret (pe_cmpR (op_eqD hu64) (pe_lc (own := [("_law_k", 2)]) (g := (gName 2)) rfl sc__law_like.nd (pi_range1 (by rfl) m_range (pa_cons (pe_callB call_len_seq (by rfl) m_len PySem.boot_len (pa_cons (pv 1) pa_nil)) pa_nil)) (blkOk_by (N := ["_law_found", "_law_due", "_law_k"]) (sc := C8.fnScope s__law_like) (by decide +kernel)) (fun _ _ _ _ _ => pg_name (i := 2) sc__law_like.nd rfl (Or.inl rfl)) (fun _ _ _ _ _ => pts_one (pt_not (pt_val (C8.pe_c c__law_like hr (by first | decide | exact Nat.le_refl _ | omega) (by rfl) (pa_cons (pe_ix (show IxR _ (rIx K) from ix_seq) (pv 0) (pv 2) (fun _ _ => rfl)) (pa_cons (pe_ix (show IxR _ (rIx K) from ix_seq) (pv 1) (pv 2) (fun _ _ => rfl)) pa_nil)))))) (fun _ _ _ _ _ => (pv 2))) (pe_lst pa_nil) (nomark _)))))) pss_nil)
      (pss_cons (ps_if (pt_cmpR op_ne (pe_callB call_isi (by rfl) m_isinstance Wt.bt_isinstance (pa_cons (pv 0) (pa_cons (pe_bltn (v := .ty "bool") (by rfl) m_bool Wt.bt_bool rfl) pa_nil))) (pe_callB call_isi (by rfl) m_isinstance Wt.bt_isinstance (pa_cons (pv 1) (pa_cons (pe_bltn (v := .ty "bool") (by rfl) m_bool Wt.bt_bool rfl) pa_nil))) (nomark _)) (pss_one (ps_ret pe_bl)) pss_nil)
      (pss_cons (ps_if (PW.pt (pw_or (pt_cmpR op_ne (pe_callB call_isi (by rfl) m_isinstance Wt.bt_isinstance (pa_cons (pv 0) (pa_cons (pe_bltn (v := .ty "int") (by rfl) m_int Wt.bt_int rfl) pa_nil))) (pe_callB call_isi (by rfl) m_isinstance Wt.bt_isinstance (pa_cons (pv 1) (pa_cons (pe_bltn (v := .ty "int") (by rfl) m_int Wt.bt_int rfl) pa_nil))) (nomark _)) (pw_or1 (pt_cmpR op_ne (pe_callB call_isi (by rfl) m_isinstance Wt.bt_isinstance (pa_cons (pv 0) (pa_cons (pe_bltn (v := .ty "str") (by rfl) m_str Wt.bt_str rfl) pa_nil))) (pe_callB call_isi (by rfl) m_isinstance Wt.bt_isinstance (pa_cons (pv 1) (pa_cons (pe_bltn (v := .ty "str") (by rfl) m_str Wt.bt_str rfl) pa_nil))) (nomark _))))) (pss_one (ps_ret pe_bl)) pss_nil)
      (pss_one (ps_ret (pe_cmpR op_eq (pv 0) (pv 1) (nomark _))))))), ?_⟩
    by_cases hs : ∃ ds, d = .list ds ∨ d = .tuple ds
    · obtain ⟨ds, hd⟩ := hs
      obtain ⟨p, xs, pq, ys, rfl, rfl, gx, gy, ax, ay⟩ := like_seq hd hx hy
      have lx := dpa_len ax
      have ly := dpa_len ay
      have hw2 : ds.length ≤ 40000 ∧ wideAll ds = true ∧ PyData.depthAll ds < n := by
        rcases hd with rfl | rfl
        · unfold wideD at hwd
          rw [Bool.and_eq_true] at hwd
          unfold PyData.depth at hdep
          exact ⟨of_decide_eq_true hwd.1, hwd.2, by omega⟩
        · unfold wideD at hwd
          rw [Bool.and_eq_true] at hwd
          unfold PyData.depth at hdep
          exact ⟨of_decide_eq_true hwd.1, hwd.2, by omega⟩
      obtain ⟨bt, bl, kt, kl, hor⟩ : ∃ bt bl : Bool, kitB (tyN d) "tuple" = some bt ∧ kitB (tyN d) "list" = some bl ∧ (bt || bl) = true := by
        rcases hd with rfl | rfl
        · exact ⟨false, true, (show kitB "list" "tuple" = some false by decide +kernel), (show kitB "list" "list" = some true by decide +kernel), rfl⟩
        · exact ⟨true, false, (show kitB "tuple" "tuple" = some true by decide +kernel), (show kitB "tuple" "list" = some false by decide +kernel), rfl⟩
      refine q_when (et_is (et_or (et_B (ev_isi (ev_var rfl) ev_c hy kt)) fun _ => et_B (ev_isi (ev_var rfl) ev_c hy kl)) hor) (fun _ H1 e1 => ?_) (fun z => by cases z)
      have hx1 := Dp.ex e1 d _ hx
      have hy1 := Dp.ex e1 d _ hy
      refine q_when (b := false) (et_is (et_test (ev_op (ev_isi (ev_var rfl) ev_c hx1 kt) (ev_isi (ev_var rfl) ev_c hy1 kt) (rv_ne rfl))) (by simp)) (fun z => by cases z) (fun _ H2 e2 => ?_)
      have hx2 := Dp.ex e2 d _ hx1
      have hy2 := Dp.ex e2 d _ hy1
      have e12 := e1.trans e2
      refine q_when (b := false) (et_is (et_or (et_test (ev_op (ev_isi (ev_var rfl) ev_c hx2 kl) (ev_isi (ev_var rfl) ev_c hy2 kl) (rv_ne rfl))) fun _ =>
        et_test (ev_op (ev_lenD (K := K) (ev_var rfl) (gx.imp (ex_l e12) (ex_t e12))) (ev_lenD (K := K) (ev_var rfl) (gy.imp (ex_l e12) (ex_t e12))) (rv_ne rfl))) (by simp [lx, ly])) (fun z => by cases z) (fun _ H3 e3 => ?_)
      have e13 := e12.trans e3
      have gx3 := gx.imp (ex_l e13) (ex_t e13)
      have gy3 := gy.imp (ex_l e13) (ex_t e13)
      refine s_ret (ev_eqNil (K := K) ?_) fun H4 e4 => q.go (e13.trans e4)
      have lc := el_lcR1 (j := 2) (vs := [2]) (n := (ys.length : Int)) (σ := [some (V.ref p), some (V.ref pq), none]) (H := H3) (fun _ => false) (fun _ => V.non)
        (ta := tCons (tCB (rLenS K) (tCons (tVar 1) tNil)) tNil) (te := tVar 2)
        (t := tNot (tB (tCall (spLike K n) [] C8.E0 (tCons (tOp (rIx K) (tVar 0) (tVar 2)) (tCons (tOp (rIx K) (tVar 1) (tVar 2)) tNil)))))
        (ea_cons (ev_lenD (K := K) (ev_var rfl) gy3) ea_nil) ⟨by omega, by rw [ly]; omega⟩ (fun _ => rfl) (fun i H4 e4 hi => ?_) (fun i H4 e4 hi z => by cases z)
      · rw [Int.toNat_natCast, given_none] at lc
        exact lc
      · have hid : i < ds.length := by omega
        obtain ⟨vx, d1, g1, g2, g3⟩ := dpa_get ax hid
        obtain ⟨vy, d2, k1, k2, k3⟩ := dpa_get ay hid
        rw [g2] at k2
        cases k2
        have e14 := e13.trans e4
        refine et_not (et_B (b := true) ?_)
        refine ev_call (dvs := []) (vs := [vx, vy]) (ea_cons (ev_ixD (ev_var rfl) (ev_var rfl) (gx.imp (ex_l e14) (ex_t e14)) g1) (ea_cons (ev_ixD (ev_var rfl) (ev_var rfl) (gy.imp (ex_l e14) (ex_t e14)) k1) ea_nil)) fun H5 e5 Q5 q5 E5 => ?_
        have e15 := e14.trans e5
        exact ⟨vx, vy, d1, rfl, Dp.ex e15 d1 _ g3, Dp.ex e15 d1 _ k3, Nat.lt_of_le_of_lt (depth_get g2) hw2.2.2, wide_get hw2.2.1 g2, fun H6 e6 => q5 H6 e6⟩
    · have n1 : ∀ ds, d ≠ .list ds := fun ds e => hs ⟨ds, .inl e⟩
      have n2 : ∀ ds, d ≠ .tuple ds := fun ds e => hs ⟨ds, .inr e⟩
      obtain ⟨rfl, hsc⟩ := like_flat n1 n2 hx hy
      obtain ⟨bb, bi, bs, kt, kl, kb, ki, ks⟩ : ∃ bb bi bs : Bool, kitB (tyN d) "tuple" = some false ∧ kitB (tyN d) "list" = some false ∧ kitB (tyN d) "bool" = some bb ∧ kitB (tyN d) "int" = some bi ∧ kitB (tyN d) "str" = some bs := by
        cases d with
        | none => exact ⟨false, false, false, (show kitB "NoneType" "tuple" = some false by decide +kernel), (show kitB "NoneType" "list" = some false by decide +kernel), (show kitB "NoneType" "bool" = some false by decide +kernel), (show kitB "NoneType" "int" = some false by decide +kernel), (show kitB "NoneType" "str" = some false by decide +kernel)⟩
        | bool _ => exact ⟨true, true, false, (show kitB "bool" "tuple" = some false by decide +kernel), (show kitB "bool" "list" = some false by decide +kernel), (show kitB "bool" "bool" = some true by decide +kernel), (show kitB "bool" "int" = some true by decide +kernel), (show kitB "bool" "str" = some false by decide +kernel)⟩
        | int _ => exact ⟨false, true, false, (show kitB "int" "tuple" = some false by decide +kernel), (show kitB "int" "list" = some false by decide +kernel), (show kitB "int" "bool" = some false by decide +kernel), (show kitB "int" "int" = some true by decide +kernel), (show kitB "int" "str" = some false by decide +kernel)⟩
        | str _ => exact ⟨false, false, true, (show kitB "str" "tuple" = some false by decide +kernel), (show kitB "str" "list" = some false by decide +kernel), (show kitB "str" "bool" = some false by decide +kernel), (show kitB "str" "int" = some false by decide +kernel), (show kitB "str" "str" = some true by decide +kernel)⟩
        | list ds => exact absurd rfl (n1 ds)
        | tuple ds => exact absurd rfl (n2 ds)
        | dict _ => cases hx
      refine q_when (et_is (et_or (et_B (ev_isi (ev_var rfl) ev_c hy kt)) fun _ => et_B (ev_isi (ev_var rfl) ev_c hy kl)) rfl) (fun z => by cases z) (fun _ H1 e1 => ?_)
      have hx1 := Dp.ex e1 d _ hx
      refine q_when (b := false) (et_is (et_test (ev_op (ev_isi (ev_var rfl) ev_c hx1 kb) (ev_isi (ev_var rfl) ev_c hx1 kb) (rv_ne rfl))) (by simp)) (fun z => by cases z) (fun _ H2 e2 => ?_)
      have hx2 := Dp.ex e2 d _ hx1
      refine q_when (b := false) (et_is (et_or (et_test (ev_op (ev_isi (ev_var rfl) ev_c hx2 ki) (ev_isi (ev_var rfl) ev_c hx2 ki) (rv_ne rfl))) fun _ =>
        et_test (ev_op (ev_isi (ev_var rfl) ev_c hx2 ks) (ev_isi (ev_var rfl) ev_c hx2 ks) (rv_ne rfl))) (by simp)) (fun z => by cases z) (fun _ H3 e3 => ?_)
      refine s_ret (ev_is (ev_op (ev_var rfl) (ev_var rfl) (rv_eq hsc)) (show V.bl (decide (x = x)) = .bl true by rw [decide_eq_true rfl])) fun H4 e4 => q.go (((e1.trans e2).trans e3).trans e4)
/-- to any depth -/
theorem ok_like (T : ModsL K mg) {f : Addr} {fd : FuncData} (F : Def K mg "_law_like" s__law_like f fd) (b : Binds K fd ["_law_found", "_law_due"] []) : ∀ n, Cal P w K mg base n "_law_like" (spLike K n) []
  | 0 => ⟨f, fd, _, [], ⟨fun vs H Q E ⟨_, _, d, _, _, _, h, _⟩ => absurd h (Nat.not_lt_zero _), fun A outer s H args us vs Q E _ _ _ _ ⟨_, _, d, _, _, _, h, _⟩ => absurd h (Nat.not_lt_zero _)⟩, F.mgf, F.kp, b, .nil⟩
  | n + 1 => ok_like1 T n (ok_like T F b n) F b
end
theorem wide_word (n : Nat) (w : Word) : wideD (wordD n w) = true := by
  unfold wordD
  simp [wideD, wideAll]
theorem depth_word (n : Nat) (w : Word) : (wordD n w).depth = 2 := by
  unfold wordD
  simp [PyData.depth, PyData.depthAll]
theorem wide_map (n : Nat) : ∀ (ws : List Word) (ds : List PyData), wideAll ds = true → wideAll (ws.map (wordD n) ++ ds) = true
  | [], ds, h => h
  | w :: ws, ds, h => by
    show (wideD (wordD n w) && wideAll (ws.map (wordD n) ++ ds)) = true
    rw [wide_word, wide_map n ws ds h] <;> rfl
theorem wide_all : ∀ (n : Nat) (rows : List (List Nat)), wideAll (allD n rows) = true
  | _, [] => rfl
  | n, r :: rows => wide_map n _ _ (wide_all (n + 1) rows)
theorem depth_map (n : Nat) : ∀ (ws : List Word) (ds : List PyData), PyData.depthAll ds ≤ 2 → PyData.depthAll (ws.map (wordD n) ++ ds) ≤ 2
  | [], ds, h => h
  | w :: ws, ds, h => by
    have ih := depth_map n ws ds h
    show PyData.depthAll (wordD n w :: (ws.map (wordD n) ++ ds)) ≤ 2
    unfold PyData.depthAll
    rw [depth_word]
    exact Nat.max_le.mpr ⟨Nat.le_refl _, ih⟩
theorem depth_all : ∀ (n : Nat) (rows : List (List Nat)), PyData.depthAll (allD n rows) ≤ 2
  | _, [] => by
    show PyData.depthAll [] ≤ 2
    unfold PyData.depthAll
    decide
  | n, r :: rows => depth_map n _ _ (depth_all (n + 1) rows)
end Wt

set_option Elab.async false
set_option linter.all false
set_option maxRecDepth 100000
set_option maxHeartbeats 4000000
namespace Wt
open PySem PySem.Spec PyProof.Rows L2 SX Evl
open PySem.Builtin.Str (occurrences partsBetween strKind)
/-! Houses as they may be: plain functions, readings of chains, of a text's count, of a dict's items. -/
def signOk (c : Nat) : Bool := decide (c = 10) || (decide (32 ≤ c) && decide (c ≤ 126) && !decide (c = 37))
def lettersOk (w : List Nat) : Bool := decide (1 ≤ w.length) && decide (w.length ≤ 6) && w.all fun c => decide (c ∈ letters)
def textOk (t : List Nat) : Bool := decide ((TL.spl [10] 0 [] t).length ≤ 60) && t.all signOk
/-- a house's files: their names and texts -/
abbrev Files := List (List Nat × List Nat)
def kvH (hs : Files) : List (Key × V) := hs.map fun p => ((Sum.inr (S p.1) : Key), V.str (S p.2))
def houseOk (hs : Files) : Bool := decide (1 ≤ hs.length) && decide (hs.length ≤ 8) && hs.all fun p => lettersOk p.1 && textOk p.2
theorem spl_pos (sep : List Nat) : ∀ (l acc : List Nat) (k : Nat), 1 ≤ (TL.spl sep k acc l).length
  | [], acc, k => by rw [TL.spl_nil]; exact Nat.le_refl _
  | c :: r, acc, 0 => by
    cases h : TL.pre sep (c :: r) with
    | true => rw [TL.spl_hit h, List.length_cons]; omega
    | false => rw [TL.spl_miss h]; exact spl_pos sep r _ 0
  | c :: r, acc, k + 1 => spl_pos sep r acc k
theorem count_spl (t : List Nat) : Txt.count (S t) (S [10]) = ((TL.spl [10] 0 [] t).length : Int) - 1 := by
  have e := congrArg List.length (split_S (a := t) (b := [10]) (by simp) (by decide))
  rw [List.length_map] at e
  have hp := spl_pos [10] t [] 0
  rw [← e]
  show (((occurrences (S t) (S [10]) 0 (S t).length ((S t).length + 1)).length : Nat) : Int) = _
  unfold Txt.split
  by_cases h0 : t = []
  · subst h0
    decide +kernel
  have hlt : 1 ≤ (S t).length := by
    rw [S_len]
    cases t with
    | nil => exact absurd rfl h0
    | cons c r => rw [List.length_cons]; omega
  have hk : strKind (S [10]) = 1 := by decide +kernel
  have hk1 : 1 ≤ strKind (S t) := by
    unfold PySem.Builtin.Str.strKind
    split
    · exact Nat.le_refl _
    · split
      · decide
      · decide
  have h1 : (decide ((S t).length < (S [10]).length) || decide (strKind (S t) < strKind (S [10]))) = false := by
    rw [Bool.or_eq_false_iff]
    refine ⟨decide_eq_false ?_, decide_eq_false ?_⟩
    · rw [show (S [10]).length = 1 by decide +kernel]
      omega
    · rw [hk]
      omega
  rw [h1, if_neg Bool.false_ne_true]
  cases ho : occurrences (S t) (S [10]) 0 (S t).length ((S t).length + 1) with
  | nil => rfl
  | cons a r =>
    rw [if_neg (by simp)]
    unfold partsBetween
    simp only [List.length_map, List.length_zip, List.length_cons, List.length_append, List.length_nil]
    omega
section
variable {K : PySem.W.Frag} {σ : L2.St} {H H' : Hp} {ta tb te tx : TE}
/-- a <= b <= c of numbers -/
theorem ev_chainI {i j k : Int} (ha : Ev ta σ H (.int i)) (hb : Ev tb σ H (.int j)) (hc : Ev te σ H (.int k)) : Ev (tChain (rI0 fun i j => .bl (decide (i ≤ j))) (rI0 fun i j => .bl (decide (i ≤ j))) ta tb te) σ H (.bl (decide (i ≤ j) && decide (j ≤ k))) := fun H1 e Q q =>
  ha H1 e _ fun H2 e2 => hb H2 (e.trans e2) _ fun H3 e3 => ⟨i, j, rfl, rfl, decide (i ≤ j), rfl, by
    by_cases h : i ≤ j
    · rw [decide_eq_true h, if_pos rfl]
      refine hc H3 ((e.trans e2).trans e3) _ fun H4 e4 => ⟨j, k, rfl, rfl, ?_⟩
      have := q H4 ((e2.trans e3).trans e4)
      rw [decide_eq_true h, Bool.true_and] at this
      exact this
    · rw [decide_eq_false h, if_neg Bool.false_ne_true]
      have := q H3 (e2.trans e3)
      rw [decide_eq_false h, Bool.false_and] at this
      exact this⟩
abbrev rLeS : R2 := fun x y H Q => ∃ i j, x = V.str i ∧ y = V.str j ∧ Q (V.bl !decide (j.cps.toList < i.cps.toList)) H
/-- a <= b <= c of texts -/
theorem ev_chainS {a b c : List Nat} (ha : Ev ta σ H (.str (S a))) (hb : Ev tb σ H (.str (S b))) (hc : Ev te σ H (.str (S c))) : Ev (tChain rLeS rLeS ta tb te) σ H (.bl (!decide (b < a) && !decide (c < b))) := fun H1 e Q q =>
  ha H1 e _ fun H2 e2 => hb H2 (e.trans e2) _ fun H3 e3 => ⟨S a, S b, rfl, rfl, !decide (b < a), by rw [S_list, S_list], by
    cases h : !decide (b < a) with
    | true =>
      rw [if_pos rfl]
      refine hc H3 ((e.trans e2).trans e3) _ fun H4 e4 => ⟨S b, S c, rfl, rfl, ?_⟩
      have := q H4 ((e2.trans e3).trans e4)
      rw [h, Bool.true_and] at this
      rw [S_list, S_list]
      exact this
    | false =>
      rw [if_neg Bool.false_ne_true]
      have := q H3 (e2.trans e3)
      rw [h, Bool.false_and] at this
      exact this⟩
theorem lt_single (a b : Nat) : decide ([a] < [b]) = decide (a < b) := by
  by_cases h : a < b
  · rw [decide_eq_true h, decide_eq_true (List.cons_lt_cons_iff.mpr (.inl h))]
  · rw [decide_eq_false h, decide_eq_false]
    intro z
    rcases List.cons_lt_cons_iff.mp z with z | ⟨_, z⟩
    · exact h z
    · exact absurd z (List.lt_irrefl _)
/-- ord(c) -/
theorem ev_ord {c : Nat} (h : Ev te σ H (.str (S [c]))) : Ev (tCB (fun xs H Q => ∃ x, xs = [V.str x] ∧ x.length = 1 ∧ Q (V.int ↑(x.cps.getD 0 0)) H) (tCons te tNil)) σ H (.int (c : Int)) := fun H1 e Q q =>
  h H1 e _ fun H2 e2 => ⟨S [c], rfl, rfl, q H2 e2⟩
/-- text.count("\n") -/
theorem ev_countN {t : List Nat} (h : Ev te σ H (.str (S t))) (hs : Str.ofString "\n" = S [10]) : Ev (tM1 (fun x xs H Q => ∃ a b, x = V.str a ∧ xs = [V.str b] ∧ Q (V.int (Txt.count a b)) H) te (tC (.str (Str.ofString "\n")))) σ H (.int (((TL.spl [10] 0 [] t).length : Int) - 1)) := fun H1 e Q q =>
  h H1 e _ fun H2 e2 => ⟨⟨_, rfl⟩, ev_c H2 (Ex.refl _) _ fun H3 e3 => ⟨S t, _, rfl, rfl, by
    rw [hs, count_spl]
    exact q H3 (e2.trans e3)⟩⟩
/-- all([..]) of a list of truths -/
theorem ev_allL {bs : List Bool} (h : EvL te σ H (bs.map V.bl)) : Ev (tCB (rAll K) (tCons te tNil)) σ H (.bl (bs.all id)) := fun H1 e Q q =>
  h H1 e _ fun p H2 hp e2 h2 => ⟨p, bs, rfl, sq_of h2, q H2 e2⟩
/-- [e for c in text]: truths -/
theorem el_lcStr {l : List Nat} {j : Nat} {vs : List Nat} {f : Nat → V} (h : Ev ta σ H (.str (S l))) (hz : l.length ≤ 40000) (hw : ∀ x, wipe ((wipe σ vs).set j (some x)) vs = wipe σ vs)
    (he : ∀ (c : Nat) H1, Ex H H1 → Ev te ((wipe σ vs).set j (some (.str (S [c])))) H1 (f c)) : EvL (tLc (iStr ta) (gName j) tYes te vs) σ H (l.map f) := fun H0 e Q q => h H0 e _ fun H1 e1 => by
  refine ⟨S l, rfl, fun Dl hD => ?_⟩
  have hsz : (S l).cps.size = l.length := by simp [S]
  refine lc_it (walk_str (z := S l)) (fun i H' => Ex H1 H' ∧ H' Dl = some (.lst ((l.take i).map f))) ⟨Ex.new hD, upd_same⟩ (fun _ _ _ _ => trivial) ?_ ?_
  · rintro i x H2 H3 hi ⟨e2, h2⟩ ⟨rfl, c, hc, rfl⟩
    refine ⟨hw _, ?_⟩
    have hc2 : l[i]? = some c := by
      have : (S l).cps.toList[i]? = some c := by rw [Array.getElem?_toList]; exact hc
      rw [S_list] at this
      exact this
    have hlt : i < l.length := by rw [← hsz]; exact hi
    refine tYes_go ?_
    refine he c H3 ((e.trans e1).trans e2) H3 (Ex.refl H3) _ fun H4 e4 => ⟨_, e4 _ _ h2, sz_lt (by rw [List.length_map, List.length_take]; omega), Ex.mut (e2.trans e4) hD, ?_⟩
    rw [List.take_succ, hc2, List.map_append]
    exact upd_same
  · rintro H2 ⟨e2, h2⟩
    rw [hsz, List.take_length] at h2
    exact q Dl H2 (fresh_back e1 hD) (e1.trans e2) h2
/-- [e for k, v in house.items()] -/
theorem el_lcItems {hs : Files} {d : Addr} {i j1 j2 : Nat} {vs : List Nat} {f : List Nat × List Nat → V} (hv : σ[i]? = some (some (.ref d))) (hd : H d = some (.dK (kvH hs))) (hz : hs.length ≤ 40000) (hw : ∀ x y, wipe (((wipe σ vs).set j1 (some x)).set j2 (some y)) vs = wipe σ vs)
    (he : ∀ (p : List Nat × List Nat) H1, p ∈ hs → Ev te (((wipe σ vs).set j1 (some (.str (S p.1)))).set j2 (some (.str (S p.2)))) H1 (f p)) : EvL (tLockE (tLc (iItems (tVar i)) (gTup K 2 (gCons (gName j1) (gCons (gName j2) gNil))) tYes te vs)) σ H (hs.map f) := fun H0 e Q q => by
  have hd0 := e _ _ hd
  refine ⟨d, .dK (kvH hs), hd0, True.intro, fun od => ⟨.ref d, hv, d, od, kvH hs, rfl, upd_same, fun Dl hDl => ?_⟩⟩
  have hkl : (kvH hs).length = hs.length := List.length_map ..
  generalize hH2 : upd H0 d (.frz od (.dK (kvH hs))) = H2 at hDl
  have h2d : H2 d = some (.frz od (.dK (kvH hs))) := by rw [← hH2]; exact upd_same
  refine lc_it (walk_items (d := d) (o := od) (kvs := kvH hs)) (fun i H' => Ex H2 H' ∧ H' Dl = some (.lst ((hs.take i).map f))) ⟨Ex.new hDl, upd_same⟩ (fun i H' _ ⟨e3, _⟩ => e3 _ _ h2d) ?_ ?_
  · rintro n x H3 H4 hn ⟨e3, h3⟩ ⟨Tt, x1, y, rfl, hTt, rfl, hx1, hy⟩
    have hn2 : n < hs.length := by omega
    have hkv : (kvH hs)[n]? = some ((Sum.inr (S hs[n].1) : Key), V.str (S hs[n].2)) := by
      unfold kvH
      rw [List.getElem?_map, List.getElem?_eq_getElem hn2] <;> rfl
    have hx1' : (kvH hs)[n]?.map (fun kv => kV kv.1) = some x1 := hx1
    have hy' : (kvH hs)[n]?.map Prod.snd = some y := hy
    rw [hkv] at hx1' hy'
    cases hx1'
    cases hy'
    refine ⟨Tt, [V.str (S hs[n].1), V.str (S hs[n].2)], rfl, st_of upd_same, rfl, _, [V.str (S hs[n].2)], rfl, _, [], rfl, rfl, ?_⟩
    refine ⟨hw _ _, tYes_go ?_⟩
    have e4 := Ex.new (o := HO.tup [V.str (S hs[n].1), V.str (S hs[n].2)]) hTt
    refine he hs[n] _ (List.getElem_mem hn2) _ (Ex.refl _) _ fun H5 e5 => ⟨_, (e4.trans e5) _ _ h3, sz_lt (by rw [List.length_map, List.length_take]; omega), Ex.mut ((e3.trans e4).trans e5) hDl, ?_⟩
    rw [List.take_succ, List.getElem?_eq_getElem hn2, List.map_append]
    exact upd_same
  · rintro H3 ⟨e3, h3⟩
    rw [hkl, List.take_length] at h3
    have nDd : Dl ≠ d := fun z => by
      rw [z, h2d] at hDl
      cases hDl
    refine ⟨e3 _ _ h2d, q Dl _ ?_ ?_ ?_⟩
    · rw [← hH2, upd_ne nDd] at hDl
      exact hDl
    · intro b o ho
      by_cases hb : b = d
      · subst hb
        rw [upd_same]
        rw [hd0] at ho
        exact ho
      · rw [upd_ne hb]
        exact e3 b o (by rw [← hH2, upd_ne hb]; exact ho)
    · rw [upd_ne nDd]
      exact h3
end
end Wt
namespace Wt
open PySem PySem.Spec PyProof.Rows L2 SX Evl
/-- a file: its name, its text, its tree -/
structure HF where
  n : List Nat
  t : List Nat
  d : PyData
def HF.p (f : HF) : List Nat × List Nat := (f.n, f.t)
/-- the dict of trees at d -/
def TreesO (H : Hp) (d : Addr) (gs : List HF) : Prop := ∃ kvs : List (Key × V), H d = some (.dK kvs) ∧ kvs.map (·.1) = gs.map (fun f => (Sum.inr (S f.n) : Key)) ∧ TdAll H (kvs.map (·.2)) (gs.map HF.d)
theorem perm_map {α β : Type} (f : α → β) {ys zs : List β} (h : ys.Perm zs) : ∀ l : List α, l.map f = zs → ∃ gs : List α, gs.Perm l ∧ gs.map f = ys := by
  induction h with
  | nil => exact fun l e => ⟨l, .refl _, e⟩
  | cons x _ ih =>
    intro l e
    match l, e with
    | a :: r, e =>
      injection e with e1 e2
      obtain ⟨gs, h1, h2⟩ := ih r e2
      exact ⟨a :: gs, h1.cons a, by rw [List.map_cons, h2, e1]⟩
  | swap x y _ =>
    intro l e
    match l, e with
    | a :: b :: r, e =>
      injection e with e1 e2
      injection e2 with e2 e3
      exact ⟨b :: a :: r, .swap .., by rw [List.map_cons, List.map_cons, e1, e2, e3]⟩
  | trans _ _ ih1 ih2 =>
    intro l e
    obtain ⟨g2, a2, b2⟩ := ih2 l e
    obtain ⟨g1, a1, b1⟩ := ih1 g2 b2
    exact ⟨g1, a1.trans a2, b1⟩
theorem valV_mem {kvs : List (Key × V)} {k : Key} {v : V} : (kvs.map (·.1)).Nodup → (k, v) ∈ kvs → valV kvs k = some v := by
  induction kvs with
  | nil => intro _ h; cases h
  | cons p r ih =>
    intro hn h
    rw [List.map_cons, List.nodup_cons] at hn
    by_cases e : p.1 = k
    · rw [valV_pos e]
      rcases List.mem_cons.mp h with h | h
      · rw [← h]
      · exact absurd (List.mem_map.mpr ⟨_, h, e.symm⟩) hn.1
    · rw [valV_neg e]
      rcases List.mem_cons.mp h with h | h
      · rw [← h] at e
        exact absurd rfl e
      · exact ih hn.2 h
end Wt

set_option Elab.async false
set_option linter.all false
set_option maxRecDepth 100000
set_option maxHeartbeats 4000000
namespace Wt
open PySem PySem.Spec PyProof.Rows L2 SX Evl
/-! Files looked up, laid, dropped; rows edited, joined. -/
def lookH (fs : Files) (n : List Nat) : Option (List Nat) := (fs.find? fun p => decide (p.1 = n)).map (·.2)
/-- a file laid -/
def putH (fs : Files) (n t : List Nat) : Files := if (lookH fs n).isSome then fs.map fun p => if p.1 = n then (p.1, t) else p else fs ++ [(n, t)]
/-- a file dropped -/
def dropH (fs : Files) (n : List Nat) : Files := fs.filter fun p => !decide (p.1 = n)
/-- the rows behind an edit -/
def editR (olds more : List (List Nat)) (r m : Nat) : List (List Nat) := olds.take r ++ more ++ olds.drop (r + m)
theorem joinL_le (sep : List Nat) : ∀ rs : List (List Nat), (TL.joinL sep rs).length ≤ (rs.map List.length).sum + rs.length * sep.length
  | [] => Nat.zero_le _
  | [x] => by
    show x.length ≤ _
    simp only [List.map_cons, List.map_nil, List.sum_cons, List.sum_nil]
    omega
  | x :: y :: r => by
    have h := joinL_le sep (y :: r)
    have e : TL.joinL sep (x :: y :: r) = x ++ (sep ++ TL.joinL sep (y :: r)) := rfl
    rw [e, List.length_append, List.length_append, List.map_cons, List.sum_cons, List.length_cons (as := y :: r), Nat.succ_mul]
    omega
end Wt

set_option Elab.async false
set_option linter.all false
set_option maxRecDepth 100000
set_option maxHeartbeats 4000000
namespace Wt
open PySem PySem.Spec PyProof.Rows L2 SX Evl
open C8 (Def Cal cal0 fnScope_by fnScope)
/-! Whether a house is one: are_letters, is_sign, is_text, is_house. -/
structure ModsH (K : PySem.W.Frag) (mg : Str → Option Value) : Prop where
  m_all : mg "all" = none
  m_ord : mg "ord" = none
  m_len : mg "len" = none
  m_sorted : mg "sorted" = none
  g_LETTERS : ∃ u, mg "LETTERS" = some u ∧ RelV (.str (S letters)) u
  g_LONGEST : ∃ u, mg "LONGEST" = some u ∧ RelV (.int 6) u
  g_MOST_FILES : ∃ u, mg "MOST_FILES" = some u ∧ RelV (.int 8) u
  g_MOST_ROWS : ∃ u, mg "MOST_ROWS" = some u ∧ RelV (.int 60) u
  g_PERCENT : ∃ u, mg "PERCENT" = some u ∧ RelV (.int 37) u
section
variable {P : Program} {w : World} {K : PySem.W.Frag} {mg : Str → Option Value} {base : Heap} {aS aO : Addr}
/-! ### are_letters -/
abbrev s_are_letters : Stmt := topS 13
theorem sc_are_letters : FnScope ["word"] ["word"] (fnScope s_are_letters) := fnScope_by (by decide +kernel)
def spAreLetters : Sp := fun vs H Q _ => ∃ (w : List Nat), vs = [.str (S w)] ∧ w.length ≤ 100000 ∧ RetV (.bl (lettersOk w)) H Q
theorem elAs {te : TE} {σ : L2.St} {H : Hp} {xs ys : List V} (h : EvL te σ H xs) (e : xs = ys) : EvL te σ H ys := by
  subst e
  exact h
theorem sv_run {row cs : List Nat} {i : Nat} (hi : i ≤ row.length) (hl : row.length ≤ 100000) {H : Hp} : SpV spRun [.str (S row), .int (i : Int), .str (S cs)] H (.str (S ((row.drop i).takeWhile fun c => decide (c ∈ cs)))) := fun H1 e Q q E => ⟨row, i, cs, rfl, hi, hl, fun H2 e2 => q H2 e2⟩
theorem takeW_all (p : Nat → Bool) : ∀ l : List Nat, decide (l.takeWhile p = l) = l.all p
  | [] => rfl
  | c :: r => by
    rw [List.takeWhile_cons, List.all_cons]
    cases h : p c with
    | true =>
      rw [if_pos rfl, Bool.true_and, ← takeW_all p r]
      by_cases e : r.takeWhile p = r
      · rw [e, decide_eq_true rfl, decide_eq_true rfl]
      · rw [decide_eq_false e, decide_eq_false]
        intro z
        injection z with _ z
        exact e z
    | false => rw [if_neg Bool.false_ne_true, Bool.false_and, decide_eq_false (by intro z; cases z)]
theorem ok_are_letters (T : ModsH K mg) (c_run_at : Cal P w K mg base 1 "run_at" spRun []) {f : Addr} {fd : FuncData} (F : Def K mg "are_letters" s_are_letters f fd) (b : Binds K fd ["word"] []) : Cal P w K mg base 2 "are_letters" spAreLetters [] := by
  refine cal0 F b .nil sc_are_letters (fun vs H Q E h => ?_) (fun cdv A outer s H vs Q E hr h => ?_)
  · obtain ⟨_, rfl, _⟩ := h
    rfl
  · obtain ⟨w, rfl, hl, q⟩ := h
    have m_len := T.m_len
    have g_LONGEST := T.g_LONGEST
    have g_LETTERS := T.g_LETTERS
    refine ⟨_, (pss_one (ps_ret (pe_and (pe_chain op_le op_le pe_int (pe_callB call_len_str (by rfl) m_len PySem.boot_len (pa_cons (pv 0) pa_nil)) (C8.pe_gc (by rfl) g_LONGEST)) (pe_one (pe_cmpR op_eq (C8.pe_c c_run_at hr (by first | decide | exact Nat.le_refl _ | omega) (by rfl) (pa_cons (pv 0) (pa_cons pe_int (pa_cons (C8.pe_gc (by rfl) g_LETTERS) pa_nil)))) (pv 0) (nomark _)))))), ?_⟩
    refine s_ret (v := .bl (lettersOk w)) (ev_is (ev_andV (ev_chainI ev_c (ev_lenS (ev_var rfl) hl) ev_c) fun _ => ev_eqS (ev_call (ea_cons (ev_var rfl) (ea_cons ev_c (ea_cons ev_c ea_nil))) (sv_run (i := 0) (Nat.zero_le _) hl)) (ev_var rfl)) ?_) fun H2 e2 => q.go e2
    have a1 : decide ((1 : Int) ≤ (w.length : Int)) = decide (1 ≤ w.length) := decide_eq_decide.mpr (by omega)
    have a2 : decide ((w.length : Int) ≤ (6 : Int)) = decide (w.length ≤ 6) := decide_eq_decide.mpr (by omega)
    rw [List.drop_zero, takeW_all, a1, a2]
    rfl
/-! ### is_sign -/
abbrev s_is_sign : Stmt := topS 21
theorem sc_is_sign : FnScope ["sign"] ["sign"] (fnScope s_is_sign) := fnScope_by (by decide +kernel)
def spIsSign : Sp := fun vs H Q _ => ∃ (c : Nat), vs = [.str (S [c])] ∧ RetV (.bl (signOk c)) H Q
theorem ok_is_sign (T : ModsH K mg) {f : Addr} {fd : FuncData} (F : Def K mg "is_sign" s_is_sign f fd) (b : Binds K fd ["sign"] []) : Cal P w K mg base 1 "is_sign" spIsSign [] := by
  refine cal0 F b .nil sc_is_sign (fun vs H Q E h => ?_) (fun cdv A outer s H vs Q E hr h => ?_)
  · obtain ⟨_, rfl, _⟩ := h
    rfl
  · obtain ⟨c, rfl, q⟩ := h
    have m_ord := T.m_ord
    have g_PERCENT := T.g_PERCENT
    refine ⟨_, (pss_one (ps_ret (pe_or (pe_cmpR op_eq (pv 0) pe_str (nomark _)) (pe_one (pe_and (pe_chain op_le_str op_le_str pe_str (pv 0) pe_str) (pe_one (pe_cmpR op_ne (pe_callB call_ord (by rfl) m_ord PyProof.Rows.boot_ord (pa_cons (pv 0) pa_nil)) (C8.pe_gc (by rfl) g_PERCENT) (nomark _)))))))), ?_⟩
    refine s_ret (v := .bl (signOk c)) (ev_is (ev_orV (ev_eqS (ev_var rfl) (ev_is ev_c (congrArg V.str (show Str.ofString "\n" = S [10] by decide +kernel)))) fun _ =>
      ev_andV (ev_chainS (ev_is ev_c (congrArg V.str (show Str.ofString " " = S [32] by decide +kernel))) (ev_var rfl) (ev_is ev_c (congrArg V.str (show Str.ofString "~" = S [126] by decide +kernel)))) fun _ => ev_op (ev_ord (ev_var rfl)) ev_c (rv_ne rfl)) ?_) fun H2 e2 => q.go e2
    rw [lt_single, lt_single]
    unfold signOk
    congr 2
    · exact decide_eq_decide.mpr ⟨fun z => by injection z, fun z => by rw [z]⟩
    · congr 1
      · congr 1
        · rw [← decide_not]
          exact decide_eq_decide.mpr (by omega)
        · rw [← decide_not]
          exact decide_eq_decide.mpr (by omega)
      · congr 1
        exact decide_eq_decide.mpr ⟨fun z => by injection z with z; omega, fun z => by rw [z] <;> rfl⟩
/-! ### is_text -/
abbrev s_is_text : Stmt := topS 20
theorem sc_is_text : FnScope ["text", "sign"] ["text"] (fnScope s_is_text) := fnScope_by (by decide +kernel)
def spIsText : Sp := fun vs H Q _ => ∃ (t : List Nat), vs = [.str (S t)] ∧ t.length ≤ 40000 ∧ RetV (.bl (textOk t)) H Q
theorem sv_is_sign {c : Nat} {H : Hp} : SpV spIsSign [.str (S [c])] H (.bl (signOk c)) := fun H1 e Q q E => ⟨c, rfl, fun H2 e2 => q H2 e2⟩
theorem ok_is_text (T : ModsH K mg) (c_is_sign : Cal P w K mg base 1 "is_sign" spIsSign []) {f : Addr} {fd : FuncData} (F : Def K mg "is_text" s_is_text f fd) (b : Binds K fd ["text"] []) : Cal P w K mg base 2 "is_text" spIsText [] := by
  refine cal0 F b .nil sc_is_text (fun vs H Q E h => ?_) (fun cdv A outer s H vs Q E hr h => ?_)
  · obtain ⟨_, rfl, _⟩ := h
    rfl
  · obtain ⟨t, rfl, hl, q⟩ := h
    have g_MOST_ROWS := T.g_MOST_ROWS
    have m_all := T.m_all
    refine ⟨_, (pss_cons (ps_if (pt_cmpR op_ge (pe_m1 PySem.F.slot_str_count PySem.F.type_str_count mt_count (pv 0) pe_str) (C8.pe_gc (by rfl) g_MOST_ROWS) (nomark _)) (pss_one (ps_ret pe_bl)) pss_nil)
      (pss_one (ps_ret (pe_callB (cr_all rfl) (by rfl) m_all PyProof.Rows.boot_all (pa_cons (pe_lc (own := [("sign", 1)]) (g := (gName 1)) (tt := tYes) rfl sc_is_text.nd (pi_str (pv 0)) (blkOk_by (N := ["text", "sign"]) (sc := C8.fnScope s_is_text) (by decide +kernel)) (fun _ _ _ _ _ => pg_name (i := 1) sc_is_text.nd rfl (Or.inl rfl)) (fun _ _ _ _ _ => pts_nil) (fun _ _ _ _ _ => (C8.pe_c c_is_sign hr (by first | decide | exact Nat.le_refl _ | omega) (by rfl) (pa_cons (pv 1) pa_nil)))) pa_nil))))), ?_⟩
    have hs : Str.ofString "\n" = S [10] := by decide +kernel
    refine q_when (et_test (ev_op (ev_countN (ev_var rfl) hs) ev_c rv_I0)) (fun hb H1 e1 => ?_) (fun hb H1 e1 => ?_)
    · have h60 : (60 : Int) ≤ ((TL.spl [10] 0 [] t).length : Int) - 1 := of_decide_eq_true hb
      refine s_ret (v := .bl (textOk t)) (ev_is ev_c ?_) fun H2 e2 => q.go (e1.trans e2)
      unfold textOk
      rw [decide_eq_false (by omega), Bool.false_and]
    · have h60 : ¬ (60 : Int) ≤ ((TL.spl [10] 0 [] t).length : Int) - 1 := of_decide_eq_false hb
      refine s_ret (v := .bl (textOk t)) (ev_is (ev_allL (bs := t.map signOk) (elAs (el_lcStr (f := fun c => .bl (signOk c)) (ev_var rfl) hl (fun x => rfl) fun c H2 e2 => ev_call (ea_cons (ev_var rfl) ea_nil) sv_is_sign) (by rw [List.map_map] <;> rfl))) ?_) fun H2 e2 => q.go (e1.trans e2)
      unfold textOk
      rw [decide_eq_true (by omega), Bool.true_and, List.all_map]
      rfl
/-! ### is_house -/
abbrev s_is_house : Stmt := topS 19
theorem sc_is_house : FnScope ["house", "file", "text"] ["house"] (fnScope s_is_house) := fnScope_by (by decide +kernel)
def spIsHouse : Sp := fun vs H Q _ => ∃ (d : Addr) (hs : Files), vs = [.ref d] ∧ H d = some (.dK (kvH hs)) ∧ hs.length ≤ 1000 ∧ (∀ p ∈ hs, p.1.length ≤ 1000 ∧ p.2.length ≤ 40000) ∧ RetV (.bl (houseOk hs)) H Q
theorem sv_are_letters {w : List Nat} {H : Hp} (hl : w.length ≤ 100000) : SpV spAreLetters [.str (S w)] H (.bl (lettersOk w)) := fun H1 e Q q E => ⟨w, rfl, hl, fun H2 e2 => q H2 e2⟩
theorem sv_is_text {t : List Nat} {H : Hp} (hl : t.length ≤ 40000) : SpV spIsText [.str (S t)] H (.bl (textOk t)) := fun H1 e Q q E => ⟨t, rfl, hl, fun H2 e2 => q H2 e2⟩
theorem ev_lenK {d : Addr} {kvs : List (Key × V)} {te : TE} {σ : L2.St} {H : Hp} (h : Ev te σ H (.ref d)) (hd : H d = some (.dK kvs)) : Ev (tCB (fun xs H Q => ∃ a kvs, xs = [V.ref a] ∧ H a = some (.dK kvs) ∧ Q (.int kvs.length) H) (tCons te tNil)) σ H (.int (kvs.length : Int)) := fun H1 e Q q =>
  h H1 e _ fun H2 e2 => ⟨d, kvs, rfl, (e.trans e2) _ _ hd, q H2 e2⟩
theorem ok_is_house (T : ModsH K mg) (c_are_letters : Cal P w K mg base 2 "are_letters" spAreLetters []) (c_is_text : Cal P w K mg base 2 "is_text" spIsText []) {f : Addr} {fd : FuncData} (F : Def K mg "is_house" s_is_house f fd) (b : Binds K fd ["house"] []) : Cal P w K mg base 3 "is_house" spIsHouse [] := by
  refine cal0 F b .nil sc_is_house (fun vs H Q E h => ?_) (fun cdv A outer s H vs Q E hr h => ?_)
  · obtain ⟨_, _, rfl, _⟩ := h
    rfl
  · obtain ⟨d, hs, rfl, hd, hl, hb, q⟩ := h
    have m_len := T.m_len
    have g_MOST_FILES := T.g_MOST_FILES
    have m_all := T.m_all
    refine ⟨_, (pss_cons (ps_if (pt_not (pt_chain op_le op_le pe_int (pe_callB call_lenD (by rfl) m_len PySem.boot_len (pa_cons (pv 0) pa_nil)) (C8.pe_gc (by rfl) g_MOST_FILES))) (pss_one (ps_ret pe_bl)) pss_nil)
      (pss_one (ps_ret (pe_callB (cr_all rfl) (by rfl) m_all PyProof.Rows.boot_all (pa_cons (pe_lock (pe_lc (own := [("file", 1), ("text", 2)]) (g := (gTup K 2 (gCons (gName 1) (gCons (gName 2) gNil)))) (tt := tYes) rfl sc_is_house.nd (pi_items (pv 0)) (blkOk_by (N := ["house", "file", "text"]) (sc := C8.fnScope s_is_house) (by decide +kernel)) (fun _ _ _ _ _ => pg_tup rfl (pgs_cons (pg_name (i := 1) sc_is_house.nd rfl (Or.inl rfl)) (pgs_cons (pg_name (i := 2) sc_is_house.nd rfl (Or.inl rfl)) pgs_nil))) (fun _ _ _ _ _ => pts_nil) (fun _ _ _ _ _ => (pe_and (C8.pe_c c_are_letters hr (by first | decide | exact Nat.le_refl _ | omega) (by rfl) (pa_cons (pv 1) pa_nil)) (pe_one (C8.pe_c c_is_text hr (by first | decide | exact Nat.le_refl _ | omega) (by rfl) (pa_cons (pv 2) pa_nil))))))) pa_nil))))), ?_⟩
    have hkl : (kvH hs).length = hs.length := List.length_map ..
    have b1 : decide ((1 : Int) ≤ (hs.length : Int)) = decide (1 ≤ hs.length) := decide_eq_decide.mpr (by omega)
    have b2 : decide ((hs.length : Int) ≤ (8 : Int)) = decide (hs.length ≤ 8) := decide_eq_decide.mpr (by omega)
    refine q_when (et_not (et_test (ev_chainI ev_c (ev_lenK (ev_var rfl) hd) ev_c))) (fun hb H1 e1 => ?_) (fun hb2 H1 e1 => ?_)
    · refine s_ret (v := .bl (houseOk hs)) (ev_is ev_c ?_) fun H2 e2 => q.go (e1.trans e2)
      rw [hkl, b1, b2] at hb
      have hb' : (decide (1 ≤ hs.length) && decide (hs.length ≤ 8)) = false := by
        cases hz : (decide (1 ≤ hs.length) && decide (hs.length ≤ 8)) with
        | true => rw [hz] at hb; cases hb
        | false => rfl
      unfold houseOk
      rw [hb', Bool.false_and]
    · refine s_ret (v := .bl (houseOk hs)) (ev_is (ev_allL (bs := hs.map fun p => lettersOk p.1 && textOk p.2) (elAs (el_lcItems (i := 0) (j1 := 1) (j2 := 2) (f := fun p => .bl (lettersOk p.1 && textOk p.2)) rfl (e1 _ _ hd) (by omega) (fun x y => rfl) fun p H2 hp => ev_andV (ev_call (ea_cons (ev_var rfl) ea_nil) (sv_are_letters (by have := (hb p hp).1; omega))) fun _ => ev_call (ea_cons (ev_var rfl) ea_nil) (sv_is_text (hb p hp).2)) (by rw [List.map_map] <;> rfl))) ?_) fun H2 e2 => q.go (e1.trans e2)
      rw [hkl, b1, b2] at hb2
      have hb' : (decide (1 ≤ hs.length) && decide (hs.length ≤ 8)) = true := by
        cases hz : (decide (1 ≤ hs.length) && decide (hs.length ≤ 8)) with
        | true => rfl
        | false => rw [hz] at hb2; cases hb2
      unfold houseOk
      rw [hb', Bool.true_and, List.all_map]
      rfl
end
end Wt

set_option Elab.async false
set_option linter.all false
set_option maxRecDepth 100000
set_option maxHeartbeats 4000000
/-! A lambda with one parameter that has a whole number for its default, handed to a def that calls it without arguments. -/
namespace LamD
open PySem PySem.Spec PyProof.Rows L2 LamX
/-- such a lambda's function: dT is the tuple of its default -/
abbrev fnD (q : Str) (pa : Arguments) (bo : Expr) (sc : Scope) (cl : List (Str × Addr)) (dT pm cv ct : Value) : FuncData :=
  { name := "<lambda>", qualname := q, params := pa, body := .expr bo, scope := sc, globals := mainGlobals, closure := cl, defaults := dT, kwdefaults := .none, doc := .none, pyModule := pm, annotations := none, code := cv, closureTuple := ct, builtins := builtinsNs }
abbrev obD (q : Str) (pa : Arguments) (bo : Expr) (sc : Scope) (cl : List (Str × Addr)) (dT pm cv ct : Value) : Obj := { cls := .type "function", data := .func (fnD q pa bo sc cl dT pm cv ct) }
abbrev tupD (u : Value) : Obj := { cls := .type "tuple", data := .seq [u].toArray }
section
variable {M : Model} {A : Around} {E : Value → Shared → Prop} {s : Shared} {q : Str} {pa : Arguments} {bo : Expr} {sc : Scope} {env : Env} {c P : Addr} {ps : Array Value} {pos : Pos} {fl : Nat} {mg : Str → Option Value} {cl : List (Str × Addr)} {Q : Value → Shared → Prop} {dT : Value}
theorem tailD (hcl : closureFor sc env = pure cl) (hge : env.globals = mainGlobals) (hg : s.heap.Ns mainGlobals mg) (hcode : env.code = .ref c) (C : PySem.W.CodeHd s.heap c P) (hP : s.heap.get? P = some (PySem.W.tabObj ps)) (ht : TriplesOk ps.toList) (hgP : mainGlobals ≠ P) (hb : s.heap.BuiltinsAt mg P)
    (hnew : codeAmong pos ps.toList = none → ∀ (c' : Addr) (ct : Value) (h' : Heap) (tk : Tok), Heap.ExtBut P s.heap h' → s.heap.objs.size ≤ c' → c' < h'.objs.size → h'.CodeRec (.ref c') q → h'.get? P = some (PySem.W.tabObj (ps ++ #[rawInt pos.line, rawInt pos.col, .ref c'])) →
      Q (.ref h'.objs.size) { s with heap := h'.push (obD q pa bo sc cl dT ((mg "__name__").getD .none) (.ref c') ct), toks := tk })
    (hhit : ∀ cv, codeAmong pos ps.toList = some cv → ∀ (ct : Value) (h' : Heap) (tk : Tok), (∀ b o, s.heap.get? b = some o → h'.get? b = some o) → s.heap.objs.size ≤ h'.objs.size →
      Q (.ref h'.objs.size) { s with heap := h'.push (obD q pa bo sc cl dT ((mg "__name__").getD .none) cv ct), toks := tk }) :
    wpAny M A (makeTail "<lambda>" q pa (.expr bo) sc env dT .none none pos fl) Q E s := by
  obtain ⟨bm, ob, b1, b2, _, b3, b4, b5, b6, b7⟩ := hb
  unfold makeTail
  rw [hcl, hge]
  refine wpAny_bind (wpAny_pure ?_)
  -- what is done behind the closure's tuple, in any state that has grown
  have key : ∀ (h0 : Heap) (ct : Value), (∀ b o, s.heap.get? b = some o → h0.get? b = some o) → s.heap.objs.size ≤ h0.objs.size → wpAny M A (do
      let code ← functionCode env pos fl "<lambda>" q pa sc (.expr bo)
      let bl ← builtinsFor mainGlobals env.builtins
      let nm ← nsGet mainGlobals "__name__"
      let doc ← (pure .none : Sem Value)
      newObj (.type "function") (.func { name := "<lambda>", qualname := q, params := pa, body := .expr bo, scope := sc, globals := mainGlobals, closure := cl, closureTuple := ct, code := code, builtins := bl, defaults := dT, kwdefaults := .none, annotations := none, pyModule := nm.getD .none, doc := doc })) Q E { s with heap := h0 } := by
    intro h0 ct kp sz
    have C0 := C.keeps kp
    have P0 := kp _ _ hP
    cases hc : codeAmong pos ps.toList with
    | none =>
      refine wpAny_bind (wpAny_functionCodeX hcode (C0.code P0 ht) (C0.tab P0) hc fun c' h' tk hx hge2 hlt _ hrec htb _ => ?_)
      have g' := (hg.keeps kp).extBut hx hgP
      refine wpAny_bind (wpAny_builtinsFor g' b1 b2 (hx _ _ b3 (kp _ _ b4)) b5 b6 b7 ?_)
      refine wpAny_bind (wpAny_nsGet g' (wpAny_bind (wpAny_pure ?_)))
      exact wpAny_newObj_type (hnew hc c' ct h' tk (fun b o nb e => hx b o nb (kp b o e)) (Nat.le_trans sz hge2) hlt hrec htb.2) (by size_fits)
    | some cv =>
      refine wpAny_bind (wpAny_functionCode_hit hcode (C0.code P0 ht) hc ?_)
      refine wpAny_bind (wpAny_builtinsFor (hg.keeps kp) b1 b2 (kp _ _ b4) b5 b6 b7 ?_)
      refine wpAny_bind (wpAny_nsGet (hg.keeps kp) (wpAny_bind (wpAny_pure ?_)))
      exact wpAny_newObj_type (hhit cv hc ct h0 s.toks kp sz) (by size_fits)
  cases cl with
  | nil =>
    simp only [List.isEmpty_nil, if_true]
    exact wpAny_bind (wpAny_pure (key s.heap .none (fun _ _ e => e) (Nat.le_refl _)))
  | cons a r =>
    simp only [List.isEmpty_cons, Bool.false_eq_true, if_false]
    exact wpAny_bind (wpAny_newTextTuple (key _ _ (fun b o e => Heap.get?_push_of_some _ e) (by rw [Heap.size_push]; omega)))
end
section
variable {X : Cx} {pins : List (Addr × Obj)} {σ : L2.St} {H : Hp} {s : Shared}
/-- it is made: its default's tuple is new, its code object is new or stands in the table -/
theorem makeD {T : List (Addr × Str)} {c P : Addr} {pa : Arguments} {bo : Expr} {sc : Scope} {pos : Pos} {E Q : Value → Shared → Prop} {d : Expr} {i : Int} (I : Inv X pins σ H s) (TB : TabB X.base X.mg c P) (hcode : X.env.code = .ref c)
    (hm : (P, X.env.qual ++ "<lambda>") ∈ T) (hu : ∀ p ∈ T, p.1 = P → p.2 = X.env.qual ++ "<lambda>") (hT : Tabs T H) (hdef : defaultsOf pa X.env = ([eval d X.env], [])) (hd : PE X d (tC (.int i))) (hE : E = X.xe) (hko : pa.kwonlyargs = []) (hfree : ∀ y ∈ sc.names, y.2 = .free → ∃ c, X.env.cells.lookup y.1 = some c)
    (h : ∀ (f c' dT : Addr) (u pm ct : Value) (H1 : Hp) (s' : Shared), Inv X pins σ H1 s' → ExtN H H1 → Tabs T H1 → s'.heap.get? f = some (obD (X.env.qual ++ "<lambda>") pa bo sc (cloFrom X.env.cells sc.names []) (.ref dT) pm (.ref c') ct) → H1 f = none → f ∉ frs X.stack →
      H1 c' = some (CodeO c' (X.env.qual ++ "<lambda>")) → s'.heap.get? dT = some (tupD u) → H1 dT = none → dT ∉ frs X.stack → Q (.ref f) s') :
    wpAny (model X.prog X.w) X.A (eval (.Lambda pa bo sc pos) X.env) Q E s := by
  subst hE
  obtain ⟨ps, hP, ht, ha⟩ := hT _ hm
  rw [PySem.arm_eval_Lambda, hdef]
  -- the default
  refine wpAny_bind (wpAny_bind (wpAny_mono (hd.run pins s σ H (fun v H1 => v = .int i ∧ H1 = H) I ⟨rfl, rfl⟩) (fun u s1 hs1 => ?_) fun _ _ z => z))
  obtain ⟨v, H1, I1, _, _, rfl⟩ := hs1
  refine wpAny_bind (wpAny_holding (wpAny_pure (wpAny_pure ?_)))
  refine wpAny_bind (wpAny_holding (wpAny_pure ?_))
  rw [PySem.makeFunction_eq, hko]
  simp only [List.zip_nil_left, List.filterMap_nil, List.isEmpty_nil, List.isEmpty_cons, Bool.false_eq_true, if_false, if_true, pure_bind]
  refine wpAny_bind (wpAny_newTextTuple ?_)
  have g0 : ∀ b o, s1.heap.get? b = some o → (s1.heap.push (tupD u)).get? b = some o := fun b o e => Heap.get?_push_of_some _ e
  have I2 : Inv X pins σ H1 { s1 with heap := s1.heap.push (tupD u) } := I1.kept (t' := s1.toks) g0
  have tD : (s1.heap.push (tupD u)).get? s1.heap.objs.size = some (tupD u) := Heap.get?_push_size _ rfl
  have szD : (s1.heap.push (tupD u)).objs.size = s1.heap.objs.size + 1 := Heap.size_push ..
  have dH : H1 s1.heap.objs.size = none := I1.hok.fresh (Nat.le_refl _)
  have off : ∀ f, s1.heap.objs.size ≤ f → f ∉ frs X.stack := fun f hf z => by
    rcases List.mem_cons.mp (I1.stkSub _ z) with e | e
    · have lt := I1.lt
      have e' : f = X.env.locals := e
      rw [← e'] at lt
      exact absurd lt (Nat.not_lt.mpr hf)
    · exact I1.nofs hf e
  have P2 : (s1.heap.push (tupD u)).get? P = some { cls := .none, data := .fields ps } := g0 _ _ (I1.hok P _ hP)
  have bP : s1.heap.BuiltinsAt X.mg P := TB.bm.keeps I1.bk
  have ltP : P < s1.heap.objs.size := Heap.lt_size (I1.hok P _ hP)
  refine tailD (mg := X.mg) (c := c) (P := P) (ps := ps) (closure_ok hfree) I.ok.glob ((I1.mod.glob.keeps I1.bk).keeps g0) hcode ((TB.code.keeps I1.bk).keeps g0) P2 ht TB.gP (bP.keeps g0) (fun hc c' ct h' tk hx hge hlt hrec htb => ?_) (fun cv hc ct h' tk hx hsz => ?_)
  · obtain ⟨c2, oc, vs, t, e2, hoc, hdd, hv⟩ := hrec
    cases e2
    have hge0 : s1.heap.objs.size + 1 ≤ c' := by
      rw [← szD]
      exact hge
    have hge1 : s1.heap.objs.size ≤ c' := Nat.le_of_succ_le hge0
    have nC : H1 c' = none := I1.hok.fresh hge1
    have I3 := inv_table (t' := tk) (more := #[rawInt pos.line, rawInt pos.col, .ref c']) (h' := h'.push (obD (X.env.qual ++ "<lambda>") pa bo sc (cloFrom X.env.cells sc.names []) (.ref s1.heap.objs.size) ((X.mg "__name__").getD .none) (.ref c') ct)) I2 hP
      (fun b o nb e => Heap.get?_push_of_some _ (hx b o nb e)) (Heap.get?_push_of_some _ htb) hge ⟨oc, vs, t, Heap.get?_push_of_some _ hoc, hdd, hv⟩
    have hE : ExtN H1 (upd (upd H1 P (.tbl (ps ++ #[rawInt pos.line, rawInt pos.col, .ref c']))) c' (CodeO c' (X.env.qual ++ "<lambda>"))) := fun b o e n => by
      have nb : b ≠ P := fun z => by
        rw [z, hP] at e
        exact n ps (Option.some.inj e).symm
      rw [upd_ne (ne_of_none e nC), upd_ne nb]
      exact e
    have eL : (ps ++ #[rawInt pos.line, rawInt pos.col, .ref c']).toList = ps.toList ++ [rawInt pos.line, rawInt pos.col, .ref c'] := by simp
    have szf : s1.heap.objs.size ≤ h'.objs.size := Nat.le_trans hge1 (Nat.le_of_lt hlt)
    have fH : H1 h'.objs.size = none := I1.hok.fresh szf
    have nfc : h'.objs.size ≠ c' := Nat.ne_of_gt hlt
    have nfP : h'.objs.size ≠ P := Nat.ne_of_gt (Nat.lt_of_lt_of_le ltP szf)
    have ndc : s1.heap.objs.size ≠ c' := Nat.ne_of_lt hge0
    have ndP : s1.heap.objs.size ≠ P := Nat.ne_of_gt ltP
    refine h h'.objs.size c' s1.heap.objs.size u ((X.mg "__name__").getD .none) ct _ _ I3 hE (fun p hp => ?_) (Heap.get?_push_size _ rfl) (by rw [upd_ne nfc, upd_ne nfP]; exact fH) (off _ szf) upd_same (Heap.get?_push_of_some _ (hx _ _ ndP tD)) (by rw [upd_ne ndc, upd_ne ndP]; exact dH) (off _ (Nat.le_refl _))
    by_cases hb : p.1 = P
    · refine ⟨ps ++ #[rawInt pos.line, rawInt pos.col, .ref c'], ?_, by rw [eL]; exact PySem.TriplesOk_snoc _ _ _ _ ht, fun p' cv hcv => ?_⟩
      · rw [hb, upd_ne (ne_of_none hP nC), upd_same]
      · rw [eL] at hcv
        rw [hu p hp hb]
        rcases among_app _ ht hcv with z | z
        · obtain ⟨c0, k1, k2⟩ := ha p' cv z
          exact ⟨c0, k1, hE _ _ k2 codeO_ne⟩
        · exact ⟨c', z, upd_same⟩
    · obtain ⟨qs, a1, a2, a3⟩ := hT p hp
      refine ⟨qs, ?_, a2, fun p' cv hcv => ?_⟩
      · rw [upd_ne (ne_of_none a1 nC), upd_ne hb]
        exact a1
      · obtain ⟨c0, k1, k2⟩ := a3 p' cv hcv
        exact ⟨c0, k1, hE _ _ k2 codeO_ne⟩
  · obtain ⟨c', rfl, hco⟩ := ha pos cv hc
    have szf : s1.heap.objs.size ≤ h'.objs.size := by
      have z : s1.heap.objs.size + 1 ≤ h'.objs.size := by
        rw [← szD]
        exact hsz
      exact Nat.le_of_succ_le z
    have I3 : Inv X pins σ H1 { s1 with heap := h'.push (obD (X.env.qual ++ "<lambda>") pa bo sc (cloFrom X.env.cells sc.names []) (.ref s1.heap.objs.size) ((X.mg "__name__").getD .none) (.ref c') ct), toks := tk } := I1.kept fun b o e => Heap.get?_push_of_some _ (hx b o (g0 b o e))
    exact h h'.objs.size c' s1.heap.objs.size u ((X.mg "__name__").getD .none) ct H1 _ I3 (ExtN.refl H1) hT (Heap.get?_push_size _ rfl) (I1.hok.fresh szf) (off _ szf) hco (Heap.get?_push_of_some _ (hx _ _ tD)) dH (off _ (Nat.le_refl _))
end
/-- the lambda's names: its one parameter is its own, all others are captured or global -/
structure LamQ (sq sc : Scope) (b : Str) : Prop where
  kind : sc.kind = .function
  co : sc.isCoroutine = false
  gen : sc.isGenerator = false
  own : ∀ y ∈ sc.names, y.2 ≠ .cell ∧ (y.2 = .local → y.1 = b)
  free : ∀ y ∈ sc.names, y.2 = .free → sq.names.lookup y.1 = some .cell ∨ sq.names.lookup y.1 = some .free
  par : sc.names.lookup b = some .local
def lamQB (sq sc : Scope) (b : Str) : Bool :=
  (decide (sc.kind = .function) && !sc.isCoroutine && !sc.isGenerator) && (decide (sc.names.lookup b = some .local) && sc.names.all fun y => !decide (y.2 = .cell) && (!decide (y.2 = .local) || decide (y.1 = b)) && (!decide (y.2 = .free) || (decide (sq.names.lookup y.1 = some .cell) || decide (sq.names.lookup y.1 = some .free))))
theorem lamQ_by {sq sc : Scope} {b : Str} (h : lamQB sq sc b = true) : LamQ sq sc b := by
  unfold lamQB at h
  simp only [Bool.and_eq_true, Bool.or_eq_true, Bool.not_eq_true', decide_eq_true_eq, decide_eq_false_iff_not, List.all_eq_true] at h
  obtain ⟨⟨⟨k1, k2⟩, k3⟩, k4, k5⟩ := h
  refine ⟨k1, k2, k3, fun y hy => ⟨(k5 y hy).1.1, fun e => (k5 y hy).1.2.elim (fun z => absurd e z) id⟩, fun y hy e => ?_, k4⟩
  exact (k5 y hy).2.elim (fun z => absurd e z) id
theorem LamQ.has {X : Cx} {sc : Scope} {b : Str} (L : LamQ X.env.scope sc b) (ok : X.Ok) : ∀ y ∈ sc.names, y.2 = .free → ∃ c, X.env.cells.lookup y.1 = some c := fun y hy e =>
  (L.free y hy e).elim (fun k => ok.has _ (.inl k)) fun k => ok.has _ (.inr k)
section
variable {X : Cx} {pins : List (Addr × Obj)} {σ : L2.St} {H HZ : Hp} {s s1 : Shared}
theorem startD {A : Around} {outer : List Env} {E : XK} {sc : Scope} {b : Str} {u : Value} {f c' : Addr} {h1 : Heap} {tk : Nat} (I : Inv X pins σ H s) (L : LamQ X.env.scope sc b) (hbN : b ∉ X.N) (e0 : Env0 X.prog X.w X.K X.mg X.base A outer s1 HZ) (hd : A.handled = none)
    (un : Un (frs X.stack) [] H HZ s.heap s1.heap) (hns : h1.Ns s1.heap.objs.size fun y => ([(b, u)] : List (Str × Value)).reverse.lookup y) (kp : ∀ a o, s1.heap.get? a = some o → h1.get? a = some o) :
    Inv (lamCx X A outer s1 HZ E sc f c') [] σ HZ { s1 with heap := h1, toks := tk } := by
  have hfr := L.has I.ok
  have back : ∀ {y c}, (cloFrom X.env.cells sc.names []).lookup y = some c → X.env.cells.lookup y = some c := fun {y c} e => by
    rcases cloFrom_mem (PySem.mem_of_lookup e) with z | ⟨z1, z2⟩
    · cases z
    · obtain ⟨c1, hc⟩ := hfr _ z1 rfl
      have hc : X.env.cells.lookup y = some c1 := hc
      rw [z2, hc] <;> first | rfl | exact hc
  have there : ∀ {y}, sc.names.lookup y = some .free → ∃ c, (cloFrom X.env.cells sc.names []).lookup y = some c := fun {y} hl =>
    mem_lookup (cloFrom_has (cells := X.env.cells) (acc := []) (PySem.mem_of_lookup hl))
  have cellKp : ∀ {c : Addr} {v : Option Value}, H c = none → s.heap.IsCell c v → h1.IsCell c v := fun {c v} n ⟨o, ho, hdd⟩ => by
    obtain ⟨sl, q⟩ := un.any ho n (by simp)
    exact ⟨_, kp _ _ q, hdd⟩
  have none' : ∀ a : Addr, a ∉ (lamCx X A outer s1 HZ E sc f c').ex := fun a z => absurd (show a ∈ ([] : List Addr) from z) (by simp)
  refine ⟨⟨e0.mod, L.kind, rfl, rfl, Nat.le_refl _, fun y z c k1 k2 => I.ok.inj y z c (back k1) (back k2), fun y hy => ?_, fun y c z _ => ?_, fun _ => hd, Around.frames_deeper e0.frames, .inr ⟨rfl, rfl⟩,
      fun a z => absurd z (none' a), e0.bs, e0.bsz, fun a _ _ => none' a, fun a z => absurd z (none' a), e0.funs, e0.frf⟩,
    rfl, e0.bare, Un.kept kp, ⟨_, hns, fun i y v k1 k2 k3 => ?_⟩, fun y c e => ?_, e0.hok.fresh (Nat.le_refl _), fun y c e => ?_, fun q hq => absurd (show q ∈ ([] : List (Addr × Obj)) ++ [] from hq) (by simp), e0.hok.kept kp, I.len⟩
  · have hy : sc.names.lookup y = some .cell ∨ sc.names.lookup y = some .free := hy
    rcases hy with hy | hy
    · exact absurd rfl (L.own _ (PySem.mem_of_lookup hy)).1
    · exact there hy
  · have z : false = true := z
    cases z
  · have k3 : Vis sc y := k3
    have k1 : X.N[i]? = some y := k1
    rcases k3 with k | k | k
    · have eb : y = b := (L.own _ (PySem.mem_of_lookup k)).2 rfl
      exact absurd (eb ▸ List.mem_of_getElem? k1) hbN
    · exact absurd rfl (L.own _ (PySem.mem_of_lookup k)).1
    · obtain ⟨m, hn, hl⟩ := I.loc
      have hvis : Vis X.env.scope y := (L.free _ (PySem.mem_of_lookup k) rfl).elim (fun z => .inr (.inl z)) fun z => .inr (.inr z)
      obtain ⟨w', r, q⟩ := hl i y v k1 k2 hvis
      obtain ⟨c2, k4⟩ := there k
      refine ⟨w', r, .inr ⟨.inr k, c2, k4, ?_⟩⟩
      have k5 := back k4
      rcases q with ⟨z, _⟩ | ⟨_, c3, z1, z2⟩
      · have z : X.env.scope.names.lookup y = some .local := z
        rcases L.free _ (PySem.mem_of_lookup k) rfl with z2 | z2 <;> rw [show X.env.scope.names.lookup y = _ from z2] at z <;> cases z
      · rw [k5] at z1
        cases z1
        exact cellKp (I.freeC y _ k5) z2
  · obtain ⟨w', z⟩ := I.cell y c (back e)
    exact ⟨w', cellKp (I.freeC y c (back e)) z⟩
  · obtain ⟨v, o, ho, hdd⟩ := I.cell y c (back e)
    exact un.free c o ho (I.freeC y c (back e)) (by simp)
end
/-- how it is bound where nothing is handed in: by its default's tuple -/
def BindD (pa : Arguments) (bo : Expr) (sc : Scope) (b : Str) : Prop := ∀ (q : Str) (cl : List (Str × Addr)) (dT : Addr) (pm cv ct : Value), ∃ k : Option (Array Value) → Sem (List (Str × Value)),
  bindArgs (fnD q pa bo sc cl (.ref dT) pm cv ct) ⟨[], []⟩ = (seqItems? (.ref dT) >>= k) ∧ ∀ u : Value, k (some [u].toArray) = pure [(b, u)]
section
variable {X : Cx} {pins : List (Addr × Obj)} {σ : L2.St} {H HZ : Hp} {s s1 : Shared}
theorem actD {CXg : CXT} {Eg : XK} {Ng : List Str} {qg : Str} {sg : Scope} {g f c' dT : Addr} {cdg pm ct u : Value} {pa : Arguments} {bo : Expr} {sc : Scope} {b : Str} {k i : Nat} {a : Str} {pn : List (Addr × Obj)} {xe : Value → Shared → Prop} {W : WX} {E : XK} {tb : TE} {p1 p2 : Pos}
    (I : Inv X pins σ H s) (L : LamQ X.env.scope sc b) (hbN : b ∉ X.N) (hf : s.heap.get? f = some (obD (X.env.qual ++ "<lambda>") pa bo sc (cloFrom X.env.cells sc.names []) (.ref dT) pm (.ref c') ct)) (nf : H f = none) (rf : f ∉ frs X.stack)
    (hd : s.heap.get? dT = some (tupD u)) (nd : H dT = none) (rd : dT ∉ frs X.stack) (hbind : BindD pa bo sc b)
    (tk : Takes ((cxOf CXg X.prog X.w X.K X.mg X.base Ng qg sg g cdg X.A X.stack s H Eg).tr pn xe) W) (hW : ∀ cls d σ' H', E cls d H' → W cls d σ' H') (hr : Room (k + 1) (X.A.deeper (envOfC qg sg s.heap.objs.size g cdg)))
    (hbody : ∀ (A : Around) (outer : List Env) (s : Shared) (H : Hp), Room k (A.deeper (lamEnv X sc s.heap.objs.size f c')) → PE (lamCx X A outer s H E sc f c') bo tb)
    (hN : Ng[i]? = some a) (hv : Vis sg a) (hdb : (a == ("__debug__" : Str)) = false := by decide) (hcd : (a == ("__classdict__" : Str)) = false := by decide) :
    PE ((cxOf CXg X.prog X.w X.K X.mg X.base Ng qg sg g cdg X.A X.stack s H Eg).tr pn xe) (.Call (.Name a p1) [] [] p2)
      (fun σZ HZ Q => σZ[i]? = some (some (.ref f)) ∧ HZ c' = some (CodeO c' (X.env.qual ++ "<lambda>")) ∧ tb σ HZ Q) := by
  refine ⟨fun pinsZ sZ σZ HZ Q IZ h => ?_⟩
  obtain ⟨hs, hc, htb⟩ := h
  refine wpAny_Call_Name_kw (thn ((pe_var (pos := p1) (i := i) hN hv hdb hcd).run pinsZ sZ σZ HZ (fun v H1 => v = .ref f ∧ H1 = HZ) IZ ⟨.ref f, hs, rfl, rfl⟩) fun w s1 ⟨v, H1, I1, r1, q1⟩ => ?_)
  obtain ⟨rfl, rfl⟩ := q1
  obtain rfl : w = Value.ref f := r1
  have none' : ∀ z : Addr, z ∉ ([] : List Addr) := fun z hz => nomatch hz
  have of1 : s1.heap.get? f = some (obD (X.env.qual ++ "<lambda>") pa bo sc (cloFrom X.env.cells sc.names []) (.ref dT) pm (.ref c') ct) := I1.base.keep f _ hf nf rf (none' f)
  have od1 : s1.heap.get? dT = some (tupD u) := I1.base.keep dT _ hd nd rd (none' dT)
  refine PySem.W.callWith_F0 ⟨_, _, _, _, of1⟩ ?_
  have un : Un (frs X.stack) [] H H1 s.heap s1.heap := I1.base
  obtain ⟨⟨oc, vs, t, hoc, hdc, hvc⟩, _, _⟩ := I1.hok c' _ hc
  have rc : codeAny (model X.prog X.w) (X.A.deeper (envOfC qg sg s.heap.objs.size g cdg)) (.call (.ref f) ⟨[], []⟩) (CR (L2.CX X.prog X.w) (envOfC qg sg s.heap.objs.size g cdg :: X.stack) X.prog X.w H1 s1 Q E) s1 := by
    refine PySem.W.kla_callFunE hr.depth of1 rfl L.co L.gen rfl ⟨c', oc, vs, t, rfl, hoc, hdc, hvc⟩ ?_
    obtain ⟨kb, b1, b2⟩ := hbind (X.env.qual ++ "<lambda>") (cloFrom X.env.cells sc.names []) dT pm (.ref c') ct
    rw [b1]
    refine wpAny_bind (wpAny_seqItems od1 rfl ?_)
    rw [b2]
    have lp : ∀ y ∈ [(b, u)], sc.names.lookup y.1 = some .local := fun y hy => by
      rw [List.mem_singleton.mp hy]
      exact L.par
    refine wpAny_pure (wpAny_newFunctionEnv (fun y hy => (L.own y hy).1) lp (fun h1 hns hsb => ⟨I1.nolimit.fresh _ hsb, ?_⟩) L.kind)
    show codeAny _ _ (.expr bo (lamEnv X sc s1.heap.objs.size f c')) _ _
    have kp : ∀ z o, s1.heap.get? z = some o → h1.get? z = some o := fun z o e => hsb.extBut z o (Nat.ne_of_lt (Heap.lt_size e)) (Heap.get?_push_of_some _ e)
    have J := startD (tk := s1.toks + [(b, u)].length) (E := E) (f := f) (c' := c') I L hbN I1.env0 hr.hd un hns kp
    refine PySem.W.kla_codeExpr (wpAny_mono ((hbody _ _ s1 H1 (hr.deeper _)).run [] _ _ H1 Q J htb) (fun v s' hq => ?_) fun _ _ z => z)
    obtain ⟨w', H', J', rv, q⟩ := hq
    exact ⟨w', H', J'.os, J'.bare, J'.base, J'.hok, rv, q⟩
  have hx : Passes (L2.CX X.prog X.w) ((cxOf CXg X.prog X.w X.K X.mg X.base Ng qg sg g cdg X.A X.stack s H Eg).tr pn xe) E := passes_call tk hW
  refine wpAny_call (codeAny_mono rc fun r s' hq => ?_)
  match r, hq with
  | .error e, hq => exact hx pinsZ σZ H1 s1 e s' I1 hq
  | .ok (.ret w), hq => exact I1.after hq
  | .ok .next, hq => exact False.elim hq
  | .ok .brk, hq => exact False.elim hq
  | .ok .cont, hq => exact False.elim hq
/-- x(lambda b=i: body) -/
theorem pe_lamD {T : List (Addr × Str)} {TT : (XK → Hp → VK → Prop) → Hp → VK → Prop} {x a b : Str} {st : Stmt} {g c P : Addr} {fd : FuncData} {k : Nat} {Ng : List Str} {pa : Arguments} {bo dx : Expr} {sc : Scope} {t : XK → TE} {i : Int} {p lpos pos : Pos}
    (hg : Gl X x) (F : C8.Def X.K X.mg x st g fd) (hb : L2.Binds X.K fd [a] []) (Sg : FnScope Ng [a] (C8.fnScope st)) (hNg : Ng[0]? = some a) (hva : Vis (C8.fnScope st) a) (hG : ∀ cdv, GivesTo X Ng x (C8.fnScope st) g cdv (C8.fnBody st) a (X.env.qual ++ "<lambda>") TT)
    (TB : TabB X.base X.mg c P) (hcode : X.env.code = .ref c) (hmT : (P, X.env.qual ++ "<lambda>") ∈ T) (hu : ∀ p ∈ T, p.1 = P → p.2 = X.env.qual ++ "<lambda>") (hr : Room (k + 2) X.A) (L : LamQ X.env.scope sc b) (hbN : b ∉ X.N) (hdef : defaultsOf pa X.env = ([eval dx X.env], [])) (hdx : PE X dx (tC (.int i))) (hko : pa.kwonlyargs = [])
    (hbind : BindD pa bo sc b) (hbody : ∀ (A : Around) (outer : List Env) (s : Shared) (H : Hp) (E : XK) (f c' : Addr), Room k (A.deeper (lamEnv X sc s.heap.objs.size f c')) → PE (lamCx X A outer s H E sc f c') bo (t E))
    (hdb : (x == ("__debug__" : Str)) = false := by decide) (hd : (a == ("__debug__" : Str)) = false := by decide) (hcd : (a == ("__classdict__" : Str)) = false := by decide) :
    PE X (.Call (.Name x p) [.Lambda pa bo sc lpos] [] pos) (tLam T TT t) := by
  obtain ⟨oc, od, dV, kV, doc, pm, an, cdv, ct, osl, rfl, lk, hcg⟩ := F.fn.ex
  refine ⟨fun pins s σ H Q I h => ?_⟩
  obtain ⟨hT, h⟩ := h
  refine wpAny_Call_Name_kw (ld_glob I hg F.mgf ?_ hdb)
  refine PySem.W.callWith_K (h₀ := X.base) I.ok.mod.kin F.kp ?_ (by rfl) (by rfl)
  show wpAny _ _ (spliced ((false, eval (.Lambda pa bo sc lpos) X.env) :: backTo pos (starEach [] X.env))) _ _ s
  refine Calls.spliced_cons (makeD I TB hcode hmT hu hT hdef hdx rfl hko (L.has I.ok) fun f c' dT u pm' ct' H1 s' I1 eN T1 hf nf rf hco hd1 nd rd => ?_)
  refine Calls.spliced_nil ⟨I1.kIn, ?_⟩
  have rc : codeAny (model X.prog X.w) X.A (.call (.ref g) ⟨[.ref f], []⟩) (CR C8.CX0 X.stack X.prog X.w H1 s' Q C8.E0) s' := by
    refine run_ofS (N := Ng) (ps := [a]) (us := [.ref f]) (vs := [.ref f]) lk hcg Sg hr I1.env0 (hb s' [.ref f] I1.kIn rfl) (.cons rfl .nil) rfl fun hr' => ?_
    obtain ⟨t', ht', hq'⟩ := hG cdv f c' s' H1 Q (fun E H' Q' => t E σ H' Q') (fun W pn xe E p1 p2 tk hW => actD (i := 0) I1 L hbN hf nf rf hd1 nd rd hbind tk hW hr' (fun A outer s H hr2 => hbody A outer s H E f c' hr2) hNg hva hd hcd) hco (h H1 eN T1)
    exact ⟨t', ht'.nox, hq'⟩
  refine wpAny_call (codeAny_mono rc fun r s2 hq => ?_)
  match r, hq with
  | .error e, hq => exact (show False from hq).elim
  | .ok (.ret w), hq => exact I1.after hq
  | .ok .next, hq => exact False.elim hq
  | .ok .brk, hq => exact False.elim hq
  | .ok .cont, hq => exact False.elim hq
end
end LamD

set_option Elab.async false
set_option linter.all false
set_option maxRecDepth 100000
set_option maxHeartbeats 4000000
/-! list.count of plain values; isinstance of a caught error in a row of a suite. -/
namespace L2
open PySem PySem.Spec PyProof.Rows
def rCntV (K : PySem.W.Frag) : V → List V → Hp → VK → Prop := fun x xs H Q => ∃ (p : Addr) (ys : List V) (y : V), x = .ref p ∧ xs = [y] ∧ SqL K H p ys ∧ flatV y = true ∧ ys.all flatV = true ∧ Q (.int (ys.countP fun z => eqV z y : Nat)) H
theorem countU {y : V} : ∀ {ys : List V} {us : List Value}, Vals ys us → ys.all flatV = true → us.countP (eqU y) = ys.countP fun z => eqV z y
  | _, _, .nil, _ => rfl
  | _, _, .cons r rs, f => by
    rw [List.all_cons, Bool.and_eq_true] at f
    rw [List.countP_cons, List.countP_cons, countU rs f.2, eqU_of r f.1]
theorem mt_countV {X : Cx} : MtR X "list.count" (rCntV X.K) := by
  intro pins s σ H x xs v us Q I rx rxs h
  obtain ⟨p, ys, y, rfl, rfl, hs, fy, fys, q⟩ := h
  cases rx
  obtain ⟨uy, rfl, ry⟩ := rxs.one
  obtain ⟨its, rv, ⟨⟨cls, dd, data, sl⟩, n, ho, hc, hdn, hd⟩, hlen⟩ := I.list hs
  simp only at hc hd
  subst hc hd
  refine call_meets PySem.F.slot_list_count ⟨_, ho, rfl⟩ PySem.F.entry_list_count (PySem.F.args_list_count_2 _ _) (SeqAt.list_countAt p its.toArray n dd sl uy (eqU y)) ⟨ho, fun u' hu' => mem_eqAt ry fy rv fys u' (by simpa using hu'), ?_⟩
  have ec : its.toArray.toList.countP (eqU y) = ys.countP fun z => eqV z y := countU rv fys
  refine ⟨.int (ys.countP fun z => eqV z y : Nat), H, I.tok _, ⟨s.toks, ?_⟩, q⟩
  show Value.int ((its.toArray.toList.countP (eqU y) : Nat) : Int) s.toks = Value.int ((ys.countP fun z => eqV z y : Nat) : Int) s.toks
  rw [ec]
end L2

set_option Elab.async false
set_option linter.all false
set_option maxRecDepth 100000
set_option maxHeartbeats 4000000
/-! try: body, clauses `except X as n`, of which one takes whatever comes out. -/
namespace Wt
open PySem PySem.Spec PyProof.Rows L2 SX Evl
abbrev SuT := Addr → Value → Option Addr → TS
/-- the ends of a suite: its name goes -/
def offN (i : Nat) (D : Ends) : Ends := { nx := fun σ' H' => D.nx (σ'.set i none) H', rt := D.rt, bk := fun σ' H' => D.bk (σ'.set i none) H', ct := fun σ' H' => D.ct (σ'.set i none) H' }
/-- only what one of the clauses takes comes out of the body; slot i is the clauses' name -/
def wAs (K : PySem.W.Frag) (m i : Nat) (D : Ends) : List (Value × SuT) → WX
  | [] => fun _ _ _ _ => False
  | (c, ts) :: r => fun cls d σ H => ∃ b, PySem.W.exmOne K cls c = some b ∧ (b = true → ∀ a, H a = none → σ.length = m → ts a cls d (offN i D) (σ.set i (some (.ref a))) H) ∧ (b = false → wAs K m i D r cls d σ H)
inductive HdAs (X : Cx) (n : Str) : List ExceptHandler → List (Value × SuT) → Prop
  | nil : HdAs X n [] []
  | cons {x : Str} {c : Value} {ts : SuT} {b₀ : Stmt} {suite : List Stmt} {np pos' : Pos} {hds : List ExceptHandler} {l : List (Value × SuT)} (hc : Names X x c)
      (hsu : ∀ (a : Addr) (oe : Obj) (cls : Value) (d : Option Addr) (pn : List (Addr × Obj)), Zc cls d oe → (∃ vs, oe.data = .fields vs) → PSs (X.suite a ((a, oe) :: pn)) (b₀ :: suite) (ts a cls d)) (r : HdAs X n hds l) :
      HdAs X n (.ExceptHandler (some (.Name x np)) (some n) (b₀ :: suite) pos' :: hds) ((c, ts) :: l)
section
variable {X : Cx} {n : Str} {i : Nat} {body : List Stmt} {h₀ : ExceptHandler} {hds : List ExceptHandler} {l : List (Value × SuT)} {pos : Pos} {tb : WX → TS}
theorem ps_try_as (hs : X.stack = X.env :: X.outer) (hf : X.env.frame = some X.env.locals) (hN : X.N.Nodup) (hi : X.N[i]? = some n) (hln : X.env.kindOf n = some .local)
    (hb : ∀ (W : WX) (pn : List (Addr × Obj)) (xe : Value → Shared → Prop), Takes (X.tr pn xe) W → PassesOwn (model X.prog X.w) X.A X.env xe → PSs (X.tr pn xe) body (tb W)) (hh : HdAs X n (h₀ :: hds) l) :
    PS X (.Try body (h₀ :: hds) [] [] pos) (fun D σ H => tb (wAs X.K X.N.length i D l) D σ H) := by
  refine ⟨fun pins s σ H D I h => ?_⟩
  have ok := I.ok
  have frames : X.A.frames = some (X.env :: X.outer) := by rw [ok.frames, hs]
  have caught : ∀ u s', XE (X.tr (X.pn ++ pins) (fun e s₁ => wpAny (model X.prog X.w) X.A (noteFrame e X.env) (fun _ s₂ => wpAny (model X.prog X.w) X.A (setFlight e none) (fun _ s₃ =>
      wpAny (model X.prog X.w) X.A (handleBy e X.env (h₀ :: hds)) (SP X pins D) X.xe s₃) X.xe s₂) X.xe s₁)) (wAs X.K X.N.length i D l) u s' →
      wpAny (model X.prog X.w) X.A (noteFrame u X.env) (fun _ s₂ => wpAny (model X.prog X.w) X.A (setFlight u none) (fun _ s₃ =>
        wpAny (model X.prog X.w) X.A (handleBy u X.env (h₀ :: hds)) (SP X pins D) X.xe s₃) X.xe s₂) X.xe s' := by
    rintro u s' ⟨a, B, sI, pins', σ', H', cls, d, rfl, J0, ground, up, sky, na, os, ag, went⟩
    have J : Inv X pins σ' H' sI := J0.ofTry ok
    refine Sky.land Zc.steady frames hf (by rw [← hs]; exact sky) fun h1 fl1 up1 => ?_
    have J1 : Inv X pins σ' H' { s' with heap := h1 } := J.landed ground fl1.1 (up.trans up1) os ag
    obtain ⟨o1, vs1, g1, z1, d1⟩ := fl1.there
    have off := caught_off fl1.2.2.1 g1 d1
    have offL : a ≠ X.env.locals := fun z => off (List.mem_filterMap.mpr ⟨X.env, List.mem_cons_self, by rw [hf, z]⟩)
    have offF : a ∉ X.fs := fun hm => by
      obtain ⟨e, he, q⟩ := List.mem_filterMap.mp hm
      exact off (List.mem_filterMap.mpr ⟨e, List.mem_cons_of_mem _ he, q⟩)
    have T1 := J1.suite g1 d1 na offL offF
    have each : ∀ {hs' : List ExceptHandler} {l' : List (Value × SuT)}, HdAs X n hs' l' → wAs X.K X.N.length i D l' cls d σ' H' →
        wpAny (model X.prog X.w) X.A (handleBy (.ref a) X.env hs') (SP X pins D) X.xe { s' with heap := h1 } := by
      intro hs' l' hk
      induction hk with
      | nil => exact fun z => z.elim
      | @cons x c ts b₀ suite np pos' hds2 l2 hc hsu r ih =>
        rintro ⟨b, hit, yes, no⟩
        refine wpAny_handleBy_cons (codeAny_handlers_test ?_) (fun q => by cases q)
        have look : PySem.W.Looks (model X.prog X.w) h1 (excMatches (.ref a) c) b := PySem.W.exm_one J1.kIn (fun A Q E s k q => wpAny_typeOf_ref (k _ _ g1) (by rw [z1.1]; exact q)) hit
        have named : ∀ {Q : Value → Shared → Prop} {E : Value → Shared → Prop}, Q c { s' with heap := h1 } → wpAny (model X.prog X.w) (X.A.mark (some (.ref a))) (eval (.Name x np) X.env) Q E { s' with heap := h1 } := by
          intro Q E q
          obtain ⟨hg, hdb, hm | ⟨hm, hv, hnn⟩⟩ := hc
          · exact ld_glob (X := X.suite a ((a, o1) :: (X.pn ++ pins))) T1 hg hm q hdb
          · exact ld_blt (X := X.suite a ((a, o1) :: (X.pn ++ pins))) T1 hg hm hv q hnn hdb
        refine named (look.here ?_)
        cases b with
        | false =>
          show wpAny _ X.A (handleBy (.ref a) X.env hds2) _ _ _
          exact ih (no rfl)
        | true =>
          refine codeAny_handlers_suite_as ?_
          refine HandSPX.lands_againZ fl1 fun h2 fl2 up2 => ?_
          have J2 : Inv X pins σ' H' { s' with heap := h2 } := J.landed ground fl2.1 ((up.trans up1).trans up2) os ag
          obtain ⟨o2, vs2, g2, z2, d2⟩ := fl2.there
          have T2 := J2.suite g2 d2 na offL offF
          refine store_ok (X := X.suite a ((a, o2) :: (X.pn ++ pins))) (v := .ref a) T2 hN hi (.inl hln) rfl (fun s3 T3 => ?_) (.inr hln)
          refine wpAny_mono ((hsu a o2 cls d (X.pn ++ pins) z2 ⟨_, d2⟩).run [] s3 _ H' _ T3 (yes rfl a na J.len)) (fun fl s4 hsp => ?_) fun _ _ z => z.elim
          have done : ∀ {σ4 : L2.St} {H4 : Hp} {Q : Shared → Prop}, Inv (X.suite a ((a, o2) :: (X.pn ++ pins))) [] σ4 H4 s4 → (∀ s5, Inv X pins (σ4.set i none) H4 s5 → Q s5) →
              wpAny (model X.prog X.w) X.A (do bindName X.env n .none; unbindBehindTheSuite X.env n pos') (fun _ s5 => Q s5) X.xe s4 := fun T4 hq => gone_ok (T4.unsuite ok) hN hi hln hq
          match fl, hsp with
          | .next, ⟨_, _, T4, q4⟩ => exact done T4 fun s5 J5 => ⟨_, _, J5, q4⟩
          | .brk, ⟨_, _, T4, q4⟩ => exact done T4 fun s5 J5 => ⟨_, _, J5, q4⟩
          | .cont, ⟨_, _, T4, q4⟩ => exact done T4 fun s5 J5 => ⟨_, _, J5, q4⟩
          | .ret u4, ⟨_, _, _, T4, r4, q4⟩ => exact done T4 fun s5 J5 => ⟨_, _, _, J5, r4, q4⟩
    exact each hh went
  refine wpAny_Try_except (wpAny_mono ((hb (wAs X.K X.N.length i D l) (X.pn ++ pins) _ caught PassesOwn.looking).run [] s σ H D (I.toTry _) h) (fun fl s1 hsp => ?_) fun e s1 he => he)
  match fl, hsp with
  | .next, ⟨σ', H', J', q⟩ => exact wpAny_execs_nil ⟨σ', H', J'.ofTry ok, q⟩
  | .brk, ⟨σ', H', J', q⟩ => exact ⟨σ', H', J'.ofTry ok, q⟩
  | .cont, ⟨σ', H', J', q⟩ => exact ⟨σ', H', J'.ofTry ok, q⟩
  | .ret u, ⟨v, σ', H', J', r, q⟩ => exact ⟨v, σ', H', J'.ofTry ok, r, q⟩
end
end Wt

set_option Elab.async false
set_option linter.all false
set_option maxRecDepth 100000
set_option maxHeartbeats 4000000
namespace Wt
open PySem PySem.Spec PyProof.Rows L2 SX Evl
open C8 (Def Cal cal0 fnScope_by fnScope)
/-! The House: its files (make aside). -/
theorem bt_dict : bootBuiltins "dict" = some (.type "dict") := by decide +kernel
/-- a class of errors over ValueError without an own __init__ -/
structure OwnX (K : PySem.W.Frag) (mg : Str → Option Value) (x : Str) (C : Addr) : Prop where
  q : PySem.W.excIn K C [.type "ValueError", .type "Exception", .type "BaseException", .type "object"] "ValueError.__new__" = true
  g : mg x = some (.ref C)
  k : PySem.W.keepIn K (.ref C) = true
  b : PySem.W.subIn K (.ref C) (.type "BaseException") = some true
  t : PySem.W.typeIn K (.ref C) = some (.type "type")
theorem OwnX.r {X : Cx} {x : Str} {C : Addr} (o : OwnX X.K X.mg x C) : Raises X (.ref C) := raises_own o.b o.t
/-- all but the object at h stays -/
def Exo (h : Addr) (H H' : Hp) : Prop := ∀ b o, b ≠ h → H b = some o → H' b = some o
theorem Exo.of {h : Addr} {H H' : Hp} (e : Ex H H') : Exo h H H' := fun b o _ q => e b o q
theorem Exo.trans {h : Addr} {H H1 H2 : Hp} (a : Exo h H H1) (b : Exo h H1 H2) : Exo h H H2 := fun x o n q => b x o n (a x o n q)
theorem S_inj2 {a b : List Nat} : S a = S b ↔ a = b := ⟨fun h => by
  have := congrArg (fun z : Str => z.cps.toList) h
  rwa [S_list, S_list] at this, fun h => by rw [h]⟩
theorem keyS {a b : List Nat} : ((Sum.inr (S a) : Key) = Sum.inr (S b)) ↔ a = b := ⟨fun h => S_inj2.mp (by injection h), fun h => by rw [h]⟩
theorem valV_kvH (n : List Nat) : ∀ fs : Files, valV (kvH fs) (Sum.inr (S n) : Key) = (lookH fs n).map fun t => V.str (S t)
  | [] => rfl
  | p :: r => by
    have e : kvH (p :: r) = ((Sum.inr (S p.1) : Key), V.str (S p.2)) :: kvH r := rfl
    rw [e]
    by_cases h : p.1 = n
    · rw [valV_pos (show ((Sum.inr (S p.1) : Key), V.str (S p.2)).1 = Sum.inr (S n) from keyS.mpr h)]
      unfold lookH
      rw [List.find?_cons, decide_eq_true h] <;> rfl
    · rw [valV_neg (show ¬ ((Sum.inr (S p.1) : Key), V.str (S p.2)).1 = Sum.inr (S n) from fun z => h (keyS.mp z)), valV_kvH n r]
      unfold lookH
      rw [List.find?_cons, decide_eq_false h] <;> rfl
theorem putK_kvH (fs : Files) (n t : List Nat) : putK (kvH fs) (Sum.inr (S n) : Key) (.str (S t)) = kvH (putH fs n t) := by
  unfold putK putH
  rw [valV_any, valV_kvH, Option.isSome_map]
  cases h : (lookH fs n).isSome with
  | false =>
    rw [if_neg Bool.false_ne_true, if_neg Bool.false_ne_true]
    unfold kvH
    rw [List.map_append] <;> rfl
  | true =>
    rw [if_pos rfl, if_pos rfl]
    unfold kvH
    rw [List.map_map, List.map_map]
    refine List.map_congr_left fun p _ => ?_
    show (if (Sum.inr (S p.1) : Key) = Sum.inr (S n) then _ else _) = _
    by_cases e : p.1 = n
    · rw [if_pos (keyS.mpr e)]
      show _ = ((Sum.inr (S (if p.1 = n then (p.1, t) else p).1) : Key), V.str (S (if p.1 = n then (p.1, t) else p).2))
      rw [if_pos e]
    · rw [if_neg fun z => e (keyS.mp z)]
      show _ = ((Sum.inr (S (if p.1 = n then (p.1, t) else p).1) : Key), V.str (S (if p.1 = n then (p.1, t) else p).2))
      rw [if_neg e]
/-- what the class and the top leave -/
structure HouM (K : PySem.W.Frag) (mg : Str → Option Value) (CH CB CR CN : Addr) : Prop where
  cls : Cls K CH
  n1 : NoAttr K CH "texts"
  n2 : NoAttr K CH "kept"
  n3 : NoAttr K CH "laid"
  m_dict : mg "dict" = none
  m_list : mg "list" = none
  m_len : mg "len" = none
  m_sorted : mg "sorted" = none
  x_BadHouse : OwnX K mg "BadHouse" CB
  x_BadRows : OwnX K mg "BadRows" CR
  x_NoFile : OwnX K mg "NoFile" CN
def houF (dt dk : Addr) : List (Str × V) := [("texts", .ref dt), ("kept", .ref dk), ("laid", .non)]
/-- the House at h has these files -/
def HouO (H : Hp) (CH h : Addr) (fs : Files) : Prop := ∃ dx dt dk, H h = some (.ins CH dx (houF dt dk)) ∧ H dt = some (.dK (kvH fs))
/-- the same, its files' dict is newer than H -/
def HouN (H H2 : Hp) (CH h : Addr) (fs : Files) : Prop := ∃ dx dt dk, H2 h = some (.ins CH dx (houF dt dk)) ∧ H2 dt = some (.dK (kvH fs)) ∧ H dt = none
theorem HouN.o {H H2 : Hp} {CH h : Addr} {fs : Files} (o : HouN H H2 CH h fs) : HouO H2 CH h fs := by
  obtain ⟨dx, dt, dk, h1, h2, _⟩ := o
  exact ⟨dx, dt, dk, h1, h2⟩
theorem HouN.back {H0 H H2 : Hp} {CH h : Addr} {fs : Files} (o : HouN H H2 CH h fs) (e : Ex H0 H) : HouN H0 H2 CH h fs := by
  obtain ⟨dx, dt, dk, h1, h2, h3⟩ := o
  exact ⟨dx, dt, dk, h1, h2, fresh_back e h3⟩
theorem HouO.go {H H' : Hp} {CH h : Addr} {fs : Files} (o : HouO H CH h fs) (e : Ex H H') : HouO H' CH h fs := by
  obtain ⟨dx, dt, dk, h1, h2⟩ := o
  exact ⟨dx, dt, dk, e _ _ h1, e _ _ h2⟩
section
variable {P : Program} {w : World} {K : PySem.W.Frag} {mg : Str → Option Value} {base : Heap} {CH CB CR CN : Addr}
/-! ### House.text -/
abbrev s_House_text : Stmt := (C8.clsBody (topS 23)).getD 4 (.Pass ⟨0, 0, 0, 0⟩)
theorem sc_House_text : FnScope ["self", "file"] ["self", "file"] (fnScope s_House_text) := fnScope_by (by decide +kernel)
def spText1 (CH CN : Addr) : Sp := fun vs H Q E => ∃ (h : Addr) (fs : Files) (n : List Nat), vs = [.ref h, .str (S n)] ∧ HouO H CH h fs ∧ (∀ t, lookH fs n = some t → RetV (.str (S t)) H Q) ∧ (lookH fs n = none → ∀ H2, Ex H H2 → E (.ref CN) none H2)
theorem ok_House_text (T : HouM K mg CH CB CR CN) {f : Addr} {fd : FuncData} (me : Meth K CH "text" f) (F : C8.Fun K "text" "House.text" s_House_text f fd) (b : Binds K fd ["self", "file"] []) : MetX P w K mg base 1 CH "text" (spText1 CH CN) := by
  refine metX T.cls me F b sc_House_text (fun vs H Q E h => ?_) (fun cdv A outer s H vs Q E hr h => ?_)
  · obtain ⟨_, _, _, rfl, _⟩ := h
    rfl
  · obtain ⟨h, fs, n, rfl, ⟨dx, dt, dk, h1, h2⟩, q1, q2⟩ := h
    have tk := tk_cx (P := P) (w := w) (K := K) (mg := mg) (base := base) (N := ["self", "file"]) (q := "House.text") (sc := fnScope s_House_text) (f := f) (cdv := cdv) (A := A) (outer := outer) (s := s) (H := H) (E := E)
    have hu := hu_of hr
    have x_NoFile := T.x_NoFile

    refine ⟨_, (pss_cons (ps_if (pt_cmp (pc_dnotin hu (pv 1) (pe_fld (pv 0) rfl))) (pss_one (ps_raise rfl tk (pmk_own PySem.F.excBase_ValueError x_NoFile.q x_NoFile.g x_NoFile.k x_NoFile.r (by exact rfl)))) pss_nil)
      (pss_one (ps_ret (pe_dget hu (pe_fld (pv 0) rfl) (pv 1) (fun _ _ => rfl))))), ?_⟩
    have hl : List.lookup (Str.ofString "texts") (houF dt dk) = some (V.ref dt) := rfl
    have fld : ∀ H', Ex H H' → Ev (tFld K (tVar 0) "texts") [some (.ref h), some (.str (S n))] H' (.ref dt) := fun H' e => ev_fld (ev_var rfl) (e _ _ h1) T.cls T.n1 hl
    cases ho : lookH fs n with
    | none =>
      refine q_when (b := true) (et_B fun H1 e Q q => ev_var (i := 1) (v := V.str (S n)) (by rfl) H1 (Ex.refl _) _ fun H2 e2 => fld H2 (e.trans e2) H2 (Ex.refl _) _ fun H3 e3 => ⟨dt, none, rfl, .inl ⟨_, _, .inl ((e.trans (e2.trans e3)) _ _ h2), rfl, by rw [valV_kvH, ho] <;> rfl⟩, q H3 (e2.trans e3)⟩) (fun _ H1 e1 => q2 ho H1 e1) (fun z => by cases z)
    | some t =>
      refine q_when (b := false) (et_B fun H1 e Q q => ev_var (i := 1) (v := V.str (S n)) (by rfl) H1 (Ex.refl _) _ fun H2 e2 => fld H2 (e.trans e2) H2 (Ex.refl _) _ fun H3 e3 => ⟨dt, some (.str (S t)), rfl, .inl ⟨_, _, .inl ((e.trans (e2.trans e3)) _ _ h2), rfl, by rw [valV_kvH, ho] <;> rfl⟩, q H3 (e2.trans e3)⟩) (fun z => by cases z) (fun _ H1 e1 => ?_)
      refine s_ret (v := .str (S t)) (fun H2 e2 Q q => fld H2 (e1.trans e2) H2 (Ex.refl _) _ fun H3 e3 => ev_var (i := 1) (v := V.str (S n)) (by rfl) H3 (Ex.refl _) _ fun H4 e4 => ⟨dt, _, rfl, .inl ⟨_, _, .inl ((e1.trans (e2.trans (e3.trans e4))) _ _ h2), rfl, by rw [valV_kvH, ho] <;> rfl⟩, q H4 (e3.trans e4)⟩) fun H2 e2 => (q1 t ho).go (e1.trans e2)
/-! ### House.lay -/
abbrev s_House_lay : Stmt := (C8.clsBody (topS 23)).getD 1 (.Pass ⟨0, 0, 0, 0⟩)
theorem sc_House_lay : FnScope ["self", "file", "text", "texts"] ["self", "file", "text"] (fnScope s_House_lay) := fnScope_by (by decide +kernel)
/-- files of a size that is read over -/
def SizH (fs : Files) : Prop := fs.length ≤ 900 ∧ ∀ p ∈ fs, p.1.length ≤ 1000 ∧ p.2.length ≤ 40000
theorem SizH.put {fs : Files} {n t : List Nat} (h : SizH fs) (hn : n.length ≤ 1000) (ht : t.length ≤ 40000) : (putH fs n t).length ≤ 1000 ∧ ∀ p ∈ putH fs n t, p.1.length ≤ 1000 ∧ p.2.length ≤ 40000 := by
  unfold putH
  by_cases hs : (lookH fs n).isSome = true
  · rw [if_pos hs, List.length_map]
    refine ⟨by have := h.1; omega, fun p hp => ?_⟩
    obtain ⟨q, hq, rfl⟩ := List.mem_map.mp hp
    have := h.2 q hq
    by_cases e : q.1 = n
    · rw [if_pos e]
      exact ⟨this.1, ht⟩
    · rw [if_neg e]
      exact this
  · rw [if_neg hs, List.length_append, List.length_cons, List.length_nil]
    refine ⟨by have := h.1; omega, fun p hp => ?_⟩
    rcases List.mem_append.mp hp with hp | hp
    · exact h.2 p hp
    · rw [List.mem_singleton.mp hp]
      exact ⟨hn, ht⟩
def spLay (CH CB : Addr) : Sp := fun vs H Q E => ∃ (h : Addr) (fs : Files) (n t : List Nat), vs = [.ref h, .str (S n), .str (S t)] ∧ HouO H CH h fs ∧ SizH fs ∧ n.length ≤ 1000 ∧ t.length ≤ 40000 ∧
  (houseOk (putH fs n t) = true → ∀ H2, Exo h H H2 → HouN H H2 CH h (putH fs n t) → Q .non H2) ∧ (houseOk (putH fs n t) = false → ∀ H2, Ex H H2 → E (.ref CB) none H2)
theorem sv_is_house0 {d : Addr} {hs : Files} {H : Hp} (hd : H d = some (.dK (kvH hs))) (hl : hs.length ≤ 1000) (hb : ∀ p ∈ hs, p.1.length ≤ 1000 ∧ p.2.length ≤ 40000) : SpV spIsHouse [.ref d] H (.bl (houseOk hs)) := fun H1 e Q q E => ⟨d, hs, rfl, e _ _ hd, hl, hb, fun H2 e2 => q H2 e2⟩
theorem ok_House_lay (T : HouM K mg CH CB CR CN) (c_is_house : Cal P w K mg base 3 "is_house" spIsHouse []) {f : Addr} {fd : FuncData} (me : Meth K CH "lay" f) (F : C8.Fun K "lay" "House.lay" s_House_lay f fd) (b : Binds K fd ["self", "file", "text"] []) : MetX P w K mg base 4 CH "lay" (spLay CH CB) := by
  refine metX T.cls me F b sc_House_lay (fun vs H Q E h => ?_) (fun cdv A outer s H vs Q E hr h => ?_)
  · obtain ⟨_, _, _, _, rfl, _⟩ := h
    rfl
  · obtain ⟨h, fs, n, t, rfl, ⟨dx, dt, dk, h1, h2⟩, hz, hn, ht, q1, q2⟩ := h
    have tk := tk_cx (P := P) (w := w) (K := K) (mg := mg) (base := base) (N := ["self", "file", "text", "texts"]) (q := "House.lay") (sc := fnScope s_House_lay) (f := f) (cdv := cdv) (A := A) (outer := outer) (s := s) (H := H) (E := E)
    have hu := hu_of hr
    have x_BadHouse := T.x_BadHouse
    have m_dict := T.m_dict
    refine ⟨_, (pss_cons (ps_set (i := 3) sc_House_lay.nd rfl (.inl rfl) (pe_callTy call_dictD (by rfl) m_dict Wt.bt_dict (pa_cons (pe_fld (pv 0) rfl) pa_nil)))
      (pss_cons (ps_dput hu (pv 3) (pv 1) (pv 2) rfl)
      (pss_cons (ps_if (pt_not (pt_val (C8.pe_c c_is_house hr (by first | decide | exact Nat.le_refl _ | omega) (by rfl) (pa_cons (pv 3) pa_nil)))) (pss_one (ps_raise rfl tk (pmk_own PySem.F.excBase_ValueError x_BadHouse.q x_BadHouse.g x_BadHouse.k x_BadHouse.r (by exact rfl)))) pss_nil)
      (pss_one (ps_fld (pv 0) (pv 3) rfl))))), ?_⟩
    have hl : List.lookup (Str.ofString "texts") (houF dt dk) = some (V.ref dt) := rfl
    have sz := hz.put hn ht
    -- texts = dict(self.texts)
    refine ev_fld (f := "texts") (v := .ref dt) (ta := tVar 0) (ev_var (v := .ref h) (by rfl)) h1 T.cls T.n1 hl H (Ex.refl _) _ fun H1 e1 => ⟨dt, kvH fs, rfl, .inl (e1 _ _ h2), fun p hp => ?_⟩
    have e2 := e1.trans (Ex.new (o := HO.dK (kvH fs)) hp)
    have hp0 : H p = none := fresh_back e1 hp
    generalize hH2 : upd H1 p (.dK (kvH fs)) = H2 at e2
    have hp2 : H2 p = some (.dK (kvH fs)) := by rw [← hH2]; exact upd_same
    show tSeq _ _ _ [some (.ref h), some (.str (S n)), some (.str (S t)), some (.ref p)] H2
    -- texts[file] = text
    refine ⟨_, rfl, _, rfl, _, rfl, p, upd H2 p (.dK (putK (kvH fs) (Sum.inr (S n) : Key) (.str (S t)))), rfl, .inl ⟨kvH fs, Sum.inr (S n), hp2, rfl, sz_lt (by have e : (kvH fs).length = fs.length := List.length_map ..; have := hz.1; omega), rfl⟩, ?_⟩
    rw [putK_kvH]
    have e3 : Ex H (upd H2 p (.dK (kvH (putH fs n t)))) := Ex.mut e2 hp0
    generalize hH3 : upd H2 p (.dK (kvH (putH fs n t))) = H3 at e3
    have hp3 : H3 p = some (.dK (kvH (putH fs n t))) := by rw [← hH3]; exact upd_same
    dsimp only
    refine q_when (et_not (et_B (ev_call (ea_cons (ev_var rfl) ea_nil) (sv_is_house0 hp3 sz.1 sz.2)))) (fun hb H4 e4 => ?_) (fun hb H4 e4 => ?_)
    · exact q2 (by cases hz : houseOk (putH fs n t) with
        | true => rw [hz] at hb; cases hb
        | false => rfl) H4 (e3.trans e4)
    · refine ⟨_, rfl, _, rfl, h, CH, dx, houF dt dk, rfl, e4 _ _ (e3 _ _ h1), T.cls, T.n1, by show 3 < 1000; decide, ?_⟩
      have nph : p ≠ h := fun z => by rw [z, h1] at hp0; cases hp0
      refine q1 (by cases hz : houseOk (putH fs n t) with
        | true => rfl
        | false => rw [hz] at hb; cases hb) _ (fun b o nb hbo => ?_) ⟨dx, p, dk, upd_same, ?_, hp0⟩
      · rw [upd_ne nb]
        exact e4 _ _ (e3 _ _ hbo)
      · rw [upd_ne nph]
        exact e4 _ _ hp3
end
end Wt

set_option Elab.async false
set_option linter.all false
set_option maxRecDepth 100000
set_option maxHeartbeats 4000000
namespace Wt
open PySem PySem.Spec PyProof.Rows L2 SX Evl
open C8 (Def Cal cal0 fnScope_by fnScope)
/-! is_between; the House made; all its files. -/
structure ModsB (K : PySem.W.Frag) (mg : Str → Option Value) : Prop where
  m_isinstance : mg "isinstance" = none
  m_int : mg "int" = none
  m_bool : mg "bool" = none
section
variable {P : Program} {w : World} {K : PySem.W.Frag} {mg : Str → Option Value} {base : Heap} {CH CB CR CN : Addr}
abbrev s_is_between : Stmt := topS 2
theorem sc_is_between : FnScope ["thing", "least", "most"] ["thing", "least", "most"] (fnScope s_is_between) := fnScope_by (by decide +kernel)
def spBetween : Sp := fun vs H Q _ => ∃ a lo hi : Int, vs = [.int a, .int lo, .int hi] ∧ RetV (.bl (decide (lo ≤ a) && decide (a ≤ hi))) H Q
theorem ok_is_between (T : ModsB K mg) {f : Addr} {fd : FuncData} (F : Def K mg "is_between" s_is_between f fd) (b : Binds K fd ["thing", "least", "most"] []) : Cal P w K mg base 1 "is_between" spBetween [] := by
  refine cal0 F b .nil sc_is_between (fun vs H Q E h => ?_) (fun cdv A outer s H vs Q E hr h => ?_)
  · obtain ⟨_, _, _, rfl, _⟩ := h
    rfl
  · obtain ⟨a, lo, hi, rfl, q⟩ := h
    have m_isinstance := T.m_isinstance
    have m_int := T.m_int
    have m_bool := T.m_bool
    refine ⟨_, (pss_cons (ps_if (PW.pt (pw_or (pt_not (pt_val (pe_callB call_isi (by rfl) m_isinstance Wt.bt_isinstance (pa_cons (pv 0) (pa_cons (pe_bltn (v := .ty "int") (by rfl) m_int Wt.bt_int rfl) pa_nil))))) (pw_or1 (pt_val (pe_callB call_isi (by rfl) m_isinstance Wt.bt_isinstance (pa_cons (pv 0) (pa_cons (pe_bltn (v := .ty "bool") (by rfl) m_bool Wt.bt_bool rfl) pa_nil))))))) (pss_one (ps_ret pe_bl)) pss_nil)
      (pss_one (ps_ret (pe_chain op_le op_le (pv 1) (pv 0) (pv 2))))), ?_⟩
    refine q_when (b := false) (et_is (et_or (et_not (et_B (ev_isi (d := .int a) (n := "int") (b := true) (ev_var rfl) ev_c (.int _) (by rfl)))) fun _ => et_B (ev_isi (d := .int a) (n := "bool") (b := false) (ev_var rfl) ev_c (.int _) (by rfl))) rfl) (fun z => by cases z) (fun _ H1 e1 => ?_)
    exact s_ret (ev_chainI (ev_var rfl) (ev_var rfl) (ev_var rfl)) fun H2 e2 => q.go (e1.trans e2)
/-! ### House() -/
abbrev s_House_init : Stmt := (C8.clsBody (topS 23)).getD 0 (.Pass ⟨0, 0, 0, 0⟩)
theorem sc_House___init__ : FnScope ["self"] ["self"] (fnScope s_House_init) := fnScope_by (by decide +kernel)
def spHInit (CH : Addr) : Sp := fun vs H Q _ => ∃ (h dx : Addr), vs = [.ref h] ∧ H h = some (.ins CH dx []) ∧ ∀ H2, Exo h H H2 → HouO H2 CH h [] → Q .non H2
theorem ok_House_init (T : HouM K mg CH CB CR CN) {f : Addr} (M : Mk K CH f) (hm : mg "House" = some (.ref CH)) {fd : FuncData} (F : C8.Fun K "__init__" "House.__init__" s_House_init f fd) (b : Binds K fd ["self"] []) : MakX P w K mg base 1 "House" CH (spHInit CH) := by
  refine makX M hm F b sc_House___init__ (fun vs H Q E h => ?_) (fun cdv A outer s H vs Q E hr h => ?_)
  · obtain ⟨_, _, rfl, _⟩ := h
    rfl
  · obtain ⟨h, dx, rfl, hh, q⟩ := h
    refine ⟨_, (pss_cons (ps_fld (pv 0) pe_dnewK rfl)
      (pss_cons (ps_fld (pv 0) pe_dnewK rfl)
      (pss_one (ps_fld (pv 0) pe_non rfl)))), ?_⟩
    refine fun p1 hp1 => ⟨_, rfl, h, CH, dx, [], rfl, ?_, T.cls, T.n1, by show 0 < 1000; decide, ?_⟩
    · rw [upd_ne (fun z => by rw [← z, hh] at hp1; cases hp1)]
      exact hh
    have n1 : p1 ≠ h := fun z => by rw [z, hh] at hp1; cases hp1
    have e1 : Exo h H (upd (upd H p1 (.dK [])) h (.ins CH dx (putF "texts" (.ref p1) []))) := fun b o nb hb => by
      rw [upd_ne nb, upd_ne (ne_of_none hb hp1)]
      exact hb
    have a1 : (upd (upd H p1 (.dK [])) h (.ins CH dx (putF "texts" (.ref p1) []))) h = some (.ins CH dx (putF "texts" (.ref p1) [])) := upd_same
    have b1 : (upd (upd H p1 (.dK [])) h (.ins CH dx (putF "texts" (.ref p1) []))) p1 = some (.dK []) := by rw [upd_ne n1]; exact upd_same
    generalize upd (upd H p1 (.dK [])) h (.ins CH dx (putF "texts" (.ref p1) [])) = H1 at e1 a1 b1 ⊢
    refine fun p2 hp2 => ⟨_, rfl, h, CH, dx, putF "texts" (.ref p1) [], rfl, ?_, T.cls, T.n2, by show 1 < 1000; decide, ?_⟩
    · rw [upd_ne (fun z => by rw [← z, a1] at hp2; cases hp2)]
      exact a1
    have n2 : p2 ≠ h := fun z => by rw [z, a1] at hp2; cases hp2
    have n12 : p1 ≠ p2 := ne_of_none b1 hp2
    have e2 : Exo h H1 (upd (upd H1 p2 (.dK [])) h (.ins CH dx (putF "kept" (.ref p2) (putF "texts" (.ref p1) [])))) := fun b o nb hb => by
      rw [upd_ne nb, upd_ne (ne_of_none hb hp2)]
      exact hb
    have a2 : (upd (upd H1 p2 (.dK [])) h (.ins CH dx (putF "kept" (.ref p2) (putF "texts" (.ref p1) [])))) h = some (.ins CH dx (putF "kept" (.ref p2) (putF "texts" (.ref p1) []))) := upd_same
    have b2 : (upd (upd H1 p2 (.dK [])) h (.ins CH dx (putF "kept" (.ref p2) (putF "texts" (.ref p1) [])))) p1 = some (.dK []) := by rw [upd_ne n1, upd_ne n12]; exact b1
    generalize upd (upd H1 p2 (.dK [])) h (.ins CH dx (putF "kept" (.ref p2) (putF "texts" (.ref p1) []))) = H2 at e2 a2 b2 ⊢
    refine ⟨_, rfl, h, CH, dx, putF "kept" (.ref p2) (putF "texts" (.ref p1) []), rfl, a2, T.cls, T.n3, by show 2 < 1000; decide, ?_⟩
    refine q _ (fun b o nb hb => ?_) ⟨dx, p1, p2, upd_same, ?_⟩
    · rw [upd_ne nb]
      exact e2 b o nb (e1 b o nb hb)
    · rw [upd_ne n1]
      exact b2
/-! ### House.all_files -/
abbrev s_House_all_files : Stmt := (C8.clsBody (topS 23)).getD 5 (.Pass ⟨0, 0, 0, 0⟩)
theorem sc_House_all_files : FnScope ["self"] ["self"] (fnScope s_House_all_files) := fnScope_by (by decide +kernel)
def spAllF (CH : Addr) : Sp := fun vs H Q _ => ∃ (h : Addr) (fs : Files), vs = [.ref h] ∧ HouO H CH h fs ∧ fs.length < 64 ∧
  ∀ (ys : List Str) (p : Addr) H2, ys.Perm (fs.map fun p => S p.1) → sortedS ys = true → Ex H H2 → H p = none → H2 p = some (.lst (ys.map V.str)) → Q (.ref p) H2
theorem ok_House_all_files (T : HouM K mg CH CB CR CN) {f : Addr} {fd : FuncData} (me : Meth K CH "all_files" f) (F : C8.Fun K "all_files" "House.all_files" s_House_all_files f fd) (b : Binds K fd ["self"] []) : MetX P w K mg base 1 CH "all_files" (spAllF CH) := by
  refine metX T.cls me F b sc_House_all_files (fun vs H Q E h => ?_) (fun cdv A outer s H vs Q E hr h => ?_)
  · obtain ⟨_, _, rfl, _⟩ := h
    rfl
  · obtain ⟨h, fs, rfl, ⟨dx, dt, dk, h1, h2⟩, h64, q⟩ := h
    have m_sorted := T.m_sorted
    refine ⟨_, (pss_one (ps_ret (pe_callB (call_sortedD rfl) (by rfl) m_sorted PyProof.Rows.boot_sorted (pa_cons (pe_fld (pv 0) rfl) pa_nil)))), ?_⟩
    have hl : List.lookup (Str.ofString "texts") (houF dt dk) = some (V.ref dt) := rfl
    refine ev_fld (f := "texts") (v := .ref dt) (ta := tVar 0) (ev_var (v := .ref h) (by rfl)) h1 T.cls T.n1 hl H (Ex.refl _) _ fun H1 e1 => ⟨dt, kvH fs, fs.map (fun p => S p.1), rfl, .inl (e1 _ _ h2), ?_, by rw [List.length_map]; exact h64, fun ys p hy hs hp => ?_⟩
    · unfold kvH
      rw [List.map_map, List.map_map] <;> rfl
    · exact q ys p _ hy hs (e1.trans (Ex.new hp)) (fresh_back e1 hp) upd_same
end
end Wt

set_option Elab.async false
set_option linter.all false
set_option maxRecDepth 100000
set_option maxHeartbeats 4000000
namespace Wt
open PySem PySem.Spec PyProof.Rows L2 SX Evl
open C8 (Def Cal cal0 fnScope_by fnScope)
/-! House.edit -/
theorem cutV_to {us : List V} {k : Nat} (h : k ≤ us.length) : cutV us none (some (k : Int)) = us.take k := by
  have e1 : HT.sIx us.length us.length (some (k : Int)) = k := by
    rw [HT.sIx_nat]
    omega
  have e0 : HT.sIx us.length 0 none = 0 := rfl
  unfold cutV
  rw [e0, e1, List.drop_zero, Nat.sub_zero]
section
variable {P : Program} {w : World} {K : PySem.W.Frag} {mg : Str → Option Value} {base : Heap} {CH CB CR CN : Addr}
abbrev s_House_edit : Stmt := (C8.clsBody (topS 23)).getD 2 (.Pass ⟨0, 0, 0, 0⟩)
theorem sc_House_edit : FnScope ["self", "file", "row", "many", "rows", "old", "new"] ["self", "file", "row", "many", "rows"] (fnScope s_House_edit) := fnScope_by (by decide +kernel)
def spEdit (CH CB CR CN : Addr) : Sp := fun vs H Q E => ∃ (h : Addr) (fs : Files) (n : List Nat) (row many : Int) (rp : Addr) (more : List (List Nat)), vs = [.ref h, .str (S n), .int row, .int many, .ref rp] ∧ HouO H CH h fs ∧ SizH fs ∧ n.length ≤ 1000 ∧
  H rp = some (.lst (more.map fun z => V.str (S z))) ∧ more.length ≤ 1000 ∧ (more.map List.length).sum ≤ 4000 ∧ (∀ t, lookH fs n = some t → t.length ≤ 4000) ∧
  (lookH fs n = none → ∀ H2, Ex H H2 → E (.ref CN) none H2) ∧
  ∀ t olds, lookH fs n = some t → olds = TL.spl [10] 0 [] t →
    ((¬ (1 ≤ row ∧ row ≤ (olds.length : Int) + 1 ∧ 0 ≤ many ∧ many ≤ (olds.length : Int) + 1 - row) ∨ ∃ z ∈ more, 10 ∈ z) → ∀ H2, Ex H H2 → E (.ref CR) none H2) ∧
    ∀ r m : Nat, row = (r : Int) + 1 → many = (m : Int) → r + m ≤ olds.length → (∀ z ∈ more, 10 ∉ z) →
      (houseOk (putH fs n (TL.joinL [10] (editR olds more r m))) = true → ∀ H2, Exo h H H2 → HouN H H2 CH h (putH fs n (TL.joinL [10] (editR olds more r m))) → Q .non H2) ∧
      (houseOk (putH fs n (TL.joinL [10] (editR olds more r m))) = false → ∀ H2, Ex H H2 → E (.ref CB) none H2)
theorem sv_between {a lo hi : Int} {H : Hp} : SpV spBetween [.int a, .int lo, .int hi] H (.bl (decide (lo ≤ a) && decide (a ≤ hi))) := fun H1 e Q q E => ⟨a, lo, hi, rfl, fun H2 e2 => q H2 e2⟩
theorem spl_len (sep : List Nat) : ∀ (l acc : List Nat) (k : Nat), (TL.spl sep k acc l).length ≤ l.length + 1
  | [], acc, k => by rw [TL.spl_nil]; exact Nat.le_refl _
  | c :: r, acc, 0 => by
    cases h : TL.pre sep (c :: r) with
    | true =>
      rw [TL.spl_hit h, List.length_cons, List.length_cons]
      have := spl_len sep r [] (sep.length - 1)
      omega
    | false =>
      rw [TL.spl_miss h, List.length_cons]
      have := spl_len sep r (acc ++ [c]) 0
      omega
  | c :: r, acc, k + 1 => by
    have := spl_len sep r acc k
    rw [List.length_cons]
    exact Nat.le_succ_of_le this
theorem spl_sumL (sep : List Nat) : ∀ (l acc : List Nat) (k : Nat), ((TL.spl sep k acc l).map List.length).sum ≤ acc.length + l.length
  | [], acc, k => by rw [TL.spl_nil]; simp
  | c :: r, acc, 0 => by
    cases h : TL.pre sep (c :: r) with
    | true =>
      rw [TL.spl_hit h, List.map_cons, List.sum_cons, List.length_cons]
      have := spl_sumL sep r [] (sep.length - 1)
      rw [List.length_nil] at this
      omega
    | false =>
      rw [TL.spl_miss h, List.length_cons]
      have := spl_sumL sep r (acc ++ [c]) 0
      rw [List.length_append, List.length_cons, List.length_nil] at this
      omega
  | c :: r, acc, k + 1 => by
    have := spl_sumL sep r acc k
    rw [List.length_cons]
    exact Nat.le_succ_of_le this
theorem sum_take (l : List Nat) (k : Nat) : (l.take k).sum ≤ l.sum := by
  have := congrArg List.sum (List.take_append_drop k l)
  rw [List.sum_append] at this
  omega
theorem sum_drop (l : List Nat) (k : Nat) : (l.drop k).sum ≤ l.sum := by
  have := congrArg List.sum (List.take_append_drop k l)
  rw [List.sum_append] at this
  omega
theorem edit_size {olds more : List (List Nat)} {r m : Nat} (h1 : (olds.map List.length).sum ≤ 4000) (h2 : olds.length ≤ 4001) (h3 : (more.map List.length).sum ≤ 4000) (h4 : more.length ≤ 1000) :
    fitsJ [10] (editR olds more r m) ∧ (TL.joinL [10] (editR olds more r m)).length ≤ 40000 := by
  have a : ((editR olds more r m).map List.length).sum ≤ 12000 := by
    unfold editR
    rw [List.map_append, List.map_append, List.sum_append, List.sum_append, List.map_take, List.map_drop]
    have := sum_take (olds.map List.length) r
    have := sum_drop (olds.map List.length) (r + m)
    omega
  have b : (editR olds more r m).length ≤ 9002 := by
    unfold editR
    rw [List.length_append, List.length_append, List.length_take, List.length_drop]
    omega
  have c := joinL_le [10] (editR olds more r m)
  have d : ([10] : List Nat).length = 1 := rfl
  rw [d, Nat.mul_one] at c
  refine ⟨?_, by omega⟩
  show ((editR olds more r m).map List.length).sum + (editR olds more r m).length * ([10] : List Nat).length ≤ 100000
  rw [d, Nat.mul_one]
  omega
theorem ok_House_edit (T : HouM K mg CH CB CR CN) {k : Nat} (hk : 4 ≤ k) (c_is_between : Cal P w K mg base 1 "is_between" spBetween []) (c_House_text : MetX P w K mg base 1 CH "text" (spText1 CH CN)) (c_House_lay : MetX P w K mg base 4 CH "lay" (spLay CH CB))
    {f : Addr} {fd : FuncData} (me : Meth K CH "edit" f) (F : C8.Fun K "edit" "House.edit" s_House_edit f fd) (b : Binds K fd ["self", "file", "row", "many", "rows"] []) : MetX P w K mg base (k + 1) CH "edit" (spEdit CH CB CR CN) := by
  refine metX T.cls me F b sc_House_edit (fun vs H Q E h => ?_) (fun cdv A outer s H vs Q E hr h => ?_)
  · obtain ⟨_, _, _, _, _, _, _, rfl, _⟩ := h
    rfl
  · obtain ⟨h, fs, n, row, many, rp, more, rfl, ⟨dx, dt, dk, h1, h2⟩, hz, hn, hrp, hml, hms, htl, qN, qS⟩ := h
    have tk := tk_cx (P := P) (w := w) (K := K) (mg := mg) (base := base) (N := ["self", "file", "row", "many", "rows", "old", "new"]) (q := "House.edit") (sc := fnScope s_House_edit) (f := f) (cdv := cdv) (A := A) (outer := outer) (s := s) (H := H) (E := E)
    have hu := hu_of hr
    have x_BadRows := T.x_BadRows
    have m_len := T.m_len
    have m_list := T.m_list
    refine ⟨_, (pss_cons (ps_set (i := 5) sc_House_edit.nd rfl (.inl rfl) (pe_split (Wt.pe_mtX c_House_text tk hr (by first | decide | exact Nat.le_refl _ | omega) (pv 0) (pa_cons (pv 1) pa_nil)) pe_str))
      (pss_cons (ps_if (PW.pt (pw_or (pt_not (pt_val (C8.pe_c c_is_between hr (by first | decide | exact Nat.le_refl _ | omega) (by rfl) (pa_cons (pv 2) (pa_cons pe_int (pa_cons (pe_op op_add (pe_callB call_len_seq (by rfl) m_len PySem.boot_len (pa_cons (pv 5) pa_nil)) pe_int) pa_nil)))))) (pw_or1 (pt_not (pt_val (C8.pe_c c_is_between hr (by first | decide | exact Nat.le_refl _ | omega) (by rfl) (pa_cons (pv 3) (pa_cons pe_int (pa_cons (pe_op op_sub (pe_op op_add (pe_callB call_len_seq (by rfl) m_len PySem.boot_len (pa_cons (pv 5) pa_nil)) pe_int) (pv 2)) pa_nil))))))))) (pss_one (ps_raise rfl tk (pmk_own PySem.F.excBase_ValueError x_BadRows.q x_BadRows.g x_BadRows.k x_BadRows.r (by exact rfl)))) pss_nil)
      (pss_cons (ps_for (passes_of rfl) rfl (pi_list (pv 4)) (pg_name (i := 6) sc_House_edit.nd rfl (.inl rfl)) (pss_one (ps_if (pt_cmpR op_in_sign pe_str (pv 6) (by with_unfolding_all rfl)) (pss_one (ps_raise rfl tk (pmk_own PySem.F.excBase_ValueError x_BadRows.q x_BadRows.g x_BadRows.k x_BadRows.r (by exact rfl)))) pss_nil)))
      (pss_one (ps_expr (Wt.pe_mtX c_House_lay tk hr (by first | decide | exact Nat.le_refl _ | omega) (pv 0) (pa_cons (pv 1) (pa_cons (pe_join pe_str (pe_op op_cat (pe_op op_cat (pe_slice sl_list (pv 5) po_none (po_some (pe_op op_sub (pv 2) pe_int))) (pe_callTy call_list_of (by rfl) m_list Wt.bt_list (pa_cons (pv 4) pa_nil))) (pe_slice sl_list (pv 5) (po_some (pe_op op_add (pe_op op_sub (pv 2) pe_int) (pv 3))) po_none))) pa_nil)))))))), ?_⟩
    have hlf : List.lookup (Str.ofString "text") (houF dt dk) = none := rfl
    have hlf2 : List.lookup (Str.ofString "lay") (houF dt dk) = none := rfl
    -- old = self.text(file).split(..)
    refine ⟨_, rfl, h, dx, houF dt dk, rfl, h1, hlf, _, rfl, h, fs, n, rfl, ⟨dx, dt, dk, h1, h2⟩, fun t ht H1 e1 => ?_, fun z H2 e2 => qN z H2 e2⟩
    obtain ⟨qR, qG⟩ := qS t _ ht rfl
    have ht4 := htl t ht
    generalize hol : TL.spl [10] 0 [] t = olds at qR qG
    have hs : Str.ofString "\n" = S [10] := by decide +kernel
    have hsp : (Txt.split (S t) (Str.ofString "\n")).map V.str = olds.map fun z => V.str (S z) := by
      rw [hs, split_S (by simp) (by decide), hol, List.map_map] <;> rfl
    have ho1 : olds.length ≤ 4001 := by
      have := spl_len [10] t [] 0
      rw [hol] at this
      omega
    have ho2 : (olds.map List.length).sum ≤ 4000 := by
      have := spl_sumL [10] t [] 0
      rw [hol, List.length_nil] at this
      omega
    refine ⟨⟨_, rfl⟩, S t, Str.ofString "\n", rfl, rfl, by decide +kernel, by rw [S_len]; exact sz_of (show t.length + 2 ≤ 100000 by omega), fun p hp => ?_⟩
    rw [hsp]
    have e2 := e1.trans (Ex.new (o := HO.lst (olds.map fun z => V.str (S z))) hp)
    generalize hH2 : upd H1 p (.lst (olds.map fun z => V.str (S z))) = H2 at e2
    have hp2 : H2 p = some (.lst (olds.map fun z => V.str (S z))) := by rw [← hH2]; exact upd_same
    have hol2 : ((olds.map fun z => V.str (S z)).length : Int) = (olds.length : Int) := by rw [List.length_map]
    have hev : EvT (tOr (tNot (tB (tCall spBetween [] C8.E0 (tCons (tVar 2) (tCons (tC (.int 1)) (tCons (tOp (rI0 fun i j => .int (i + j)) (tCB (rLenS K) (tCons (tVar 5) tNil)) (tC (.int 1))) tNil))))))
        (tNot (tB (tCall spBetween [] C8.E0 (tCons (tVar 3) (tCons (tC (.int 0)) (tCons (tOp (rI0 fun i j => .int (i - j)) (tOp (rI0 fun i j => .int (i + j)) (tCB (rLenS K) (tCons (tVar 5) tNil)) (tC (.int 1))) (tVar 2)) tNil)))))))
        [some (V.ref h), some (V.str (S n)), some (V.int row), some (V.int many), some (V.ref rp), some (V.ref p), none] H2 (!(decide (1 ≤ row) && decide (row ≤ (olds.length : Int) + 1)) || !(decide (0 ≤ many) && decide (many ≤ (olds.length : Int) + 1 - row))) := by
      rw [← hol2]
      exact et_or (et_not (et_B (ev_call (ea_cons (ev_var rfl) (ea_cons ev_c (ea_cons (ev_op (ev_len (ev_var rfl) (sq_of hp2)) ev_c rv_I0) ea_nil))) sv_between)))
        fun _ => et_not (et_B (ev_call (ea_cons (ev_var rfl) (ea_cons ev_c (ea_cons (ev_op (ev_op (ev_len (ev_var rfl) (sq_of hp2)) ev_c rv_I0) (ev_var rfl) rv_I0) ea_nil))) sv_between))
    dsimp only
    refine q_when hev (fun hb H3 e3 => ?_) (fun hb H3 e3 => ?_)
    · refine qR (.inl fun z => ?_) H3 (e2.trans e3)
      rw [decide_eq_true z.1, decide_eq_true z.2.1, decide_eq_true z.2.2.1, decide_eq_true z.2.2.2] at hb
      cases hb
    · have hg : 1 ≤ row ∧ row ≤ (olds.length : Int) + 1 ∧ 0 ≤ many ∧ many ≤ (olds.length : Int) + 1 - row := by
        rw [Bool.or_eq_false_iff, Bool.not_eq_false', Bool.not_eq_false', Bool.and_eq_true, Bool.and_eq_true, decide_eq_true_eq, decide_eq_true_eq, decide_eq_true_eq, decide_eq_true_eq] at hb
        exact ⟨hb.1.1, hb.1.2, hb.2.1, hb.2.2⟩
      have e23 := e2.trans e3
      have hrp3 := e23 _ _ hrp
      refine q_forL (xs := more.map fun z => V.str (S z)) (ev_var rfl) (sq_of hrp3) (fun i σ' H' => ∃ y6, σ' = [some (V.ref h), some (V.str (S n)), some (V.int row), some (V.int many), some (V.ref rp), some (V.ref p), y6] ∧ Ex H3 H' ∧ ∀ z ∈ more.take i, 10 ∉ z) (fun H4 e4 => ⟨none, rfl, e4, by simp⟩) (fun i σ' H' _ ⟨_, _, e4, _⟩ => sq_of (e4 _ _ hrp3)) ?_ ?_
      · rintro i x σ' H' hx ⟨y6, rfl, e4, hno⟩
        rw [List.getElem?_map] at hx
        obtain ⟨z, hz2, rfl⟩ := Option.map_eq_some_iff.mp hx
        unfold gName
        dsimp only [List.set]
        refine s_when (b := decide (10 ∈ z)) (et_test (ev_inSg (c := 10) (ev_is ev_c (congrArg V.str hs)) (ev_var rfl))) (fun hb H5 e5 => ?_) (fun hb H5 e5 => ?_)
        · exact qR (.inr ⟨z, List.mem_of_getElem? hz2, of_decide_eq_true hb⟩) H5 (e23.trans (e4.trans e5))
        · refine ⟨_, rfl, e4.trans e5, fun z2 h2 => ?_⟩
          rw [List.take_succ, hz2] at h2
          rcases List.mem_append.mp h2 with h2 | h2
          · exact hno z2 h2
          · rw [List.mem_singleton.mp h2]
            exact of_decide_eq_false hb
      · rintro σ' H4 ⟨y6, rfl, e4, hno⟩
        rw [List.length_map, List.take_length] at hno
        obtain ⟨r, hr1⟩ : ∃ r : Nat, row = (r : Int) + 1 := ⟨(row - 1).toNat, by omega⟩
        obtain ⟨m, hm1⟩ : ∃ m : Nat, many = (m : Int) := ⟨many.toNat, by omega⟩
        have hrm : r + m ≤ olds.length := by omega
        obtain ⟨qy, qn⟩ := qG r m hr1 hm1 hrm hno
        have sz := edit_size (r := r) (m := m) ho2 ho1 hms hml
        have e24 := e23.trans e4
        have hp4 := (e3.trans e4) _ _ hp2
        have hrp4 := e24 _ _ hrp
        have lenO : (olds.map fun z => V.str (S z)).length = olds.length := List.length_map ..
        have s1 : EvL (tSl (rSlL K) (tVar 5) tNoPart (tPart (tOp (rI0 fun i j => .int (i - j)) (tVar 2) (tC (.int 1))))) [some (V.ref h), some (V.str (S n)), some (V.int row), some (V.int many), some (V.ref rp), some (V.ref p), y6] H4 ((olds.take r).map fun z => V.str (S z)) := by
          refine elAs (el_sl (ev_var rfl) eo_none (eo_some (i := (r : Int)) (ev_is (ev_op (ev_var rfl) ev_c rv_I0) (congrArg V.int (by omega)))) (sq_of hp4)) ?_
          rw [cutV_to (by omega), List.map_take]
        have s2 : EvL (tSl (rSlL K) (tVar 5) (tPart (tOp (rI0 fun i j => .int (i + j)) (tOp (rI0 fun i j => .int (i - j)) (tVar 2) (tC (.int 1))) (tVar 3))) tNoPart) [some (V.ref h), some (V.str (S n)), some (V.int row), some (V.int many), some (V.ref rp), some (V.ref p), y6] H4 ((olds.drop (r + m)).map fun z => V.str (S z)) := by
          refine elAs (el_sl (ev_var rfl) (eo_some (i := ((r + m : Nat) : Int)) (ev_is (ev_op (ev_op (ev_var rfl) ev_c rv_I0) (ev_var rfl) rv_I0) (congrArg V.int (by omega)))) eo_none (sq_of hp4)) ?_
          rw [cutV_from (by omega), List.map_drop]
        have cat := elAs (el_catLL (el_catLL s1 (el_list (K := K) (ev_var (i := 4) rfl) (sq_of hrp4)) (by rw [List.length_map, List.length_map, List.length_take]; omega)) s2 (by rw [List.length_append, List.length_map, List.length_map, List.length_map, List.length_take, List.length_drop]; omega)) (show _ = (editR olds more r m).map fun z => V.str (S z) by unfold editR; rw [List.map_append, List.map_append])
        refine ⟨_, rfl, h, dx, houF dt dk, rfl, e24 _ _ h1, hlf2, _, rfl, ?_⟩
        refine es_join (K := K) (sep := [10]) (ev_is ev_c (congrArg V.str hs)) cat sz.1 H4 (Ex.refl _) _ fun H5 e5 => ?_
        have e25 := e24.trans e5
        refine ⟨h, fs, n, _, rfl, ⟨dx, dt, dk, e25 _ _ h1, e25 _ _ h2⟩, hz, hn, sz.2, fun ok H6 x6 o6 => qy ok H6 ((Exo.of e25).trans x6) (o6.back e25), fun ok H6 e6 => qn ok H6 (e25.trans e6)⟩
end
end Wt

set_option Elab.async false
set_option linter.all false
set_option maxRecDepth 100000
set_option maxHeartbeats 4000000
namespace Wt
open PySem PySem.Spec PyProof.Rows L2 SX Evl
open C8 (Def Cal cal0 fnScope_by fnScope)
/-! House.drop -/
section
variable {P : Program} {w : World} {K : PySem.W.Frag} {mg : Str → Option Value} {base : Heap} {CH CB CR CN : Addr}
abbrev s_House_drop : Stmt := (C8.clsBody (topS 23)).getD 3 (.Pass ⟨0, 0, 0, 0⟩)
theorem sc_House_drop : FnScope ["self", "file", "other", "text"] ["self", "file"] (fnScope s_House_drop) := fnScope_by (by decide +kernel)
def spDrop (CH CN : Addr) : Sp := fun vs H Q E => ∃ (h : Addr) (fs : Files) (n : List Nat), vs = [.ref h, .str (S n)] ∧ HouO H CH h fs ∧ (fs.map (·.1)).Nodup ∧ fs.length ≤ 900 ∧
  (lookH fs n = none → ∀ H2, Ex H H2 → E (.ref CN) none H2) ∧ ∀ t, lookH fs n = some t → ∀ H2, Exo h H H2 → HouN H H2 CH h (dropH fs n) → Q .non H2
theorem ok_House_drop (T : HouM K mg CH CB CR CN) {k : Nat} (hk : 1 ≤ k) (c_House_text : MetX P w K mg base 1 CH "text" (spText1 CH CN)) {f : Addr} {fd : FuncData} (me : Meth K CH "drop" f) (F : C8.Fun K "drop" "House.drop" s_House_drop f fd) (b : Binds K fd ["self", "file"] []) :
    MetX P w K mg base (k + 1) CH "drop" (spDrop CH CN) := by
  refine metX T.cls me F b sc_House_drop (fun vs H Q E h => ?_) (fun cdv A outer s H vs Q E hr h => ?_)
  · obtain ⟨_, _, _, rfl, _⟩ := h
    rfl
  · obtain ⟨h, fs, n, rfl, ⟨dx, dt, dk, h1, h2⟩, hnd, hfl, qN, qS⟩ := h
    have tk := tk_cx (P := P) (w := w) (K := K) (mg := mg) (base := base) (N := ["self", "file", "other", "text"]) (q := "House.drop") (sc := fnScope s_House_drop) (f := f) (cdv := cdv) (A := A) (outer := outer) (s := s) (H := H) (E := E)
    have hu := hu_of hr

    refine ⟨_, (pss_cons (ps_expr (Wt.pe_mtX c_House_text tk hr (by first | decide | exact Nat.le_refl _ | omega) (pv 0) (pa_cons (pv 1) pa_nil)))
      (pss_one (ps_fld (pv 0) (pe_lock (pe_dc (own := [("other", 2), ("text", 3)]) (g := (gTup K 2 (gCons (gName 2) (gCons (gName 3) gNil)))) rfl sc_House_drop.nd (pi_items (pe_fld (pv 0) rfl)) (blkOk_by (N := ["self", "file", "other", "text"]) (sc := C8.fnScope s_House_drop) (by decide +kernel)) (fun _ _ _ _ _ => pg_tup rfl (pgs_cons (pg_name (i := 2) sc_House_drop.nd rfl (Or.inl rfl)) (pgs_cons (pg_name (i := 3) sc_House_drop.nd rfl (Or.inl rfl)) pgs_nil))) (fun _ _ _ _ _ => pts_one (pt_cmpR op_ne (pv 2) (pv 1) (nomark _))) (fun _ _ _ _ _ => (pv 2)) (fun _ _ _ _ _ => (pv 3)))) rfl))), ?_⟩
    have hlf : List.lookup (Str.ofString "text") (houF dt dk) = none := rfl
    have hl : List.lookup (Str.ofString "texts") (houF dt dk) = some (V.ref dt) := rfl
    refine ⟨_, rfl, h, dx, houF dt dk, rfl, h1, hlf, _, rfl, h, fs, n, rfl, ⟨dx, dt, dk, h1, h2⟩, fun t ht H1 e1 => ?_, fun z H2 e2 => qN z H2 e2⟩
    dsimp only
    have h11 := e1 _ _ h1
    have h12 := e1 _ _ h2
    have ndh : dt ≠ h := fun z => by rw [z, h1] at h2; cases h2
    -- self.texts = {..}
    refine ⟨dt, .dK (kvH fs), h12, True.intro, fun od => ?_⟩
    generalize hH2 : upd H1 dt (.frz od (.dK (kvH fs))) = H2
    have h2d : H2 dt = some (.frz od (.dK (kvH fs))) := by rw [← hH2]; exact upd_same
    have h2h : H2 h = some (.ins CH dx (houF dt dk)) := by rw [← hH2, upd_ne ndh.symm]; exact h11
    refine ⟨_, rfl, h, CH, dx, houF dt dk, _, rfl, h2h, T.cls, T.n1, hl, dt, od, kvH fs, rfl, h2d, fun Dd hD => ?_⟩
    have e3 : Ex H2 H2 := Ex.refl _
    have hkl : (kvH fs).length = fs.length := List.length_map ..
    have h3d := h2d
    have nDd : Dd ≠ dt := fun z => by rw [z, h3d] at hD; cases hD
    have h3h := h2h
    have nDh : Dd ≠ h := fun z => by rw [z, h3h] at hD; cases hD
    refine dc_it (walk_items (d := dt) (o := od) (kvs := kvH fs)) (fun i H' => Ex H2 H' ∧ H' Dd = some (.dK (kvH (dropH (fs.take i) n)))) ⟨Ex.new hD, upd_same⟩ (fun i H' _ ⟨e4, _⟩ => e4 _ _ h3d) ?_ ?_
    · rintro i x H4 H5 hi ⟨e4, hDd⟩ ⟨Tt, x1, y, rfl, hTt, rfl, hx1, hy⟩
      have hi2 : i < fs.length := by omega
      have hkv : (kvH fs)[i]? = some ((Sum.inr (S fs[i].1) : Key), V.str (S fs[i].2)) := by
        unfold kvH
        rw [List.getElem?_map, List.getElem?_eq_getElem hi2] <;> rfl
      have hx1' : (kvH fs)[i]?.map (fun kv => kV kv.1) = some x1 := hx1
      have hy' : (kvH fs)[i]?.map Prod.snd = some y := hy
      rw [hkv] at hx1' hy'
      cases hx1'
      cases hy'
      have e5 := Ex.new (o := HO.tup [V.str (S fs[i].1), V.str (S fs[i].2)]) hTt
      refine ⟨Tt, [V.str (S fs[i].1), V.str (S fs[i].2)], rfl, st_of upd_same, rfl, _, [V.str (S fs[i].2)], rfl, _, [], rfl, rfl, rfl, ?_⟩
      have hDd5 := e5 _ _ hDd
      have e35 := e4.trans e5
      generalize hH6 : upd H4 Tt (.tup [V.str (S fs[i].1), V.str (S fs[i].2)]) = H6 at hDd5 e35
      have htest : EvT (tTest (tOp rNe (tVar 2) (tVar 1))) [some (V.ref h), some (V.str (S n)), some (V.str (S fs[i].1)), some (V.str (S fs[i].2))] H6 (!decide (fs[i].1 = n)) := et_test (ev_neS (ev_var rfl) (ev_var rfl))
      have hH6' : upd H4 Tt (.tup [kV (Sum.inr (S fs[i].1) : Key), V.str (S fs[i].2)]) = H6 := hH6
      rw [hH6']
      refine htest H6 (Ex.refl _) _ fun H7 e7 => ?_
      have etake : dropH (fs.take (i + 1)) n = dropH (fs.take i) n ++ if (!decide (fs[i].1 = n)) = true then [fs[i]] else [] := by
        unfold dropH
        rw [List.take_succ, List.getElem?_eq_getElem hi2, List.filter_append]
        congr 1
        cases hb : !decide (fs[i].1 = n) <;> simp [hb]
      cases hb : !decide (fs[i].1 = n) with
      | false =>
        rw [if_neg Bool.false_ne_true]
        rw [hb, if_neg Bool.false_ne_true, List.append_nil] at etake
        exact ⟨e35.trans e7, by rw [etake]; exact e7 _ _ hDd5⟩
      | true =>
        rw [if_pos rfl]
        rw [hb, if_pos rfl] at etake
        refine ⟨_, rfl, _, rfl, kvH (dropH (fs.take i) n), Sum.inr (S fs[i].1), rfl, e7 _ _ hDd5, sz_lt (by
          have e : (kvH (dropH (fs.take i) n)).length = (dropH (fs.take i) n).length := List.length_map ..
          have e2 : (dropH (fs.take i) n).length ≤ (fs.take i).length := List.length_filter_le ..
          rw [List.length_take] at e2
          omega), (e35.trans e7).mut hD, ?_⟩
        have hnew : (Sum.inr (S fs[i].1) : Key) ∉ (kvH (dropH (fs.take i) n)).map Prod.fst := by
          intro z
          unfold kvH at z
          rw [List.map_map] at z
          obtain ⟨q, hq1, hq2⟩ := List.mem_map.mp z
          have hq3 : q.1 = fs[i].1 := keyS.mp hq2
          have hq4 : q ∈ fs.take i := (List.mem_filter.mp hq1).1
          obtain ⟨j, hj, hgj⟩ := List.getElem_of_mem hq4
          rw [List.length_take] at hj
          rw [List.getElem_take] at hgj
          refine List.pairwise_iff_getElem.mp hnd j i (by rw [List.length_map]; omega) (by rw [List.length_map]; omega) (by omega) ?_
          rw [List.getElem_map, List.getElem_map, hgj, hq3]
        rw [putK_new hnew, etake]
        have e9 : kvH (dropH (fs.take i) n) ++ [((Sum.inr (S fs[i].1) : Key), V.str (S fs[i].2))] = kvH (dropH (fs.take i) n ++ [fs[i]]) := by
          unfold kvH
          rw [List.map_append] <;> rfl
        rw [e9]
        exact upd_same
    · rintro H4 ⟨e4, hDd⟩
      rw [hkl, List.take_length] at hDd
      refine ⟨e4 _ _ h3d, ?_⟩
      have h4h : upd H4 dt (.dK (kvH fs)) h = some (.ins CH dx (houF dt dk)) := by rw [upd_ne ndh.symm]; exact e4 _ _ h3h
      refine ⟨_, rfl, h, CH, dx, houF dt dk, rfl, h4h, T.cls, T.n1, by show 3 < 1000; decide, ?_⟩
      refine qS t ht _ (fun b o nb hbo => ?_) ⟨dx, Dd, dk, upd_same, ?_, ?_⟩
      · rw [upd_ne nb]
        have hb1 := e1 _ _ hbo
        by_cases hb : b = dt
        · subst hb
          rw [upd_same]
          rw [h12] at hb1
          exact hb1
        · rw [upd_ne hb]
          exact e4 _ _ (e3 _ _ (by rw [← hH2, upd_ne hb]; exact hb1))
      · rw [upd_ne nDh, upd_ne nDd]
        exact hDd
      · rw [← hH2, upd_ne nDd] at hD
        exact fresh_back e1 hD
end
end Wt

set_option Elab.async false
set_option linter.all false
set_option maxRecDepth 100000
set_option maxHeartbeats 4000000
namespace Wt
open PySem PySem.Spec PyProof.Rows L2 SX Evl
open C8 (Def Cal cal0 fnScope_by fnScope)
/-! What k19's _law_told tells of a lambda: its answer, or the word of its refusal. -/
abbrev s__law_told : Stmt := topS 29
abbrev NgT : List Str := ["_law_work", "e", "_law_some"]
theorem sc__law_told : FnScope NgT ["_law_work"] (fnScope s__law_told) := fnScope_by (by decide +kernel)
def suite2 (b : List Stmt) : List Stmt := match b with
  | [.Try _ [_, .ExceptHandler _ _ z _] _ _ _] => z
  | _ => []
/-- isinstance(e, C) -/
abbrev isT (K : PySem.W.Frag) (Dc a C : Addr) : TE := tCB (rIsE K Dc a) (tCons (tVar 1) (tCons (tC (.ref C)) tNil))
abbrev words4 : TE := tLst (tCons (tC (.str (Str.ofString "house"))) (tCons (tC (.str (Str.ofString "rows"))) (tCons (tC (.str (Str.ofString "file"))) (tCons (tC (.str (Str.ofString "made"))) tNil))))
abbrev toldT (K : PySem.W.Frag) (CB CR CN CM Dc a : Addr) : TS := tSeq (tAsg (tLst (tCons (isT K Dc a CB) (tCons (isT K Dc a CR) (tCons (isT K Dc a CN) (tCons (isT K Dc a CM) tNil))))) (gName 2))
  (tRet (tTup (tCons (tC (.str (Str.ofString "refused"))) (tCons (tIf (tTest (tOp rEq (tBM K "list" (rCntV K) (tVar 2) (tCons (tC (.bl true)) tNil)) (tC (.int 1)))) (tOp (rIxL K) words4 (tBM K "list" (rIndex K) (tVar 2) (tCons (tC (.bl true)) tNil))) (tC (.str (Str.ofString "other")))) tNil))))
def wordJ : Nat → Str
  | 0 => Str.ofString "house"
  | 1 => Str.ofString "rows"
  | 2 => Str.ofString "file"
  | _ => Str.ofString "made"
theorem ev_isE {K : PySem.W.Frag} {σ : L2.St} {H : Hp} {Dc a C : Addr} {b : Bool} (h1 : σ[1]? = some (some (.ref a))) (hk : PySem.W.kitOne K (.ref Dc) (.ref C) = some b) : Ev (isT K Dc a C) σ H (.bl b) := fun H1 e Q q => ⟨_, h1, .ref C, .ref C, b, rfl, fun u hu => hu, hk, q H1 (Ex.refl H1)⟩
theorem told_suite {K : PySem.W.Frag} {CB CR CN CM Dc a : Addr} {j : Nat} {D : Ends} {σ : L2.St} {H : Hp} (hs : σ.length = 3) (h1s : σ[1]? = some (some (.ref a))) (hj : j < 4) (k0 : PySem.W.kitOne K (.ref Dc) (.ref CB) = some (decide (j = 0))) (k1 : PySem.W.kitOne K (.ref Dc) (.ref CR) = some (decide (j = 1))) (k2 : PySem.W.kitOne K (.ref Dc) (.ref CN) = some (decide (j = 2))) (k3 : PySem.W.kitOne K (.ref Dc) (.ref CM) = some (decide (j = 3)))
    (q : ∀ p H2, H p = none → Ex H H2 → H2 p = some (.tup [.str (Str.ofString "refused"), .str (wordJ j)]) → D.rt (.ref p) H2) : toldT K CB CR CN CM Dc a D σ H := by
  refine q_asgL (el_lst (ea_cons (ev_isE h1s k0) (ea_cons (ev_isE h1s k1) (ea_cons (ev_isE h1s k2) (ea_cons (ev_isE h1s k3) ea_nil)))) (by show 4 ≤ 100000; decide)) fun l H1 hl e1 h1 => ?_
  have h2s : (σ.set 2 (some (V.ref l)))[2]? = some (some (V.ref l)) := List.getElem?_set_self (by rw [hs]; decide)
  generalize σ.set 2 (some (V.ref l)) = σ2 at h2s ⊢
  show tRet _ D σ2 H1
  have flat : ([V.bl (decide (j = 0)), V.bl (decide (j = 1)), V.bl (decide (j = 2)), V.bl (decide (j = 3))] : List V).all flatV = true := rfl
  have cnt : ([V.bl (decide (j = 0)), V.bl (decide (j = 1)), V.bl (decide (j = 2)), V.bl (decide (j = 3))] : List V).countP (fun z => eqV z (.bl true)) = 1 := by
    match j, hj with
    | 0, _ => rfl
    | 1, _ => rfl
    | 2, _ => rfl
    | 3, _ => rfl
  have evc : Ev (tBM K "list" (rCntV K) (tVar 2) (tCons (tC (.bl true)) tNil)) σ2 H1 (.int 1) := fun H2 e2 Q q => ⟨_, h2s, .inl ⟨rfl, _, sq_of (e2 _ _ h1)⟩, l, _, .bl true, rfl, rfl, sq_of (e2 _ _ h1), rfl, flat, by
    rw [cnt]
    exact q H2 (Ex.refl _)⟩
  have evi : Ev (tBM K "list" (rIndex K) (tVar 2) (tCons (tC (.bl true)) tNil)) σ2 H1 (.int (j : Int)) := fun H2 e2 Q q => by
    have at_ : ([V.bl (decide (j = 0)), V.bl (decide (j = 1)), V.bl (decide (j = 2)), V.bl (decide (j = 3))] : List V)[j]? = some (.bl true) := by
      match j, hj with
      | 0, _ => rfl
      | 1, _ => rfl
      | 2, _ => rfl
      | 3, _ => rfl
    refine ⟨_, h2s, .inl ⟨rfl, _, sq_of (e2 _ _ h1)⟩, l, _, .bl true, j, .bl true, rfl, rfl, sq_of (e2 _ _ h1), rfl, flat, at_, rfl, fun m z hm hz => ?_, q H2 (Ex.refl _)⟩
    have hz2 : z = .bl (decide (j = m)) := by
      match m, hm, hz with
      | 0, _, hz => exact (Option.some.inj hz).symm
      | 1, _, hz => exact (Option.some.inj hz).symm
      | 2, _, hz => exact (Option.some.inj hz).symm
      | m + 3, hm, _ => exact absurd hm (by omega)
    rw [hz2, decide_eq_false (by omega)]
    rfl
  have evw : Ev (tOp (rIxL K) words4 (tBM K "list" (rIndex K) (tVar 2) (tCons (tC (.bl true)) tNil))) σ2 H1 (.str (wordJ j)) := by
    refine ev_opL1 (el_lst (ea_cons ev_c (ea_cons ev_c (ea_cons ev_c (ea_cons ev_c ea_nil)))) (by show 4 ≤ 100000; decide)) (fun H2 e2 => Ev.mono e2 evi) fun p H2 h2 e2 => rv_ixL (sq_of h2) (atI_nat (j := j) ?_)
    match j, hj with
    | 0, _ => rfl
    | 1, _ => rfl
    | 2, _ => rfl
    | 3, _ => rfl
  refine s_retU (eu_tup (ea_cons ev_c (ea_cons (ev_if (b := true) (et_is (et_test (ev_op evc ev_c (rv_eq rfl))) rfl) (fun _ => evw) (fun z => by cases z)) ea_nil)) (by show 2 ≤ 100000; decide)) fun p H2 hp e2 h2 => q p H2 (fresh_back e1 hp) (e1.trans e2) h2
/-- an error that the second clause takes: its word is the j-th -/
structure ErrOk (K : PySem.W.Frag) (CF CW CB CR CN CM Dc : Addr) (j : Nat) : Prop where
  few : j < 4
  exc : ExcC K Dc
  notF : PySem.W.exmOne K (.ref Dc) (.ref CF) = some false
  isW : PySem.W.exmOne K (.ref Dc) (.ref CW) = some true
  k0 : PySem.W.kitOne K (.ref Dc) (.ref CB) = some (decide (j = 0))
  k1 : PySem.W.kitOne K (.ref Dc) (.ref CR) = some (decide (j = 1))
  k2 : PySem.W.kitOne K (.ref Dc) (.ref CN) = some (decide (j = 2))
  k3 : PySem.W.kitOne K (.ref Dc) (.ref CM) = some (decide (j = 3))
/-- what is told of a lambda's reading: its answer, or ("refused", word) -/
def TTold2 (K : PySem.W.Frag) (CF CW CB CR CN CM : Addr) : (XK → Hp → VK → Prop) → Hp → VK → Prop := fun tl H Q =>
  tl (fun cls d H' => d = none ∧ ∃ (Dc : Addr) (j : Nat), cls = .ref Dc ∧ ErrOk K CF CW CB CR CN CM Dc j ∧ ∀ p H2, H' p = none → Ex H' H2 → H2 p = some (.tup [.str (Str.ofString "refused"), .str (wordJ j)]) → Q (.ref p) H2) H Q
structure ModsTo (mg : Str → Option Value) (CF CW CB CR CN CM : Addr) : Prop where
  m1 : mg "Fault" = some (.ref CF)
  m2 : mg "WholeError" = some (.ref CW)
  m_isinstance : mg "isinstance" = none
  g_BadHouse : ∃ u, mg "BadHouse" = some u ∧ RelV (.ref CB) u
  g_BadRows : ∃ u, mg "BadRows" = some u ∧ RelV (.ref CR) u
  g_NoFile : ∃ u, mg "NoFile" = some u ∧ RelV (.ref CN) u
  g_NotMade : ∃ u, mg "NotMade" = some u ∧ RelV (.ref CM) u
theorem suite_ps {X : Cx} {CF CW CB CR CN CM g : Addr} {cdg : Value} (T : ModsTo X.mg CF CW CB CR CN CM) {s : Shared} {H : Hp} {a Dc : Addr} {oe : Obj} {pn : List (Addr × Obj)} (hC : ExcC X.K Dc) (hz : Zc (.ref Dc) none oe) (hf : ∃ vs, oe.data = .fields vs) :
    PSs (((cxOf C8.CX0 X.prog X.w X.K X.mg X.base NgT "_law_told" (fnScope s__law_told) g cdg X.A X.stack s H C8.E0).nox).suite a ((a, oe) :: pn)) (suite2 (C8.fnBody s__law_told)) (toldT X.K CB CR CN CM Dc a) := by
  have g_BadHouse := T.g_BadHouse
  have g_BadRows := T.g_BadRows
  have g_NoFile := T.g_NoFile
  have g_NotMade := T.g_NotMade
  have m_isinstance := T.m_isinstance
  exact pss_cons (ps_set (i := 2) sc__law_told.nd rfl (.inl rfl) (pe_lst (pa_cons (pe_callB (call_isE hC hz hf) (by rfl) m_isinstance Wt.bt_isinstance (pa_cons (pv 1) (pa_cons (C8.pe_gc (by rfl) g_BadHouse) pa_nil))) (pa_cons (pe_callB (call_isE hC hz hf) (by rfl) m_isinstance Wt.bt_isinstance (pa_cons (pv 1) (pa_cons (C8.pe_gc (by rfl) g_BadRows) pa_nil)))
      (pa_cons (pe_callB (call_isE hC hz hf) (by rfl) m_isinstance Wt.bt_isinstance (pa_cons (pv 1) (pa_cons (C8.pe_gc (by rfl) g_NoFile) pa_nil))) (pa_cons (pe_callB (call_isE hC hz hf) (by rfl) m_isinstance Wt.bt_isinstance (pa_cons (pv 1) (pa_cons (C8.pe_gc (by rfl) g_NotMade) pa_nil))) pa_nil))))))
      (pss_one (ps_ret (pe_tup (pa_cons pe_str (pa_cons (pe_ifExp (pt_cmpR op_eq (pe_bm PySem.F.plainAttrs_list PySem.F.slot_list_count PySem.F.type_list_count mt_countV (pv 2) (pa_cons pe_bl pa_nil)) pe_int (nomark _)) (pe_ix ix_list (pe_lst (pa_cons pe_str (pa_cons pe_str (pa_cons pe_str (pa_cons pe_str pa_nil))))) (pe_bm PySem.F.plainAttrs_list PySem.F.slot_list_index PySem.F.type_list_index mt_index (pv 2) (pa_cons pe_bl pa_nil)) (fun _ _ => rfl)) pe_str) pa_nil)))))
theorem told_two {X : Cx} {CF CW CB CR CN CM g : Addr} {cdg : Value} {q : Str} (T : ModsTo X.mg CF CW CB CR CN CM) : LamX.GivesTo X NgT "_law_told" (fnScope s__law_told) g cdg (C8.fnBody s__law_told) "_law_work" q (TTold2 X.K CF CW CB CR CN CM) := by
  intro f c' s H Q tl act hc h
  have g_BadHouse := T.g_BadHouse
  have g_BadRows := T.g_BadRows
  have g_NoFile := T.g_NoFile
  have g_NotMade := T.g_NotMade
  have m_isinstance := T.m_isinstance
  refine ⟨_, pss_one (ps_try_as (X := (cxOf C8.CX0 X.prog X.w X.K X.mg X.base NgT "_law_told" (fnScope s__law_told) g cdg X.A X.stack s H C8.E0).nox) (i := 1) (n := "e")
      (tb := fun W D σ H => ∃ Ech : XK, (∀ cls d σ' H', Ech cls d H' → W cls d σ' H') ∧ σ[0]? = some (some (.ref f)) ∧ H c' = some (LamX.CodeO c' q) ∧ tl Ech H D.rt)
      rfl rfl sc__law_told.nd rfl rfl (fun W pn xe tk _ => ?_)
      (.cons (c := .ref CF) (ts := fun _ _ _ _ _ _ => False) ⟨by rfl, by decide, .inl T.m1⟩ (fun a oe cls d pn hz hf => ⟨fun _ _ _ _ _ _ z => z.elim⟩)
        (.cons (c := .ref CW) (ts := fun a cls d D σ H => ∃ Dc, cls = .ref Dc ∧ d = none ∧ ExcC X.K Dc ∧ toldT X.K CB CR CN CM Dc a D σ H) ⟨by rfl, by decide, .inl T.m2⟩ (fun a oe cls d pn hz hf => ⟨fun pins s' σ H D I hh => ?_⟩) .nil))), ?_⟩
  · refine ⟨fun pins s' σ H D I h' => ?_⟩
    obtain ⟨Ech, hW, h1, h2, h3⟩ := h'
    exact (pss_one (ps_ret (act W pn xe Ech _ _ tk hW))).run pins s' σ H D I ⟨h1, h2, h3⟩
  · obtain ⟨Dc, rfl, rfl, hC, ht⟩ := hh
    exact (suite_ps T hC hz hf).run pins s' σ H D I ht
  · refine ⟨_, fun cls d σ' H' hx => ?_, rfl, hc, h⟩
    obtain ⟨rfl, Dc, j, rfl, er, k⟩ := hx
    refine ⟨false, er.notF, (fun z => nomatch z), fun _ => ⟨true, er.isW, fun _ a na hl => ⟨Dc, rfl, rfl, er.exc, ?_⟩, fun z => nomatch z⟩⟩
    have hl3 : σ'.length = 3 := hl
    exact told_suite (by rw [List.length_set]; exact hl3) (List.getElem?_set_self (by rw [hl3]; decide)) er.few er.k0 er.k1 er.k2 er.k3 k
end Wt

set_option Elab.async false
set_option linter.all false
set_option maxRecDepth 100000
set_option maxHeartbeats 4000000
namespace Wt
open PySem PySem.Spec PyProof.Rows L2 SX Evl
/-! Files that are well, laid, edited, dropped. -/
/-- a row: few signs, good ones, no line end -/
def RowOk (z : List Nat) : Prop := z.length ≤ 11 ∧ 10 ∉ z ∧ z.all signOk = true
structure FsOk (fs : Files) : Prop where
  few : fs.length ≤ 8
  nd : (fs.map (·.1)).Nodup
  nm : ∀ p ∈ fs, lettersOk p.1 = true
  tx : ∀ p ∈ fs, textOk p.2 = true
  rw : ∀ p ∈ fs, ∀ z ∈ TL.spl [10] 0 [] p.2, RowOk z
  sh : ∀ p ∈ fs, p.2.length ≤ 4000
theorem FsOk.nil : FsOk [] := ⟨by simp, by simp, by simp, by simp, by simp, by simp⟩
theorem lookH_mem {n t : List Nat} : ∀ {fs : Files}, lookH fs n = some t → (n, t) ∈ fs := fun {fs} h => by
  unfold lookH at h
  obtain ⟨p, hp, rfl⟩ := Option.map_eq_some_iff.mp h
  have e0 := List.find?_some (p := fun p : List Nat × List Nat => decide (p.1 = n)) hp
  have e : p.1 = n := of_decide_eq_true e0
  rw [← e]
  exact List.mem_of_find?_eq_some hp
theorem lookH_isSome {n : List Nat} {fs : Files} : (lookH fs n).isSome = decide (n ∈ fs.map (·.1)) := by
  unfold lookH
  rw [Option.isSome_map]
  by_cases h : n ∈ fs.map (·.1)
  · rw [decide_eq_true h, List.find?_isSome]
    obtain ⟨p, hp, e⟩ := List.mem_map.mp h
    exact ⟨p, hp, decide_eq_true e⟩
  · rw [decide_eq_false h, ← Bool.not_eq_true, List.find?_isSome]
    rintro ⟨p, hp, e⟩
    exact h (List.mem_map.mpr ⟨p, hp, of_decide_eq_true e⟩)
theorem putH_mem {fs : Files} {n t : List Nat} {p : List Nat × List Nat} (h : p ∈ putH fs n t) : p = (n, t) ∨ p ∈ fs := by
  unfold putH at h
  split at h
  · obtain ⟨q, hq, rfl⟩ := List.mem_map.mp h
    by_cases e : q.1 = n
    · rw [if_pos e, e]
      exact .inl rfl
    · rw [if_neg e]
      exact .inr hq
  · rcases List.mem_append.mp h with h | h
    · exact .inr h
    · exact .inl (List.mem_singleton.mp h)
theorem putH_has {fs : Files} {n t : List Nat} : (n, t) ∈ putH fs n t := by
  unfold putH
  split
  · rename_i h
    rw [lookH_isSome, decide_eq_true_eq] at h
    obtain ⟨p, hp, e⟩ := List.mem_map.mp h
    exact List.mem_map.mpr ⟨p, hp, by rw [if_pos e, e]⟩
  · exact List.mem_append_right _ (List.mem_singleton.mpr rfl)
theorem putH_names {fs : Files} {n t : List Nat} : (putH fs n t).map (·.1) = if (lookH fs n).isSome = true then fs.map (·.1) else fs.map (·.1) ++ [n] := by
  unfold putH
  split
  · rw [List.map_map]
    refine List.map_congr_left fun p _ => ?_
    show (if p.1 = n then (p.1, t) else p).1 = p.1
    split <;> rfl
  · rw [List.map_append] <;> rfl
theorem putH_len {fs : Files} {n t : List Nat} : (putH fs n t).length = if (lookH fs n).isSome = true then fs.length else fs.length + 1 := by
  have := congrArg List.length (putH_names (fs := fs) (n := n) (t := t))
  rw [List.length_map] at this
  rw [this]
  split
  · rw [List.length_map]
  · rw [List.length_append, List.length_map] <;> rfl
theorem houseOk_put {fs : Files} {n t : List Nat} (h : FsOk fs) (hn : lettersOk n = true) : houseOk (putH fs n t) = (textOk t && ((lookH fs n).isSome || decide (fs.length < 8))) := by
  unfold houseOk
  have all_ : ((putH fs n t).all fun p => lettersOk p.1 && textOk p.2) = textOk t := by
    cases ht : textOk t with
    | true =>
      refine List.all_eq_true.mpr fun p hp => ?_
      rcases putH_mem hp with rfl | hp
      · rw [hn, ht] <;> rfl
      · rw [h.nm p hp, h.tx p hp] <;> rfl
    | false =>
      rw [← Bool.not_eq_true, List.all_eq_true]
      intro z
      have := z (n, t) putH_has
      rw [ht, Bool.and_false] at this
      cases this
  rw [all_, putH_len]
  have hf := h.few
  cases hs : (lookH fs n).isSome with
  | true =>
    rw [if_pos rfl, Bool.true_or, Bool.and_true]
    rw [lookH_isSome, decide_eq_true_eq] at hs
    obtain ⟨p, hp, _⟩ := List.mem_map.mp hs
    have h1 : 1 ≤ fs.length := List.length_pos_of_mem hp
    rw [decide_eq_true h1, decide_eq_true hf] <;> rfl
  | false =>
    rw [if_neg Bool.false_ne_true, Bool.false_or, decide_eq_true (show 1 ≤ fs.length + 1 by omega), Bool.true_and, Bool.and_comm]
    congr 1
theorem FsOk.put {fs : Files} {n t : List Nat} (h : FsOk fs) (hn : lettersOk n = true) (ht : textOk t = true) (hr : ∀ z ∈ TL.spl [10] 0 [] t, RowOk z) (hsh : t.length ≤ 4000) (hm : ((lookH fs n).isSome || decide (fs.length < 8)) = true) : FsOk (putH fs n t) := by
  have hf := h.few
  refine ⟨?_, ?_, fun p hp => ?_, fun p hp => ?_, fun p hp => ?_, fun p hp => ?_⟩
  · rw [putH_len]
    split
    · exact hf
    · rename_i e
      rw [Bool.not_eq_true] at e
      rw [e, Bool.false_or, decide_eq_true_eq] at hm
      omega
  · rw [putH_names]
    split
    · exact h.nd
    · rename_i e
      rw [lookH_isSome, decide_eq_true_eq] at e
      refine List.nodup_append.mpr ⟨h.nd, by simp, fun a ha b hb => ?_⟩
      rw [List.mem_singleton.mp hb]
      exact fun z => e (z ▸ ha)
  · rcases putH_mem hp with rfl | hp
    · exact hn
    · exact h.nm p hp
  · rcases putH_mem hp with rfl | hp
    · exact ht
    · exact h.tx p hp
  · rcases putH_mem hp with rfl | hp
    · exact hr
    · exact h.rw p hp
  · rcases putH_mem hp with rfl | hp
    · exact hsh
    · exact h.sh p hp
theorem FsOk.drop {fs : Files} {n : List Nat} (h : FsOk fs) : FsOk (dropH fs n) := by
  have sub : (dropH fs n).Sublist fs := List.filter_sublist
  exact ⟨Nat.le_trans sub.length_le h.few, (sub.map _).nodup h.nd, fun p hp => h.nm p (sub.subset hp), fun p hp => h.tx p (sub.subset hp), fun p hp => h.rw p (sub.subset hp), fun p hp => h.sh p (sub.subset hp)⟩
theorem joinL_all {P : Nat → Bool} (h10 : P 10 = true) : ∀ rs : List (List Nat), (∀ z ∈ rs, z.all P = true) → (TL.joinL [10] rs).all P = true
  | [], _ => rfl
  | [x], h => h x (List.mem_singleton.mpr rfl)
  | x :: y :: r, h => by
    have e : TL.joinL [10] (x :: y :: r) = x ++ ([10] ++ TL.joinL [10] (y :: r)) := rfl
    rw [e, List.all_append, List.all_append, h x (List.mem_cons_self ..), joinL_all h10 (y :: r) fun z hz => h z (List.mem_cons_of_mem _ hz)]
    simp [h10]
theorem spl_joinR {rs : List (List Nat)} (hne : rs ≠ []) (h : ∀ z ∈ rs, RowOk z) : TL.spl [10] 0 [] (TL.joinL [10] rs) = rs := spl_join (c := 10) (sep := []) hne fun p hp => (h p hp).2.1
theorem textOk_join {rs : List (List Nat)} (h : ∀ z ∈ rs, RowOk z) : textOk (TL.joinL [10] rs) = decide (rs.length ≤ 60) := by
  unfold textOk
  by_cases hne : rs = []
  · subst hne
    decide
  · rw [spl_joinR hne h, joinL_all (by decide) rs fun z hz => (h z hz).2.2, Bool.and_true]
/-- the rows of the joined rows are well -/
theorem rows_join {rs : List (List Nat)} (h : ∀ z ∈ rs, RowOk z) : ∀ z ∈ TL.spl [10] 0 [] (TL.joinL [10] rs), RowOk z := by
  by_cases hne : rs = []
  · subst hne
    intro z hz
    have : z = [] := by simpa [TL.joinL, TL.spl_nil] using hz
    subst this
    exact ⟨by decide, by simp, rfl⟩
  · rw [spl_joinR hne h]
    exact h
theorem editR_ok {olds more : List (List Nat)} {r m : Nat} (h1 : ∀ z ∈ olds, RowOk z) (h2 : ∀ z ∈ more, RowOk z) : ∀ z ∈ editR olds more r m, RowOk z := fun z hz => by
  unfold editR at hz
  rcases List.mem_append.mp hz with hz | hz
  · rcases List.mem_append.mp hz with hz | hz
    · exact h1 z (List.mem_of_mem_take hz)
    · exact h2 z hz
  · exact h1 z (List.mem_of_mem_drop hz)
/-- at most sixty rows, each well, are a short text -/
theorem joinR_short {rs : List (List Nat)} (h : ∀ z ∈ rs, RowOk z) (h60 : rs.length ≤ 60) : (TL.joinL [10] rs).length ≤ 4000 := by
  have sm : ∀ rs : List (List Nat), (∀ z ∈ rs, RowOk z) → (rs.map List.length).sum ≤ 11 * rs.length := by
    intro rs
    induction rs with
    | nil => intro _; exact Nat.le_refl _
    | cons x r ih =>
      intro h
      have a := (h x (List.mem_cons_self ..)).1
      have b := ih fun z hz => h z (List.mem_cons_of_mem _ hz)
      rw [List.map_cons, List.sum_cons, List.length_cons]
      omega
  have a := sm _ h
  have c := joinL_le [10] rs
  have d : ([10] : List Nat).length = 1 := rfl
  rw [d] at c
  omega
/-- an edit, a text laid: just those of at most sixty rows are let by -/
theorem houseOk_rows {fs : Files} {n : List Nat} {rs : List (List Nat)} (h : FsOk fs) (hn : lettersOk n = true) (hr : ∀ z ∈ rs, RowOk z) : houseOk (putH fs n (TL.joinL [10] rs)) = (decide (rs.length ≤ 60) && ((lookH fs n).isSome || decide (fs.length < 8))) := by
  rw [houseOk_put h hn, textOk_join hr]
theorem FsOk.rows {fs : Files} {n : List Nat} {rs : List (List Nat)} (h : FsOk fs) (hn : lettersOk n = true) (hr : ∀ z ∈ rs, RowOk z) (ok : houseOk (putH fs n (TL.joinL [10] rs)) = true) : FsOk (putH fs n (TL.joinL [10] rs)) := by
  have ok2 := ok
  rw [houseOk_rows h hn hr, Bool.and_eq_true] at ok2
  exact h.put hn (by rw [textOk_join hr]; exact ok2.1) (rows_join hr) (joinR_short hr (of_decide_eq_true ok2.1)) ok2.2
/-- two rising lists of the same texts are one -/
theorem risingS_all : ∀ (l : List Str) (p : Str), risingS p l = true → (p :: l).Pairwise fun a b => ¬ b.cps.toList < a.cps.toList
  | [], p, _ => by simp
  | x :: r, p, h => by
    have h2 : (!ltCps x.cps.toList p.cps.toList && risingS x r) = true := h
    rw [ltCps_eq, Bool.and_eq_true, Bool.not_eq_true', decide_eq_false_iff_not] at h2
    have ih := risingS_all r x h2.2
    refine List.pairwise_cons.mpr ⟨fun b hb => ?_, ih⟩
    rcases List.mem_cons.mp hb with rfl | hb
    · exact h2.1
    · have h3 := (List.pairwise_cons.mp ih).1 b hb
      exact fun z => h2.1 (List.lt_of_le_of_lt (List.not_lt.mp h3) z)
theorem sortedS_one {ys zs : List Str} (h : ys.Perm zs) (hy : sortedS ys = true) (hz : sortedS zs = true) : ys = zs := by
  have pw : ∀ l : List Str, sortedS l = true → l.Pairwise fun a b => ¬ b.cps.toList < a.cps.toList
    | [], _ => List.Pairwise.nil
    | x :: r, e => risingS_all r x e
  refine List.Perm.eq_of_pairwise (fun a b _ _ h1 h2 => ?_) (pw ys hy) (pw zs hz) h
  have e : a.cps.toList = b.cps.toList := List.le_antisymm (List.not_lt.mp h1) (List.not_lt.mp h2)
  have e2 : S a.cps.toList = S b.cps.toList := congrArg S e
  rwa [S_tl, S_tl] at e2
end Wt

set_option Elab.async false
set_option linter.all false
set_option maxRecDepth 100000
set_option maxHeartbeats 4000000
namespace Wt
open PySem PySem.Spec PyProof.Rows L2 SX Evl
/-! Readings for k19's _law_edited and law. -/
abbrev rNoS : R2 := fun x y H Q => ∃ (c : Nat) (z : Str), x = .str ⟨#[c]⟩ ∧ y = .str z ∧ Q (.bl (!decide (c ∈ z.cps.toList))) H
section
variable {K : PySem.W.Frag} {σ : L2.St} {H H' : Hp} {ta tb te tx tl td ty : TE} {D : Ends} {tz : TS}
/-- "\\n" not in z -/
theorem ev_noEnd {z : List Nat} (h : Ev te σ H (.str (S z))) : Ev (tOp rNoS (tC (.str (Str.ofString "\n"))) te) σ H (.bl (!decide (10 ∈ z))) := fun H1 e Q q =>
  ev_c H1 (Ex.refl _) _ fun H2 e2 => h H2 (e.trans e2) _ fun H3 e3 => ⟨10, S z, by rw [show Str.ofString "\n" = S [10] by decide +kernel] <;> rfl, rfl, by
    rw [S_list]
    exact q H3 (e2.trans e3)⟩
/-- [z for z in more if "\\n" not in z] -/
theorem el_lcNo {a : Addr} {more : List (List Nat)} {j : Nat} {vs : List Nat} (h : Ev tl σ H (.ref a)) (ha : H a = some (.lst (more.map fun z => V.str (S z)))) (hz : more.length ≤ 40000) (hw : ∀ x, wipe ((wipe σ vs).set j (some x)) vs = wipe σ vs) (hj : ∀ x, ((wipe σ vs).set j (some x))[j]? = some (some x)) :
    EvL (tLc (iList K tl) (gName j) (tTest (tOp rNoS (tC (.str (Str.ofString "\n"))) (tVar j))) (tVar j) vs) σ H ((more.filter fun z => !decide (10 ∈ z)).map fun z => V.str (S z)) := fun H0 e Q q => h H0 e _ fun H1 e1 => by
  have ha1 := (e.trans e1) _ _ ha
  refine ⟨a, rfl, ⟨_, sq_of ha1⟩, fun Dl hD => ?_⟩
  have hl : (more.map fun z => V.str (S z)).length = more.length := List.length_map ..
  refine lc_it (walk_list (a := a) (xs := more.map fun z => V.str (S z))) (fun i H' => Ex H1 H' ∧ H' Dl = some (.lst (((more.take i).filter fun z => !decide (10 ∈ z)).map fun z => V.str (S z)))) ⟨Ex.new hD, upd_same⟩ (fun i H' _ ⟨e2, _⟩ => sq_of (e2 _ _ ha1)) ?_ ?_
  · rintro i x H2 H3 hi ⟨e2, h2⟩ ⟨h32, hx⟩
    replace hx : (more.map fun z => V.str (S z))[i]? = some x := hx
    cases (show H3 = H2 from h32)
    rw [List.getElem?_map] at hx
    obtain ⟨z, hz2, rfl⟩ := Option.map_eq_some_iff.mp hx
    refine ⟨hw _, ?_⟩
    have ht : EvT (tTest (tOp rNoS (tC (.str (Str.ofString "\n"))) (tVar j))) ((wipe σ vs).set j (some (.str (S z)))) H2 (!decide (10 ∈ z)) := et_test (ev_noEnd (ev_var (hj _)))
    refine ht H2 (Ex.refl _) _ fun H4 e4 => ?_
    have et : (more.take (i + 1)).filter (fun z => !decide (10 ∈ z)) = (more.take i).filter (fun z => !decide (10 ∈ z)) ++ if (!decide (10 ∈ z)) = true then [z] else [] := by
      rw [List.take_succ, hz2, List.filter_append]
      congr 1
      cases hb : !decide (10 ∈ z) <;> simp [hb]
    cases hb : !decide (10 ∈ z) with
    | false =>
      rw [if_neg Bool.false_ne_true]
      rw [hb, if_neg Bool.false_ne_true, List.append_nil] at et
      exact ⟨e2.trans e4, by rw [et]; exact e4 _ _ h2⟩
    | true =>
      rw [if_pos rfl]
      rw [hb, if_pos rfl] at et
      refine ⟨_, hj _, _, e4 _ _ h2, sz_lt ?_, (e2.trans e4).mut hD, ?_⟩
      · have k : ((more.take i).filter fun z => !decide (10 ∈ z)).length ≤ (more.take i).length := List.length_filter_le ..
        rw [List.length_take] at k
        rw [List.length_map]
        omega
      · rw [et, List.map_append]
        exact upd_same
  · rintro H2 ⟨e2, h2⟩
    rw [hl, List.take_length] at h2
    exact q Dl H2 (fresh_back e1 hD) (e1.trans e2) h2
/-- texts.get(file, "").split("\\n") -/
theorem el_olds {d : Addr} {fs : Files} {n : List Nat} (hd : Ev td σ H (.ref d)) (hk : Ev ty σ H (.str (S n))) (h : H d = some (.dK (kvH fs))) (hl : ∀ t, lookH fs n = some t → t.length ≤ 90000) :
    EvL (tM1 (fun x xs H Q => ∃ a b, x = .str a ∧ xs = [.str b] ∧ (b.length == 0) = false ∧ a.length + 2 ≤ sizeLine ∧ rNewStrs (Txt.split a b) H Q) (tDGet2 td ty (tC (.str (Str.ofString "")))) (tC (.str (Str.ofString "\n")))) σ H ((TL.spl [10] 0 [] ((lookH fs n).getD [])).map fun z => V.str (S z)) := fun H1 e Q q =>
  hd H1 e _ fun H2 e2 => by
    have h2 := (e.trans e2) _ _ h
    refine ⟨d, rfl, .inl ⟨kvH fs, .inl h2⟩, hk H2 (e.trans e2) _ fun H3 e3 => ?_⟩
    have h3 := e3 _ _ h2
    refine ⟨(lookH fs n).map fun t => V.str (S t), .inl ⟨kvH fs, Sum.inr (S n), .inl h3, rfl, (valV_kvH n fs).symm⟩, ?_⟩
    have ev : ((lookH fs n).map fun t => V.str (S t)).getD (.str (Str.ofString "")) = .str (S ((lookH fs n).getD [])) := by
      cases lookH fs n with
      | none => exact congrArg V.str (by decide +kernel)
      | some t => rfl
    rw [ev]
    have hs : Str.ofString "\n" = S [10] := by decide +kernel
    refine ⟨⟨_, rfl⟩, S ((lookH fs n).getD []), Str.ofString "\n", rfl, rfl, by decide +kernel, ?_, fun p hp => ?_⟩
    · rw [S_len]
      refine sz_of ?_
      cases ho : lookH fs n with
      | none => decide
      | some t =>
        have := hl t ho
        show t.length + 2 ≤ 100000
        omega
    · rw [hs, split_S (by simp) (by decide), List.map_map]
      exact q p _ (fresh_back (e2.trans e3) hp) ((e2.trans e3).trans (Ex.new hp)) upd_same
/-- a, b = two new lists -/
theorem q_parLL {i j : Nat} {xs ys : List V} (h1 : EvL ta σ H xs) (h2 : ∀ H', Ex H H' → EvL tb σ H' ys) (k : ∀ p q H1, Ex H H1 → H p = none → H q = none → p ≠ q → H1 p = some (.lst xs) → H1 q = some (.lst ys) → tz D ((σ.set i (some (.ref p))).set j (some (.ref q))) H1) :
    tSeq (tPar i j (tCons ta (tCons tb tNil))) tz D σ H :=
  h1 H (Ex.refl H) _ fun p H1 hp e1 hx => h2 H1 e1 H1 (Ex.refl _) _ fun q H2 hq e2 hy => ⟨_, _, rfl, k p q H2 (e1.trans e2) hp (fresh_back e1 hq) (ne_of_none hx hq) (e2 _ _ hx) hy⟩
end
end Wt

set_option Elab.async false
set_option linter.all false
set_option maxRecDepth 100000
set_option maxHeartbeats 4000000
namespace Wt
open PySem PySem.Spec PyProof.Rows L2 SX Evl
/-! What a House's method is to tell in k19: nothing, or ("refused", word). -/
def DueO (H : Hp) (v : V) : Option Str → Prop
  | none => v = .non
  | some w => ∃ t, v = .ref t ∧ H t = some (.tup [.str (Str.ofString "refused"), .str w])
theorem DueO.go {H H' : Hp} {v : V} {o : Option Str} (h : DueO H v o) (e : ∀ b u, H b = some u → (∀ C dx fs, u ≠ .ins C dx fs) → (∀ ps, u ≠ .tbl ps) → (∀ kvs, u ≠ .dK kvs) → H' b = some u) : DueO H' v o := by
  cases o with
  | none => exact h
  | some w =>
    obtain ⟨t, rfl, ht⟩ := h
    exact ⟨t, rfl, e _ _ ht (fun _ _ _ z => by cases z) (fun _ z => by cases z) (fun _ z => by cases z)⟩
theorem DueO.ex {H H' : Hp} {v : V} {o : Option Str} (h : DueO H v o) (e : Ex H H') : DueO H' v o := h.go fun b u hu _ _ _ => e b u hu
def dueD : Option Str → PyData
  | none => .none
  | some w => .tuple [.str (Str.ofString "refused"), .str w]
theorem DueO.td {H : Hp} {v : V} {o : Option Str} (h : DueO H v o) : Td H v (dueD o) := by
  cases o with
  | none =>
    have : v = .non := h
    subst this
    exact .non
  | some w =>
    obtain ⟨t, rfl, ht⟩ := h
    exact .tup ht (.cons (.str _) (.cons (.str _) .nil))
/-- an expression that tells this -/
def DueE (te : TE) (σ : L2.St) (H : Hp) (o : Option Str) : Prop := ∀ H1, Ex H H1 → ∀ Q : VK, (∀ v H2, Ex H1 H2 → DueO H2 v o → Q v H2) → te σ H1 Q
section
variable {σ : L2.St} {H : Hp} {ta tb te : TE} {t : TT} {D : Ends} {tz : TS} {o : Option Str}
theorem due_non : DueE (tC .non) σ H none := fun H1 _ Q q => q .non H1 (Ex.refl H1) rfl
theorem due_tup {w : Str} : DueE (tTup (tCons (tC (.str (Str.ofString "refused"))) (tCons (tC (.str w)) tNil))) σ H (some w) := fun H1 e Q q =>
  eu_tup (ea_cons ev_c (ea_cons ev_c ea_nil)) (by show 2 ≤ 100000; decide) H1 e _ fun p H2 _ e2 h2 => q _ H2 e2 ⟨p, rfl, h2⟩
theorem due_var {i : Nat} {v : V} (hs : σ[i]? = some (some v)) (h : DueO H v o) : DueE (tVar i) σ H o := fun H1 e Q q => ⟨v, hs, q v H1 (Ex.refl H1) (h.ex e)⟩
theorem due_if {b : Bool} (h : EvT t σ H b) (h1 : b = true → DueE ta σ H o) (h2 : b = false → DueE tb σ H o) : DueE (tIf t ta tb) σ H o := fun H1 e Q q => h H1 e _ fun H2 e2 => by
  cases b with
  | true => exact h1 rfl H2 (e.trans e2) Q fun v H3 e3 hv => q v H3 (e2.trans e3) hv
  | false => exact h2 rfl H2 (e.trans e2) Q fun v H3 e3 hv => q v H3 (e2.trans e3) hv
theorem q_asgDue {i : Nat} (h : DueE te σ H o) (k : ∀ v H1, Ex H H1 → DueO H1 v o → tz D (σ.set i (some v)) H1) : tSeq (tAsg te (gName i)) tz D σ H := h H (Ex.refl H) _ fun v H1 e hv => k v H1 e hv
/-- a + b, a new list, b a list that stands -/
theorem el_catLR {xs zs : List V} {l : Addr} (ha : EvL ta σ H xs) (hb : Ev tb σ H (.ref l)) (hl : H l = some (.lst zs)) (hz : xs.length + zs.length ≤ 100000) : EvL (tOp rCat ta tb) σ H (xs ++ zs) := fun H1 e Q q =>
  ha H1 e _ fun p H2 hp e2 h2 => hb H2 (e.trans e2) _ fun H3 e3 => ⟨p, l, xs, zs, rfl, rfl, e3 _ _ h2, (e.trans (e2.trans e3)) _ _ hl, sz_of hz, fun r hr => q r _ (fresh_back (e2.trans e3) hr) ((e2.trans e3).trans (Ex.new hr)) upd_same⟩
end
def LowS (ss : List (List Nat)) : Prop := ∀ z ∈ ss, z.all (fun c => decide (c < 128)) = true
theorem low_ok {z : List Nat} (h : z.all (fun c => decide (c < 128)) = true) : PyData.strOk (S z) = true := by
  unfold PyData.strOk
  have e : (S z).cps = z.toArray := rfl
  rw [e, List.all_toArray, List.all_eq_true]
  intro c hc
  have := of_decide_eq_true (List.all_eq_true.mp h c hc)
  exact decide_eq_true (by omega)
theorem lay_strs : ∀ ss : List (List Nat), LowS ss → PyData.canLayAll0 (ss.map fun z => PyData.str (S z)) = true
  | [], _ => by simp [PyData.canLayAll0]
  | z :: r, h => by
    rw [List.map_cons]
    simp [PyData.canLayAll0, PyData.canLay0, lay_strs r fun y hy => h y (List.mem_cons_of_mem _ hy), low_ok (h z (List.mem_cons_self ..))]
theorem deep_strs : ∀ ss : List (List Nat), PyData.depthAll (ss.map fun z => PyData.str (S z)) ≤ 1
  | [] => by simp [PyData.depthAll]
  | z :: r => by
    have := deep_strs r
    rw [List.map_cons]
    simp [PyData.depthAll, PyData.depth]
    omega
theorem shaped_strs (ss : List (List Nat)) (h : LowS ss) : SeqAt.shaped (.list (ss.map fun z => PyData.str (S z))) = true := by
  unfold SeqAt.shaped
  have a := lay_strs ss h
  have b := deep_strs ss
  rw [Bool.and_eq_true]
  refine ⟨?_, decide_eq_true ?_⟩
  · simp [PyData.canLay0, a]
  · simp only [PyData.depth]
    omega
section
variable {K : PySem.W.Frag} {σ : L2.St} {H : Hp} {ta tb te tk tv : TE} {t : TT} {D : Ends}
theorem dp_strs : ∀ ss : List (List Nat), DpAll K H (ss.map fun z => V.str (S z)) (ss.map fun z => PyData.str (S z))
  | [] => .nil
  | z :: r => .cons (.str _) (dp_strs r)
/-- a != b of lists of texts -/
theorem ev_neTexts {l1 l2 : Addr} {xs ys : List (List Nat)} {b : Bool} (ha : Ev ta σ H (.ref l1)) (hb : Ev tb σ H (.ref l2)) (h1 : H l1 = some (.lst (xs.map fun z => V.str (S z)))) (h2 : H l2 = some (.lst (ys.map fun z => V.str (S z)))) (hx : LowS xs) (hy : LowS ys)
    (h : xs = ys ∧ b = false ∨ xs.length ≠ ys.length ∧ b = true) : Ev (tOp (rNeD K) ta tb) σ H (.bl b) := ev_op ha hb fun H1 e Q q => by
  refine ⟨.list (xs.map fun z => PyData.str (S z)), .list (ys.map fun z => PyData.str (S z)), .lst (sq_of (e _ _ h1)) (dp_strs xs), .lst (sq_of (e _ _ h2)) (dp_strs ys), shaped_strs xs hx, shaped_strs ys hy, ?_⟩
  have e0 : (!PyData.eqv (.list (xs.map fun z => PyData.str (S z))) (.list (ys.map fun z => PyData.str (S z)))) = b := by
    rcases h with ⟨rfl, rfl⟩ | ⟨hn, rfl⟩
    · rw [SeqAt.eqv_refl _ (SeqAt.canLay_of_shaped (shaped_strs xs hx))] <;> rfl
    · have z : PyData.eqv (.list (xs.map fun z => PyData.str (S z))) (.list (ys.map fun z => PyData.str (S z))) = PyData.eqvAll (xs.map fun z => PyData.str (S z)) (ys.map fun z => PyData.str (S z)) := by simp [PyData.eqv]
      rw [z, SeqAt.eqvAll_other_length (by rw [List.length_map, List.length_map]; exact hn)] <;> rfl
  rw [e0]
  exact q H1 (Ex.refl H1)
/-- a new dict of known things -/
def EvK (te : TE) (σ : L2.St) (H : Hp) (ls : List (Key × V)) : Prop := ∀ H1, Ex H H1 → ∀ Q : VK, (∀ p H2, H1 p = none → Ex H1 H2 → H2 p = some (.dK ls) → Q (.ref p) H2) → te σ H1 Q
theorem ek_new : EvK tDNewK σ H [] := fun H1 _ Q q p hp => q p _ hp (Ex.new hp) upd_same
theorem ek_one {k : Str} {v : V} (hk : Ev tk σ H (.str k)) (hv : Ev tv σ H v) : EvK (tDisp [(tk, tv)]) σ H [((Sum.inr k : Key), v)] := fun H1 e Q q p hp =>
  hk _ (e.trans (Ex.new hp)) _ fun H2 e2 => hv H2 ((e.trans (Ex.new hp)).trans e2) _ fun H3 e3 => by
    have h3 := (e2.trans e3) _ _ (upd_same (H := H1) (a := p) (o := HO.dK []))
    exact ⟨h3, [((Sum.inr k : Key), v)], rfl, by show 1 ≤ 15; decide, q p _ hp (Ex.mut ((Ex.new hp).trans (e2.trans e3)) hp) upd_same⟩
theorem ek_if {b : Bool} {ls : List (Key × V)} (h : EvT t σ H b) (h1 : b = true → EvK ta σ H ls) (h2 : b = false → EvK tb σ H ls) : EvK (tIf t ta tb) σ H ls := fun H1 e Q q => h H1 e _ fun H2 e2 => by
  cases b with
  | true => exact h1 rfl H2 (e.trans e2) Q fun p H3 hp e3 hv => q p H3 (fresh_back e2 hp) (e2.trans e3) hv
  | false => exact h2 rfl H2 (e.trans e2) Q fun p H3 hp e3 hv => q p H3 (fresh_back e2 hp) (e2.trans e3) hv
/-- d.update(..) -/
theorem s_upd {d : Addr} {kvs ls : List (Key × V)} (ha : Ev ta σ H (.ref d)) (hd : H d = some (.dK kvs)) (h : EvK te σ H ls) (hz : kvs.length + ls.length ≤ 100000) (k : ∀ p H1, H p = none → p ≠ d → Ex H H1 → D.nx σ (upd H1 d (.dK (mergeK kvs ls)))) :
    tDrop (tBM K "dict" rDUpd ta (tCons te tNil)) D σ H := ha H (Ex.refl H) _ fun H1 e1 =>
  ⟨.inr (.inr (.inl ⟨rfl, .inl ⟨_, e1 _ _ hd⟩⟩)), h H1 e1 _ fun p H2 hp e2 h2 => ⟨d, p, kvs, ls, rfl, rfl, ne_of_none (e1 _ _ hd) hp, e2 _ _ (e1 _ _ hd), h2, sz_of hz, k p H2 (fresh_back e1 hp) (ne_of_none (e1 _ _ hd) hp).symm (e1.trans e2)⟩⟩
theorem merge_one (fs : Files) (n t : List Nat) : mergeK (kvH fs) [((Sum.inr (S n) : Key), V.str (S t))] = kvH (putH fs n t) := putK_kvH fs n t
theorem merge_nil (kvs : List (Key × V)) : mergeK kvs [] = kvs := rfl
end
end Wt

set_option Elab.async false
set_option linter.all false
set_option maxRecDepth 100000
set_option maxHeartbeats 4000000
namespace Wt
open PySem PySem.Spec PyProof.Rows L2 SX Evl
open C8 (Def Cal cal0 fnScope_by fnScope)
/-! k19's _law_edited. -/
abbrev s__law_edited : Stmt := topS 30
theorem sc__law_edited : FnScope ["_law_house", "_law_texts", "_law_file", "_law_row", "_law_many", "_law_more", "_law_olds", "_law_rows", "_law_news", "_law_due", "_law_found", "_law_handed", "_law_one"] ["_law_house", "_law_texts", "_law_file", "_law_row", "_law_many", "_law_more"] (fnScope s__law_edited) := fnScope_by (by decide +kernel)
def qualE : Str := (envOfC "_law_edited" (fnScope s__law_edited) 0 0 .none).qual ++ "<lambda>"
/-- all but the House, its files' dict and the tables stays -/
def KeepE (h tx : Addr) (H H2 : Hp) : Prop := ∀ b o, b ≠ h → b ≠ tx → (∀ ps, o ≠ .tbl ps) → H b = some o → H2 b = some o
/-- the House at h has these files, the law's dict is another one -/
def HouT (H : Hp) (CH h tx : Addr) (fs : Files) : Prop := ∃ dx dt dk, H h = some (.ins CH dx (houF dt dk)) ∧ H dt = some (.dK (kvH fs)) ∧ dt ≠ tx
def spEdited (CH : Addr) (T : List (Addr × Str)) : Sp := fun vs H Q _ => ∃ (h tx : Addr) (n : List Nat) (row many : Int) (mp : Addr) (more : List (List Nat)) (fs : Files), vs = [.ref h, .ref tx, .str (S n), .int row, .int many, .ref mp] ∧ HouT H CH h tx fs ∧ H tx = some (.dK (kvH fs)) ∧ FsOk fs ∧ lettersOk n = true ∧
  H mp = some (.lst (more.map fun z => V.str (S z))) ∧ more.length ≤ 100 ∧ (∀ z ∈ more, z.length ≤ 11 ∧ (10 ∉ z → RowOk z)) ∧ LowS more ∧ LamX.Tabs T H ∧
  ∀ H2 fs2, KeepE h tx H H2 → HouT H2 CH h tx fs2 → H2 tx = some (.dK (kvH fs2)) → FsOk fs2 → LamX.Tabs T H2 → Q (.bl true) H2
structure ModsE (mg : Str → Option Value) : Prop where
  m_len : mg "len" = none
  m_list : mg "list" = none
/-- x = told(lambda ..): what it may be, what follows -/
theorem q_told2 {i : Nat} {T : List (Addr × Str)} {TT : (XK → Hp → VK → Prop) → Hp → VK → Prop} {t : XK → TE} {tz : TS} {D : Ends} {σ : L2.St} {H : Hp} (Cond : V → Hp → Prop) (hT : LamX.Tabs T H) (h1 : ∀ H9, LamX.ExtN H H9 → LamX.Tabs T H9 → ∀ Qr : VK, (∀ v H10, Cond v H10 → Qr v H10) → TT (fun E H' Q' => t E σ H' Q') H9 Qr)
    (h2 : ∀ v H10, Cond v H10 → tz D (σ.set i (some v)) H10) : tSeq (tAsg (LamX.tLam T TT t) (gName i)) tz D σ H := ⟨hT, fun H9 e T9 => h1 H9 e T9 _ h2⟩
theorem tabs_keep {T : List (Addr × Str)} {H H' : Hp} (t : LamX.Tabs T H) (e : ∀ b o, (∀ C dx fs, o ≠ .ins C dx fs) → (∀ kvs, o ≠ .dK kvs) → (∀ xs, o ≠ .lst xs) → H b = some o → H' b = some o) : LamX.Tabs T H' := fun p hp => by
  obtain ⟨ps, h1, h2, h3⟩ := t p hp
  refine ⟨ps, e _ _ (fun _ _ _ z => by cases z) (fun _ z => by cases z) (fun _ z => by cases z) h1, h2, fun pos cv hc => ?_⟩
  obtain ⟨c, k1, k2⟩ := h3 pos cv hc
  refine ⟨c, k1, e _ _ (fun _ _ _ z => ?_) (fun _ z => ?_) (fun _ z => ?_) k2⟩ <;> · unfold LamX.CodeO at z; cases z
theorem sum_rows : ∀ rs : List (List Nat), (∀ z ∈ rs, z.length ≤ 11) → (rs.map List.length).sum ≤ 11 * rs.length
  | [], _ => Nat.le_refl _
  | x :: r, h => by
    have a := h x (List.mem_cons_self ..)
    have b := sum_rows r fun z hz => h z (List.mem_cons_of_mem _ hz)
    rw [List.map_cons, List.sum_cons, List.length_cons]
    omega
theorem filter_all {more : List (List Nat)} (h : (more.any fun z => decide (10 ∈ z)) = false) : (more.filter fun z => !decide (10 ∈ z)) = more := by
  refine List.filter_eq_self.mpr fun z hz => ?_
  have := List.any_eq_false.mp h z hz
  simpa using this
theorem filter_less {more : List (List Nat)} (h : (more.any fun z => decide (10 ∈ z)) = true) : more.length ≠ (more.filter fun z => !decide (10 ∈ z)).length := by
  obtain ⟨z, hz, h2⟩ := List.any_eq_true.mp h
  intro e
  have := List.filter_eq_self.mp (List.filter_sublist.eq_of_length e.symm) z hz
  rw [h2] at this
  cases this
section
variable {P : Program} {w : World} {K : PySem.W.Frag} {mg : Str → Option Value} {base : Heap} {CH CF CW CB CR CN CM : Addr}
theorem ok_edited (T0 : ModsE mg) (TT0 : ModsTo mg CF CW CB CR CN CM) {T : List (Addr × Str)} {c Pt : Addr} {k : Nat} (hk : 5 ≤ k) (c_edit : MetX P w K mg base k CH "edit" (spEdit CH CB CR CN)) (c__law_like : Cal P w K mg base 6 "_law_like" (spLike K 6) [])
    (eB : ErrOk K CF CW CB CR CN CM CB 0) (eR : ErrOk K CF CW CB CR CN CM CR 1) (eN : ErrOk K CF CW CB CR CN CM CN 2) {ft : Addr} {fdt : FuncData} (D_told : Def K mg "_law_told" s__law_told ft fdt) (b_told : Binds K fdt ["_law_work"] [])
    {f : Addr} {oc dV kV doc pm ct : Value} {od an : Option Addr} {osl : Array (Option Value)} (lk : K.lookup f = some ⟨oc, od, .func (PySem.W.fnOf "_law_edited" "_law_edited" (C8.fnArgs s__law_edited) (C8.fnBody s__law_edited) (fnScope s__law_edited) dV kV doc pm an (.ref c) ct), osl⟩) (hcd : PySem.W.codeIn K (.ref c) "_law_edited" = true)
    (TB : LamX.TabB base mg c Pt) (hmT : (Pt, qualE) ∈ T) (huT : ∀ p ∈ T, p.1 = Pt → p.2 = qualE) : FnOk P w K mg base C8.CX0 (k + 3) f (PySem.W.fnOf "_law_edited" "_law_edited" (C8.fnArgs s__law_edited) (C8.fnBody s__law_edited) (fnScope s__law_edited) dV kV doc pm an (.ref c) ct) ["_law_house", "_law_texts", "_law_file", "_law_row", "_law_many", "_law_more"] (spEdited CH T) := by
  refine fn_of lk hcd sc__law_edited (fun vs H Q E h => ?_) (fun A outer s H vs Q E hr h => ?_)
  · obtain ⟨_, _, _, _, _, _, _, _, rfl, _⟩ := h
    rfl
  · obtain ⟨h, tx, n, row, many, mp, more, fs, rfl, hO, htx, hfs, hln, hmp, hml, hmr, hmlow, hTb, q⟩ := h
    have hu := hu_of hr
    have hu64 := hr.units
    have m_len := T0.m_len
    have m_list := T0.m_list
    refine ⟨_, PSs.nox (pss_cons (ps_par (i := 6) (j := 7) rfl sc__law_edited.nd rfl rfl (by decide) (by rfl) (by rfl) (pa_cons (pe_split (pe_dget2 hu (pv 1) (pv 2) pe_str ⟨rfl, by rfl, by rfl, rfl⟩) pe_str) (pa_cons (pe_lc (own := [("_law_one", 12)]) (g := (gName 12)) rfl sc__law_edited.nd (pi_list (pv 5)) (blkOk_by (N := ["_law_house", "_law_texts", "_law_file", "_law_row", "_law_many", "_law_more", "_law_olds", "_law_rows", "_law_news", "_law_due", "_law_found", "_law_handed", "_law_one"]) (sc := C8.fnScope s__law_edited) (by decide +kernel)) (fun _ _ _ _ _ => pg_name (i := 12) sc__law_edited.nd rfl (Or.inl rfl)) (fun _ _ _ _ _ => pts_one (pt_cmpR op_notIn_sign pe_str (pv 12) (by with_unfolding_all rfl))) (fun _ _ _ _ _ => (pv 12))) pa_nil)) (by rfl))
      (pss_cons (ps_set (i := 8) sc__law_edited.nd rfl (.inl rfl) (pe_op op_cat (pe_op op_cat (pe_slice sl_list (pv 6) po_none (po_some (pe_op op_sub (pv 3) pe_int))) (pv 5)) (pe_slice sl_list (pv 6) (po_some (pe_op op_add (pe_op op_sub (pv 3) pe_int) (pv 4))) po_none)))
      (pss_cons (ps_set (i := 9) sc__law_edited.nd rfl (.inl rfl) (pe_ifExp (pt_cmpR op_le (pe_callB call_len_seq (by rfl) m_len PySem.boot_len (pa_cons (pv 8) pa_nil)) pe_int (nomark _)) pe_non (pe_tup (pa_cons pe_str (pa_cons pe_str pa_nil)))))
      (pss_cons (ps_set (i := 9) sc__law_edited.nd rfl (.inl rfl) (pe_ifExp (PW.pt (pw_and (pt_chain op_le op_le pe_int (pv 3) (pe_op op_add (pe_callB call_len_seq (by rfl) m_len PySem.boot_len (pa_cons (pv 6) pa_nil)) pe_int)) (pw_and1 (pt_chain op_le op_le pe_int (pv 4) (pe_op op_sub (pe_op op_add (pe_callB call_len_seq (by rfl) m_len PySem.boot_len (pa_cons (pv 6) pa_nil)) pe_int) (pv 3)))))) (pv 9) (pe_tup (pa_cons pe_str (pa_cons pe_str pa_nil)))))
      (pss_cons (ps_set (i := 9) sc__law_edited.nd rfl (.inl rfl) (pe_ifExp (pt_cmpR (op_neD hu64) (pv 5) (pv 7) (nomark _)) (pe_tup (pa_cons pe_str (pa_cons pe_str pa_nil))) (pv 9)))
      (pss_cons (ps_set (i := 9) sc__law_edited.nd rfl (.inl rfl) (pe_ifExp (pt_cmp (pc_din hu (pv 2) (pv 1))) (pv 9) (pe_tup (pa_cons pe_str (pa_cons pe_str pa_nil)))))
      (pss_cons (ps_set (i := 11) sc__law_edited.nd rfl (.inr rfl) (pe_callTy call_list_of (by rfl) m_list Wt.bt_list (pa_cons (pv 5) pa_nil)))
      (pss_cons (ps_set (i := 10) sc__law_edited.nd rfl (.inl rfl) (Wt.pe_toldL (T := T) (TT := TTold2 K CF CW CB CR CN CM) (Ng := NgT) (k := k) (by rfl) D_told b_told sc__law_told rfl (.inl (by rfl)) (fun _ => told_two TT0) TB rfl hmT huT hr (show LamX.LamS (C8.fnScope s__law_edited) _ from LamX.lamS_by (by decide +kernel)) rfl (fun _ _ _ _ _ => rfl) (fun _ _ _ _ _ _ _ hrl => Wt.pe_mtX c_edit tk_lam hrl (Nat.le_refl _) (pe_var (i := 0) rfl (.inr (.inr rfl))) (pa_cons (pe_var (i := 2) rfl (.inr (.inr rfl))) (pa_cons (pe_var (i := 3) rfl (.inr (.inr rfl))) (pa_cons (pe_var (i := 4) rfl (.inr (.inr rfl))) (pa_cons (pe_var (i := 11) rfl (.inr (.inr rfl))) pa_nil)))))))
      (pss_cons (ps_if (PW.pt (pw_or (pt_cmpR (op_neD hu64) (pv 11) (pv 5) (nomark _)) (pw_or1 (pt_not (pt_val (C8.pe_c c__law_like hr (by first | decide | exact Nat.le_refl _ | omega) (by rfl) (pa_cons (pv 10) (pa_cons (pv 9) pa_nil)))))))) (pss_one (ps_ret pe_bl)) pss_nil)
      (pss_cons (ps_expr (pe_bm0 PySem.F.plainAttrs_list PySem.F.slot_list_clear PySem.F.type_list_clear mt_clear (pv 11)))
      (pss_cons (ps_expr (pe_bm PySem.F.plainAttrs_dict PySem.F.slot_dict_update PySem.F.type_dict_update Wt.mt_dupdate (pv 1) (pa_cons (pe_ifExp (pt_cmpR op_isN (pv 9) pe_non (nomark _)) (pe_disp (pps_cons (pv 2) (pe_join pe_str (pv 8)) pps_nil) (by rfl) (by rfl) (by simp) (by decide)) pe_dnewK) pa_nil)))
      (pss_one (ps_ret pe_bl))))))))))))), ?_⟩
    obtain ⟨olds, hol⟩ : ∃ o, o = TL.spl [10] 0 [] ((lookH fs n).getD []) := ⟨_, rfl⟩
    have hnl : ∀ t, lookH fs n = some t → t.length ≤ 4000 := fun t ht => hfs.sh _ (lookH_mem ht)
    have hO1 : olds.length ≤ 60 ∧ ∀ z ∈ olds, RowOk z := by
      cases ho : lookH fs n with
      | none =>
        rw [ho] at hol
        subst hol
        refine ⟨by decide, fun z hz => ?_⟩
        have e : z = [] := by simpa [TL.spl_nil] using hz
        subst e
        exact ⟨by decide, by simp, rfl⟩
      | some t =>
        rw [ho] at hol
        have hm := lookH_mem ho
        have h60 := hfs.tx _ hm
        unfold textOk at h60
        rw [Bool.and_eq_true] at h60
        subst hol
        exact ⟨of_decide_eq_true h60.1, hfs.rw _ hm⟩
    -- olds, rows
    refine q_parLL (el_olds (ev_var rfl) (ev_var rfl) htx fun t ht => by have := hnl t ht; omega) (fun H' e => el_lcNo (K := K) (ev_var rfl) (e _ _ hmp) (by omega) (fun x => rfl) (fun x => rfl)) fun po pr H1 e1 hpo0 hpr0 hne ho1 hr1 => ?_
    rw [← hol] at ho1
    try dsimp only [List.set]
    have hmp1 := e1 _ _ hmp
    have lO : (olds.map fun z => V.str (S z)).length = olds.length := List.length_map ..
    have lM : (more.map fun z => V.str (S z)).length = more.length := List.length_map ..
    have c1 := cutV_length (olds.map fun z => V.str (S z)) none (some (row - 1))
    have c2 := cutV_length (olds.map fun z => V.str (S z)) (some (row - 1 + many)) none
    -- news
    refine q_asgL (el_catLL (el_catLR (el_sl (K := K) (ev_var rfl) eo_none (eo_some (ev_op (ev_var rfl) ev_c rv_I0)) (sq_of ho1)) (ev_var rfl) hmp1 (by omega)) (el_sl (K := K) (ev_var rfl) (eo_some (ev_op (ev_op (ev_var rfl) ev_c rv_I0) (ev_var rfl) rv_I0)) eo_none (sq_of ho1)) (by rw [List.length_append]; omega)) fun pn H2 hpn0 e2 hn2 => ?_
    try dsimp only [List.set]
    generalize hNV : cutV (olds.map fun z => V.str (S z)) none (some (row - 1)) ++ (more.map fun z => V.str (S z)) ++ cutV (olds.map fun z => V.str (S z)) (some (row - 1 + many)) none = NV at hn2
    have e12 := e1.trans e2
    have ho2 := e2 _ _ ho1
    have hr2 := e2 _ _ hr1
    -- due
    obtain ⟨o1, ho1'⟩ : ∃ o : Option Str, o = if decide ((NV.length : Int) ≤ 60) = true then none else some (Str.ofString "house") := ⟨_, rfl⟩
    refine q_asgDue (o := o1) (due_if (b := decide ((NV.length : Int) ≤ 60)) (et_test (ev_op (ev_len (ev_var rfl) (sq_of hn2)) ev_c rv_I0)) (fun hb => by rw [ho1', if_pos hb]; exact due_non) (fun hb => by rw [ho1', if_neg (by rw [hb]; exact Bool.false_ne_true)]; exact due_tup)) fun v1 H3 e3 hv1 => ?_
    try dsimp only [List.set]
    have ho3 := e3 _ _ ho2
    have hr3 := e3 _ _ hr2
    obtain ⟨gd, hgd⟩ : ∃ g : Bool, g = ((decide (1 ≤ row) && decide (row ≤ (olds.length : Int) + 1)) && (decide (0 ≤ many) && decide (many ≤ (olds.length : Int) + 1 - row))) := ⟨_, rfl⟩
    obtain ⟨o2, ho2'⟩ : ∃ o : Option Str, o = if gd = true then o1 else some (Str.ofString "rows") := ⟨_, rfl⟩
    refine q_asgDue (o := o2) (due_if (b := gd) (et_is (et_and (et_test (ev_chainI ev_c (ev_var rfl) (ev_op (ev_len (ev_var rfl) (sq_of ho3)) ev_c rv_I0))) fun _ => et_test (ev_chainI ev_c (ev_var rfl) (ev_op (ev_op (ev_len (ev_var rfl) (sq_of ho3)) ev_c rv_I0) (ev_var rfl) rv_I0))) (by rw [lO, hgd])) (fun hb => by rw [ho2', if_pos hb]; exact due_var rfl hv1) (fun hb => by rw [ho2', if_neg (by rw [hb]; exact Bool.false_ne_true)]; exact due_tup)) fun v2 H4 e4 hv2 => ?_
    try dsimp only [List.set]
    have hr4 := e4 _ _ hr3
    have e14 := (e12.trans e3).trans e4
    have hmp4 := e14 _ _ hmp
    obtain ⟨bad, hbad⟩ : ∃ g : Bool, g = more.any fun z => decide (10 ∈ z) := ⟨_, rfl⟩
    obtain ⟨o3, ho3'⟩ : ∃ o : Option Str, o = if bad = true then some (Str.ofString "rows") else o2 := ⟨_, rfl⟩
    refine q_asgDue (o := o3) (due_if (b := bad) (et_test (ev_neTexts (ev_var rfl) (ev_var rfl) hmp4 hr4 hmlow (fun z hz => hmlow z (List.mem_filter.mp hz).1) ?_)) (fun hb => by rw [ho3', if_pos hb]; exact due_tup) (fun hb => by rw [ho3', if_neg (by rw [hb]; exact Bool.false_ne_true)]; exact due_var rfl hv2)) fun v3 H5 e5 hv3 => ?_
    · cases hb : bad with
      | false => exact .inl ⟨(filter_all (hbad ▸ hb)).symm, rfl⟩
      | true => exact .inr ⟨filter_less (hbad ▸ hb), rfl⟩
    try dsimp only [List.set]
    have e15 := e14.trans e5
    have htx5 := e15 _ _ htx
    obtain ⟨isF, hisF⟩ : ∃ g : Bool, g = (lookH fs n).isSome := ⟨_, rfl⟩
    obtain ⟨o4, ho4'⟩ : ∃ o : Option Str, o = if isF = true then o3 else some (Str.ofString "file") := ⟨_, rfl⟩
    refine q_asgDue (o := o4) (due_if (b := isF) (et_B fun H6 e6 Q q6 => ev_var (i := 2) (v := V.str (S n)) (by rfl) H6 (Ex.refl _) _ fun H7 e7 => ev_var (i := 1) (v := V.ref tx) (by rfl) H7 (Ex.refl _) _ fun H8 e8 => ⟨tx, _, rfl, .inl ⟨_, _, .inl ((e6.trans (e7.trans e8)) _ _ htx5), rfl, rfl⟩, by
      rw [valV_kvH, Option.isSome_map, ← hisF]
      exact q6 H8 (e7.trans e8)⟩) (fun hb => by rw [ho4', if_pos hb]; exact due_var rfl hv3) (fun hb => by rw [ho4', if_neg (by rw [hb]; exact Bool.false_ne_true)]; exact due_tup)) fun v4 H6 e6 hv4 => ?_
    try dsimp only [List.set]
    have e16 := e15.trans e6
    have hmp6 := e16 _ _ hmp
    -- handed
    refine q_asgL (el_list (K := K) (ev_var rfl) (sq_of hmp6)) fun ph H7 hph0 e7 hh7 => ?_
    try dsimp only [List.set]
    have e17 := e16.trans e7
    have hT7 : LamX.Tabs T H7 := hTb.ext e17
    have hpn7 := ((((e3.trans e4).trans e5).trans e6).trans e7) _ _ hn2
    have hv7 : DueO H7 v4 o4 := hv4.ex e7
    have nots : ∀ {o : HO}, (∃ xs, o = .lst xs) ∨ (∃ kvs, o = .dK kvs) ∨ (∃ C dx fs, o = .ins C dx fs) → ∀ ps, o ≠ .tbl ps := fun {o} h ps z => by
      rcases h with ⟨_, h⟩ | ⟨_, h⟩ | ⟨_, _, _, h⟩ <;> · rw [h] at z; cases z
    refine q_told2 (fun v H10 => ∃ fs2, (∀ b o, b ≠ h → (∀ ps, o ≠ .tbl ps) → H7 b = some o → H10 b = some o) ∧ LamX.Tabs T H10 ∧ DueO H10 v o4 ∧ HouT H10 CH h tx fs2 ∧ FsOk fs2 ∧
      ((o4 = none ∧ ∃ news : List (List Nat), NV = news.map (fun z => V.str (S z)) ∧ fitsJ [10] news ∧ fs2 = putH fs n (TL.joinL [10] news)) ∨ (o4 ≠ none ∧ fs2 = fs))) hT7 (fun H9 eX T9 Qr hQ => ?_) (fun v H10 hc => ?_)
    · -- House.edit
      obtain ⟨dx, dt, dk, hh0, hd0, hdtx⟩ := hO
      have hh9 : H9 h = some (.ins CH dx (houF dt dk)) := eX _ _ (e17 _ _ hh0) (nots (.inr (.inr ⟨_, _, _, rfl⟩)))
      have hd9 : H9 dt = some (.dK (kvH fs)) := eX _ _ (e17 _ _ hd0) (nots (.inr (.inl ⟨_, rfl⟩)))
      have hp9 : H9 ph = some (.lst (more.map fun z => V.str (S z))) := eX _ _ hh7 (nots (.inl ⟨_, rfl⟩))
      have htx9 : H9 tx = some (.dK (kvH fs)) := eX _ _ (e17 _ _ htx) (nots (.inr (.inl ⟨_, rfl⟩)))
      have hlf : List.lookup (Str.ofString "edit") (houF dt dk) = none := rfl
      have hsz : SizH fs := ⟨by have := hfs.few; omega, fun p hp => ⟨by
        have := hfs.nm p hp
        unfold lettersOk at this
        rw [Bool.and_eq_true, Bool.and_eq_true] at this
        have := of_decide_eq_true this.1.2
        omega, by have := hfs.sh p hp; omega⟩⟩
      have hn6 : n.length ≤ 1000 := by
        unfold lettersOk at hln
        rw [Bool.and_eq_true, Bool.and_eq_true] at hln
        have := of_decide_eq_true hln.1.2
        omega
      have hsum : (more.map List.length).sum ≤ 4000 := by
        have := sum_rows more fun z hz => (hmr z hz).1
        omega
      have rowsM : (∀ z ∈ more, 10 ∉ z) → ∀ z ∈ more, RowOk z := fun h0 z hz => (hmr z hz).2 (h0 z hz)
      have good : ∀ r m : Nat, row = (r : Int) + 1 → many = (m : Int) → r + m ≤ olds.length → (∀ z ∈ more, 10 ∉ z) → bad = false ∧ gd = true ∧ NV = (editR olds more r m).map (fun z => V.str (S z)) := fun r m hr1 hm1 hrm hno => by
        refine ⟨?_, ?_, ?_⟩
        · rw [hbad]
          exact List.any_eq_false.mpr fun z hz => by simpa using hno z hz
        · rw [hgd, decide_eq_true (by omega), decide_eq_true (by omega), decide_eq_true (by omega), decide_eq_true (by omega)] <;> rfl
        · rw [← hNV, show row - 1 = ((r : Nat) : Int) by omega, show ((r : Nat) : Int) + many = ((r + m : Nat) : Int) by omega, cutV_to (by omega), cutV_from (by omega)]
          unfold editR
          rw [List.map_append, List.map_append, List.map_take, List.map_drop]
      -- a refusal
      have ref_ : ∀ {Dc : Addr} {j : Nat} {H2 : Hp}, ErrOk K CF CW CB CR CN CM Dc j → o4 = some (wordJ j) → Ex H9 H2 → ((none : Option Addr) = none ∧ ∃ (Dc' : Addr) (j' : Nat), Value.ref Dc = .ref Dc' ∧ ErrOk K CF CW CB CR CN CM Dc' j' ∧ ∀ p H3, H2 p = none → Ex H2 H3 → H3 p = some (.tup [.str (Str.ofString "refused"), .str (wordJ j')]) → Qr (.ref p) H3) := fun {Dc j H2} er ho e2 =>
        ⟨rfl, Dc, j, rfl, er, fun p H3 hp e3 h3 => hQ _ _ ⟨fs, fun b o nb nt hb => (e2.trans e3) _ _ (eX _ _ hb nt), T9.ext (e2.trans e3), by rw [ho]; exact ⟨p, rfl, h3⟩, ⟨dx, dt, dk, (e2.trans e3) _ _ hh9, (e2.trans e3) _ _ hd9, hdtx⟩, hfs, .inr ⟨(by rw [ho]; exact fun z => nomatch z), rfl⟩⟩⟩
      refine ⟨_, rfl, h, dx, houF dt dk, rfl, hh9, hlf, _, rfl, _, rfl, _, rfl, _, rfl, h, fs, n, row, many, ph, more, rfl, ⟨dx, dt, dk, hh9, hd9⟩, hsz, hn6, hp9, by omega, hsum, hnl, fun ho H2 e2 => ref_ eN ?_ e2, fun t olds' ht hol' => ⟨fun hbd H2 e2 => ref_ eR ?_ e2, fun r m hr1 hm1 hrm hno => ⟨fun ok H2 x2 o2h => ?_, fun nok H2 e2 => ref_ eB ?_ e2⟩⟩⟩
      · rw [ho4', if_neg (by rw [hisF, ho]; exact Bool.false_ne_true)] <;> rfl
      · have eo : olds' = olds := by rw [hol', hol, ht] <;> rfl
        subst eo
        rw [ho4', if_pos (by rw [hisF, ht] <;> rfl), ho3']
        cases hb : bad with
        | true => rw [if_pos rfl] <;> rfl
        | false =>
          rw [if_neg Bool.false_ne_true, ho2', if_neg ?_] <;> try rfl
          intro hg
          rcases hbd with hbd | ⟨z, hz, hz2⟩
          · rw [hgd, Bool.and_eq_true, Bool.and_eq_true, Bool.and_eq_true, decide_eq_true_eq, decide_eq_true_eq, decide_eq_true_eq, decide_eq_true_eq] at hg
            exact hbd ⟨hg.1.1, hg.1.2, hg.2.1, hg.2.2⟩
          · have : bad = true := by
              rw [hbad]
              exact List.any_eq_true.mpr ⟨z, hz, decide_eq_true hz2⟩
            rw [hb] at this
            cases this
      · have eo : olds' = olds := by rw [hol', hol, ht] <;> rfl
        subst eo
        obtain ⟨g1, g2, g3⟩ := good r m hr1 hm1 hrm hno
        have ok2 := ok
        rw [houseOk_rows hfs hln (editR_ok hO1.2 (rowsM hno)), Bool.and_eq_true] at ok2
        have l60 := of_decide_eq_true ok2.1
        have o4n : o4 = none := by
          rw [ho4', if_pos (by rw [hisF, ht] <;> rfl), ho3', g1, if_neg Bool.false_ne_true, ho2', g2, if_pos rfl, ho1', if_pos]
          exact decide_eq_true (by rw [g3, List.length_map]; omega)
        have sz := edit_size (olds := olds') (more := more) (r := r) (m := m) (by have := sum_rows olds' fun z hz => (hO1.2 z hz).1; omega) (by omega) hsum (by omega)
        refine hQ .non H2 ⟨_, fun b o nb nt hb => x2 b o nb (eX _ _ hb nt), tabs_keep T9 fun b o n1 _ _ hb => x2 b o (fun z => n1 _ _ _ (Option.some.inj ((z ▸ hb).symm.trans hh9))) hb, by rw [o4n] <;> rfl, (by
          obtain ⟨dx2, dt2, dk2, y1, y2, y3⟩ := o2h
          exact ⟨dx2, dt2, dk2, y1, y2, fun z => by rw [z, htx9] at y3; cases y3⟩), hfs.rows hln (editR_ok hO1.2 (rowsM hno)) ok, .inl ⟨o4n, _, g3, sz.1, rfl⟩⟩
      · have eo : olds' = olds := by rw [hol', hol, ht] <;> rfl
        subst eo
        obtain ⟨g1, g2, g3⟩ := good r m hr1 hm1 hrm hno
        rw [houseOk_rows hfs hln (editR_ok hO1.2 (rowsM hno)), ht] at nok
        have l60 : ¬ (editR olds' more r m).length ≤ 60 := fun z => by
          rw [decide_eq_true z] at nok
          cases nok
        rw [ho4', if_pos (by rw [hisF, ht] <;> rfl), ho3', g1, if_neg Bool.false_ne_true, ho2', g2, if_pos rfl, ho1', if_neg]
        · rfl
        · rw [decide_eq_true_eq, g3, List.length_map]
          omega
    · obtain ⟨fs2, kp, T10, hv10, hO10, hfs2, link⟩ := hc
      obtain ⟨dx, dt, dk, hh0, hd0, hdtx⟩ := hO
      have hh7' := e17 _ _ hh0
      have nph : ph ≠ h := ne_of hh7 hh7' (by intro z; cases z)
      have hph00 : H ph = none := fresh_back e16 hph0
      have hp10 := kp ph _ nph (nots (.inl ⟨_, rfl⟩)) hh7
      have hmp10 := kp mp _ (ne_of (e17 _ _ hmp) hh7' (by intro z; cases z)) (nots (.inl ⟨_, rfl⟩)) (e17 _ _ hmp)
      have hpn10 := kp pn _ (ne_of hpn7 hh7' (by intro z; cases z)) (nots (.inl ⟨_, rfl⟩)) hpn7
      have htx10 := kp tx _ (ne_of (e17 _ _ htx) hh7' (by intro z; cases z)) (nots (.inr (.inl ⟨_, rfl⟩))) (e17 _ _ htx)
      have hv410 : DueO H10 v4 o4 := hv7.go fun b u hu n1 n2 n3 => kp b u (fun z => n1 _ _ _ (Option.some.inj ((z ▸ hu).symm.trans hh7'))) n2 hu
      try dsimp only [List.set]
      have like : SpV (spLike K 6) ([v, v4] ++ []) H10 (.bl true) := fun H1 e Q q E => ⟨v, v4, dueD o4, rfl, Td.dp _ _ (hv10.ex e).td, Td.dp _ _ (hv410.ex e).td, by cases o4 <;> simp [dueD, PyData.depth, PyData.depthAll], by cases o4 <;> rfl, fun H2 e2 => q H2 e2⟩
      refine q_when (b := false) (et_is (et_or (et_test (ev_neTexts (K := K) (b := false) (ev_var rfl) (ev_var rfl) hp10 hmp10 hmlow hmlow (.inl ⟨rfl, rfl⟩))) fun _ => et_not (et_B (ev_call (ea_cons (ev_var rfl) (ea_cons (ev_var rfl) ea_nil)) like))) rfl) (fun z => by cases z) (fun _ H11 e11 => ?_)
      -- clear
      refine ⟨_, rfl, .inl ⟨rfl, _, sq_of (e11 _ _ hp10)⟩, ph, _, rfl, rfl, e11 _ _ hp10, ?_⟩
      have ntp : tx ≠ ph := fun z => by rw [z, hph00] at htx; cases htx
      have npp : pn ≠ ph := ne_of_none ((((e3.trans e4).trans e5).trans e6) _ _ hn2) hph0
      have k12 : ∀ b u, b ≠ ph → H10 b = some u → upd H11 ph (.lst []) b = some u := fun b u nb hu => by
        rw [upd_ne nb]
        exact e11 _ _ hu
      generalize upd H11 ph (.lst []) = H12 at k12 ⊢
      have htx12 := k12 tx _ ntp htx10
      have fin : ∀ H14, (∀ b u, b ≠ tx → H12 b = some u → H14 b = some u) → H14 tx = some (.dK (kvH fs2)) → Q (.bl true) H14 := fun H14 k14 htx14 => by
        refine q H14 fs2 (fun b o nb nt ntb hb => k14 b o nt (k12 b o (ne_of_none hb hph00) (kp b o nb ntb (e17 _ _ hb)))) ?_ htx14 hfs2 (tabs_keep T10 fun b o n1 n2 n3 hb => k14 b o (fun z => n2 _ (Option.some.inj ((z ▸ hb).symm.trans htx10))) (k12 b o (fun z => n3 _ (Option.some.inj ((z ▸ hb).symm.trans hp10))) hb))
        obtain ⟨dx2, dt2, dk2, y1, y2, y3⟩ := hO10
        exact ⟨dx2, dt2, dk2, k14 _ _ (ne_of y1 htx10 (by intro z; cases z)) (k12 _ _ nph.symm y1), k14 _ _ y3 (k12 _ _ (ne_of y2 hp10 (by intro z; cases z)) y2), y3⟩
      have hfew := hfs.few
      have lk1 : (kvH fs).length = fs.length := List.length_map ..
      rcases link with ⟨ho, news, hNVn, hfit, rfl⟩ | ⟨ho, rfl⟩
      · have hv : v4 = .non := by
          have z := hv410
          rw [ho] at z
          exact z
        subst hv
        have hnews12 : H12 pn = some (.lst (news.map fun z => V.str (S z))) := by
          rw [← hNVn]
          exact k12 pn _ npp hpn10
        refine s_upd (K := K) (ls := [((Sum.inr (S n) : Key), V.str (S (TL.joinL [10] news)))]) (ev_var rfl) htx12 (ek_if (b := true) (et_is (et_test (ev_op (z := .bl (decide ((V.non : V) = .non))) (ev_var rfl) ev_c fun H1 _ Q q => ⟨rfl, q H1 (Ex.refl H1)⟩)) rfl) (fun _ => ek_one (ev_var rfl) (es_joinV (sep := [10]) (ev_is ev_c (congrArg V.str (show Str.ofString "\n" = S [10] by decide +kernel))) (ev_var rfl) hnews12 hfit)) (fun z => by cases z)) (by rw [lk1]; show fs.length + 1 ≤ 100000; omega) fun p H13 hp hpd e13 => ?_
        rw [merge_one]
        exact fin _ (fun b u nb hu => by rw [upd_ne nb]; exact e13 _ _ hu) upd_same
      · obtain ⟨w, hw⟩ : ∃ w, o4 = some w := by
          cases o4 with
          | none => exact absurd rfl ho
          | some w => exact ⟨w, rfl⟩
        obtain ⟨t4, ht4, _⟩ : ∃ t4, v4 = .ref t4 ∧ True := by
          have z := hv410
          rw [hw] at z
          obtain ⟨t4, e, _⟩ := z
          exact ⟨t4, e, trivial⟩
        subst ht4
        refine s_upd (K := K) (ls := []) (ev_var rfl) htx12 (ek_if (b := false) (et_is (et_test (ev_op (z := .bl (decide ((V.ref t4 : V) = .non))) (ev_var rfl) ev_c fun H1 _ Q q => ⟨rfl, q H1 (Ex.refl H1)⟩)) rfl) (fun z => by cases z) (fun _ => ek_new)) (by rw [lk1]; show fs2.length + 0 ≤ 100000; omega) fun p H13 hp hpd e13 => ?_
        rw [merge_nil]
        exact fin _ (fun b u nb hu => by rw [upd_ne nb]; exact e13 _ _ hu) upd_same
end
end Wt

set_option Elab.async false
set_option linter.all false
set_option maxRecDepth 100000
set_option maxHeartbeats 4000000
namespace Wt
open PySem PySem.Spec PyProof.Rows L2 SX Evl
/-! For k19's law: a file taken out of the dict; the ten names. -/
theorem dropK_kvH (fs : Files) (n : List Nat) : dropK (kvH fs) (Sum.inr (S n) : Key) = kvH (dropH fs n) := by
  unfold dropK kvH dropH
  rw [List.filter_map]
  congr 1
  refine List.filter_congr fun p _ => ?_
  show decide ((Sum.inr (S p.1) : Key) ≠ Sum.inr (S n)) = !decide (p.1 = n)
  rw [← decide_not]
  exact decide_eq_decide.mpr (not_congr keyS)
theorem dropH_none {fs : Files} {n : List Nat} (h : lookH fs n = none) : dropH fs n = fs := by
  have z : (lookH fs n).isSome = false := by rw [h] <;> rfl
  rw [lookH_isSome, decide_eq_false_iff_not] at z
  unfold dropH
  refine List.filter_eq_self.mpr fun p hp => ?_
  rw [Bool.not_eq_true', decide_eq_false_iff_not]
  exact fun e => z (List.mem_map.mpr ⟨p, hp, e⟩)
/-- the law's ten names -/
def tenN : List (List Nat) := (List.range 10).map fun k => [97 + k]
theorem ten_ok : ∀ n ∈ tenN, lettersOk n = true := by decide
/-- d.pop(k, None) -/
theorem s_pop2 {K : PySem.W.Frag} {σ : L2.St} {H : Hp} {ta tb te : TE} {D : Ends} {d : Addr} {fs : Files} {n : List Nat} (ha : Ev ta σ H (.ref d)) (hk : Ev tb σ H (.str (S n))) (hz : Ev te σ H .non) (hd : H d = some (.dK (kvH fs)))
    (k : ∀ H1, (∀ b o, b ≠ d → H b = some o → H1 b = some o) → H1 d = some (.dK (kvH (dropH fs n))) → D.nx σ H1) : tDrop (tDPop2 ta tb te) D σ H := ha H (Ex.refl H) _ fun H1 e1 =>
  ⟨d, rfl, .inl ⟨kvH fs, .inl (e1 _ _ hd)⟩, hk H1 e1 _ fun H2 e2 => hz H2 (e1.trans e2) _ fun H3 e3 => by
    have e13 := (e1.trans e2).trans e3
    refine ⟨kvH fs, Sum.inr (S n), e13 _ _ hd, rfl, fun v hv => ?_, fun hv => ?_⟩
    · rw [dropK_kvH]
      exact k _ (fun b o nb hb => by rw [upd_ne nb]; exact e13 _ _ hb) upd_same
    · rw [valV_kvH, Option.map_eq_none_iff] at hv
      exact k _ (fun b o _ hb => e13 _ _ hb) (by rw [dropH_none hv]; exact e13 _ _ hd)⟩
end Wt

set_option Elab.async false
set_option linter.all false
set_option maxRecDepth 100000
set_option maxHeartbeats 4000000
namespace Wt
open PySem PySem.Spec PyProof.Rows L2 SX Evl
/-! For laws that call what may raise where nothing does; classes made without arguments; k19's menus. -/
theorem fn_calm {P : Program} {w : World} {K : PySem.W.Frag} {mg : Str → Option Value} {base : Heap} {k : Nat} {f : Addr} {fd : FuncData} {ps : List Str} {sp sp' : Sp} (F : FnOk P w K mg base (L2.CX P w) k f fd ps sp) (h : ∀ vs H Q E, sp' vs H Q E → sp vs H Q C8.E0) : FnOk P w K mg base C8.CX0 k f fd ps sp' := by
  refine ⟨fun vs H Q E q => F.len vs H Q _ (h _ _ _ _ q), fun A outer s H args us vs Q E hr he hb hv hs => codeAny_mono (F.run A outer s H args us vs Q C8.E0 hr he hb hv (h _ _ _ _ hs)) fun r s' hr' => ?_⟩
  cases r with
  | error e =>
    obtain ⟨_, _, _, _, _, _, _, _, _, _, _, _, hE⟩ := hr'
    exact hE.elim
  | ok fl => cases fl <;> exact hr'
theorem met_calm {P : Program} {w : World} {K : PySem.W.Frag} {mg : Str → Option Value} {base : Heap} {k : Nat} {C : Addr} {m : Str} {sp sp' : Sp} (c : MetX P w K mg base k C m sp) (h : ∀ vs H Q E, sp' vs H Q E → sp vs H Q C8.E0) : C8.Met P w K mg base k C m sp' [] := by
  obtain ⟨f, fd, ps, h1, h2, F, h3⟩ := c.ex
  exact ⟨f, fd, ps, [], h1, h2, fn_calm F h, h3, .nil⟩
theorem mak_calm {P : Program} {w : World} {K : PySem.W.Frag} {mg : Str → Option Value} {base : Heap} {k : Nat} {x : Str} {C : Addr} {sp sp' : Sp} (c : MakX P w K mg base k x C sp) (h : ∀ vs H Q E, sp' vs H Q E → sp vs H Q C8.E0) : C8.Mak P w K mg base k x C sp' [] := by
  obtain ⟨f, fd, ps, h1, F, h2, h3⟩ := c.ex
  exact ⟨f, fd, ps, [], h1, fn_calm F h, h2, h3, .nil⟩
theorem pe_mk0 {X : Cx} {k j : Nat} {C : Addr} {x : Str} {sp : Sp} {dvs : List V} {p pos : Pos} (c : C8.Mak X.prog X.w X.K X.mg X.base k x C sp dvs) (hr : Room j X.A) (hk : k + 1 ≤ j) (hg : Gl X x) (hdb : (x == ("__debug__" : Str)) = false := by decide) : PE X (.Call (.Name x p) [] [] pos) (tMake C sp dvs C8.E0 tNil) := by
  obtain ⟨f, fd, ps, ds, M, F, hm, b, d⟩ := c.ex
  exact pe_make0 M F (hr.mono hk) hg hm b d C8.pass0 hdb
section
variable {K : PySem.W.Frag} {σ : L2.St} {H : Hp} {ta tb te t1 t2 : TE} {t : TT} {D : Ends} {tz tu tw : TS}
theorem q_tupNN {i j : Nat} {P1 P2 : V → Prop} (h1 : EvN t1 σ H P1) (h2 : ∀ H1, Ex H H1 → EvN t2 σ H1 P2) (k : ∀ v w H1, P1 v → P2 w → Ex H H1 → tz D ((σ.set i (some v)).set j (some w)) H1) :
    tSeq (tAsg (tTup (tCons t1 (tCons t2 tNil))) (gTup K 2 (gCons (gName i) (gCons (gName j) gNil)))) tz D σ H :=
  h1 H (Ex.refl H) _ fun v H1 p1 e1 => h2 H1 e1 H1 (Ex.refl H1) _ fun w H2 p2 e2 => ⟨by show 2 ≤ sizeLine; decide, fun c hc => ⟨c, [v, w], rfl, st_of upd_same, rfl, v, [w], rfl, w, [], rfl, rfl, k v w _ p1 p2 ((e1.trans e2).trans (Ex.new hc))⟩⟩
/-- an if ahead of a rest that is told once -/
theorem q_ifK (M : List (Option V) → Hp → Prop) (k : ∀ σ' H', M σ' H' → tz D σ' H') (h : (∀ σ' H', M σ' H' → tz D σ' H') → tIfS t tu tw { D with nx := tz D } σ H) : tSeq (tIfS t tu tw) tz D σ H := h k
theorem s_ifN {b : Bool} (h : EvT t σ H b) (h1 : b = true → ∀ H1, Ex H H1 → tu D σ H1) (h2 : b = false → ∀ H1, Ex H H1 → tw D σ H1) : tIfS t tu tw D σ H := h H (Ex.refl H) _ fun H1 e => by
  cases b with
  | true =>
    rw [if_pos rfl]
    exact h1 rfl H1 e
  | false =>
    rw [if_neg Bool.false_ne_true]
    exact h2 rfl H1 e
end
section
variable {K : PySem.W.Frag} {σ : L2.St} {H : Hp} {ta tb te : TE}
theorem abc_S : Str.ofString "abcdefghij" = S ((List.range 10).map fun k => 97 + k) := by decide +kernel
/-- "abcdefghij"[e] -/
theorem en_file (hb : EvN tb σ H (fun v => ∃ z : Int, v = .int z ∧ 0 ≤ z ∧ z < 10)) : EvN (tOp rIxS (tC (.str (Str.ofString "abcdefghij"))) tb) σ H (fun v => ∃ n, n ∈ tenN ∧ v = .str (S n)) := by
  rw [abc_S]
  refine en_opV (EvN.of ev_c) (fun _ _ => hb) ?_
  rintro x y rfl ⟨z, rfl, z0, z1⟩
  obtain ⟨k, rfl⟩ : ∃ k : Nat, z = (k : Int) := ⟨z.toNat, by omega⟩
  have hk : k < 10 := by omega
  exact ⟨.str (S [97 + k]), ⟨[97 + k], List.mem_map.mpr ⟨k, List.mem_range.mpr hk, rfl⟩, rfl⟩, rv_at (by decide) (by rw [List.getElem?_map, List.getElem?_range hk] <;> rfl)⟩
theorem en_ixW2 {xs : List V} (ha : EvL ta σ H xs) (hb : EvN tb σ H (fun v => ∃ z : Int, v = .int z ∧ 0 ≤ z ∧ z < (xs.length : Int))) : EvN (tOp (rIxL K) ta tb) σ H (fun v => v ∈ xs) :=
  en_ixNL (n := xs.length) (EvNL.of ha) hb (fun l h => by rw [h]; exact ⟨rfl, fun v h => h⟩)
/-- e // k, at most 1 -/
theorem en_div {m k : Int} (h : EvN te σ H (fun v => ∃ z : Int, v = .int z ∧ 0 ≤ z ∧ z < m)) (hk : 0 < k ∧ k < 1073741824) (hm : m ≤ k + k) : EvN (tOp (rI CDiv fun i j => .int (i / j)) te (tC (.int k))) σ H (fun v => ∃ z : Int, v = .int z ∧ 0 ≤ z ∧ z < 2) := by
  refine en_opV h (fun _ _ => EvN.of ev_c) ?_
  rintro x y ⟨z, rfl, z0, z1⟩ rfl
  refine ⟨.int (z / k), ⟨_, rfl, Int.ediv_nonneg z0 (by omega), ?_⟩, rv_I hk⟩
  exact Int.ediv_lt_of_lt_mul hk.1 (by omega)
theorem en_bnd {m n : Int} (h : EvN te σ H (fun v => ∃ z : Int, v = .int z ∧ 0 ≤ z ∧ z < m)) (e : m = n) : EvN te σ H (fun v => ∃ z : Int, v = .int z ∧ 0 ≤ z ∧ z < n) := e ▸ h
end
def menu5 : List (List Nat) := [[], [99, 111, 110, 115, 116, 32, 97, 32, 61, 32, 49], [35, 32, 120], [122, 122], [32]]
theorem menu5_ok : ∀ z ∈ menu5, RowOk z ∧ z.all (fun c => decide (c < 128)) = true := by
  have all : ∀ z ∈ menu5, (decide (z.length ≤ 11) && decide (10 ∉ z) && z.all signOk && z.all (fun c => decide (c < 128))) = true := by decide
  intro z hz
  have h := all z hz
  simp only [Bool.and_eq_true, decide_eq_true_eq] at h
  exact ⟨⟨h.1.1.1, h.1.1.2, h.1.2⟩, h.2⟩
theorem strs_of {ts : List (List Nat)} : ∀ xs : List V, (∀ x ∈ xs, x ∈ ts.map fun z => V.str (S z)) → ∃ ps : List (List Nat), xs = ps.map (fun z => V.str (S z)) ∧ ∀ p ∈ ps, p ∈ ts
  | [], _ => ⟨[], rfl, fun _ h => by cases h⟩
  | x :: xs, h => by
    obtain ⟨ps, h1, h2⟩ := strs_of xs fun y hy => h y (List.mem_cons_of_mem _ hy)
    obtain ⟨p, hp, rfl⟩ := List.mem_map.mp (h x (List.mem_cons_self ..))
    exact ⟨p :: ps, by rw [h1] <;> rfl, fun q hq => by
      rcases List.mem_cons.mp hq with rfl | hq
      · exact hp
      · exact h2 q hq⟩
/-- the law's dice, House, dict, tables -/
structure InvF (K : PySem.W.Frag) (T : List (Addr × Str)) (CH h tx d a : Addr) (ns : List Int) (fs : Files) (H : Hp) : Prop where
  dc : Dc K H d a ns
  ho : HouT H CH h tx fs
  tx : H tx = some (.dK (kvH fs))
  ok : FsOk fs
  tb : LamX.Tabs T H
section
variable {K : PySem.W.Frag} {T : List (Addr × Str)} {CH h tx d a : Addr} {ns : List Int} {fs fs2 : Files} {H H2 : Hp}
theorem HouT.ex (o : HouT H CH h tx fs) (e : Ex H H2) : HouT H2 CH h tx fs := by
  obtain ⟨dx, dt, dk, h1, h2, h3⟩ := o
  exact ⟨dx, dt, dk, e _ _ h1, e _ _ h2, h3⟩
theorem InvF.ex (i : InvF K T CH h tx d a ns fs H) (e : Ex H H2) : InvF K T CH h tx d a ns fs H2 := ⟨i.dc.ex e, i.ho.ex e, e _ _ i.tx, i.ok, i.tb.ext e⟩
theorem dice_no {ps : Array Value} {d a : Addr} : DiceO d a ≠ .tbl ps := fun z => by
  unfold DiceO at z
  cases z
theorem InvF.keep (i : InvF K T CH h tx d a ns fs H) (k : KeepE h tx H H2) (o : HouT H2 CH h tx fs2) (t : H2 tx = some (.dK (kvH fs2))) (f : FsOk fs2) (b : LamX.Tabs T H2) : InvF K T CH h tx d a ns fs2 H2 := by
  obtain ⟨dx, dt, dk, h1, h2, h3⟩ := i.ho
  have nh : ∀ b o, H b = some o → (∀ C x fs, o ≠ .ins C x fs) → b ≠ h := fun b o hb hn z => hn _ _ _ (Option.some.inj ((z ▸ hb).symm.trans h1))
  have nt : ∀ b o, H b = some o → (∀ kvs, o ≠ .dK kvs) → b ≠ tx := fun b o hb hn z => hn _ (Option.some.inj ((z ▸ hb).symm.trans i.tx))
  refine ⟨⟨?_, i.dc.s.fx fun b o u hb => ?_⟩, o, t, f, b⟩
  · refine k d _ (nh d _ i.dc.o fun _ _ _ z => ?_) (nt d _ i.dc.o fun _ z => ?_) (fun ps => dice_no) i.dc.o <;> · unfold DiceO at z; cases z
  · exact k b _ (nh b _ hb fun _ _ _ z => by cases z) (nt b _ hb fun _ z => by cases z) (fun ps z => by cases z) hb
theorem InvF.extN (i : InvF K T CH h tx d a ns fs H) (e : LamX.ExtN H H2) (b : LamX.Tabs T H2) : InvF K T CH h tx d a ns fs H2 := by
  have ho := i.ho
  obtain ⟨dx, dt, dk, h1, h2, h3⟩ := ho
  exact i.keep (fun b o _ _ n hb => e b o hb n) ⟨dx, dt, dk, e _ _ h1 (fun _ z => by cases z), e _ _ h2 (fun _ z => by cases z), h3⟩ (e _ _ i.tx fun _ z => by cases z) i.ok b
theorem InvF.siz (i : InvF K T CH h tx d a ns fs H) : SizH fs := ⟨by have := i.ok.few; omega, fun p hp => ⟨by
  have := i.ok.nm p hp
  unfold lettersOk at this
  rw [Bool.and_eq_true, Bool.and_eq_true] at this
  have := of_decide_eq_true this.1.2
  omega, by have := i.ok.sh p hp; omega⟩⟩
theorem letters6 {n : List Nat} (h : lettersOk n = true) : n.length ≤ 6 := by
  unfold lettersOk at h
  rw [Bool.and_eq_true, Bool.and_eq_true] at h
  exact of_decide_eq_true h.1.2
end
/-- what a House's method does to the heap: all but the House and the tables stays -/
def KeepH (h : Addr) (H H2 : Hp) : Prop := ∀ b o, b ≠ h → (∀ ps, o ≠ .tbl ps) → H b = some o → H2 b = some o
theorem KeepH.e {h tx : Addr} {H H2 : Hp} (k : KeepH h H H2) : KeepE h tx H H2 := fun b o n _ nt hb => k b o n nt hb
section
variable {K : PySem.W.Frag} {T : List (Addr × Str)} {CH h tx d a : Addr} {ns : List Int} {fs fs2 : Files} {H H2 : Hp} {σ : L2.St} {te : TE} {D : Ends} {tz tu : TS}
theorem low_name {n : List Nat} (h : lettersOk n = true) : n.all (fun c => decide (c < 128)) = true := by
  unfold lettersOk at h
  rw [Bool.and_eq_true] at h
  have all : ∀ c ∈ letters, c < 128 := by decide
  refine List.all_eq_true.mpr fun c hc => decide_eq_true (all c ?_)
  exact of_decide_eq_true (List.all_eq_true.mp h.2 c hc)
theorem low_sign {t : List Nat} (h : t.all signOk = true) : t.all (fun c => decide (c < 128)) = true := by
  refine List.all_eq_true.mpr fun c hc => decide_eq_true ?_
  have := List.all_eq_true.mp h c hc
  unfold signOk at this
  simp only [Bool.or_eq_true, Bool.and_eq_true, decide_eq_true_eq] at this
  rcases this with h | ⟨⟨_, h⟩, _⟩ <;> omega
/-- for c in text -/
theorem q_forStr {l : List Nat} {j : Nat} (h : Ev te σ H (.str (S l))) (Pv : Nat → L2.St → Hp → Prop) (h0 : ∀ H1, Ex H H1 → Pv 0 σ H1)
    (hs : ∀ i c σ' H', l[i]? = some c → Pv i σ' H' → tu { D with nx := Pv (i + 1), ct := Pv (i + 1), bk := tz D } (σ'.set j (some (.str (S [c])))) H') (hd : ∀ σ' H', Pv l.length σ' H' → tz D σ' H') :
    tSeq (tFor (iStr te) (gName j) tu) tz D σ H := h H (Ex.refl H) _ fun H1 e1 => ⟨S l, rfl, by
  have hsz : (S l).cps.size = l.length := by simp [S]
  refine for_it (D := { D with nx := tz D }) (walk_str (z := S l)) Pv (h0 H1 e1) (fun _ _ _ _ _ => trivial) ?_ (fun σ' H' p => hd σ' H' (hsz ▸ p))
  rintro i v σ' H2 H3 hi p ⟨rfl, c, hc, rfl⟩
  have hc2 : l[i]? = some c := by
    have : (S l).cps.toList[i]? = some c := by rw [Array.getElem?_toList]; exact hc
    rw [S_list] at this
    exact this
  exact hs i c σ' H3 hc2 p⟩
/-- house.all_files() != sorted(texts) -/
theorem ev_filesNe {i j : Nat} (iv : InvF K T CH h tx d a ns fs H) (h1 : σ[i]? = some (some (.ref h))) (h2 : σ[j]? = some (some (.ref tx))) :
    Ev (tOp (rNeD K) (tMeth CH "all_files" (spAllF CH) [] C8.E0 (tVar i) tNil) (tCB (fun xs H Q => ∃ (a : Addr) (kvs : List (Key × V)) (ks : List Str), xs = [.ref a] ∧ Rd H a (.dK kvs) ∧ kvs.map (·.1) = ks.map Sum.inr ∧ ks.length < 64 ∧ ∀ ys p, ys.Perm ks → sortedS ys = true → H p = none → Q (.ref p) (upd H p (.lst (ys.map V.str)))) (tCons (tVar j) tNil))) σ H (.bl false) := fun H1 e Q q => by
  have iv1 := iv.ex e
  obtain ⟨dx, dt, dk, y1, y2, y3⟩ := iv1.ho
  have few := iv.ok.few
  have l64 : fs.length < 64 := by omega
  refine ⟨_, h1, h, dx, houF dt dk, rfl, y1, rfl, h, fs, rfl, ⟨dx, dt, dk, y1, y2⟩, l64, fun ys p H2 hperm hsort e2 hp0 hp => ⟨_, h2, tx, kvH fs, fs.map (fun p => S p.1), rfl, .inl (e2 _ _ iv1.tx), ?_, by rw [List.length_map]; exact l64, fun zs p2 hperm2 hsort2 hp2 => ?_⟩⟩
  · unfold kvH
    rw [List.map_map, List.map_map] <;> rfl
  · have eyz : ys = zs := sortedS_one (hperm.trans hperm2.symm) hsort hsort2
    subst eyz
    obtain ⟨nms, hn⟩ : ∃ nms : List (List Nat), nms = ys.map fun y => y.cps.toList := ⟨_, rfl⟩
    have ey : ys = nms.map S := by
      rw [hn, List.map_map]
      refine (List.map_id'' (fun y => S_tl y) ys).symm
    have hlow : LowS nms := fun z hz => by
      rw [hn] at hz
      obtain ⟨y, hy, rfl⟩ := List.mem_map.mp hz
      obtain ⟨p, hp, rfl⟩ := List.mem_map.mp (hperm.subset hy)
      rw [S_list]
      exact low_name (iv.ok.nm p hp)
    have ev : ys.map V.str = nms.map fun z => V.str (S z) := by rw [ey, List.map_map] <;> rfl
    rw [ev] at hp ⊢
    have e3 := Ex.new (o := HO.lst (nms.map fun z => V.str (S z))) hp2
    refine ⟨.list (nms.map fun z => PyData.str (S z)), .list (nms.map fun z => PyData.str (S z)), .lst (sq_of (e3 _ _ hp)) (dp_strs nms), .lst (sq_of upd_same) (dp_strs nms), shaped_strs nms hlow, shaped_strs nms hlow, ?_⟩
    rw [SeqAt.eqv_refl _ (SeqAt.canLay_of_shaped (shaped_strs nms hlow))]
    exact q _ (e2.trans e3)
/-- like(found, due), both what is due -/
theorem like_due {v w : V} {o : Option Str} (h1 : DueO H v o) (h2 : DueO H w o) : SpV (spLike K 6) ([v, w] ++ []) H (.bl true) := fun H1 e Q q E => ⟨v, w, dueD o, rfl, Td.dp _ _ (h1.ex e).td, Td.dp _ _ (h2.ex e).td, by cases o <;> simp [dueD, PyData.depth, PyData.depthAll], by cases o <;> rfl, fun H2 e2 => q H2 e2⟩
/-- what text(name) is to tell -/
def TextD (H : Hp) (fs : Files) (n : List Nat) (v : V) : Prop := match lookH fs n with
  | some t => v = .str (S t)
  | none => ∃ p, v = .ref p ∧ H p = some (.tup [.str (Str.ofString "refused"), .str (Str.ofString "file")])
def textP (fs : Files) (n : List Nat) : PyData := match lookH fs n with
  | some t => .str (S t)
  | none => .tuple [.str (Str.ofString "refused"), .str (Str.ofString "file")]
theorem TextD.dp {n : List Nat} {v : V} (h : TextD H fs n v) : Dp K H v (textP fs n) := by
  unfold TextD at h
  unfold textP
  cases ho : lookH fs n with
  | some t =>
    rw [ho] at h
    have h : v = .str (S t) := h
    subst h
    exact .str _
  | none =>
    rw [ho] at h
    obtain ⟨p, rfl, hp⟩ := h
    exact .tup (st_of hp) (.cons (.str _) (.cons (.str _) .nil))
theorem TextD.ex {n : List Nat} {v : V} (h : TextD H fs n v) (e : Ex H H2) : TextD H2 fs n v := by
  unfold TextD at h ⊢
  cases ho : lookH fs n with
  | some t =>
    rw [ho] at h
    exact h
  | none =>
    rw [ho] at h
    obtain ⟨p, rfl, hp⟩ := h
    exact ⟨p, rfl, e _ _ hp⟩
theorem TextD.extN {n : List Nat} {v : V} (h : TextD H fs n v) (e : LamX.ExtN H H2) : TextD H2 fs n v := by
  unfold TextD at h ⊢
  cases ho : lookH fs n with
  | some t =>
    rw [ho] at h
    exact h
  | none =>
    rw [ho] at h
    obtain ⟨p, rfl, hp⟩ := h
    exact ⟨p, rfl, e _ _ hp fun _ z => by cases z⟩
theorem textP_shaped (ok : FsOk fs) (n : List Nat) : SeqAt.shaped (textP fs n) = true := by
  unfold textP
  cases ho : lookH fs n with
  | some t =>
    have h1 := ok.tx _ (lookH_mem ho)
    unfold textOk at h1
    rw [Bool.and_eq_true] at h1
    unfold SeqAt.shaped
    rw [Bool.and_eq_true]
    refine ⟨?_, by simp [PyData.depth]⟩
    simp [PyData.canLay0, low_ok (low_sign h1.2)]
  | none => exact (by decide +kernel : SeqAt.shaped (PyData.tuple [.str (Str.ofString "refused"), .str (Str.ofString "file")]) = true)
end

section
variable {K : PySem.W.Frag} {T : List (Addr × Str)} {CH h tx d a : Addr} {ns : List Int} {fs fs2 : Files} {H H2 H9 H10 H11 : Hp} {σ : L2.St} {te ta tb : TE} {D : Ends} {tz tu : TS} {n : List Nat}
/-- file in texts -/
theorem ev_inF {i j : Nat} (hx : H tx = some (.dK (kvH fs))) (h1 : σ[i]? = some (some (.str (S n)))) (h2 : σ[j]? = some (some (.ref tx))) : Ev (tDIn (tVar i) (tVar j)) σ H (.bl (lookH fs n).isSome) := fun H6 e6 Q q6 =>
  ev_var h1 H6 (Ex.refl _) _ fun H7 e7 => ev_var h2 H7 (Ex.refl _) _ fun H8 e8 => ⟨tx, _, rfl, .inl ⟨_, _, .inl ((e6.trans (e7.trans e8)) _ _ hx), rfl, rfl⟩, by
    rw [valV_kvH, Option.isSome_map]
    exact q6 H8 (e7.trans e8)⟩
def TextE (te : TE) (σ : L2.St) (H : Hp) (fs : Files) (n : List Nat) : Prop := ∀ H1, Ex H H1 → ∀ Q : VK, (∀ v H2, Ex H1 H2 → TextD H2 fs n v → Q v H2) → te σ H1 Q
theorem text_if {t : TT} {b : Bool} (h : EvT t σ H b) (h1 : b = true → TextE ta σ H fs n) (h2 : b = false → TextE tb σ H fs n) : TextE (tIf t ta tb) σ H fs n := fun H1 e Q q => h H1 e _ fun H2 e2 => by
  cases b with
  | true => exact h1 rfl H2 (e.trans e2) Q fun v H3 e3 hv => q v H3 (e2.trans e3) hv
  | false => exact h2 rfl H2 (e.trans e2) Q fun v H3 e3 hv => q v H3 (e2.trans e3) hv
/-- x = texts[name] if name in texts else ("refused", "file") -/
theorem q_asgText {k i j : Nat} (hx : H tx = some (.dK (kvH fs))) (h1 : σ[i]? = some (some (.str (S n)))) (h2 : σ[j]? = some (some (.ref tx))) (kk : ∀ v H1, Ex H H1 → TextD H1 fs n v → tz D (σ.set k (some v)) H1) :
    tSeq (tAsg (tIf (tB (tDIn (tVar i) (tVar j))) (tDGet (tVar j) (tVar i)) (tTup (tCons (tC (.str (Str.ofString "refused"))) (tCons (tC (.str (Str.ofString "file"))) tNil)))) (gName k)) tz D σ H :=
  (show TextE _ σ H fs n from text_if (et_B (ev_inF hx h1 h2)) (fun hb H1 e1 Q q => by
    obtain ⟨t, ho⟩ := Option.isSome_iff_exists.mp hb
    exact ev_var h2 H1 (Ex.refl _) _ fun H2 e2 => ev_var h1 H2 (Ex.refl _) _ fun H3 e3 => ⟨tx, _, rfl, .inl ⟨_, _, .inl ((e1.trans (e2.trans e3)) _ _ hx), rfl, by rw [valV_kvH, ho] <;> rfl⟩, q (.str (S t)) H3 (e2.trans e3) (by unfold TextD; rw [ho])⟩) (fun hb H1 e1 Q q => by
    have ho : lookH fs n = none := by
      cases h : lookH fs n with
      | none => rfl
      | some t => rw [h] at hb; cases hb
    exact eu_tup (ea_cons ev_c (ea_cons ev_c ea_nil)) (by show 2 ≤ 100000; decide) H1 (Ex.refl _) _ fun p H2 _ e2 h2 => q _ H2 e2 (by unfold TextD; rw [ho]; exact ⟨p, rfl, h2⟩))) H (Ex.refl H) _ fun v H1 e1 hv => kk v H1 e1 hv
/-- if told(lambda ..) != x: .., where they are the same -/
theorem s_neTold {TT : (XK → Hp → VK → Prop) → Hp → VK → Prop} {t : XK → TE} {j : Nat} {v : V} {x : PyData} (Cond : Hp → Prop) (hT : LamX.Tabs T H) (hs : σ[j]? = some (some v)) (sh : SeqAt.shaped x = true)
    (h1 : ∀ H9, LamX.ExtN H H9 → LamX.Tabs T H9 → ∀ Qr : VK, (∀ v2 H10, Dp K H10 v2 x → Dp K H10 v x → Cond H10 → Qr v2 H10) → TT (fun E H' Q' => t E σ H' Q') H9 Qr) (h2 : ∀ H10, Cond H10 → D.nx σ H10) :
    tIfS (tTest (tOp (rNeD K) (LamX.tLam T TT t) (tVar j))) tu tNext D σ H := ⟨hT, fun H9 e T9 => h1 H9 e T9 _ fun v2 H10 d1 d2 c => ⟨v, hs, x, x, d1, d2, sh, sh, by
  rw [SeqAt.eqv_refl _ (SeqAt.canLay_of_shaped sh)]
  exact ⟨false, rfl, h2 H10 c⟩⟩⟩
/-- house.all_files().append(x) -/
theorem s_appFiles {i : Nat} {y : V} (iv : InvF K T CH h tx d a ns fs H) (h1 : σ[i]? = some (some (.ref h))) (kk : ∀ H1, Ex H H1 → D.nx σ H1) : tDrop (tBM K "list" rAppend (tMeth CH "all_files" (spAllF CH) [] C8.E0 (tVar i) tNil) (tCons (tC y) tNil)) D σ H := by
  obtain ⟨dx, dt, dk, y1, y2, y3⟩ := iv.ho
  have few := iv.ok.few
  have l64 : fs.length < 64 := by omega
  refine ⟨_, h1, h, dx, houF dt dk, rfl, y1, rfl, h, fs, rfl, ⟨dx, dt, dk, y1, y2⟩, l64, fun ys p H2 hperm hsort e2 hp0 hp => ⟨.inl ⟨rfl, _, sq_of hp⟩, ev_c H2 (Ex.refl _) _ fun H3 e3 => ⟨p, _, y, rfl, rfl, e3 _ _ hp, sz_lt ?_, kk _ ((e2.trans e3).mut hp0)⟩⟩⟩
  have := hperm.length_eq
  rw [List.length_map] at this ⊢
  omega
theorem told_new (i : InvF K T CH h tx d a ns fs H) (eX : LamX.ExtN H H9) (T9 : LamX.Tabs T H9) (x : Exo h H9 H2) (o : HouN H9 H2 CH h fs2) : KeepH h H H2 ∧ LamX.Tabs T H2 ∧ HouT H2 CH h tx fs2 := by
  obtain ⟨dx, dt, dk, h1, h2, h3⟩ := (i.extN eX T9).ho
  have htx9 := (i.extN eX T9).tx
  refine ⟨fun b o nb nt hb => x b o nb (eX b o hb nt), tabs_keep T9 fun b o n1 _ _ hb => x b o (fun z => n1 _ _ _ (Option.some.inj ((z ▸ hb).symm.trans h1))) hb, ?_⟩
  obtain ⟨dx2, dt2, dk2, y1, y2, y3⟩ := o
  exact ⟨dx2, dt2, dk2, y1, y2, fun z => by rw [z, htx9] at y3; cases y3⟩
theorem told_same (i : InvF K T CH h tx d a ns fs H) (eX : LamX.ExtN H H9) (T9 : LamX.Tabs T H9) (e : Ex H9 H2) : KeepH h H H2 ∧ LamX.Tabs T H2 ∧ HouT H2 CH h tx fs :=
  ⟨fun b o nb nt hb => e b o (eX b o hb nt), T9.ext e, (i.extN eX T9).ho.ex e⟩
theorem InvF.after (i : InvF K T CH h tx d a ns fs H) (k : KeepH h H H10) (T10 : LamX.Tabs T H10) (o10 : HouT H10 CH h tx fs2) (ok : FsOk fs2) (u : ∀ b o, b ≠ tx → H10 b = some o → H11 b = some o) (t : H11 tx = some (.dK (kvH fs2))) : InvF K T CH h tx d a ns fs2 H11 := by
  obtain ⟨dx0, dt0, dk0, h1, h2, h3⟩ := i.ho
  have nth : tx ≠ h := ne_of i.tx h1 (by intro z; cases z)
  have htx10 : H10 tx = some (.dK (kvH fs)) := k tx _ nth (fun _ z => by cases z) i.tx
  refine i.keep (fun b o n1 n2 nt hb => u b o n2 (k b o n1 nt hb)) ?_ t ok (tabs_keep T10 fun b o _ n2 _ hb => u b o (fun z => n2 _ (Option.some.inj ((z ▸ hb).symm.trans htx10))) hb)
  obtain ⟨dx, dt, dk, y1, y2, y3⟩ := o10
  exact ⟨dx, dt, dk, u _ _ (ne_of y1 htx10 (by intro z; cases z)) y1, u _ _ y3 y2, y3⟩
theorem DueO.keepH {v : V} {o : Option Str} (q : DueO H v o) (i : InvF K T CH h tx d a ns fs H) (k : KeepH h H H10) : DueO H10 v o := by
  obtain ⟨dx0, dt0, dk0, h1, h2, h3⟩ := i.ho
  exact q.go fun b u hb n1 n2 n3 => k b u (fun z => n1 _ _ _ (Option.some.inj ((z ▸ hb).symm.trans h1))) n2 hb
theorem DueO.upT {v : V} {o : Option Str} {kvs : List (Key × V)} (q : DueO H10 v o) (t : H10 tx = some (.dK kvs)) (u : ∀ b o, b ≠ tx → H10 b = some o → H11 b = some o) : DueO H11 v o :=
  q.go fun b w hb _ _ n3 => u b w (fun z => n3 _ (Option.some.inj ((z ▸ hb).symm.trans t))) hb
theorem en_catL2 {l : Addr} {xs : List V} {L : List V → Prop} {m : Nat} (ha : Ev ta σ H (.ref l)) (hl : H l = some (.lst xs)) (hb : EvNL tb σ H L) (hn : ∀ ys, L ys → ys.length ≤ m) (hz : xs.length + m ≤ 100000) : EvNL (tOp rCat ta tb) σ H (fun ys => ∃ zs, L zs ∧ ys = xs ++ zs) := fun H1 e Q q =>
  ha H1 e _ fun H2 e2 => hb H2 (e.trans e2) _ fun p H3 zs hL hp e3 h3 => ⟨l, p, xs, zs, rfl, rfl, (e2.trans e3) l _ (e l _ hl), h3, sz_of (by have := hn zs hL; omega), fun c hc => q c _ _ ⟨zs, hL, rfl⟩ (fresh_back (e2.trans e3) hc) ((e2.trans e3).trans (Ex.new hc)) upd_same⟩
/-- if not f(..): .., where f tells True -/
theorem s_unless {sp : Sp} {E : XK} {tr : TA} {vs : List V} (h0 : EvA tr σ H vs) (k : ∀ H1, Ex H H1 → ∀ Q : VK, (∀ H2, D.nx σ H2 → Q (.bl true) H2) → sp (vs ++ []) H1 Q E) : tIfS (tNot (tB (tCall sp [] E tr))) tu tNext D σ H := h0 H (Ex.refl H) _ fun H1 e1 => k H1 e1 _ fun H2 m => ⟨true, rfl, m⟩
/-- int(e == 0) -/
theorem en_int0 {m : Int} (h : EvN te σ H (fun v => ∃ z : Int, v = .int z ∧ 0 ≤ z ∧ z < m)) : EvN (tCB (fun xs H Q => (∃ i, xs = [V.int i] ∧ Q (.int i) H) ∨ ∃ k, xs = [V.bl k] ∧ Q (.int (if k = true then 1 else 0)) H) (tCons (tOp rEq te (tC (.int 0))) tNil)) σ H (fun v => ∃ z : Int, v = .int z ∧ 0 ≤ z ∧ z < ((2 : Nat) : Int)) := fun H1 e Q q =>
  h H1 e _ fun v H2 hv e2 => by
    obtain ⟨z, rfl, _⟩ := hv
    refine ⟨rfl, .inr ⟨_, rfl, q _ H2 ⟨_, rfl, ?_, ?_⟩ e2⟩⟩ <;> · cases decide (V.int z = V.int 0) <;> decide
end
end Wt

set_option Elab.async false
set_option linter.all false
set_option maxRecDepth 100000
set_option maxHeartbeats 4000000
namespace Wt
open PySem PySem.Spec PyProof.Rows L2 SX Evl
open C8 (Def Cal cal0 fnScope_by fnScope)
/-! k19: the law. -/
abbrev s_law : Stmt := topS 31
theorem sc_law : FnScope ["_law_script", "_law_d", "_law_texts", "_law_turn", "_law_way", "_law_size", "_law_rows", "_law_good", "_law_due", "_law_found", "_law_olds", "_law_row", "_law_many", "_law_more", "_law_file", "_law_house", "_law_other", "_law_text", "_law_k"] ["_law_script"] (fnScope s_law) := fnScope_by (by decide +kernel)
def qualL : Str := (envOfC "law" (fnScope s_law) 0 0 .none).qual ++ "<lambda>"
def spLawF (K : PySem.W.Frag) (T : List (Addr × Str)) : Sp := fun vs H Q _ => ∃ (a : Addr) (ns : List Int), vs = [.ref a] ∧ Scr K H a ns ∧ LamX.Tabs T H ∧ ∀ H', Q (.bl true) H'
section
variable {P : Program} {w : World} {K : PySem.W.Frag} {mg : Str → Option Value} {base : Heap} {CH CF CW CB CR CN CM : Addr}
theorem ok_law (TML : ModsL K mg) (m_sorted : mg "sorted" = none) (TT0 : ModsTo mg CF CW CB CR CN CM) {T : List (Addr × Str)} {c Pt : Addr} {k : Nat} (hk : 6 ≤ k)
    (c__law_dice : Cal P w K mg base 1 "_law_dice" (spDice K) []) (c__law_next : Cal P w K mg base 1 "_law_next" (spNext K) []) (c__law_pick : Cal P w K mg base 2 "_law_pick" (spPick K) []) (c__law_like : Cal P w K mg base 6 "_law_like" (spLike K 6) [])
    (c_House : C8.Mak P w K mg base 1 "House" CH (spHInit CH) []) (c_House_all_files : C8.Met P w K mg base 1 CH "all_files" (spAllF CH) []) (c_lay : MetX P w K mg base 4 CH "lay" (spLay CH CB)) (c_drop : MetX P w K mg base 2 CH "drop" (spDrop CH CN)) (c_text : MetX P w K mg base 1 CH "text" (spText1 CH CN)) (c__law_edited : Cal P w K mg base 8 "_law_edited" (spEdited CH T) [])
    (eB : ErrOk K CF CW CB CR CN CM CB 0) (eN : ErrOk K CF CW CB CR CN CM CN 2) {ft : Addr} {fdt : FuncData} (D_told : Def K mg "_law_told" s__law_told ft fdt) (b_told : Binds K fdt ["_law_work"] [])
    {f : Addr} {oc dV kV doc pm ct : Value} {od an : Option Addr} {osl : Array (Option Value)} (lk : K.lookup f = some ⟨oc, od, .func (PySem.W.fnOf "law" "law" (C8.fnArgs s_law) (C8.fnBody s_law) (fnScope s_law) dV kV doc pm an (.ref c) ct), osl⟩) (hcd : PySem.W.codeIn K (.ref c) "law" = true)
    (TB : LamX.TabB base mg c Pt) (hmT : (Pt, qualL) ∈ T) (huT : ∀ p ∈ T, p.1 = Pt → p.2 = qualL) : FnOk P w K mg base C8.CX0 (k + 3) f (PySem.W.fnOf "law" "law" (C8.fnArgs s_law) (C8.fnBody s_law) (fnScope s_law) dV kV doc pm an (.ref c) ct) ["_law_script"] (spLawF K T) := by
  refine fn_of lk hcd sc_law (fun vs H Q E h => ?_) (fun A outer s H vs Q E hr h => ?_)
  · obtain ⟨_, _, rfl, _⟩ := h
    rfl
  · obtain ⟨a, ns, rfl, hS, hT0, q⟩ := h
    have hu := hu_of hr
    have hu64 := hr.units
    have m_len := TML.m_len
    have m_int := TML.m_int
    have m_range := TML.m_range
    refine ⟨_, PSs.nox (pss_cons (ps_set (i := 1) sc_law.nd rfl (.inr rfl) (C8.pe_c c__law_dice hr (by first | decide | exact Nat.le_refl _ | omega) (by rfl) (pa_cons (pv 0) pa_nil)))
      (pss_cons (ps_asg (pe_tup (pa_cons (pe_mk0 c_House hr (by omega) (by rfl)) (pa_cons pe_dnewK pa_nil))) (pg_tup rfl (pgs_cons (pg_name (i := 15) sc_law.nd rfl (.inr rfl)) (pgs_cons (pg_name (i := 2) sc_law.nd rfl (.inl rfl)) pgs_nil))))
      (pss_cons (ps_for PassesOwn.never rfl (pi_range1 (by rfl) m_range (pa_cons (C8.pe_c c__law_next hr (by first | decide | exact Nat.le_refl _ | omega) (by rfl) (pa_cons (pv 1) (pa_cons pe_int pa_nil))) pa_nil)) (pg_name (i := 3) sc_law.nd rfl (.inl rfl)) (pss_cons (ps_asg (pe_tup (pa_cons (pe_ix ix_str pe_str (C8.pe_c c__law_next hr (by first | decide | exact Nat.le_refl _ | omega) (by rfl) (pa_cons (pv 1) (pa_cons pe_int pa_nil))) (fun _ _ => rfl)) (pa_cons (C8.pe_c c__law_next hr (by first | decide | exact Nat.le_refl _ | omega) (by rfl) (pa_cons (pv 1) (pa_cons pe_int pa_nil))) pa_nil))) (pg_tup rfl (pgs_cons (pg_name (i := 14) sc_law.nd rfl (.inr rfl)) (pgs_cons (pg_name (i := 4) sc_law.nd rfl (.inl rfl)) pgs_nil))))
      (pss_cons (ps_set (i := 5) sc_law.nd rfl (.inl rfl) (C8.pe_c c__law_next hr (by first | decide | exact Nat.le_refl _ | omega) (by rfl) (pa_cons (pv 1) (pa_cons (pe_ix ix_list (pe_lst (pa_cons pe_int (pa_cons pe_int pa_nil))) (pe_op op_fdiv (C8.pe_c c__law_next hr (by first | decide | exact Nat.le_refl _ | omega) (by rfl) (pa_cons (pv 1) (pa_cons pe_int pa_nil))) pe_int) (fun _ _ => rfl)) pa_nil))))
      (pss_cons (ps_setLc (i := 6) (own := [("_law_k", 18)]) (g := (gName 18)) (tt := tYes) rfl sc_law.nd rfl rfl (sw_true rfl rfl rfl (by decide +kernel)) (pi_range1 (by rfl) m_range (pa_cons (pv 5) pa_nil)) (blkOk_by (N := ["_law_script", "_law_d", "_law_texts", "_law_turn", "_law_way", "_law_size", "_law_rows", "_law_good", "_law_due", "_law_found", "_law_olds", "_law_row", "_law_many", "_law_more", "_law_file", "_law_house", "_law_other", "_law_text", "_law_k"]) (sc := C8.fnScope s_law) (by decide +kernel)) (fun _ _ _ _ _ => pg_name (i := 18) sc_law.nd rfl (Or.inl rfl)) (fun _ _ _ _ _ => pts_nil) (fun _ _ _ _ _ => (C8.pe_c c__law_pick hr (by first | decide | exact Nat.le_refl _ | omega) (by rfl) (pa_cons (pv 1) (pa_cons (pe_lst (pa_cons pe_str (pa_cons pe_str (pa_cons pe_str (pa_cons pe_str (pa_cons pe_str pa_nil)))))) pa_nil)))))
      (pss_cons (ps_set (i := 17) sc_law.nd rfl (.inr rfl) (pe_join pe_str (pv 6)))
      (pss_cons (ps_if (pt_cmpR op_lt (pv 4) pe_int (nomark _)) (pss_cons (ps_set (i := 7) sc_law.nd rfl (.inl rfl) (pe_and (pe_cmpR op_le (pe_callB call_len_seq (by rfl) m_len PySem.boot_len (pa_cons (pv 6) pa_nil)) pe_int (nomark _)) (pe_one (pe_or (pe_cmp (pc_din hu (pv 14) (pv 2))) (pe_one (pe_cmpR op_lt (pe_callB call_lenD (by rfl) m_len PySem.boot_len (pa_cons (pv 2) pa_nil)) pe_int (nomark _)))))))
      (pss_cons (ps_set (i := 8) sc_law.nd rfl (.inl rfl) (pe_ifExp (pt_val (pv 7)) pe_non (pe_tup (pa_cons pe_str (pa_cons pe_str pa_nil)))))
      (pss_cons (ps_set (i := 9) sc_law.nd rfl (.inl rfl) (Wt.pe_toldL (T := T) (TT := TTold2 K CF CW CB CR CN CM) (Ng := NgT) (k := k) (by rfl) D_told b_told sc__law_told rfl (.inl (by rfl)) (fun _ => told_two TT0) TB rfl hmT huT hr (show LamX.LamS (C8.fnScope s_law) _ from LamX.lamS_by (by decide +kernel)) rfl (fun _ _ _ _ _ => rfl) (fun _ _ _ _ _ _ _ hrl => Wt.pe_mtX c_lay tk_lam hrl (by omega) (pe_var (i := 15) rfl (.inr (.inr rfl))) (pa_cons (pe_var (i := 14) rfl (.inr (.inr rfl))) (pa_cons (pe_var (i := 17) rfl (.inr (.inr rfl))) pa_nil)))))
      (pss_one (ps_expr (pe_bm PySem.F.plainAttrs_dict PySem.F.slot_dict_update PySem.F.type_dict_update Wt.mt_dupdate (pv 2) (pa_cons (pe_ifExp (pt_val (pv 7)) (pe_disp (pps_cons (pv 14) (pv 17) pps_nil) (by rfl) (by rfl) (by simp) (by decide)) pe_dnewK) pa_nil))))))) (pss_one (ps_if (pt_cmpR op_lt (pv 4) pe_int (nomark _)) (pss_cons (ps_set (i := 10) sc_law.nd rfl (.inl rfl) (pe_split (pe_dget2 hu (pv 2) (pv 14) pe_str ⟨rfl, by rfl, by rfl, rfl⟩) pe_str))
      (pss_cons (ps_par (i := 11) (j := 12) rfl sc_law.nd rfl rfl (by decide) (by rfl) (by rfl) (pa_cons (pe_op op_add pe_int (C8.pe_c c__law_next hr (by first | decide | exact Nat.le_refl _ | omega) (by rfl) (pa_cons (pv 1) (pa_cons (pe_op op_add (pe_callB call_len_seq (by rfl) m_len PySem.boot_len (pa_cons (pv 10) pa_nil)) pe_int) pa_nil)))) (pa_cons (pe_ix ix_list (pe_lst (pa_cons (C8.pe_c c__law_next hr (by first | decide | exact Nat.le_refl _ | omega) (by rfl) (pa_cons (pv 1) (pa_cons pe_int pa_nil))) (pa_cons (pe_un un_neg pe_int) pa_nil))) (pe_op op_fdiv (C8.pe_c c__law_next hr (by first | decide | exact Nat.le_refl _ | omega) (by rfl) (pa_cons (pv 1) (pa_cons pe_int pa_nil))) pe_int) (fun _ _ => rfl)) pa_nil)) (by rfl))
      (pss_cons (ps_set (i := 11) sc_law.nd rfl (.inl rfl) (pe_ix ix_list (pe_lst (pa_cons (pv 11) (pa_cons (pv 11) (pa_cons (pv 11) (pa_cons (pv 11) (pa_cons (pv 11) (pa_cons (pv 11) (pa_cons pe_int (pa_cons (pe_op op_add (pe_callB call_len_seq (by rfl) m_len PySem.boot_len (pa_cons (pv 10) pa_nil)) pe_int) pa_nil))))))))) (C8.pe_c c__law_next hr (by first | decide | exact Nat.le_refl _ | omega) (by rfl) (pa_cons (pv 1) (pa_cons pe_int pa_nil))) (fun _ _ => rfl)))
      (pss_cons (ps_par3 (i := 13) (j := 8) (l := 9) rfl sc_law.nd rfl rfl rfl (by decide) (by decide) (by decide) (by rfl) (by rfl) (by rfl) (pa_cons (pe_op op_cat (pv 6) (pe_op op_rep (pe_lst (pa_cons pe_str pa_nil)) (pe_callTy call_int1 (by rfl) m_int Wt.bt_int (pa_cons (pe_cmpR op_eq (C8.pe_c c__law_next hr (by first | decide | exact Nat.le_refl _ | omega) (by rfl) (pa_cons (pv 1) (pa_cons pe_int pa_nil))) pe_int (nomark _)) pa_nil)))) (pa_cons pe_non (pa_cons pe_non pa_nil))) (by rfl))
      (pss_one (ps_if (pt_not (pt_val (C8.pe_c c__law_edited hr (by first | decide | exact Nat.le_refl _ | omega) (by rfl) (pa_cons (pv 15) (pa_cons (pv 2) (pa_cons (pv 14) (pa_cons (pv 11) (pa_cons (pv 12) (pa_cons (pv 13) pa_nil))))))))) (pss_one (ps_ret pe_bl)) pss_nil)))))) (pss_cons (ps_set (i := 8) sc_law.nd rfl (.inl rfl) (pe_ifExp (pt_cmp (pc_din hu (pv 14) (pv 2))) pe_non (pe_tup (pa_cons pe_str (pa_cons pe_str pa_nil)))))
      (pss_cons (ps_set (i := 9) sc_law.nd rfl (.inl rfl) (LamD.pe_lamD (T := T) (b := "_law_b") (TT := TTold2 K CF CW CB CR CN CM) (Ng := NgT) (k := k) (by rfl) D_told b_told sc__law_told rfl (.inl (by rfl)) (fun _ => told_two TT0) TB rfl hmT huT hr (show LamD.LamQ (C8.fnScope s_law) _ _ from LamD.lamQ_by (by decide +kernel)) (show Str.ofString "_law_b" ∉ (["_law_script", "_law_d", "_law_texts", "_law_turn", "_law_way", "_law_size", "_law_rows", "_law_good", "_law_due", "_law_found", "_law_olds", "_law_row", "_law_many", "_law_more", "_law_file", "_law_house", "_law_other", "_law_text", "_law_k"] : List Str) by decide) rfl pe_int rfl (fun _ _ _ _ _ _ => ⟨_, rfl, fun _ => rfl⟩) (fun _ _ _ _ _ _ _ hrl => Wt.pe_mtX c_drop tk_lam hrl (by omega) (pe_var (i := 15) rfl (.inr (.inr rfl))) (pa_cons (pe_var (i := 14) rfl (.inr (.inr rfl))) pa_nil))))
      (pss_one (ps_expr (pe_dpop2 (pv 2) (pv 14) pe_non ⟨rfl, by rfl, by rfl, rfl⟩))))))))
      (pss_cons (ps_if (PW.pt (pw_or (pt_not (pt_val (C8.pe_c c__law_like hr (by first | decide | exact Nat.le_refl _ | omega) (by rfl) (pa_cons (pv 9) (pa_cons (pv 8) pa_nil))))) (pw_or1 (pt_cmpR (op_neD hu64) (C8.pe_mt0 c_House_all_files hr (by first | decide | exact Nat.le_refl _ | omega) (pv 15)) (pe_callB (call_sortedD rfl) (by rfl) m_sorted PyProof.Rows.boot_sorted (pa_cons (pv 2) pa_nil)) (nomark _))))) (pss_one (ps_ret pe_bl)) pss_nil)
      (pss_cons (ps_for PassesOwn.never rfl (pi_str pe_str) (pg_name (i := 16) sc_law.nd rfl (.inr rfl)) (pss_cons (ps_set (i := 8) sc_law.nd rfl (.inl rfl) (pe_ifExp (pt_cmp (pc_din hu (pv 16) (pv 2))) (pe_dget hu (pv 2) (pv 16) (fun _ _ => rfl)) (pe_tup (pa_cons pe_str (pa_cons pe_str pa_nil)))))
      (pss_one (ps_if (pt_cmpR (op_neD hu64) (LamD.pe_lamD (T := T) (b := "_law_c") (TT := TTold2 K CF CW CB CR CN CM) (Ng := NgT) (k := k) (by rfl) D_told b_told sc__law_told rfl (.inl (by rfl)) (fun _ => told_two TT0) TB rfl hmT huT hr (show LamD.LamQ (C8.fnScope s_law) _ _ from LamD.lamQ_by (by decide +kernel)) (show Str.ofString "_law_c" ∉ (["_law_script", "_law_d", "_law_texts", "_law_turn", "_law_way", "_law_size", "_law_rows", "_law_good", "_law_due", "_law_found", "_law_olds", "_law_row", "_law_many", "_law_more", "_law_file", "_law_house", "_law_other", "_law_text", "_law_k"] : List Str) by decide) rfl pe_int rfl (fun _ _ _ _ _ _ => ⟨_, rfl, fun _ => rfl⟩) (fun _ _ _ _ _ _ _ hrl => Wt.pe_mtX c_text tk_lam hrl (by omega) (pe_var (i := 15) rfl (.inr (.inr rfl))) (pa_cons (pe_var (i := 16) rfl (.inr (.inr rfl))) pa_nil))) (pv 8) (nomark _)) (pss_one (ps_ret pe_bl)) pss_nil))))
      (pss_one (ps_expr (pe_bm PySem.F.plainAttrs_list PySem.F.slot_list_append PySem.F.type_list_append mt_append (C8.pe_mt0 c_House_all_files hr (by first | decide | exact Nat.le_refl _ | omega) (pv 15)) (pa_cons pe_str pa_nil))))))))))))
      (pss_one (ps_ret pe_bl))))), ?_⟩
    refine ⟨_, rfl, a, ns, rfl, hS, fun d H1 hd0 e1 hd1 => ?_⟩
    have hD1 : Dc K H1 d a ns := ⟨hd1, hS.ex e1⟩
    show tSeq _ _ _ _ _
    dsimp only [L2.start, List.map, List.set, List.length, List.append, List.replicate]
    -- house, texts
    refine fun h dx hh hdx hne => ⟨h, dx, rfl, upd_same, fun H2 x2 o2 => ⟨rfl, fun tx htx => ⟨by show 2 ≤ sizeLine; decide, fun c hc => ⟨c, [.ref h, .ref tx], rfl, st_of upd_same, rfl, _, _, rfl, _, _, rfl, rfl, ?_⟩⟩⟩⟩
    have i3 : InvF K T CH h tx d a ns [] (upd (upd H2 tx (.dK [])) c (.tup [.ref h, .ref tx])) := by
      have ntc : tx ≠ c := ne_of_none (upd_same (H := H2) (a := tx) (o := HO.dK [])) hc
      have e3 : Ex H1 (upd (upd H2 tx (.dK [])) c (.tup [.ref h, .ref tx])) := fun b o hb => by
        have nbh : b ≠ h := ne_of_none hb hh
        have nbd : b ≠ dx := ne_of_none hb hdx
        have h2 : H2 b = some o := x2 b o nbh (by rw [upd_ne nbh, upd_ne nbd]; exact hb)
        have nbt : b ≠ tx := ne_of_none h2 htx
        have h3 : upd H2 tx (.dK []) b = some o := by rw [upd_ne nbt]; exact h2
        rw [upd_ne (ne_of_none h3 hc)]
        exact h3
      obtain ⟨dx2, dt, dk, y1, y2⟩ := o2
      have up : ∀ b o, H2 b = some o → upd (upd H2 tx (.dK [])) c (.tup [.ref h, .ref tx]) b = some o := fun b o hb => by
        have nbt : b ≠ tx := ne_of_none hb htx
        have h3 : upd H2 tx (.dK []) b = some o := by rw [upd_ne nbt]; exact hb
        rw [upd_ne (ne_of_none h3 hc)]
        exact h3
      exact ⟨hD1.ex e3, ⟨dx2, dt, dk, up _ _ y1, up _ _ y2, ne_of_none y2 htx⟩, by rw [upd_ne ntc]; exact upd_same, FsOk.nil, hT0.ext (e1.trans e3)⟩
    generalize upd (upd H2 tx (.dK [])) c (.tup [.ref h, .ref tx]) = H3 at i3 ⊢
    try dsimp only [List.set]
    refine q_forRN (N := 31) (en_next i3.dc (ev_var rfl) ev_c) (by decide) (fun _ σ' H' => ∃ (fs : Files) (y3 y4 y5 y6 y7 y8 y9 y10 y11 y12 y13 y14 y16 y17 y18 : Option V), σ' = [some (.ref a), some (.ref d), some (.ref tx), y3, y4, y5, y6, y7, y8, y9, y10, y11, y12, y13, y14, some (.ref h), y16, y17, y18] ∧ InvF K T CH h tx d a ns fs H')
      (fun H4 e4 => ⟨[], _, _, _, _, _, _, _, _, _, _, _, _, _, _, _, rfl, i3.ex e4⟩) ?_ ?_
    · rintro i σ' H4 hi ⟨fs, y3, y4, y5, y6, y7, y8, y9, y10, y11, y12, y13, y14, y16, y17, y18, rfl, i4⟩
      dsimp only [List.set]
      -- file, way
      refine q_tupNN (en_file (en_next i4.dc (ev_var rfl) ev_c)) (fun H5 e5 => en_next (i4.dc.ex e5) (ev_var rfl) ev_c) fun v1 v2 H5 hv1 hv2 e5 => ?_
      obtain ⟨n, hn10, rfl⟩ := hv1
      obtain ⟨way, rfl, w0, w1⟩ := hv2
      have hln := ten_ok n hn10
      have hn6 := letters6 hln
      have i5 := i4.ex e5
      try dsimp only [List.set]
      -- size
      refine qn_asg (P := fun v => ∃ z : Nat, z < 63 ∧ v = .int (z : Int)) (en_callN (ean_one (ev_var rfl) (ean_cons (en_ixW2 (el_lst (ea_cons ev_c (ea_cons ev_c ea_nil)) (by show 2 ≤ 100000; decide)) (en_div (en_next i5.dc (ev_var rfl) ev_c) (by decide) (by decide))) ean_nil)) fun vs hvs => ?_) fun v H6 hv e6 => ?_
      · obtain ⟨r, rfl, v, r2, rfl, hv, rfl⟩ := hvs
        have fit : ∀ m : Int, 0 < m → m ≤ 63 → SpN (spNext K) [.ref d, .int m] H5 (fun v => ∃ z : Nat, z < 63 ∧ v = .int (z : Int)) := fun m m0 m1 H6 e6 Q q E => sn_next i5.dc m0 (by omega) H6 e6 Q (fun v H7 ⟨z, e, z0, z1⟩ e7 => q v H7 ⟨z.toNat, by omega, by rw [e]; congr 1; omega⟩ e7) E
        simp only [List.mem_cons, List.not_mem_nil, or_false] at hv
        rcases hv with rfl | rfl
        · exact fit 4 (by decide) (by decide)
        · exact fit 63 (by decide) (by decide)
      obtain ⟨size, hsize, rfl⟩ := hv
      have i6 := i5.ex e6
      try dsimp only [List.set]
      -- rows
      refine q_asgNL (en_lcRn (n := size) (ev_var rfl) (by omega) (fun _ => rfl) fun i H7 e7 => (en_pickL (xs := menu5.map fun z => V.str (S z)) (i6.dc.ex e7) (ev_var rfl) (elAs (el_lst (ea_cons ev_c (ea_cons ev_c (ea_cons ev_c (ea_cons ev_c (ea_cons ev_c ea_nil))))) (by show 5 ≤ 100000; decide)) (by decide +kernel)) (by decide) (by decide))) fun rl H7 xs hxs hrl0 e7 hrl => ?_
      obtain ⟨rows, rfl, hrows⟩ := strs_of xs hxs.2
      have hsz : rows.length = size := by
        have := hxs.1
        rwa [List.length_map] at this
      have hrok : ∀ z ∈ rows, RowOk z := fun z hz => (menu5_ok z (hrows z hz)).1
      have hrlow : LowS rows := fun z hz => (menu5_ok z (hrows z hz)).2
      have hsum := sum_rows rows fun z hz => (hrok z hz).1
      have hfit : fitsJ [10] rows := by
        unfold fitsJ
        have e : ([10] : List Nat).length = 1 := rfl
        rw [e]
        show (rows.map List.length).sum + _ ≤ _
        omega
      have htl : (TL.joinL [10] rows).length ≤ 4000 := by
        have := joinL_le [10] rows
        have e : ([10] : List Nat).length = 1 := rfl
        rw [e] at this
        omega
      have i7 := i6.ex e7
      try dsimp only [List.set]
      -- text
      refine q_asg (es_joinV (sep := [10]) (ev_is ev_c (congrArg V.str (show Str.ofString "\n" = S [10] by decide +kernel))) (ev_var rfl) hrl hfit) fun H8 e8 => ?_
      have i8 := i7.ex e8
      have hrl8 := e8 _ _ hrl
      try dsimp only [List.set]
      refine q_ifK (fun σ' H' => ∃ (fs : Files) (o : Option Str) (v8 v9 : V) (y3 y4 y5 y6 y7 y10 y11 y12 y13 y14 y16 y17 y18 : Option V), σ' = [some (.ref a), some (.ref d), some (.ref tx), y3, y4, y5, y6, y7, some v8, some v9, y10, y11, y12, y13, y14, some (.ref h), y16, y17, y18] ∧ InvF K T CH h tx d a ns fs H' ∧ DueO H' v8 o ∧ DueO H' v9 o) ?_ (fun tail => ?_)
      · rintro σ' H9 ⟨fs, o, v8, v9, y3, y4, y5, y6, y7, y10, y11, y12, y13, y14, y16, y17, y18, rfl, i9, d8, d9⟩
        -- like, all files
        refine q_when (b := false) (et_is (et_or (et_not (et_B (ev_call (ea_cons (ev_var rfl) (ea_cons (ev_var rfl) ea_nil)) (like_due d9 d8)))) fun _ => et_test (ev_filesNe i9 rfl rfl)) rfl) (fun z => by cases z) (fun _ H10 e10 => ?_)
        have i10 := i9.ex e10
        clear i9 d8 d9
        -- each file's text
        refine q_forStr (ev_is ev_c (congrArg V.str abc_S)) (fun _ σ' H' => ∃ (y3 y4 y5 y6 y7 y8 y9 y10 y11 y12 y13 y14 y16 y17 y18 : Option V), σ' = [some (.ref a), some (.ref d), some (.ref tx), y3, y4, y5, y6, y7, y8, y9, y10, y11, y12, y13, y14, some (.ref h), y16, y17, y18] ∧ InvF K T CH h tx d a ns fs H')
          (fun H11 e11 => ⟨_, _, _, _, _, _, _, _, _, _, _, _, _, _, _, rfl, i10.ex e11⟩) ?_ ?_
        · rintro j c σ' H11 hc ⟨y3, y4, y5, y6, y7, y8, y9, y10, y11, y12, y13, y14, y16, y17, y18, rfl, i11⟩
          dsimp only [List.set]
          have hsiz := i11.siz
          refine q_asgText (n := [c]) i11.tx rfl rfl fun v H12 e12 hv => ?_
          have i12 := i11.ex e12
          dsimp only [List.set]
          refine s_neTold (x := textP fs [c]) (fun H10 => InvF K T CH h tx d a ns fs H10) i12.tb rfl (textP_shaped i12.ok _) (fun H13 eX T13 Qr hQ => ?_) (fun H14 i14 => ⟨_, _, _, _, _, _, _, _, _, _, _, _, _, _, _, rfl, i14⟩)
          have i13 := i12.extN eX T13
          have hv13 := hv.extN eX
          obtain ⟨dx, dt, dk, y1, y2, y3'⟩ := i13.ho
          refine ⟨_, rfl, h, dx, houF dt dk, rfl, y1, rfl, _, rfl, h, fs, [c], rfl, ⟨dx, dt, dk, y1, y2⟩, fun t ht H14 e14 => hQ (.str (S t)) H14 ?_ (hv13.ex e14).dp (i13.ex e14), fun ho H14 e14 => ⟨rfl, CN, 2, rfl, eN, fun p H15 hp e15 h15 => hQ (.ref p) H15 ?_ (hv13.ex (e14.trans e15)).dp (i13.ex (e14.trans e15))⟩⟩
          · exact TextD.dp (by unfold TextD; rw [ht])
          · exact TextD.dp (by unfold TextD; rw [ho]; exact ⟨p, rfl, h15⟩)
        · rintro σ' H11 ⟨y3, y4, y5, y6, y7, y8, y9, y10, y11, y12, y13, y14, y16, y17, y18, rfl, i11⟩
          exact s_appFiles i11 rfl fun H12 e12 => ⟨fs, _, _, _, _, _, _, _, _, _, _, _, _, _, _, _, rfl, i11.ex e12⟩
      -- lay
      refine s_if (et_test (ev_op (ev_var rfl) ev_c rv_I0)) (fun _ H9 e9 => ?_) (fun _ H9 e9 => ?_)
      · have i9 := i8.ex e9
        have hrl9 := e9 _ _ hrl8
        obtain ⟨good, hgood⟩ : ∃ g, g = houseOk (putH fs n (TL.joinL [10] rows)) := ⟨_, rfl⟩
        have hgood2 := hgood
        rw [houseOk_rows i9.ok hln hrok] at hgood2
        have kl : (kvH fs).length = fs.length := List.length_map ..
        refine q_asg (v := .bl good) (ev_is (ev_andV (ev_op (ev_len (ev_var rfl) (sq_of hrl9)) ev_c rv_I0) fun _ => ev_orV (ev_inF (n := n) i9.tx rfl rfl) fun _ => ev_op (ev_lenK (ev_var rfl) i9.tx) ev_c rv_I0) ?_) fun H10 e10 => ?_
        · rw [hgood2, show decide (((rows.map fun z => V.str (S z)).length : Int) ≤ 60) = decide (rows.length ≤ 60) from decide_eq_decide.mpr (by rw [List.length_map]; omega), show decide (((kvH fs).length : Int) < 8) = decide (fs.length < 8) from decide_eq_decide.mpr (by rw [kl]; omega)]
        have i10 := i9.ex e10
        try dsimp only [List.set]
        obtain ⟨o, ho⟩ : ∃ o : Option Str, o = if good = true then none else some (Str.ofString "house") := ⟨_, rfl⟩
        refine q_asgDue (o := o) (due_if (b := good) (et_B (ev_var rfl)) (fun hb => by rw [ho, if_pos hb]; exact due_non) (fun hb => by rw [ho, if_neg (by rw [hb]; exact Bool.false_ne_true)]; exact due_tup)) fun v8 H11 e11 d8 => ?_
        have i11 := i10.ex e11
        try dsimp only [List.set]
        refine q_told2 (fun v H12 => KeepH h H11 H12 ∧ LamX.Tabs T H12 ∧ DueO H12 v o ∧ HouT H12 CH h tx (if good = true then putH fs n (TL.joinL [10] rows) else fs)) i11.tb (fun H12 eX T12 Qr hQ => ?_) (fun v9 H12 hc => ?_)
        · obtain ⟨dx, dt, dk, y1, y2, y3'⟩ := (i11.extN eX T12).ho
          refine ⟨_, rfl, h, dx, houF dt dk, rfl, y1, rfl, _, rfl, _, rfl, h, fs, n, _, rfl, ⟨dx, dt, dk, y1, y2⟩, i11.siz, by omega, by omega, fun ok H13 x13 o13 => ?_, fun no H13 e13 => ⟨rfl, CB, 0, rfl, eB, fun p H14 hp e14 h14 => ?_⟩⟩
          · rw [← hgood] at ok
            obtain ⟨a1, a2, a3⟩ := told_new i11 eX T12 x13 o13
            exact hQ _ _ ⟨a1, a2, by rw [ho, if_pos ok] <;> rfl, by rw [if_pos ok]; exact a3⟩
          · rw [← hgood] at no
            obtain ⟨a1, a2, a3⟩ := told_same i11 eX T12 (e13.trans e14)
            have nt : ¬ good = true := by rw [no]; exact Bool.false_ne_true
            exact hQ _ _ ⟨a1, a2, by rw [ho, if_neg nt]; exact ⟨p, rfl, h14⟩, by rw [if_neg nt]; exact a3⟩
        · obtain ⟨k12, T12, d9, o12⟩ := hc
          try dsimp only [List.set]
          have nth : tx ≠ h := by
            obtain ⟨dx, dt, dk, y1, _⟩ := i11.ho
            exact ne_of i11.tx y1 (by intro z; cases z)
          have htx12 := k12 tx _ nth (fun _ z => by cases z) i11.tx
          have d8' := d8.keepH i11 k12
          have few := i11.ok.few
          cases hb : good with
          | true =>
            rw [hb, if_pos rfl] at o12
            have hok : houseOk (putH fs n (TL.joinL [10] rows)) = true := by rw [← hgood, hb]
            refine s_upd (K := K) (ls := [((Sum.inr (S n) : Key), V.str (S (TL.joinL [10] rows)))]) (ev_var rfl) htx12 (ek_if (b := true) (et_B (ev_var rfl)) (fun _ => ek_one (ev_var rfl) (ev_var rfl)) (fun z => by cases z)) (by rw [kl]; show fs.length + 1 ≤ 100000; omega) fun p H13 hp hpd e13 => ?_
            rw [merge_one]
            exact tail _ _ ⟨_, o, v8, v9, _, _, _, _, _, _, _, _, _, _, _, _, _, rfl, i11.after k12 T12 o12 (i11.ok.rows hln hrok hok) (fun b w nb hw => by rw [upd_ne nb]; exact e13 _ _ hw) upd_same, d8'.upT htx12 (fun b w nb hw => by rw [upd_ne nb]; exact e13 _ _ hw), d9.upT htx12 (fun b w nb hw => by rw [upd_ne nb]; exact e13 _ _ hw)⟩
          | false =>
            rw [hb, if_neg Bool.false_ne_true] at o12
            refine s_upd (K := K) (ls := []) (ev_var rfl) htx12 (ek_if (b := false) (et_B (ev_var rfl)) (fun z => by cases z) (fun _ => ek_new)) (by rw [kl]; show fs.length + 0 ≤ 100000; omega) fun p H13 hp hpd e13 => ?_
            rw [merge_nil]
            exact tail _ _ ⟨_, o, v8, v9, _, _, _, _, _, _, _, _, _, _, _, _, _, rfl, i11.after k12 T12 o12 i11.ok (fun b w nb hw => by rw [upd_ne nb]; exact e13 _ _ hw) upd_same, d8'.upT htx12 (fun b w nb hw => by rw [upd_ne nb]; exact e13 _ _ hw), d9.upT htx12 (fun b w nb hw => by rw [upd_ne nb]; exact e13 _ _ hw)⟩
      refine s_if (et_test (ev_op (ev_var rfl) ev_c rv_I0)) (fun _ H10 e10 => ?_) (fun _ H10 e10 => ?_)
      · -- edit
        have i10 := (i8.ex e9).ex e10
        have hrl10 := e10 _ _ (e9 _ _ hrl8)
        obtain ⟨olds, hol⟩ : ∃ o, o = TL.spl [10] 0 [] ((lookH fs n).getD []) := ⟨_, rfl⟩
        have hnl : ∀ t, lookH fs n = some t → t.length ≤ 4000 := fun t ht => i10.ok.sh _ (lookH_mem ht)
        have hoLen : olds.length ≤ 4001 := by
          have := spl_len [10] ((lookH fs n).getD []) [] 0
          rw [← hol] at this
          cases ho : lookH fs n with
          | none => rw [ho] at this; exact Nat.le_trans this (by decide)
          | some t =>
            rw [ho] at this
            have h2 := hnl t ho
            have e : ((some t).getD [] : List Nat) = t := rfl
            rw [e] at this
            omega
        refine q_asgL (el_olds (ev_var rfl) (ev_var rfl) i10.tx fun t ht => by have := hnl t ht; omega) fun po H11 hpo0 e11 hpo => ?_
        rw [← hol] at hpo
        have i11 := i10.ex e11
        try dsimp only [List.set]
        have lO : (olds.map fun z => V.str (S z)).length = olds.length := List.length_map ..
        -- row, many
        refine qn_par (ean_cons (P := fun v => ∃ z : Int, v = .int z) (en_opV (EvN.of ev_c) (fun _ _ => en_call (ea_cons (ev_var rfl) (ea_cons (ev_op (ev_len (ev_var rfl) (sq_of hpo)) ev_c rv_I0) ea_nil)) (sn_next i11.dc (by omega) (by omega))) (by
          rintro x y rfl ⟨z, rfl, _⟩
          exact ⟨_, ⟨_, rfl⟩, rv_I0⟩)) (ean_cons (P := fun v => ∃ z : Int, v = .int z) (en_ixNL (n := 2) (enl_lst (ean_cons (P := fun v => ∃ z : Int, v = .int z) ((en_next i11.dc (ev_var rfl) ev_c).imp fun v ⟨z, e, _⟩ => ⟨z, e⟩) (ean_cons (P := fun v => ∃ z : Int, v = .int z) (fun H1 e Q q => ev_c H1 (Ex.refl _) _ fun H2 e2 => ⟨1, rfl, q _ H2 ⟨_, rfl⟩ e2⟩) ean_nil)) (by
            rintro l ⟨v, r, rfl, _, w, r2, rfl, _, rfl⟩
            show 2 ≤ 100000
            decide)) (en_div (en_next i11.dc (ev_var rfl) ev_c) (by decide) (by decide)) (by
            rintro l ⟨v, r, rfl, hv, w, r2, rfl, hw, rfl⟩
            refine ⟨rfl, fun u hu => ?_⟩
            simp only [List.mem_cons, List.not_mem_nil, or_false] at hu
            rcases hu with rfl | rfl
            · exact hv
            · exact hw)) ean_nil)) fun vs H12 hvs e12 => ?_
        obtain ⟨_, _, rfl, ⟨row0, rfl⟩, _, _, rfl, ⟨many, rfl⟩, rfl⟩ := hvs
        refine ⟨_, _, rfl, ?_⟩
        have i12 := i11.ex e12
        have hpo12 := e12 _ _ hpo
        try dsimp only [List.set]
        -- row
        refine qn_asg (P := fun v => ∃ z : Int, v = .int z) ((en_ixW2 (el_lst (ea_cons (ev_var rfl) (ea_cons (ev_var rfl) (ea_cons (ev_var rfl) (ea_cons (ev_var rfl) (ea_cons (ev_var rfl) (ea_cons (ev_var rfl) (ea_cons ev_c (ea_cons (ev_op (ev_len (ev_var rfl) (sq_of hpo12)) ev_c rv_I0) ea_nil)))))))) (by show 8 ≤ 100000; decide)) (en_bnd (m := 8) (en_next i12.dc (ev_var rfl) ev_c) rfl)).imp fun v hv => ?_) fun v H13 hv e13 => ?_
        · simp only [List.mem_cons, List.not_mem_nil, or_false] at hv
          rcases hv with rfl | rfl | rfl | rfl | rfl | rfl | rfl | rfl <;> exact ⟨_, rfl⟩
        obtain ⟨row, rfl⟩ := hv
        have i13 := i12.ex e13
        have hrl13 := (e11.trans (e12.trans e13)) _ _ hrl10
        try dsimp only [List.set]
        -- more
        refine en_catL2 (m := 1) (ev_var rfl) hrl13 (enl_rep (ts := [[97, 10, 98]]) (B := 2) (elt_lst (eat_cons (ev_is ev_c (congrArg V.str (show Str.ofString "a\nb" = S [97, 10, 98] by decide +kernel))) eat_nil) (by show 1 ≤ 100000; decide)) (en_int0 (en_next i13.dc (ev_var rfl) ev_c)) (by decide) (by decide)) (fun ys ⟨k, hk, e⟩ => by
          rw [e, List.length_map]
          have : k = 0 ∨ k = 1 := by omega
          rcases this with rfl | rfl <;> decide) (by rw [List.length_map]; omega) H13 (Ex.refl _) _ fun mp H14 xs hxs hmp0 e14 hmp => ⟨_, _, _, rfl, ?_⟩
        obtain ⟨_, ⟨k2, hk2, rfl⟩, rfl⟩ := hxs
        rw [← List.map_append] at hmp
        have hk3 : k2 = 0 ∨ k2 = 1 := by omega
        obtain ⟨more, hmore⟩ : ∃ m, m = rows ++ (List.replicate k2 [[97, 10, 98]]).flatten := ⟨_, rfl⟩
        rw [← hmore] at hmp
        have mem : ∀ z ∈ more, z ∈ rows ∨ z = [97, 10, 98] := fun z hz => by
          rw [hmore] at hz
          rcases List.mem_append.mp hz with hz | hz
          · exact .inl hz
          · refine .inr ?_
            rcases hk3 with rfl | rfl
            · simp at hz
            · simpa using hz
        have mlen : more.length ≤ 100 := by
          rw [hmore, List.length_append]
          rcases hk3 with rfl | rfl
          · simp; omega
          · simp; omega
        have i14 := i13.ex e14
        dsimp only [List.set]
        refine s_unless (ea_cons (ev_var rfl) (ea_cons (ev_var rfl) (ea_cons (ev_var rfl) (ea_cons (ev_var rfl) (ea_cons (ev_var rfl) (ea_cons (ev_var rfl) ea_nil)))))) fun H15 e15 Qe hQe => ?_
        have i15 := i14.ex e15
        refine ⟨h, tx, n, row, many, mp, more, fs, rfl, i15.ho, i15.tx, i15.ok, hln, e15 _ _ hmp, mlen, fun z hz => ?_, fun z hz => ?_, i15.tb, fun H16 fs2 kp ho2 ht2 hf2 hT2 => hQe _ ?_⟩
        · rcases mem z hz with hz | rfl
          · exact ⟨(hrok z hz).1, fun _ => hrok z hz⟩
          · exact ⟨by decide, fun z => absurd (by decide) z⟩
        · rcases mem z hz with hz | rfl
          · exact hrlow z hz
          · decide
        · exact tail _ _ ⟨fs2, none, .non, .non, _, _, _, _, _, _, _, _, _, _, _, _, _, rfl, i15.keep kp ho2 ht2 hf2 hT2, rfl, rfl⟩
      · -- drop
        have i10 := (i8.ex e9).ex e10
        obtain ⟨o, ho⟩ : ∃ o : Option Str, o = if (lookH fs n).isSome = true then none else some (Str.ofString "file") := ⟨_, rfl⟩
        refine q_asgDue (o := o) (due_if (b := (lookH fs n).isSome) (et_B (ev_inF (n := n) i10.tx rfl rfl)) (fun hb => by rw [ho, if_pos hb]; exact due_non) (fun hb => by rw [ho, if_neg (by rw [hb]; exact Bool.false_ne_true)]; exact due_tup)) fun v8 H11 e11 d8 => ?_
        have i11 := i10.ex e11
        try dsimp only [List.set]
        refine q_told2 (fun v H12 => KeepH h H11 H12 ∧ LamX.Tabs T H12 ∧ DueO H12 v o ∧ HouT H12 CH h tx (dropH fs n)) i11.tb (fun H12 eX T12 Qr hQ => ?_) (fun v9 H12 hc => ?_)
        · obtain ⟨dx, dt, dk, y1, y2, y3'⟩ := (i11.extN eX T12).ho
          refine ⟨_, rfl, h, dx, houF dt dk, rfl, y1, rfl, _, rfl, h, fs, n, rfl, ⟨dx, dt, dk, y1, y2⟩, i11.ok.nd, by have := i11.ok.few; omega, fun no H13 e13 => ⟨rfl, CN, 2, rfl, eN, fun p H14 hp e14 h14 => ?_⟩, fun t ht H13 x13 o13 => ?_⟩
          · obtain ⟨a1, a2, a3⟩ := told_same i11 eX T12 (e13.trans e14)
            exact hQ _ _ ⟨a1, a2, by rw [ho, no]; exact ⟨p, rfl, h14⟩, by rw [dropH_none no]; exact a3⟩
          · obtain ⟨a1, a2, a3⟩ := told_new i11 eX T12 x13 o13
            exact hQ _ _ ⟨a1, a2, by rw [ho, ht] <;> rfl, a3⟩
        · obtain ⟨k12, T12, d9, o12⟩ := hc
          try dsimp only [List.set]
          have nth : tx ≠ h := by
            obtain ⟨dx, dt, dk, y1, _⟩ := i11.ho
            exact ne_of i11.tx y1 (by intro z; cases z)
          have htx12 := k12 tx _ nth (fun _ z => by cases z) i11.tx
          exact s_pop2 (K := K) (ev_var rfl) (ev_var rfl) ev_c htx12 fun H13 kp htx13 => tail _ _ ⟨_, o, v8, v9, _, _, _, _, _, _, _, _, _, _, _, _, _, rfl, i11.after k12 T12 o12 i11.ok.drop kp htx13, (d8.keepH i11 k12).upT htx12 kp, d9.upT htx12 kp⟩
    · rintro m σ' H4 hm ⟨fs, y3, y4, y5, y6, y7, y8, y9, y10, y11, y12, y13, y14, y16, y17, y18, rfl, i4⟩
      exact s_ret ev_c fun H3 _ => q H3
end
end Wt

set_option Elab.async false
set_option linter.all false
set_option maxRecDepth 100000
set_option maxHeartbeats 4000000
/-! What the top leaves, as it is looked at. -/
namespace Wt
open PySem PySem.Spec PyProof.Rows L2 SX Evl
def absS : Value → Option (List Nat)
  | .str x _ => some x.cps.toList
  | _ => none
theorem vals_abs : ∀ (us : List Value) (ws : List (List Nat)), us.map absS = ws.map some → Vals (ws.map fun z => V.str (S z)) us
  | [], [], _ => .nil
  | [], _ :: _, h => by cases h
  | _ :: _, [], h => by cases h
  | u :: us, w :: ws, h => by
    rw [List.map_cons, List.map_cons] at h
    injection h with h1 h2
    refine .cons ?_ (vals_abs us ws h2)
    cases u with
    | str x t =>
      have e : x.cps.toList = w := Option.some.inj h1
      subst e
      exact ⟨t, by rw [S_tl]⟩
    | _ => cases h1
theorem tup_written {K : PySem.W.Frag} {a : Addr} {od : Option Addr} {its : Array Value} {n : Nat} {sl : Array (Option Value)} {ws : List (List Nat)} (l : K.lookup a = some ⟨.type "tuple", od, .seq its n, sl⟩) (v : its.toList.map absS = ws.map some) (hl : ws.length ≤ 1000) (H : Hp) :
    SqT K H a (ws.map fun z => V.str (S z)) := by
  have r := vals_abs _ _ v
  refine .inr ⟨_, its, n, l, rfl, rfl, ?_, r⟩
  have e := r.length
  rw [List.length_map] at e
  rw [← Array.length_toList, ← e]
  exact Nat.le_of_lt (small1000 hl)
theorem str_written {mg : Str → Option Value} {x y : Str} {t : Tok} {l : List Nat} (h : mg x = some (.str y t)) (e : y = S l) : ∃ u, mg x = some u ∧ RelV (.str (S l)) u := ⟨_, h, t, by rw [e]⟩
/-- a code object's table -/
def ptOf (K : PySem.W.Frag) (c : Addr) : Addr := match K.lookup c with
  | some ⟨_, _, .fields vs, _⟩ => match (vs[11]? : Option Value) with
    | some (.ref p) => p
    | _ => 0
  | _ => 0
theorem mem_elem {a : Addr} {l : List Addr} (h : l.elem a = true) : a ∈ l := List.elem_iff.mp h
end Wt

set_option Elab.async false
set_option linter.all false
set_option maxRecDepth 100000
set_option maxHeartbeats 4000000
namespace Wt
open PySem PySem.Spec PyProof.Rows L2 SX Evl
/-! The script however it stands (XInit has it too, beside Fault's own __init__). -/
section
variable {P : Program} {w : World}
/-- a list that is known as it stands is one that is locked -/
theorem lock_list {H : Hp} {hp : Heap} {a : Addr} {xs : List V} (ok : HOk P w H hp) (h : H a = some (.lst xs)) : ∃ ob, Alike H (upd H a (.frz ob (.lst xs))) ∧ HOk P w (upd H a (.frz ob (.lst xs))) hp := by
  obtain ⟨hz, its, n, rv, e⟩ := (show ObjOk P w H hp a (.lst xs) from ok a _ h)
  refine ⟨_, ⟨fun b z => ?_, fun b ys z => ?_, fun b o u z => ?_, fun b ps z => ?_⟩, hok_at ok h True.intro ⟨e, hz, its, n, rv, e⟩⟩
  · rw [upd_ne (ne_of_none h z).symm]
    exact z
  · rw [upd_ne (ne_of z h (by intro q; cases q))]
    exact z
  · rw [upd_ne (ne_of z h (by intro q; cases q))]
    exact z
  · rw [upd_ne (ne_of z h (by intro q; cases q))]
    exact z
end
theorem two {α : Type} {p a b : α} (h : p ∈ [a, b]) : p = a ∨ p = b := by simpa using h
end Wt

set_option Elab.async false
set_option linter.all false
set_option maxRecDepth 100000
set_option maxHeartbeats 4000000
namespace Wt
open PySem PySem.Spec PyProof.Rows L2 SX Evl
open C8 (Def Cal cal0 fnScope_by fnScope)
/-! k19: the end. -/
/-- the law's promise over a script however it stands -/
def spLaw2 (K : PySem.W.Frag) (T : List (Addr × Str)) : Sp := fun vs H Q _ => ∃ (a : Addr) (ns : List Int), vs = [.ref a] ∧ ns.length ≤ 63 ∧ SqL K H a (ns.map V.int) ∧ (∀ p ∈ T, H p.1 = some (.tbl #[])) ∧ ∀ H', Q (.bl true) H'
theorem tabs_nil {T : List (Addr × Str)} {H : Hp} (h : ∀ p ∈ T, H p.1 = some (.tbl #[])) : LamX.Tabs T H := fun p hp => LamX.TabS.nil (h p hp)
theorem law_seen {P : Program} {w : World} {K : PySem.W.Frag} {mg : Str → Option Value} {base : Heap} {k : Nat} {f : Addr} {T : List (Addr × Str)} {fd : FuncData} {ps : List Str} (F : FnOk P w K mg base C8.CX0 k f fd ps (spLawF K T)) (h1 : ps.length = 1) : FnOk P w K mg base C8.CX0 k f fd ps (spLaw2 K T) := by
  refine fn_seen F (fun vs H Q E h => ?_) (fun vs H Q E h hp ok => ?_)
  · obtain ⟨_, _, rfl, _⟩ := h
    exact h1.symm
  · obtain ⟨a, ns, rfl, hl, hS, hPt, q⟩ := h
    rcases hS with (hS | ⟨ob, hS⟩) | hS
    · obtain ⟨ob, al, ok1⟩ := lock_list ok hS
      have hPa : ∀ p ∈ T, p.1 ≠ a := fun p hp => ne_of (hPt p hp) hS (by intro z; cases z)
      refine ⟨_, Q, al, ok1, ⟨a, ns, rfl, ⟨hl, fun H' f => .inl (.inr ⟨ob, f a ob _ upd_same⟩)⟩, tabs_nil (fun p hp => by rw [upd_ne (hPa p hp)]; exact hPt p hp), q⟩, fun v H2 hp2 ok2 qv => ⟨H2, ⟨fun _ z => z, fun _ _ z => z, fun _ _ _ z => z, fun _ _ z => z⟩, ok2, qv⟩⟩
    · exact ⟨H, Q, ⟨fun _ z => z, fun _ _ z => z, fun _ _ _ z => z, fun _ _ z => z⟩, ok, ⟨a, ns, rfl, ⟨hl, fun H' f => .inl (.inr ⟨ob, f a ob _ hS⟩)⟩, tabs_nil hPt, q⟩, fun v H2 hp2 ok2 qv => ⟨H2, ⟨fun _ z => z, fun _ _ z => z, fun _ _ _ z => z, fun _ _ z => z⟩, ok2, qv⟩⟩
    · exact ⟨H, Q, ⟨fun _ z => z, fun _ _ z => z, fun _ _ _ z => z, fun _ _ z => z⟩, ok, ⟨a, ns, rfl, ⟨hl, fun H' f => .inr hS⟩, tabs_nil hPt, q⟩, fun v H2 hp2 ok2 qv => ⟨H2, ⟨fun _ z => z, fun _ _ z => z, fun _ _ _ z => z, fun _ _ z => z⟩, ok2, qv⟩⟩
theorem all_mk {l : PySem.W.OpenLaw} {w : World} {K : PySem.W.Frag} {h : Heap} {mg : Str → Option Value} {fa : Addr} (X : K.In h) (G : h.Ns mainGlobals mg) (hfa : mg "law" = some (.ref fa))
    {od_is_between an_is_between : Option Addr} {sl_is_between : Array (Option Value)} {oc_is_between kV_is_between dc_is_between pm_is_between cd_is_between ct_is_between : Value} {f_is_between : Addr}
    (a_is_between : PySem.W.nsIn K mainGlobals "is_between" = some (some (.ref f_is_between))) (l_is_between : K.lookup f_is_between = some ⟨oc_is_between, od_is_between, .func (PySem.W.fnOf "is_between" "is_between" (C8.fnArgs s_is_between) (C8.fnBody s_is_between) (C8.fnScope s_is_between) .none kV_is_between dc_is_between pm_is_between an_is_between cd_is_between ct_is_between), sl_is_between⟩)
    (c_is_between : PySem.W.codeIn K cd_is_between "is_between" = true) (k_is_between : PySem.W.keepIn K (.ref f_is_between) = true)
    {od_are_letters an_are_letters : Option Addr} {sl_are_letters : Array (Option Value)} {oc_are_letters kV_are_letters dc_are_letters pm_are_letters cd_are_letters ct_are_letters : Value} {f_are_letters : Addr}
    (a_are_letters : PySem.W.nsIn K mainGlobals "are_letters" = some (some (.ref f_are_letters))) (l_are_letters : K.lookup f_are_letters = some ⟨oc_are_letters, od_are_letters, .func (PySem.W.fnOf "are_letters" "are_letters" (C8.fnArgs s_are_letters) (C8.fnBody s_are_letters) (C8.fnScope s_are_letters) .none kV_are_letters dc_are_letters pm_are_letters an_are_letters cd_are_letters ct_are_letters), sl_are_letters⟩)
    (c_are_letters : PySem.W.codeIn K cd_are_letters "are_letters" = true) (k_are_letters : PySem.W.keepIn K (.ref f_are_letters) = true)
    {od_run_at an_run_at : Option Addr} {sl_run_at : Array (Option Value)} {oc_run_at kV_run_at dc_run_at pm_run_at cd_run_at ct_run_at : Value} {f_run_at : Addr}
    (a_run_at : PySem.W.nsIn K mainGlobals "run_at" = some (some (.ref f_run_at))) (l_run_at : K.lookup f_run_at = some ⟨oc_run_at, od_run_at, .func (PySem.W.fnOf "run_at" "run_at" (C8.fnArgs s_run_at) (C8.fnBody s_run_at) (C8.fnScope s_run_at) .none kV_run_at dc_run_at pm_run_at an_run_at cd_run_at ct_run_at), sl_run_at⟩)
    (c_run_at : PySem.W.codeIn K cd_run_at "run_at" = true) (k_run_at : PySem.W.keepIn K (.ref f_run_at) = true)
    {od_is_house an_is_house : Option Addr} {sl_is_house : Array (Option Value)} {oc_is_house kV_is_house dc_is_house pm_is_house cd_is_house ct_is_house : Value} {f_is_house : Addr}
    (a_is_house : PySem.W.nsIn K mainGlobals "is_house" = some (some (.ref f_is_house))) (l_is_house : K.lookup f_is_house = some ⟨oc_is_house, od_is_house, .func (PySem.W.fnOf "is_house" "is_house" (C8.fnArgs s_is_house) (C8.fnBody s_is_house) (C8.fnScope s_is_house) .none kV_is_house dc_is_house pm_is_house an_is_house cd_is_house ct_is_house), sl_is_house⟩)
    (c_is_house : PySem.W.codeIn K cd_is_house "is_house" = true) (k_is_house : PySem.W.keepIn K (.ref f_is_house) = true)
    {od_is_text an_is_text : Option Addr} {sl_is_text : Array (Option Value)} {oc_is_text kV_is_text dc_is_text pm_is_text cd_is_text ct_is_text : Value} {f_is_text : Addr}
    (a_is_text : PySem.W.nsIn K mainGlobals "is_text" = some (some (.ref f_is_text))) (l_is_text : K.lookup f_is_text = some ⟨oc_is_text, od_is_text, .func (PySem.W.fnOf "is_text" "is_text" (C8.fnArgs s_is_text) (C8.fnBody s_is_text) (C8.fnScope s_is_text) .none kV_is_text dc_is_text pm_is_text an_is_text cd_is_text ct_is_text), sl_is_text⟩)
    (c_is_text : PySem.W.codeIn K cd_is_text "is_text" = true) (k_is_text : PySem.W.keepIn K (.ref f_is_text) = true)
    {od_is_sign an_is_sign : Option Addr} {sl_is_sign : Array (Option Value)} {oc_is_sign kV_is_sign dc_is_sign pm_is_sign cd_is_sign ct_is_sign : Value} {f_is_sign : Addr}
    (a_is_sign : PySem.W.nsIn K mainGlobals "is_sign" = some (some (.ref f_is_sign))) (l_is_sign : K.lookup f_is_sign = some ⟨oc_is_sign, od_is_sign, .func (PySem.W.fnOf "is_sign" "is_sign" (C8.fnArgs s_is_sign) (C8.fnBody s_is_sign) (C8.fnScope s_is_sign) .none kV_is_sign dc_is_sign pm_is_sign an_is_sign cd_is_sign ct_is_sign), sl_is_sign⟩)
    (c_is_sign : PySem.W.codeIn K cd_is_sign "is_sign" = true) (k_is_sign : PySem.W.keepIn K (.ref f_is_sign) = true)
    {od__law_dice an__law_dice : Option Addr} {sl__law_dice : Array (Option Value)} {oc__law_dice kV__law_dice dc__law_dice pm__law_dice cd__law_dice ct__law_dice : Value} {f__law_dice : Addr}
    (a__law_dice : PySem.W.nsIn K mainGlobals "_law_dice" = some (some (.ref f__law_dice))) (l__law_dice : K.lookup f__law_dice = some ⟨oc__law_dice, od__law_dice, .func (PySem.W.fnOf "_law_dice" "_law_dice" (C8.fnArgs s__law_dice) (C8.fnBody s__law_dice) (C8.fnScope s__law_dice) .none kV__law_dice dc__law_dice pm__law_dice an__law_dice cd__law_dice ct__law_dice), sl__law_dice⟩)
    (c__law_dice : PySem.W.codeIn K cd__law_dice "_law_dice" = true) (k__law_dice : PySem.W.keepIn K (.ref f__law_dice) = true)
    {od__law_next an__law_next : Option Addr} {sl__law_next : Array (Option Value)} {oc__law_next kV__law_next dc__law_next pm__law_next cd__law_next ct__law_next : Value} {f__law_next : Addr}
    (a__law_next : PySem.W.nsIn K mainGlobals "_law_next" = some (some (.ref f__law_next))) (l__law_next : K.lookup f__law_next = some ⟨oc__law_next, od__law_next, .func (PySem.W.fnOf "_law_next" "_law_next" (C8.fnArgs s__law_next) (C8.fnBody s__law_next) (C8.fnScope s__law_next) .none kV__law_next dc__law_next pm__law_next an__law_next cd__law_next ct__law_next), sl__law_next⟩)
    (c__law_next : PySem.W.codeIn K cd__law_next "_law_next" = true) (k__law_next : PySem.W.keepIn K (.ref f__law_next) = true)
    {od__law_like an__law_like : Option Addr} {sl__law_like : Array (Option Value)} {oc__law_like kV__law_like dc__law_like pm__law_like cd__law_like ct__law_like : Value} {f__law_like : Addr}
    (a__law_like : PySem.W.nsIn K mainGlobals "_law_like" = some (some (.ref f__law_like))) (l__law_like : K.lookup f__law_like = some ⟨oc__law_like, od__law_like, .func (PySem.W.fnOf "_law_like" "_law_like" (C8.fnArgs s__law_like) (C8.fnBody s__law_like) (C8.fnScope s__law_like) .none kV__law_like dc__law_like pm__law_like an__law_like cd__law_like ct__law_like), sl__law_like⟩)
    (c__law_like : PySem.W.codeIn K cd__law_like "_law_like" = true) (k__law_like : PySem.W.keepIn K (.ref f__law_like) = true)
    {od__law_pick an__law_pick : Option Addr} {sl__law_pick : Array (Option Value)} {oc__law_pick kV__law_pick dc__law_pick pm__law_pick cd__law_pick ct__law_pick : Value} {f__law_pick : Addr}
    (a__law_pick : PySem.W.nsIn K mainGlobals "_law_pick" = some (some (.ref f__law_pick))) (l__law_pick : K.lookup f__law_pick = some ⟨oc__law_pick, od__law_pick, .func (PySem.W.fnOf "_law_pick" "_law_pick" (C8.fnArgs s__law_pick) (C8.fnBody s__law_pick) (C8.fnScope s__law_pick) .none kV__law_pick dc__law_pick pm__law_pick an__law_pick cd__law_pick ct__law_pick), sl__law_pick⟩)
    (c__law_pick : PySem.W.codeIn K cd__law_pick "_law_pick" = true) (k__law_pick : PySem.W.keepIn K (.ref f__law_pick) = true)
    {od__law_told an__law_told : Option Addr} {sl__law_told : Array (Option Value)} {oc__law_told kV__law_told dc__law_told pm__law_told cd__law_told ct__law_told : Value} {f__law_told : Addr}
    (a__law_told : PySem.W.nsIn K mainGlobals "_law_told" = some (some (.ref f__law_told))) (l__law_told : K.lookup f__law_told = some ⟨oc__law_told, od__law_told, .func (PySem.W.fnOf "_law_told" "_law_told" (C8.fnArgs s__law_told) (C8.fnBody s__law_told) (C8.fnScope s__law_told) .none kV__law_told dc__law_told pm__law_told an__law_told cd__law_told ct__law_told), sl__law_told⟩)
    (c__law_told : PySem.W.codeIn K cd__law_told "_law_told" = true) (k__law_told : PySem.W.keepIn K (.ref f__law_told) = true)
    {C_House : Addr} (g_House : PySem.W.nsIn K mainGlobals "House" = some (some (.ref C_House))) (pg_House : PySem.W.plainGet K C_House Str.empty = true) (hd_House : PySem.W.hasDictIn K C_House = true) (po_House : PySem.W.plainOver K C_House = true) (sa_House : PySem.W.findIn K (.ref C_House) "__setattr__" = some (some (.builtin "object.__setattr__"))) (mk_House : PySem.W.makesIn K C_House = true) (kp_House : PySem.W.keepIn K (.ref C_House) = true) (na_House_texts : PySem.W.findIn K (.ref C_House) (Str.ofString "texts") = some none) (na_House_kept : PySem.W.findIn K (.ref C_House) (Str.ofString "kept") = some none) (na_House_laid : PySem.W.findIn K (.ref C_House) (Str.ofString "laid") = some none)
    {od_House_init an_House_init : Option Addr} {sl_House_init : Array (Option Value)} {oc_House_init kV_House_init dc_House_init pm_House_init cd_House_init ct_House_init : Value} {f_House_init : Addr}
    (m_House_init : PySem.W.findIn K (.ref C_House) "__init__" = some (some (.ref f_House_init))) (i_House_init : PySem.W.isFn K (.ref f_House_init) = true) (l_House_init : K.lookup f_House_init = some ⟨oc_House_init, od_House_init, .func (PySem.W.fnOf "__init__" "House.__init__" (C8.fnArgs s_House_init) (C8.fnBody s_House_init) (C8.fnScope s_House_init) .none kV_House_init dc_House_init pm_House_init an_House_init cd_House_init ct_House_init), sl_House_init⟩)
    (c_House_init : PySem.W.codeIn K cd_House_init "House.__init__" = true) (k_House_init : PySem.W.keepIn K (.ref f_House_init) = true)
    {od_House_lay an_House_lay : Option Addr} {sl_House_lay : Array (Option Value)} {oc_House_lay kV_House_lay dc_House_lay pm_House_lay cd_House_lay ct_House_lay : Value} {f_House_lay : Addr}
    (m_House_lay : PySem.W.findIn K (.ref C_House) "lay" = some (some (.ref f_House_lay))) (i_House_lay : PySem.W.isFn K (.ref f_House_lay) = true) (l_House_lay : K.lookup f_House_lay = some ⟨oc_House_lay, od_House_lay, .func (PySem.W.fnOf "lay" "House.lay" (C8.fnArgs s_House_lay) (C8.fnBody s_House_lay) (C8.fnScope s_House_lay) .none kV_House_lay dc_House_lay pm_House_lay an_House_lay cd_House_lay ct_House_lay), sl_House_lay⟩)
    (c_House_lay : PySem.W.codeIn K cd_House_lay "House.lay" = true) (k_House_lay : PySem.W.keepIn K (.ref f_House_lay) = true)
    {od_House_edit an_House_edit : Option Addr} {sl_House_edit : Array (Option Value)} {oc_House_edit kV_House_edit dc_House_edit pm_House_edit cd_House_edit ct_House_edit : Value} {f_House_edit : Addr}
    (m_House_edit : PySem.W.findIn K (.ref C_House) "edit" = some (some (.ref f_House_edit))) (i_House_edit : PySem.W.isFn K (.ref f_House_edit) = true) (l_House_edit : K.lookup f_House_edit = some ⟨oc_House_edit, od_House_edit, .func (PySem.W.fnOf "edit" "House.edit" (C8.fnArgs s_House_edit) (C8.fnBody s_House_edit) (C8.fnScope s_House_edit) .none kV_House_edit dc_House_edit pm_House_edit an_House_edit cd_House_edit ct_House_edit), sl_House_edit⟩)
    (c_House_edit : PySem.W.codeIn K cd_House_edit "House.edit" = true) (k_House_edit : PySem.W.keepIn K (.ref f_House_edit) = true)
    {od_House_drop an_House_drop : Option Addr} {sl_House_drop : Array (Option Value)} {oc_House_drop kV_House_drop dc_House_drop pm_House_drop cd_House_drop ct_House_drop : Value} {f_House_drop : Addr}
    (m_House_drop : PySem.W.findIn K (.ref C_House) "drop" = some (some (.ref f_House_drop))) (i_House_drop : PySem.W.isFn K (.ref f_House_drop) = true) (l_House_drop : K.lookup f_House_drop = some ⟨oc_House_drop, od_House_drop, .func (PySem.W.fnOf "drop" "House.drop" (C8.fnArgs s_House_drop) (C8.fnBody s_House_drop) (C8.fnScope s_House_drop) .none kV_House_drop dc_House_drop pm_House_drop an_House_drop cd_House_drop ct_House_drop), sl_House_drop⟩)
    (c_House_drop : PySem.W.codeIn K cd_House_drop "House.drop" = true) (k_House_drop : PySem.W.keepIn K (.ref f_House_drop) = true)
    {od_House_text an_House_text : Option Addr} {sl_House_text : Array (Option Value)} {oc_House_text kV_House_text dc_House_text pm_House_text cd_House_text ct_House_text : Value} {f_House_text : Addr}
    (m_House_text : PySem.W.findIn K (.ref C_House) "text" = some (some (.ref f_House_text))) (i_House_text : PySem.W.isFn K (.ref f_House_text) = true) (l_House_text : K.lookup f_House_text = some ⟨oc_House_text, od_House_text, .func (PySem.W.fnOf "text" "House.text" (C8.fnArgs s_House_text) (C8.fnBody s_House_text) (C8.fnScope s_House_text) .none kV_House_text dc_House_text pm_House_text an_House_text cd_House_text ct_House_text), sl_House_text⟩)
    (c_House_text : PySem.W.codeIn K cd_House_text "House.text" = true) (k_House_text : PySem.W.keepIn K (.ref f_House_text) = true)
    {od_House_all_files an_House_all_files : Option Addr} {sl_House_all_files : Array (Option Value)} {oc_House_all_files kV_House_all_files dc_House_all_files pm_House_all_files cd_House_all_files ct_House_all_files : Value} {f_House_all_files : Addr}
    (m_House_all_files : PySem.W.findIn K (.ref C_House) "all_files" = some (some (.ref f_House_all_files))) (i_House_all_files : PySem.W.isFn K (.ref f_House_all_files) = true) (l_House_all_files : K.lookup f_House_all_files = some ⟨oc_House_all_files, od_House_all_files, .func (PySem.W.fnOf "all_files" "House.all_files" (C8.fnArgs s_House_all_files) (C8.fnBody s_House_all_files) (C8.fnScope s_House_all_files) .none kV_House_all_files dc_House_all_files pm_House_all_files an_House_all_files cd_House_all_files ct_House_all_files), sl_House_all_files⟩)
    (c_House_all_files : PySem.W.codeIn K cd_House_all_files "House.all_files" = true) (k_House_all_files : PySem.W.keepIn K (.ref f_House_all_files) = true)
    {od_ed an_ed : Option Addr} {sl_ed : Array (Option Value)} {oc_ed kV_ed dc_ed pm_ed ct_ed : Value} {f_ed c1 : Addr}
    (a_ed : PySem.W.nsIn K mainGlobals "_law_edited" = some (some (.ref f_ed))) (l_ed : K.lookup f_ed = some ⟨oc_ed, od_ed, .func (PySem.W.fnOf "_law_edited" "_law_edited" (C8.fnArgs s__law_edited) (C8.fnBody s__law_edited) (C8.fnScope s__law_edited) .none kV_ed dc_ed pm_ed an_ed (.ref c1) ct_ed), sl_ed⟩)
    (c_ed : PySem.W.codeIn K (.ref c1) "_law_edited" = true) (k_ed : PySem.W.keepIn K (.ref f_ed) = true) (ch_ed : PySem.W.codeHdIn K c1 (ptOf K c1) = true) (nT_ed : (K.lookup (ptOf K c1)).isNone = true) (hT_ed : h.get? (ptOf K c1) = some { cls := .none, data := .fields #[] })
    {od_lw an_lw : Option Addr} {sl_lw : Array (Option Value)} {oc_lw kV_lw dc_lw pm_lw ct_lw : Value} {f_lw c2 : Addr}
    (a_lw : PySem.W.nsIn K mainGlobals "law" = some (some (.ref f_lw))) (l_lw : K.lookup f_lw = some ⟨oc_lw, od_lw, .func (PySem.W.fnOf "law" "law" (C8.fnArgs s_law) (C8.fnBody s_law) (C8.fnScope s_law) .none kV_lw dc_lw pm_lw an_lw (.ref c2) ct_lw), sl_lw⟩)
    (c_lw : PySem.W.codeIn K (.ref c2) "law" = true) (k_lw : PySem.W.keepIn K (.ref f_lw) = true) (ch_lw : PySem.W.codeHdIn K c2 (ptOf K c2) = true) (nT_lw : (K.lookup (ptOf K c2)).isNone = true) (hT_lw : h.get? (ptOf K c2) = some { cls := .none, data := .fields #[] })
    (nCC : decide (ptOf K c1 = ptOf K c2) = false)
    (z_len : PySem.W.nsIn K mainGlobals "len" = some none)
    (z_int : PySem.W.nsIn K mainGlobals "int" = some none)
    (z_str : PySem.W.nsIn K mainGlobals "str" = some none)
    (z_bool : PySem.W.nsIn K mainGlobals "bool" = some none)
    (z_tuple : PySem.W.nsIn K mainGlobals "tuple" = some none)
    (z_list : PySem.W.nsIn K mainGlobals "list" = some none)
    (z_range : PySem.W.nsIn K mainGlobals "range" = some none)
    (z_isinstance : PySem.W.nsIn K mainGlobals "isinstance" = some none)
    (z_all : PySem.W.nsIn K mainGlobals "all" = some none)
    (z_ord : PySem.W.nsIn K mainGlobals "ord" = some none)
    (z_sorted : PySem.W.nsIn K mainGlobals "sorted" = some none)
    (z_dict : PySem.W.nsIn K mainGlobals "dict" = some none)
    {tL tG tF tR tP : Tok} (gL : PySem.W.nsIn K mainGlobals "LETTERS" = some (some (.str (Str.ofString "abcdefghijklmnopqrstuvwxyz") tL))) (gG : PySem.W.nsIn K mainGlobals "LONGEST" = some (some (.int 6 tG))) (gMF : PySem.W.nsIn K mainGlobals "MOST_FILES" = some (some (.int 8 tF))) (gMR : PySem.W.nsIn K mainGlobals "MOST_ROWS" = some (some (.int 60 tR))) (gP : PySem.W.nsIn K mainGlobals "PERCENT" = some (some (.int 37 tP)))
    {CF CW CM : Addr} (gCF : PySem.W.nsIn K mainGlobals "Fault" = some (some (.ref CF))) (gCW : PySem.W.nsIn K mainGlobals "WholeError" = some (some (.ref CW))) (gCM : PySem.W.nsIn K mainGlobals "NotMade" = some (some (.ref CM))) (hn : PySem.W.specialIn K (.builtin "object.__class__") "__get__" = some (some (.builtin "getset_descriptor.__get__"))) (hto : PySem.W.takesIn K (.builtin "object.__class__") = some true)
    {CB : Addr} (gB : PySem.W.nsIn K mainGlobals "BadHouse" = some (some (.ref CB))) (qB : PySem.W.excIn K CB [.type "ValueError", .type "Exception", .type "BaseException", .type "object"] "ValueError.__new__" = true) (kB : PySem.W.keepIn K (.ref CB) = true) (bB : PySem.W.subIn K (.ref CB) (.type "BaseException") = some true) (tB : PySem.W.typeIn K (.ref CB) = some (.type "type"))
    (hgB : PySem.W.findIn K (.ref CB) "__getattribute__" = some (some (.builtin "BaseException.__getattribute__"))) (hkB : PySem.W.findIn K (.ref CB) "__getattr__" = some none) (hdB : PySem.W.hasDictIn K CB = true) (haB : PySem.W.findIn K (.ref CB) "__class__" = some (some (.builtin "object.__class__"))) (hmB : PySem.W.mroIn K CB (.type "object") = some true)
    {CR : Addr} (gR : PySem.W.nsIn K mainGlobals "BadRows" = some (some (.ref CR))) (qR : PySem.W.excIn K CR [.type "ValueError", .type "Exception", .type "BaseException", .type "object"] "ValueError.__new__" = true) (kR : PySem.W.keepIn K (.ref CR) = true) (bR : PySem.W.subIn K (.ref CR) (.type "BaseException") = some true) (tR : PySem.W.typeIn K (.ref CR) = some (.type "type"))
    (hgR : PySem.W.findIn K (.ref CR) "__getattribute__" = some (some (.builtin "BaseException.__getattribute__"))) (hkR : PySem.W.findIn K (.ref CR) "__getattr__" = some none) (hdR : PySem.W.hasDictIn K CR = true) (haR : PySem.W.findIn K (.ref CR) "__class__" = some (some (.builtin "object.__class__"))) (hmR : PySem.W.mroIn K CR (.type "object") = some true)
    {CN : Addr} (gN : PySem.W.nsIn K mainGlobals "NoFile" = some (some (.ref CN))) (qN : PySem.W.excIn K CN [.type "ValueError", .type "Exception", .type "BaseException", .type "object"] "ValueError.__new__" = true) (kN : PySem.W.keepIn K (.ref CN) = true) (bN : PySem.W.subIn K (.ref CN) (.type "BaseException") = some true) (tN : PySem.W.typeIn K (.ref CN) = some (.type "type"))
    (hgN : PySem.W.findIn K (.ref CN) "__getattribute__" = some (some (.builtin "BaseException.__getattribute__"))) (hkN : PySem.W.findIn K (.ref CN) "__getattr__" = some none) (hdN : PySem.W.hasDictIn K CN = true) (haN : PySem.W.findIn K (.ref CN) "__class__" = some (some (.builtin "object.__class__"))) (hmN : PySem.W.mroIn K CN (.type "object") = some true)
    (nfB : PySem.W.exmOne K (.ref CB) (.ref CF) = some false) (iwB : PySem.W.exmOne K (.ref CB) (.ref CW) = some true) (k0B : PySem.W.kitOne K (.ref CB) (.ref CB) = some (decide (0 = 0))) (k1B : PySem.W.kitOne K (.ref CB) (.ref CR) = some (decide (0 = 1))) (k2B : PySem.W.kitOne K (.ref CB) (.ref CN) = some (decide (0 = 2))) (k3B : PySem.W.kitOne K (.ref CB) (.ref CM) = some (decide (0 = 3)))
    (nfR : PySem.W.exmOne K (.ref CR) (.ref CF) = some false) (iwR : PySem.W.exmOne K (.ref CR) (.ref CW) = some true) (k0R : PySem.W.kitOne K (.ref CR) (.ref CB) = some (decide (1 = 0))) (k1R : PySem.W.kitOne K (.ref CR) (.ref CR) = some (decide (1 = 1))) (k2R : PySem.W.kitOne K (.ref CR) (.ref CN) = some (decide (1 = 2))) (k3R : PySem.W.kitOne K (.ref CR) (.ref CM) = some (decide (1 = 3)))
    (nfN : PySem.W.exmOne K (.ref CN) (.ref CF) = some false) (iwN : PySem.W.exmOne K (.ref CN) (.ref CW) = some true) (k0N : PySem.W.kitOne K (.ref CN) (.ref CB) = some (decide (2 = 0))) (k1N : PySem.W.kitOne K (.ref CN) (.ref CR) = some (decide (2 = 1))) (k2N : PySem.W.kitOne K (.ref CN) (.ref CN) = some (decide (2 = 2))) (k3N : PySem.W.kitOne K (.ref CN) (.ref CM) = some (decide (2 = 3))) :
    LamX.LawAtS l w K C8.CX0 9 63 "_law_script" mg fa h := by
  have e : f_lw = fa := by
    have z := (PySem.W.mg_of X G a_lw).symm.trans hfa
    injection z with z
    injection z
  subst e
  have D_is_between : Def K mg "is_between" s_is_between f_is_between _ := ⟨⟨_, _, _, _, _, _, _, _, _, _, rfl, l_is_between, c_is_between⟩, PySem.W.mg_of X G a_is_between, k_is_between⟩
  have b_is_between := C8.Fun.binds D_is_between.fn rfl (ps := ["thing", "least", "most"]) fun _ _ _ _ _ _ us hl => match us, hl with | [_, _, _], _ => rfl
  have D_are_letters : Def K mg "are_letters" s_are_letters f_are_letters _ := ⟨⟨_, _, _, _, _, _, _, _, _, _, rfl, l_are_letters, c_are_letters⟩, PySem.W.mg_of X G a_are_letters, k_are_letters⟩
  have b_are_letters := C8.Fun.binds D_are_letters.fn rfl (ps := ["word"]) fun _ _ _ _ _ _ us hl => match us, hl with | [_], _ => rfl
  have D_run_at : Def K mg "run_at" s_run_at f_run_at _ := ⟨⟨_, _, _, _, _, _, _, _, _, _, rfl, l_run_at, c_run_at⟩, PySem.W.mg_of X G a_run_at, k_run_at⟩
  have b_run_at := C8.Fun.binds D_run_at.fn rfl (ps := ["row", "at", "characters"]) fun _ _ _ _ _ _ us hl => match us, hl with | [_, _, _], _ => rfl
  have D_is_house : Def K mg "is_house" s_is_house f_is_house _ := ⟨⟨_, _, _, _, _, _, _, _, _, _, rfl, l_is_house, c_is_house⟩, PySem.W.mg_of X G a_is_house, k_is_house⟩
  have b_is_house := C8.Fun.binds D_is_house.fn rfl (ps := ["house"]) fun _ _ _ _ _ _ us hl => match us, hl with | [_], _ => rfl
  have D_is_text : Def K mg "is_text" s_is_text f_is_text _ := ⟨⟨_, _, _, _, _, _, _, _, _, _, rfl, l_is_text, c_is_text⟩, PySem.W.mg_of X G a_is_text, k_is_text⟩
  have b_is_text := C8.Fun.binds D_is_text.fn rfl (ps := ["text"]) fun _ _ _ _ _ _ us hl => match us, hl with | [_], _ => rfl
  have D_is_sign : Def K mg "is_sign" s_is_sign f_is_sign _ := ⟨⟨_, _, _, _, _, _, _, _, _, _, rfl, l_is_sign, c_is_sign⟩, PySem.W.mg_of X G a_is_sign, k_is_sign⟩
  have b_is_sign := C8.Fun.binds D_is_sign.fn rfl (ps := ["sign"]) fun _ _ _ _ _ _ us hl => match us, hl with | [_], _ => rfl
  have D__law_dice : Def K mg "_law_dice" s__law_dice f__law_dice _ := ⟨⟨_, _, _, _, _, _, _, _, _, _, rfl, l__law_dice, c__law_dice⟩, PySem.W.mg_of X G a__law_dice, k__law_dice⟩
  have b__law_dice := C8.Fun.binds D__law_dice.fn rfl (ps := ["_law_script"]) fun _ _ _ _ _ _ us hl => match us, hl with | [_], _ => rfl
  have D__law_next : Def K mg "_law_next" s__law_next f__law_next _ := ⟨⟨_, _, _, _, _, _, _, _, _, _, rfl, l__law_next, c__law_next⟩, PySem.W.mg_of X G a__law_next, k__law_next⟩
  have b__law_next := C8.Fun.binds D__law_next.fn rfl (ps := ["_law_dice_here", "_law_many"]) fun _ _ _ _ _ _ us hl => match us, hl with | [_, _], _ => rfl
  have D__law_like : Def K mg "_law_like" s__law_like f__law_like _ := ⟨⟨_, _, _, _, _, _, _, _, _, _, rfl, l__law_like, c__law_like⟩, PySem.W.mg_of X G a__law_like, k__law_like⟩
  have b__law_like := C8.Fun.binds D__law_like.fn rfl (ps := ["_law_found", "_law_due"]) fun _ _ _ _ _ _ us hl => match us, hl with | [_, _], _ => rfl
  have D__law_pick : Def K mg "_law_pick" s__law_pick f__law_pick _ := ⟨⟨_, _, _, _, _, _, _, _, _, _, rfl, l__law_pick, c__law_pick⟩, PySem.W.mg_of X G a__law_pick, k__law_pick⟩
  have b__law_pick := C8.Fun.binds D__law_pick.fn rfl (ps := ["_law_d", "_law_some"]) fun _ _ _ _ _ _ us hl => match us, hl with | [_, _], _ => rfl
  have D__law_told : Def K mg "_law_told" s__law_told f__law_told _ := ⟨⟨_, _, _, _, _, _, _, _, _, _, rfl, l__law_told, c__law_told⟩, PySem.W.mg_of X G a__law_told, k__law_told⟩
  have b__law_told := C8.Fun.binds D__law_told.fn rfl (ps := ["_law_work"]) fun _ _ _ _ _ _ us hl => match us, hl with | [_], _ => rfl
  have CL_House : Cls K C_House := ⟨pg_House, hd_House, po_House, sa_House⟩
  have hm_House : mg "House" = some (.ref C_House) := PySem.W.mg_of X G g_House
  have D_House_init : C8.Fun K "__init__" "House.__init__" s_House_init f_House_init _ := ⟨_, _, _, _, _, _, _, _, _, _, rfl, l_House_init, c_House_init⟩
  have b_House_init := C8.Fun.binds D_House_init rfl (ps := ["self"]) fun _ _ _ _ _ _ us hl => match us, hl with | [_], _ => rfl
  have e_House_init : Meth K C_House "__init__" f_House_init := ⟨m_House_init, i_House_init, k_House_init⟩
  have D_House_lay : C8.Fun K "lay" "House.lay" s_House_lay f_House_lay _ := ⟨_, _, _, _, _, _, _, _, _, _, rfl, l_House_lay, c_House_lay⟩
  have b_House_lay := C8.Fun.binds D_House_lay rfl (ps := ["self", "file", "text"]) fun _ _ _ _ _ _ us hl => match us, hl with | [_, _, _], _ => rfl
  have e_House_lay : Meth K C_House "lay" f_House_lay := ⟨m_House_lay, i_House_lay, k_House_lay⟩
  have D_House_edit : C8.Fun K "edit" "House.edit" s_House_edit f_House_edit _ := ⟨_, _, _, _, _, _, _, _, _, _, rfl, l_House_edit, c_House_edit⟩
  have b_House_edit := C8.Fun.binds D_House_edit rfl (ps := ["self", "file", "row", "many", "rows"]) fun _ _ _ _ _ _ us hl => match us, hl with | [_, _, _, _, _], _ => rfl
  have e_House_edit : Meth K C_House "edit" f_House_edit := ⟨m_House_edit, i_House_edit, k_House_edit⟩
  have D_House_drop : C8.Fun K "drop" "House.drop" s_House_drop f_House_drop _ := ⟨_, _, _, _, _, _, _, _, _, _, rfl, l_House_drop, c_House_drop⟩
  have b_House_drop := C8.Fun.binds D_House_drop rfl (ps := ["self", "file"]) fun _ _ _ _ _ _ us hl => match us, hl with | [_, _], _ => rfl
  have e_House_drop : Meth K C_House "drop" f_House_drop := ⟨m_House_drop, i_House_drop, k_House_drop⟩
  have D_House_text : C8.Fun K "text" "House.text" s_House_text f_House_text _ := ⟨_, _, _, _, _, _, _, _, _, _, rfl, l_House_text, c_House_text⟩
  have b_House_text := C8.Fun.binds D_House_text rfl (ps := ["self", "file"]) fun _ _ _ _ _ _ us hl => match us, hl with | [_, _], _ => rfl
  have e_House_text : Meth K C_House "text" f_House_text := ⟨m_House_text, i_House_text, k_House_text⟩
  have D_House_all_files : C8.Fun K "all_files" "House.all_files" s_House_all_files f_House_all_files _ := ⟨_, _, _, _, _, _, _, _, _, _, rfl, l_House_all_files, c_House_all_files⟩
  have b_House_all_files := C8.Fun.binds D_House_all_files rfl (ps := ["self"]) fun _ _ _ _ _ _ us hl => match us, hl with | [_], _ => rfl
  have e_House_all_files : Meth K C_House "all_files" f_House_all_files := ⟨m_House_all_files, i_House_all_files, k_House_all_files⟩
  have D_ed : Def K mg "_law_edited" s__law_edited f_ed _ := ⟨⟨_, _, _, _, _, _, _, _, _, _, rfl, l_ed, c_ed⟩, PySem.W.mg_of X G a_ed, k_ed⟩
  have b_ed := C8.Fun.binds D_ed.fn rfl (ps := ["_law_house", "_law_texts", "_law_file", "_law_row", "_law_many", "_law_more"]) fun _ _ _ _ _ _ us hl => match us, hl with | [_, _, _, _, _, _], _ => rfl
  have TL : ModsL K mg := ⟨PySem.W.mg_none_of X G z_len, PySem.W.mg_none_of X G z_int, PySem.W.mg_none_of X G z_str, PySem.W.mg_none_of X G z_bool, PySem.W.mg_none_of X G z_tuple, PySem.W.mg_none_of X G z_list, PySem.W.mg_none_of X G z_range, PySem.W.mg_none_of X G z_isinstance⟩
  have TH : ModsH K mg := ⟨PySem.W.mg_none_of X G z_all, PySem.W.mg_none_of X G z_ord, PySem.W.mg_none_of X G z_len, PySem.W.mg_none_of X G z_sorted, str_written (PySem.W.mg_of X G gL) lit_letters, ⟨_, PySem.W.mg_of X G gG, _, rfl⟩, ⟨_, PySem.W.mg_of X G gMF, _, rfl⟩, ⟨_, PySem.W.mg_of X G gMR, _, rfl⟩, ⟨_, PySem.W.mg_of X G gP, _, rfl⟩⟩
  have xB : OwnX K mg "BadHouse" CB := ⟨qB, PySem.W.mg_of X G gB, kB, bB, tB⟩
  have eB : ErrOk K CF CW CB CR CN CM CB 0 := ⟨by decide, ⟨hgB, hkB, bB, hdB, haB, hn, hto, hmB⟩, nfB, iwB, k0B, k1B, k2B, k3B⟩
  have xR : OwnX K mg "BadRows" CR := ⟨qR, PySem.W.mg_of X G gR, kR, bR, tR⟩
  have eR : ErrOk K CF CW CB CR CN CM CR 1 := ⟨by decide, ⟨hgR, hkR, bR, hdR, haR, hn, hto, hmR⟩, nfR, iwR, k0R, k1R, k2R, k3R⟩
  have xN : OwnX K mg "NoFile" CN := ⟨qN, PySem.W.mg_of X G gN, kN, bN, tN⟩
  have eN : ErrOk K CF CW CB CR CN CM CN 2 := ⟨by decide, ⟨hgN, hkN, bN, hdN, haN, hn, hto, hmN⟩, nfN, iwN, k0N, k1N, k2N, k3N⟩
  have TM : HouM K mg C_House CB CR CN := ⟨CL_House, na_House_texts, na_House_kept, na_House_laid, PySem.W.mg_none_of X G z_dict, PySem.W.mg_none_of X G z_list, PySem.W.mg_none_of X G z_len, PySem.W.mg_none_of X G z_sorted, xB, xR, xN⟩
  have TT0 : ModsTo mg CF CW CB CR CN CM := ⟨PySem.W.mg_of X G gCF, PySem.W.mg_of X G gCW, PySem.W.mg_none_of X G z_isinstance, ⟨_, PySem.W.mg_of X G gB, rfl⟩, ⟨_, PySem.W.mg_of X G gR, rfl⟩, ⟨_, PySem.W.mg_of X G gN, rfl⟩, ⟨_, PySem.W.mg_of X G gCM, rfl⟩⟩
  have nc : ptOf K c1 ≠ ptOf K c2 := of_decide_eq_false nCC
  refine ⟨PySem.W.fnOf "law" "law" (C8.fnArgs s_law) (C8.fnBody s_law) (C8.fnScope s_law) .none kV_lw dc_lw pm_lw an_lw (.ref c2) ct_lw, [(c1, ptOf K c1), (c2, ptOf K c2)], spLaw2 K [(ptOf K c1, qualE), (ptOf K c2, qualL)], fun p hp => ?_, fun p hp => ?_, fun p hp => ?_, fun s v => .of_eq rfl, fun H a ns hl _ ht hS => ?_, fun base _ _ hTB => ?_⟩
  · rcases two hp with rfl | rfl
    · exact hT_ed
    · exact hT_lw
  · rcases two hp with rfl | rfl
    · exact Option.isNone_iff_eq_none.mp nT_ed
    · exact Option.isNone_iff_eq_none.mp nT_lw
  · rcases two hp with rfl | rfl
    · exact PySem.W.codeHd_of_K X ch_ed
    · exact PySem.W.codeHd_of_K X ch_lw
  · refine ⟨a, ns, rfl, hl, hS, fun p hp => ?_, fun _ => rfl⟩
    rcases two hp with rfl | rfl
    · exact ht (c1, ptOf K c1) (List.mem_cons_self ..)
    · exact ht (c2, ptOf K c2) (List.mem_cons_of_mem _ (List.mem_cons_self ..))
  · have cr := ok_run_at (P := l.prog) (w := w) (base := base) ⟨PySem.W.mg_none_of X G z_len⟩ D_run_at b_run_at
    have ca := ok_are_letters TH cr D_are_letters b_are_letters
    have cs := ok_is_sign (P := l.prog) (w := w) (base := base) TH D_is_sign b_is_sign
    have ct := ok_is_text TH cs D_is_text b_is_text
    have ch := ok_is_house TH ca ct D_is_house b_is_house
    have cb := ok_is_between (P := l.prog) (w := w) (base := base) ⟨PySem.W.mg_none_of X G z_isinstance, PySem.W.mg_none_of X G z_int, PySem.W.mg_none_of X G z_bool⟩ D_is_between b_is_between
    have mI := ok_House_init (P := l.prog) (w := w) (base := base) TM ⟨mk_House, m_House_init, i_House_init, kp_House⟩ hm_House D_House_init b_House_init
    have mT := ok_House_text (P := l.prog) (w := w) (base := base) TM e_House_text D_House_text b_House_text
    have mA := ok_House_all_files (P := l.prog) (w := w) (base := base) TM e_House_all_files D_House_all_files b_House_all_files
    have mL := ok_House_lay TM ch e_House_lay D_House_lay b_House_lay
    have mE := ok_House_edit TM (k := 4) (Nat.le_refl _) cb mT mL e_House_edit D_House_edit b_House_edit
    have mD := ok_House_drop TM (k := 1) (Nat.le_refl _) mT e_House_drop D_House_drop b_House_drop
    have cd := ok_dice (ok_dice0 (P := l.prog) (w := w) (base := base) TL D__law_dice b__law_dice)
    have cn := ok_next (ok_next0 (P := l.prog) (w := w) (base := base) TL D__law_next b__law_next)
    have cp := ok_pick TL cn D__law_pick b__law_pick
    have cl := ok_like (P := l.prog) (w := w) (base := base) TL D__law_like b__law_like 6
    have ce : Cal l.prog w K mg base 8 "_law_edited" (spEdited C_House [(ptOf K c1, qualE), (ptOf K c2, qualL)]) [] := ⟨f_ed, _, _, [], ok_edited (k := 5) ⟨PySem.W.mg_none_of X G z_len, PySem.W.mg_none_of X G z_list⟩ TT0 (Nat.le_refl _) mE cl eB eR eN D__law_told b__law_told l_ed c_ed (hTB (c1, ptOf K c1) (List.mem_cons_self ..)) (List.mem_cons_self ..) (fun p hp e => by
      rcases two hp with rfl | rfl
      · rfl
      · exact absurd e.symm nc), D_ed.mgf, D_ed.kp, b_ed, .nil⟩
    exact law_seen (ok_law TL (PySem.W.mg_none_of X G z_sorted) TT0 (k := 6) (Nat.le_refl _) cd cn cp cl (mak_calm mI fun _ _ _ _ q => q) (met_calm mA fun _ _ _ _ q => q) mL mD mT ce eB eN D__law_told b__law_told l_lw c_lw (hTB (c2, ptOf K c2) (List.mem_cons_of_mem _ (List.mem_cons_self ..))) (List.mem_cons_of_mem _ (List.mem_cons_self ..)) (fun p hp e => by
      rcases two hp with rfl | rfl
      · exact absurd e nc
      · rfl)) rfl
end Wt
open PySem PySem.W PyProof.Rows
set_option maxRecDepth 100000 in
set_option maxHeartbeats 0 in
theorem PySem.Challenge.cw_wholetongue_k19_files_laid_and_edited_holds : PySem.Challenge.rw_wholetongue_k19_files_laid_and_edited.Holds := by
  w_on; o_law; k_head; (case hw => w_witness2)
  k_fill
  refine LamX.walk_ofTs (l := PySem.Challenge.rw_wholetongue_k19_files_laid_and_edited) (n := 63) (k := 9) (x := "_law_script") (CX := fun _ => C8.CX0) rfl (by decide) rfl ⟨rfl, by decide, by decide⟩ (fun w h Y => PySem.W.km_in_of Y) ?F (fun _ _ _ _ _ h => h)
  case F =>
    intro w mg fa h Y KX G hmg
    refine' Wt.all_mk KX G hmg ?a_is_between ?l_is_between ?c_is_between ?k_is_between ?a_are_letters ?l_are_letters ?c_are_letters ?k_are_letters ?a_run_at ?l_run_at ?c_run_at ?k_run_at ?a_is_house ?l_is_house ?c_is_house ?k_is_house ?a_is_text ?l_is_text ?c_is_text ?k_is_text ?a_is_sign ?l_is_sign ?c_is_sign ?k_is_sign ?a__law_dice ?l__law_dice ?c__law_dice ?k__law_dice ?a__law_next ?l__law_next ?c__law_next ?k__law_next ?a__law_like ?l__law_like ?c__law_like ?k__law_like ?a__law_pick ?l__law_pick ?c__law_pick ?k__law_pick ?a__law_told ?l__law_told ?c__law_told ?k__law_told ?g_House ?pg_House ?hd_House ?po_House ?sa_House ?mk_House ?kp_House ?na_House_texts ?na_House_kept ?na_House_laid ?m_House_init ?i_House_init ?l_House_init ?c_House_init ?k_House_init ?m_House_lay ?i_House_lay ?l_House_lay ?c_House_lay ?k_House_lay ?m_House_edit ?i_House_edit ?l_House_edit ?c_House_edit ?k_House_edit ?m_House_drop ?i_House_drop ?l_House_drop ?c_House_drop ?k_House_drop ?m_House_text ?i_House_text ?l_House_text ?c_House_text ?k_House_text ?m_House_all_files ?i_House_all_files ?l_House_all_files ?c_House_all_files ?k_House_all_files ?a_ed ?l_ed ?c_ed ?k_ed ?ch_ed ?nT_ed ?hT_ed ?a_lw ?l_lw ?c_lw ?k_lw ?ch_lw ?nT_lw ?hT_lw ?nCC ?z_len ?z_int ?z_str ?z_bool ?z_tuple ?z_list ?z_range ?z_isinstance ?z_all ?z_ord ?z_sorted ?z_dict ?gL ?gG ?gMF ?gMR ?gP ?gCF ?gCW ?gCM ?hn ?hto ?gB ?qB ?kB ?bB ?tB ?hgB ?hkB ?hdB ?haB ?hmB ?gR ?qR ?kR ?bR ?tR ?hgR ?hkR ?hdR ?haR ?hmR ?gN ?qN ?kN ?bN ?tN ?hgN ?hkN ?hdN ?haN ?hmN ?nfB ?iwB ?k0B ?k1B ?k2B ?k3B ?nfR ?iwR ?k0R ?k1R ?k2R ?k3R ?nfN ?iwN ?k0N ?k1N ?k2N ?k3N
    (case a_is_between => k_is); (case l_is_between => k_is); (case c_is_between => k_is); (case k_is_between => k_is)
    (case a_are_letters => k_is); (case l_are_letters => k_is); (case c_are_letters => k_is); (case k_are_letters => k_is)
    (case a_run_at => k_is); (case l_run_at => k_is); (case c_run_at => k_is); (case k_run_at => k_is)
    (case a_is_house => k_is); (case l_is_house => k_is); (case c_is_house => k_is); (case k_is_house => k_is)
    (case a_is_text => k_is); (case l_is_text => k_is); (case c_is_text => k_is); (case k_is_text => k_is)
    (case a_is_sign => k_is); (case l_is_sign => k_is); (case c_is_sign => k_is); (case k_is_sign => k_is)
    (case a__law_dice => k_is); (case l__law_dice => k_is); (case c__law_dice => k_is); (case k__law_dice => k_is)
    (case a__law_next => k_is); (case l__law_next => k_is); (case c__law_next => k_is); (case k__law_next => k_is)
    (case a__law_like => k_is); (case l__law_like => k_is); (case c__law_like => k_is); (case k__law_like => k_is)
    (case a__law_pick => k_is); (case l__law_pick => k_is); (case c__law_pick => k_is); (case k__law_pick => k_is)
    (case a__law_told => k_is); (case l__law_told => k_is); (case c__law_told => k_is); (case k__law_told => k_is)
    (case g_House => k_is); (case pg_House => k_is); (case hd_House => k_is); (case po_House => k_is); (case sa_House => k_is); (case mk_House => k_is); (case kp_House => k_is); (case na_House_texts => k_is); (case na_House_kept => k_is); (case na_House_laid => k_is)
    (case m_House_init => k_is); (case i_House_init => k_is); (case l_House_init => k_is); (case c_House_init => k_is); (case k_House_init => k_is)
    (case m_House_lay => k_is); (case i_House_lay => k_is); (case l_House_lay => k_is); (case c_House_lay => k_is); (case k_House_lay => k_is)
    (case m_House_edit => k_is); (case i_House_edit => k_is); (case l_House_edit => k_is); (case c_House_edit => k_is); (case k_House_edit => k_is)
    (case m_House_drop => k_is); (case i_House_drop => k_is); (case l_House_drop => k_is); (case c_House_drop => k_is); (case k_House_drop => k_is)
    (case m_House_text => k_is); (case i_House_text => k_is); (case l_House_text => k_is); (case c_House_text => k_is); (case k_House_text => k_is)
    (case m_House_all_files => k_is); (case i_House_all_files => k_is); (case l_House_all_files => k_is); (case c_House_all_files => k_is); (case k_House_all_files => k_is)
    (case a_ed => k_is); (case l_ed => k_is); (case c_ed => k_is); (case k_ed => k_is); (case ch_ed => kernel_rfl); (case nT_ed => kernel_rfl)
    (case hT_ed => exact PySem.W.km_tabs_of Y _ (Wt.mem_elem (by kernel_rfl)))
    (case a_lw => k_is); (case l_lw => k_is); (case c_lw => k_is); (case k_lw => k_is); (case ch_lw => kernel_rfl); (case nT_lw => kernel_rfl)
    (case hT_lw => exact PySem.W.km_tabs_of Y _ (Wt.mem_elem (by kernel_rfl)))
    (case nCC => kernel_rfl)
    (case z_len => k_is)
    (case z_int => k_is)
    (case z_str => k_is)
    (case z_bool => k_is)
    (case z_tuple => k_is)
    (case z_list => k_is)
    (case z_range => k_is)
    (case z_isinstance => k_is)
    (case z_all => k_is)
    (case z_ord => k_is)
    (case z_sorted => k_is)
    (case z_dict => k_is)
    (case gL => k_is); (case gG => k_is); (case gMF => k_is); (case gMR => k_is); (case gP => k_is); (case gCF => k_is); (case gCW => k_is); (case gCM => k_is); (case hn => k_is); (case hto => k_is)
    (case gB => k_is); (case qB => kernel_rfl); (case kB => k_is); (case bB => k_is); (case tB => k_is); (case hgB => k_is); (case hkB => k_is); (case hdB => k_is); (case haB => k_is); (case hmB => k_is)
    (case gR => k_is); (case qR => kernel_rfl); (case kR => k_is); (case bR => k_is); (case tR => k_is); (case hgR => k_is); (case hkR => k_is); (case hdR => k_is); (case haR => k_is); (case hmR => k_is)
    (case gN => k_is); (case qN => kernel_rfl); (case kN => k_is); (case bN => k_is); (case tN => k_is); (case hgN => k_is); (case hkN => k_is); (case hdN => k_is); (case haN => k_is); (case hmN => k_is)
    (case nfB => kernel_rfl); (case iwB => kernel_rfl); (case k0B => kernel_rfl); (case k1B => kernel_rfl); (case k2B => kernel_rfl); (case k3B => kernel_rfl)
    (case nfR => kernel_rfl); (case iwR => kernel_rfl); (case k0R => kernel_rfl); (case k1R => kernel_rfl); (case k2R => kernel_rfl); (case k3R => kernel_rfl)
    (case nfN => kernel_rfl); (case iwN => kernel_rfl); (case k0N => kernel_rfl); (case k1N => kernel_rfl); (case k2N => kernel_rfl); (case k3N => kernel_rfl)
