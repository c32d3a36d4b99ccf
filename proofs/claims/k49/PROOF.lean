import PyProof.Rows.All
import Wide.All
import OpenK.AllK
import Wide.FinOn
import HandS.ForMost
import HandS.Codes
import HandS.Evl
import HandS.IsInst
import KE.GoesEnumKw
import KE.GoesMore
import HandS.SortKw
import HandS.Walk
import HandS.TupAny
import KE.GoesEnum
import HandS.DictComp
import PyProof.EqKinds
import PyProof.NeKinds
import PyProof.FactsAll.dict_1
import PyProof.FactsAll.subtypes
import KE.KRevSl
import HandS.TupMul
import HandS.NoneIn
import HandS.EndTab
import HandS.Style
import HandS.Conv
import PyProof.Rows.SeqCalls
import PySem.Challenge.RW_wholetongue_k49_whole_cells_by_other_num
set_option Elab.async false
set_option linter.all false
set_option maxRecDepth 100000
/-! What is general: texts as lists of signs, readings of further rules. -/
namespace Wt
open PySem PySem.Spec PyProof.Rows L2 SX Evl

/-! ### texts -/
theorem slice_mid {a : List Nat} {i j : Nat} (h : i ≤ j) (hj : j ≤ a.length) : Txt.slice (S a) (some (i : Int)) (some (j : Int)) = S ((a.drop i).take (j - i)) := by
  have hl : (S a).length = a.length := S_len a
  have e := beq_iff_eq.mp (PyProof.Rows.slice_closesL (x := S a) (i := (i : Int)) (j := (j : Int)) (by omega) (by omega) (by rw [hl]; omega))
  refine e.trans (TL.ext_tl ?_)
  show (a.drop (i : Int).toNat).take ((j : Int) - (i : Int)).toNat = (a.drop i).take (j - i)
  rw [Int.toNat_natCast, show ((j : Int) - (i : Int)).toNat = j - i by omega]
theorem S1 (c : Nat) : (⟨#[c]⟩ : Str) = S [c] := rfl
theorem S_list (a : List Nat) : (S a).cps.toList = a := by simp [S]

/-! ### readings -/
section
variable {K : PySem.W.Frag} {σ : L2.St} {H H' : Hp} {ta tb te tx : TE} {t u : TT} {x y z v : V}
theorem rc_lenS {a : List Nat} (h : a.length ≤ 100000) : RC (fun xs H Q => ∃ z, xs = [.str z] ∧ z.length ≤ sizeLine ∧ Q (.int z.length) H) [.str (S a)] H (.int (a.length : Int)) := fun H1 _ Q q => by
  refine ⟨S a, rfl, ?_, ?_⟩
  · rw [S_len]
    exact sz_of h
  · rw [S_len]
    exact q H1 (Ex.refl H1)
theorem ev_lenS {a : List Nat} (ha : Ev ta σ H (.str (S a))) (h : a.length ≤ 100000) : Ev (tCB (fun xs H Q => ∃ z, xs = [.str z] ∧ z.length ≤ sizeLine ∧ Q (.int z.length) H) (tCons ta tNil)) σ H (.int (a.length : Int)) :=
  ev_cb (ea_cons ha ea_nil) (rc_lenS h)
theorem rv_inSign {c : Nat} {w : List Nat} : RV (fun x y H Q => ∃ (c : Nat) (z : Str), x = .str ⟨#[c]⟩ ∧ y = .str z ∧ Q (.bl (decide (c ∈ z.cps.toList))) H) (.str (S [c])) (.str (S w)) H (.bl (decide (c ∈ w))) := fun H1 _ Q q => by
  refine ⟨c, S w, rfl, rfl, ?_⟩
  rw [S_list]
  exact q H1 (Ex.refl H1)
/-- a text's sign -/
theorem rv_at {w : List Nat} {i : Nat} {c : Nat} (h : w.length ≤ 100000) (ha : w[i]? = some c) : RV rIxS (.str (S w)) (.int (i : Int)) H (.str (S [c])) := fun H1 _ Q q =>
  ⟨S w, (i : Int), c, rfl, rfl, by rw [S_len]; exact sz_of h, by rw [S_list]; exact atI_nat ha, q H1 (Ex.refl H1)⟩
theorem ev_sl {te : TE} {tl th : TO} {a : List Nat} {i j : Nat} (h : Ev te σ H (.str (S a))) (h1 : EvO tl σ H (some (i : Int))) (h2 : EvO th σ H (some (j : Int))) (hl : a.length ≤ 100000) (hi : i ≤ j) (hj : j ≤ a.length) :
    Ev (tSl C8.rSlX te tl th) σ H (.str (S ((a.drop i).take (j - i)))) := fun H1 e Q q =>
  h H1 e _ fun H2 e2 => h1 H2 (e.trans e2) _ fun H3 e3 => h2 H3 ((e.trans e2).trans e3) _ fun H4 e4 => by
    refine ⟨S a, rfl, ?_, ?_⟩
    · rw [S_len]
      exact sz_of hl
    · rw [slice_mid hi hj]
      exact q H4 ((e2.trans e3).trans e4)
end
end Wt

set_option Elab.async false
set_option linter.all false
set_option maxRecDepth 100000
set_option maxHeartbeats 4000000
/-! Rules of ours: enumerate from a start, dict.update, a text many times. -/
namespace Wt
open PySem PySem.Spec PyProof.Rows L2 SX Evl

theorem bt_int : bootBuiltins "int" = some (.type "int") := by decide +kernel
theorem bt_str : bootBuiltins "str" = some (.type "str") := by decide +kernel
theorem bt_bool : bootBuiltins "bool" = some (.type "bool") := by decide +kernel
theorem bt_list : bootBuiltins "list" = some (.type "list") := by decide +kernel
theorem bt_tuple : bootBuiltins "tuple" = some (.type "tuple") := by decide +kernel
theorem bt_enum : bootBuiltins "enumerate" = some (.type "enumerate") := by decide +kernel
theorem bt_isinstance : bootBuiltins "isinstance" = some (.builtin "isinstance") := by decide +kernel

/-! ### d.update(e) -/
def rDUpd : V → List V → Hp → VK → Prop := fun x vs H Q =>
  ∃ (a b : Addr) (ks ls : List (Key × V)), x = .ref a ∧ vs = [.ref b] ∧ a ≠ b ∧ H a = some (.dK ks) ∧ H b = some (.dK ls) ∧ ks.length + ls.length ≤ sizeLine ∧
    Q .non (upd H a (.dK (mergeK ks ls)))
theorem mt_dupdate {X : Cx} : MtR X "dict.update" rDUpd := by
  intro pins s σ H x vs v us Q I rx rv hyp
  obtain ⟨a, b, ks, ls, rfl, rfl, hab, ea, eb, hz, q⟩ := hyp
  obtain rfl : v = Value.ref a := rx
  obtain ⟨u, rfl, ru⟩ := rv.one
  obtain rfl : u = Value.ref b := ru
  obtain ⟨za, ha, va, ra, da⟩ := dk_of I.hok ea
  obtain ⟨zb, hb, vb, rb, db⟩ := dk_of I.hok eb
  have hsum : va.length + vb.length ≤ sizeLine := by
    rw [← ra.length, ← rb.length]
    exact hz
  refine call_meetsIn PySem.F.slot_dict_update da.typeIs PySem.F.entry_dict_update (PySem.F.args_dict_update_2 _ _)
    (meets_dict_update (mixKind X.prog X.w) a b hab hb) ⟨va, vb, da, db, hsum, fun h2 dd2 _ hs => ?_⟩
  have there : ∃ q, h2.get? a = some q := by
    obtain ⟨q, _, _, hq, _⟩ := dd2
    exact ⟨q, hq⟩
  have hl : (mergeK ks ls).length ≤ sizeLine := Nat.le_trans (length_mergeK ls ks) hz
  exact ⟨.non, _, d_write (t' := s.toks) I (by rw [ea]; exact True.intro) hs there (dk_new hl ha (KV.merge rb ra) dd2), rfl, q⟩

/-! ### a text many times -/
theorem mul_S {a : List Nat} {k : Nat} : Txt.mul (S a) (k : Int) = S (List.replicate k a).flatten := by
  unfold Txt.mul
  by_cases h0 : (k : Int) < 1
  · have e : k = 0 := by omega
    subst e
    rw [if_pos (by decide)]
    rfl
  · rw [if_neg h0]
    by_cases h1 : ((k : Int) == 1 || (S a).length == 0) = true
    · rw [if_pos h1]
      rw [Bool.or_eq_true] at h1
      rcases h1 with h1 | h1
      · have e : k = 1 := by
          have := eq_of_beq h1
          omega
        subst e
        show S a = S (a ++ [])
        rw [List.append_nil]
      · have e : a = [] := by
          have := eq_of_beq h1
          rw [S_len] at this
          exact List.length_eq_zero_iff.mp this
        subst e
        refine congrArg S ?_
        have : ∀ n : Nat, (List.replicate n ([] : List Nat)).flatten = [] := fun n => by
          induction n with
          | zero => rfl
          | succ n ih => rw [List.replicate_succ, List.flatten_cons, ih] <;> rfl
        rw [this]
    · rw [if_neg h1]
      have go : ∀ (n : Nat) (acc : List Nat), (List.replicate n (S a).cps).foldl (· ++ ·) acc.toArray = (acc ++ (List.replicate n a).flatten).toArray := fun n => by
        induction n with
        | zero =>
          intro acc
          show acc.toArray = (acc ++ []).toArray
          rw [List.append_nil]
        | succ n ih =>
          intro acc
          rw [List.replicate_succ, List.replicate_succ, List.foldl_cons, List.flatten_cons]
          have e : acc.toArray ++ (S a).cps = (acc ++ a).toArray := by simp [S]
          rw [e, ih, List.append_assoc]
      have e2 := go ((k : Int).toNat) []
      rw [Int.toNat_natCast] at e2 ⊢
      have e3 : (List.replicate k (S a).cps).foldl (· ++ ·) #[] = ((List.replicate k a).flatten).toArray := by
        refine Eq.trans ?_ (e2.trans ?_)
        · rfl
        · rw [List.nil_append]
      rw [e3]
def rRepS : R2 := fun x y H Q => ∃ (a : List Nat) (k : Nat), x = .str (S a) ∧ y = .int (k : Int) ∧ a.length ≤ 16 ∧ k ≤ 100000 ∧ Q (.str (S (List.replicate k a).flatten)) H
theorem op_rep_str {X : Cx} : OpR X (binaryOp .Mult) rRepS := by
  intro pins s σ H x y v u Q I rx ry hyp
  obtain ⟨a, k, rfl, rfl, ha, hk, q⟩ := hyp
  obtain ⟨t, rfl⟩ := rx
  obtain ⟨t2, rfl⟩ := ry
  refine SB.mul (mulOk_of 16 100000 (by rw [S_len]; exact ha) (by omega) (by omega) (by decide) (by decide)) fun t3 k3 => ?_
  rw [mul_S]
  exact ⟨.str (S (List.replicate k a).flatten), H, I.tok _, ⟨_, rfl⟩, q⟩

/-! ### enumerate(xs, start=k) -/
/-- the list at a as it stands at each turn, each item behind its number, from k on -/
def Itk0 (K : PySem.W.Frag) (a : Addr) (k : Int) : It where
  go := fun i H => ∃ (xs : List V) (x : V), SqL K H a xs ∧ xs[i]? = some x
  yld := fun i H v H' => ∃ (T : Addr) (x : V), v = .ref T ∧ H T = none ∧ H' = upd H T (.tup [.int (k + (i : Nat)), x]) ∧ ∀ xs, SqL K H a xs → xs[i]? = some x
  stop := fun i H => ∃ xs : List V, SqL K H a xs ∧ xs.length ≤ i
theorem turn_from {P : Program} {w : World} {K : PySem.W.Frag} {elts : List Expr} {kk : Nat} {tpos : Pos} (a e it : Addr) (k : Int) (hai : a ≠ it) (hae : a ≠ e) :
    Turn P w K (.Tuple elts kk tpos) (Itk0 K a k) [e, it] e (fun i h => (∃ old, IsEnum h e it (k + (i : Nat)) old) ∧ h.IsListIter it a i ∧ e ≠ it) where
  mem := List.mem_cons_self ..
  obj := by
    rintro i h ⟨⟨old, he⟩, ⟨o, ho, hc, hd⟩, _⟩ b hb
    rcases List.mem_cons.mp hb with rfl | hb
    · exact ⟨_, he, fun v q => nomatch q⟩
    · rw [List.mem_singleton.mp hb]
      exact ⟨o, ho, fun v q => by rw [hd] at q; cases q⟩
  keep := by
    rintro i h h2 ⟨⟨old, he⟩, hi, hne⟩ kp
    exact ⟨⟨old, kp e (List.mem_cons_self ..) _ he⟩, hi.at fun o q => kp it (List.mem_cons_of_mem _ (List.mem_singleton.mpr rfl)) o q, hne⟩
  item := by
    intro X hP hw hK hc i pins s σ H E I hf st hg
    subst hP hw hK
    obtain ⟨⟨old, he⟩, hit, hne⟩ := st
    obtain ⟨xs, x, hq, hx⟩ := hg
    obtain ⟨its, rv, p, hz⟩ := I.list hq
    obtain ⟨u, hu, ru⟩ := rv.get hx
    have hel : e < s.heap.objs.size := Heap.lt_size he
    have hil : it < s.heap.objs.size := by
      obtain ⟨_, q, _⟩ := hit
      exact Heap.lt_size q
    have hlt : i < its.toArray.size := by
      have := (List.getElem?_eq_some_iff.mp hu).1
      rw [List.size_toArray]
      exact this
    refine wpAny_pyNext_enum_itemC (Draws.list (prog := X.prog) (w := X.w) (A := X.A.in1) (show X.A.in1.handled = none from I.ok.hd hc) it a hai its.toArray) he ⟨hit, p.isList⟩ hlt hne (fun m => ?_) fun y h2 tk hy ho st2 hT hsz hk => ?_
    · rcases List.mem_cons.mp m with z | z
      · exact hne z
      · exact hae (List.mem_singleton.mp z).symm
    have hyu : y = u := by
      have z : its[i]? = some y := by simpa using hy
      rw [hu] at z
      exact (Option.some.inj z).symm
    subst hyu
    refine ⟨_, rfl, wpAny_letOwnedTupleGo_enum (s := { s with heap := h2, toks := tk + 1 }) ho fun h3 he3 sb => ?_⟩
    have hT2 := (sb.2 s.heap.objs.size (Nat.ne_of_gt hel)).trans hT
    have new : ObjOk X.prog X.w (upd H s.heap.objs.size (.tup [.int (k + (i : Nat)), x])) h3 s.heap.objs.size (.tup [.int (k + (i : Nat)), x]) :=
      ⟨by show 2 ≤ sizeLine; decide, [.int (k + (i : Nat)) tk, y], .cons ⟨_, rfl⟩ (.cons ru .nil), ⟨_, hT2, rfl, _, rfl⟩⟩
    have I1 := I.turnedNew (h' := h3) (t' := tk + 1) (ch := [e, it]) (fun b ob hb q => by
      have n1 : b ≠ e := fun z => hb (z ▸ List.mem_cons_self ..)
      have n2 : b ≠ it := fun z => hb (z ▸ List.mem_cons_of_mem _ (List.mem_singleton.mpr rfl))
      exact (sb.2 b n1).trans (hk b ob n1 n2 q)) hf (Nat.le_refl _) new
    refine ⟨.ref s.heap.objs.size, _, I1, rfl, ⟨_, x, rfl, I.hok.fresh (Nat.le_refl _), rfl, fun ys hy2 => ?_⟩, ⟨⟨y, ?_⟩, ?_, hne⟩, fun b hb => ?_⟩
    · rw [I.list_inj hy2 hq]
      exact hx
    · have e1 : k + ((i + 1 : Nat) : Int) = k + (i : Int) + 1 := by omega
      rw [e1]
      exact he3
    · exact st2.1.at fun o q => (sb.2 it (Ne.symm hne)).trans q
    · have hb2 : b < s.heap.objs.size := by
        rcases List.mem_cons.mp hb with rfl | z
        · exact hel
        · rw [List.mem_singleton.mp z]
          exact hil
      rw [upd_ne (Nat.ne_of_lt hb2)]
      exact (hf b hb).1
  done := by
    intro X hP hw hK hc i pins s σ H E I hf st hg
    subst hP hw hK
    obtain ⟨⟨old, he⟩, hit, hne⟩ := st
    obtain ⟨xs, hq, hx⟩ := hg
    obtain ⟨its, rv, p, hz⟩ := I.list hq
    obtain ⟨f0, f1, f2, f3, f4, f5⟩ := hf it (List.mem_cons_of_mem _ (List.mem_singleton.mpr rfl))
    have hl := rv.length
    have hT : s.TypeIs (.ref e) "enumerate" := ⟨_, he, rfl⟩
    have hnone : its.toArray[i]? = none := by
      simp
      omega
    unfold pyNext
    refine wpAny_bind (wpAny_attempt (wpAny_callSpecial?_slot (name := Str.ofString "__next__") hT PySem.F.slot_enumerate_next
      (wpAny_call_entry PySem.F.slot_enumerate_next hT PySem.F.entry_enumerate_next ?_ (PySem.F.args_enumerate_next_1 _))))
    show wpAny _ _ (field (.ref e) 2 >>= _) _ _ _
    refine wpAny_bind (wpAny_field he rfl (x := .ref it) rfl (wpAny_bind (wpAny_nextOf_list_end (I.ok.hd hc) hit p.isList hnone fun h2 x2 hE2 hx2 => ?_)))
    obtain ⟨o2, ho2, hc2⟩ := hx2
    exact wpAny_bind (wpAny_isInstance (T := "StopIteration") (b := true) ⟨o2, ho2, hc2⟩ isSubtype_stop
      (wpAny_pure ⟨rfl, I.turned (t' := s.toks) (fun b o hb q => hE2 b o hb q) f0 f1 f3 f4 f5⟩))
  self := by
    rintro A i s Q E ⟨⟨_, he⟩, _⟩ h
    exact wpAny_pyIter_enum he h
/-- a built-in class called with keywords -/
theorem callWith_tyKw {M : Model} {A : Around} {E : Value → Shared → Prop} {s : Shared} {env : Env} {pos : Pos} {T : String} {e : Expr} {rest : List Expr} {kws : List Keyword} {Q : Value → Shared → Prop}
    (h : wpAny M A (spliced (backTo pos (starEach (e :: rest) env))) (fun vs s1 => wpAny M A (evalAll ((backToKw pos (keywordEach kws env)).map (·.2)))
      (fun ks s2 => wpAny M A (call (.type T) vs (((backToKw pos (keywordEach kws env)).filterMap (·.1)).zip ks)) Q E s2) E s1) E s)
    (he : backTo pos (starEach (e :: rest) env) = (false, eval e env) :: backTo pos (starEach rest env) := by rfl)
    (hpl : (backTo pos (starEach (e :: rest) env)).any (·.1) = false := by rfl)
    (hall : (backToKw pos (keywordEach kws env)).all (·.1.isSome) = true := by rfl)
    (hkw : (backToKw pos (keywordEach kws env)).any (·.1.isNone) = false := by rfl) :
    wpAny M A (callWith pos (.type T) [] (backTo pos (starEach (e :: rest) env)) (backToKw pos (keywordEach kws env))) Q E s := by
  unfold callWith
  have h2 : wpAny M A (evalArgs (.type T) true (backTo pos (starEach (e :: rest) env)) (backToKw pos (keywordEach kws env))) (fun a s1 => wpAny M A (call (.type T) a.pos a.kw) Q E s1) E s := by
    rw [he] at h ⊢
    exact evalArgs_kwB hall h
  refine wpAny_bind (wpAny_holding (wpAny_mono h2 (fun a s1 h1 => wpAny_bind (wpAny_standAt ?_)) fun _ _ x => x))
  rw [hpl, hkw]
  refine wpAny_bind (wpAny_pure ?_)
  refine wpAny_bind (wpAny_mono h1 (fun r s2 hr => ?_) fun _ _ x => x)
  exact wpAny_bind (wpAny_holding (wpAny_point (wpAny_pure hr)))
def iFrom (K : PySem.W.Frag) (k : Int) (ta : TA) : TI := fun σ H R => ta σ H fun vs H1 => ∃ a xs, vs = [.ref a] ∧ SqL K H1 a xs ∧ R (Itk0 K a k) H1
theorem pi_enumS {X : Cx} {e : Expr} {ta : TA} {p pos tpos p1 p2 : Pos} {elts : List Expr} {kk j : Nat} {k : Int} (hg : Gl X "enumerate") (hm : X.mg "enumerate" = none) (ha : PA X [e] ta)
    (hk0 : -(2 ^ 63) ≤ k := by decide) (hk1 : k < 2 ^ 63 := by decide)
    (he : backTo pos (starEach [e] X.env) = (false, eval e X.env) :: backTo pos (starEach [] X.env) := by rfl) (hpl : (backTo pos (starEach [e] X.env)).any (·.1) = false := by rfl)
    (hall : (backToKw pos (keywordEach [⟨some "start", .Constant (.int k) j p1, p2⟩] X.env)).all (·.1.isSome) = true := by rfl)
    (hkw : (backToKw pos (keywordEach [⟨some "start", .Constant (.int k) j p1, p2⟩] X.env)).any (·.1.isNone) = false := by rfl)
    (hks : (backToKw pos (keywordEach [⟨some "start", .Constant (.int k) j p1, p2⟩] X.env)).filterMap (·.1) = [Str.ofString "start"] := by rfl) :
    PI X (.Tuple elts kk tpos) (.Call (.Name "enumerate" p) [e] [⟨some "start", .Constant (.int k) j p1, p2⟩] pos) (iFrom X.K k ta) := by
  refine ⟨fun pins s σ H R I h => wpAny_Call_Name_kw (ld_blt I hg hm bt_enum ?_ (by decide))⟩
  refine callWith_tyKw (thn (ha.run pos pins s σ H _ I h) fun us s1 ⟨vs, H1, I1, r1, q1⟩ => ?_) he hpl hall hkw
  refine thn ((pk_cons (pe_int (X := X) (pos := p1) (j := j) (i := k)) pk_nil).run pos pins s1 σ H1 (fun zs H2 => zs = [.int k] ∧ H2 = H1) I1 ⟨rfl, rfl⟩) fun ws s2 ⟨zs, H2, I2, r2, q2⟩ => ?_
  rw [hks]
  obtain ⟨rfl, rfl⟩ := q2
  obtain ⟨a, xs, rfl, hq, q⟩ := q1
  obtain ⟨u, rfl, ru⟩ := r1.one
  cases ru
  obtain ⟨u2, rfl, t2, rfl⟩ := r2.one
  obtain ⟨its, rv, p3, hz⟩ := I2.list hq
  refine enum_begins_start (begins_list a its.toArray) p3.isList hk0 hk1 fun h2 he2 hit hsz hk => wpAny_pyIter_enum he2 ?_
  have I3 : Inv X pins σ H2 { s2 with heap := h2 } := I2.kept (t' := s2.toks) hk
  have hal : a < s2.heap.objs.size := by
    obtain ⟨o, n, ho, _⟩ := p3
    exact Heap.lt_size ho
  refine ⟨s2.heap.objs.size + 1, [s2.heap.objs.size + 1, s2.heap.objs.size], _, _, H2, rfl, I3,
    turn_from a (s2.heap.objs.size + 1) s2.heap.objs.size k (Nat.ne_of_lt hal) (Nat.ne_of_lt (Nat.lt_succ_of_lt hal)), ⟨⟨.none, ?_⟩, ⟨_, hit, rfl, rfl⟩, Nat.succ_ne_self _⟩, fun b hb => ?_, q⟩
  · show IsEnum h2 (s2.heap.objs.size + 1) s2.heap.objs.size (k + ((0 : Nat) : Int)) .none
    rw [show k + ((0 : Nat) : Int) = k by omega]
    exact he2
  · have hle : s2.heap.objs.size ≤ b := by
      rcases List.mem_cons.mp hb with rfl | z
      · exact Nat.le_succ _
      · rw [List.mem_singleton.mp z]
        exact Nat.le_refl _
    exact I2.fpOk hle (I2.hok.fresh hle)
/-- a walk of it by its invariant -/
theorem for_from {K : PySem.W.Frag} {a : Addr} {xs : List V} {k : Int} {g : TG} {tb : TS} {D : Ends} {σ : L2.St} {H : Hp} (Pv : Nat → L2.St → Hp → Prop) (h0 : Pv 0 σ H) (hl : ∀ i σ H, i ≤ xs.length → Pv i σ H → SqL K H a xs)
    (hs : ∀ i x T σ H, xs[i]? = some x → Pv i σ H → H T = none → g (.ref T) σ (upd H T (.tup [.int (k + (i : Nat)), x])) fun σ2 H2 => tb { D with nx := Pv (i + 1), ct := Pv (i + 1), bk := D.nx } σ2 H2)
    (hd : ∀ σ H, Pv xs.length σ H → D.nx σ H) :
    ∃ W : Nat → Nat → L2.St → Hp → Prop, (∃ m, W 0 m σ H) ∧ ∀ i m σ H, W i m σ H →
      ((Itk0 K a k).stop i H ∧ D.nx σ H) ∨ ((Itk0 K a k).go i H ∧ ∃ N : L2.St → Hp → Prop, (∀ σ' H', N σ' H' → ∃ m', m' < m ∧ W (i + 1) m' σ' H') ∧
        ∀ x H', (Itk0 K a k).yld i H x H' → g x σ H' fun σ2 H2 => tb { D with nx := N, ct := N, bk := D.nx } σ2 H2) := by
  refine ⟨fun i m σ H => i + m = xs.length ∧ Pv i σ H, ⟨xs.length, by omega, h0⟩, ?_⟩
  rintro i m σ H ⟨hm, p⟩
  have hq := hl i σ H (by omega) p
  by_cases hi : i < xs.length
  · have hx : xs[i]? = some xs[i] := List.getElem?_eq_getElem hi
    refine .inr ⟨⟨xs, _, hq, hx⟩, fun σ' H' => Pv (i + 1) σ' H', fun σ' H' p2 => ⟨m - 1, by omega, by omega, p2⟩, ?_⟩
    rintro v H' ⟨T, x, rfl, hT, rfl, hf⟩
    exact hs i x T σ H (hf xs hq) p hT
  · have e : i = xs.length := by omega
    subst e
    exact .inl ⟨⟨xs, hq, Nat.le_refl _⟩, hd σ H p⟩
end Wt

set_option Elab.async false
set_option linter.all false
set_option maxRecDepth 100000
set_option maxHeartbeats 4000000
/-! Data; values that are not known but by what is true of them; the dice. -/
namespace Wt
open PySem PySem.Spec PyProof.Rows L2 SX Evl

/-! ### data -/
mutual
theorem Dp.ex {K : PySem.W.Frag} {H H' : Hp} (e : Ex H H') : ∀ (d : PyData) (v : V), Dp K H v d → Dp K H' v d
  | .none, _, h => by
    cases h
    exact .non
  | .bool b, _, h => by
    cases h
    exact .bl b
  | .int i, _, h => by
    cases h
    exact .int i
  | .str x, _, h => by
    cases h
    exact .str x
  | .list ds, _, h => by
    cases h with
    | lst h1 h2 => exact .lst (ex_l e h1) (DpAll.ex e ds _ h2)
  | .tuple ds, _, h => by
    cases h with
    | tup h1 h2 => exact .tup (ex_t e h1) (DpAll.ex e ds _ h2)
  | .dict kvs, _, h => by cases h
theorem DpAll.ex {K : PySem.W.Frag} {H H' : Hp} (e : Ex H H') : ∀ (ds : List PyData) (vs : List V), DpAll K H vs ds → DpAll K H' vs ds
  | [], _, h => by
    cases h
    exact .nil
  | d :: ds, _, h => by
    cases h with
    | cons h1 h2 => exact .cons (Dp.ex e d _ h1) (DpAll.ex e ds _ h2)
end
theorem dpa_len {K : PySem.W.Frag} {H : Hp} : ∀ {vs : List V} {ds : List PyData}, DpAll K H vs ds → vs.length = ds.length
  | _, _, .nil => rfl
  | _, _, .cons _ h => congrArg (· + 1) (dpa_len h)
theorem dpa_get {K : PySem.W.Frag} {H : Hp} : ∀ {vs : List V} {ds : List PyData} {i : Nat}, DpAll K H vs ds → i < ds.length → ∃ v d, vs[i]? = some v ∧ ds[i]? = some d ∧ Dp K H v d
  | _, _, _, .nil, h => absurd h (Nat.not_lt_zero _)
  | _, _, 0, .cons h _, _ => ⟨_, _, rfl, rfl, h⟩
  | _, _, i + 1, .cons _ t, h => by
    obtain ⟨v, d, h1, h2, h3⟩ := dpa_get t (i := i) (Nat.lt_of_succ_lt_succ h)
    exact ⟨v, d, h1, h2, h3⟩
theorem dpa_app {K : PySem.W.Frag} {H : Hp} : ∀ {vs : List V} {ds : List PyData} {us : List V} {es : List PyData}, DpAll K H vs ds → DpAll K H us es → DpAll K H (vs ++ us) (ds ++ es)
  | _, _, _, _, .nil, h => h
  | _, _, _, _, .cons h t, g => .cons h (dpa_app t g)
theorem dpa_snoc {K : PySem.W.Frag} {H : Hp} {vs : List V} {ds : List PyData} {v : V} {d : PyData} (h : DpAll K H vs ds) (g : Dp K H v d) : DpAll K H (vs ++ [v]) (ds ++ [d]) := dpa_app h (.cons g .nil)

/-- what stands in tuples alone: it stays whatever else changes -/
def Tx (H H' : Hp) : Prop := ∀ a xs, H a = some (.tup xs) → H' a = some (.tup xs)
theorem Tx.refl (H : Hp) : Tx H H := fun _ _ h => h
theorem Tx.trans {H H1 H2 : Hp} (a : Tx H H1) (b : Tx H1 H2) : Tx H H2 := fun x xs h => b x xs (a x xs h)
theorem Tx.of {H H' : Hp} (e : Ex H H') : Tx H H' := fun a xs h => e a _ h
theorem Tx.lst {H : Hp} {l : Addr} {xs ys : List V} (h : H l = some (.lst xs)) : Tx H (upd H l (.lst ys)) := fun a zs q => by
  rw [upd_ne (ne_of q h (by intro z; cases z))]
  exact q
theorem Tx.dK {H : Hp} {l : Addr} {ks ls : List (Key × V)} (h : H l = some (.dK ks)) : Tx H (upd H l (.dK ls)) := fun a zs q => by
  rw [upd_ne (ne_of q h (by intro z; cases z))]
  exact q
mutual
inductive Td (H : Hp) : V → PyData → Prop
  | non : Td H .non .none
  | bl (b : Bool) : Td H (.bl b) (.bool b)
  | int (i : Int) : Td H (.int i) (.int i)
  | str (x : Str) : Td H (.str x) (.str x)
  | tup {a : Addr} {xs : List V} {ds : List PyData} : H a = some (.tup xs) → TdAll H xs ds → Td H (.ref a) (.tuple ds)
inductive TdAll (H : Hp) : List V → List PyData → Prop
  | nil : TdAll H [] []
  | cons {v : V} {vs : List V} {d : PyData} {ds : List PyData} : Td H v d → TdAll H vs ds → TdAll H (v :: vs) (d :: ds)
end
mutual
theorem Td.tx {H H' : Hp} (e : Tx H H') : ∀ (d : PyData) (v : V), Td H v d → Td H' v d
  | .none, _, h => by
    cases h
    exact .non
  | .bool b, _, h => by
    cases h
    exact .bl b
  | .int i, _, h => by
    cases h
    exact .int i
  | .str x, _, h => by
    cases h
    exact .str x
  | .list ds, _, h => by cases h
  | .tuple ds, _, h => by
    cases h with
    | tup h1 h2 => exact .tup (e _ _ h1) (TdAll.tx e ds _ h2)
  | .dict kvs, _, h => by cases h
theorem TdAll.tx {H H' : Hp} (e : Tx H H') : ∀ (ds : List PyData) (vs : List V), TdAll H vs ds → TdAll H' vs ds
  | [], _, h => by
    cases h
    exact .nil
  | d :: ds, _, h => by
    cases h with
    | cons h1 h2 => exact .cons (Td.tx e d _ h1) (TdAll.tx e ds _ h2)
end
mutual
theorem Td.dp {K : PySem.W.Frag} {H : Hp} : ∀ (d : PyData) (v : V), Td H v d → Dp K H v d
  | .none, _, h => by
    cases h
    exact .non
  | .bool b, _, h => by
    cases h
    exact .bl b
  | .int i, _, h => by
    cases h
    exact .int i
  | .str x, _, h => by
    cases h
    exact .str x
  | .list ds, _, h => by cases h
  | .tuple ds, _, h => by
    cases h with
    | tup h1 h2 => exact .tup (st_of h1) (TdAll.dp ds _ h2)
  | .dict kvs, _, h => by cases h
theorem TdAll.dp {K : PySem.W.Frag} {H : Hp} : ∀ (ds : List PyData) (vs : List V), TdAll H vs ds → DpAll K H vs ds
  | [], _, h => by
    cases h
    exact .nil
  | d :: ds, _, h => by
    cases h with
    | cons h1 h2 => exact .cons (Td.dp d _ h1) (TdAll.dp ds _ h2)
end
theorem TdAll.app {H : Hp} : ∀ {vs : List V} {ds : List PyData} {us : List V} {es : List PyData}, TdAll H vs ds → TdAll H us es → TdAll H (vs ++ us) (ds ++ es)
  | _, _, _, _, .nil, h => h
  | _, _, _, _, .cons h t, g => .cons h (t.app g)
theorem TdAll.snoc {H : Hp} {vs : List V} {ds : List PyData} {v : V} {d : PyData} (h : TdAll H vs ds) (g : Td H v d) : TdAll H (vs ++ [v]) (ds ++ [d]) := h.app (.cons g .nil)
theorem TdAll.len {H : Hp} : ∀ {vs : List V} {ds : List PyData}, TdAll H vs ds → vs.length = ds.length
  | _, _, .nil => rfl
  | _, _, .cons _ h => congrArg (· + 1) h.len

/-! ### a value that is known by what is true of it -/
def EvN (te : TE) (σ : L2.St) (H : Hp) (P : V → Prop) : Prop := ∀ H1, Ex H H1 → ∀ Q : VK, (∀ v H2, P v → Ex H1 H2 → Q v H2) → te σ H1 Q
def SpN (sp : Sp) (vs : List V) (H : Hp) (P : V → Prop) : Prop := ∀ H1, Ex H H1 → ∀ Q : VK, (∀ v H2, P v → Ex H1 H2 → Q v H2) → ∀ E : XK, sp vs H1 Q E
def EvTN (tt : TT) (σ : L2.St) (H : Hp) (P : Bool → Prop) : Prop := ∀ H1, Ex H H1 → ∀ Q : Bool → Hp → Prop, (∀ b H2, P b → Ex H1 H2 → Q b H2) → tt σ H1 Q
section
variable {K : PySem.W.Frag} {σ : L2.St} {H H' : Hp} {ta tb te tx : TE} {t u : TT} {x y z v : V} {r : R2} {P P2 : V → Prop}
theorem EvN.of (h : Ev te σ H v) : EvN te σ H (· = v) := fun H1 e Q q => h H1 e Q fun H2 e2 => q v H2 rfl e2
theorem EvN.mono (e : Ex H H') (h : EvN te σ H P) : EvN te σ H' P := fun H1 e1 Q q => h H1 (e.trans e1) Q q
theorem EvN.imp (h : EvN te σ H P) (i : ∀ v, P v → P2 v) : EvN te σ H P2 := fun H1 e Q q => h H1 e Q fun v H2 p e2 => q v H2 (i v p) e2
theorem EvN.one (h : EvN te σ H P) (i : ∀ w, P w → w = v) : Ev te σ H v := fun H1 e Q q => h H1 e Q fun w H2 p e2 => by
  rw [i w p]
  exact q H2 e2
theorem en_op (ha : EvN ta σ H P) (hb : ∀ x, P x → EvN tb σ H P2) {P3 : V → Prop} (hr : ∀ x y H1, P x → P2 y → Ex H H1 → ∀ Q : VK, (∀ z H2, P3 z → Ex H1 H2 → Q z H2) → r x y H1 Q) : EvN (tOp r ta tb) σ H P3 := fun H1 e Q q =>
  ha H1 e _ fun x H2 px e2 => hb x px H2 (e.trans e2) _ fun y H3 py e3 => hr x y H3 px py ((e.trans e2).trans e3) Q fun z H4 pz e4 => q z H4 pz ((e2.trans e3).trans e4)
/-- both operands, then a value -/
theorem en_opV (ha : EvN ta σ H P) (hb : ∀ x, P x → EvN tb σ H P2) {P3 : V → Prop} (hr : ∀ x y, P x → P2 y → ∃ z, P3 z ∧ RV r x y H z) : EvN (tOp r ta tb) σ H P3 := en_op ha hb fun x y H1 px py e Q q => by
  obtain ⟨z, pz, rz⟩ := hr x y px py
  exact rz H1 e Q fun H2 e2 => q z H2 pz e2
theorem en_call {sp : Sp} {dvs vs : List V} {E : XK} {ta : TA} (h : EvA ta σ H vs) (hs : SpN sp (vs ++ dvs) H P) : EvN (tCall sp dvs E ta) σ H P := fun H1 e Q q =>
  h H1 e _ fun H2 e2 => hs H2 (e.trans e2) Q (fun v H3 p e3 => q v H3 p (e2.trans e3)) E
theorem etn_test (h : EvN te σ H P) {B : Bool → Prop} (i : ∀ v, P v → ∃ b, v = .bl b ∧ B b) : EvTN (tTest te) σ H B := fun H1 e Q q => h H1 e _ fun v H2 p e2 => by
  obtain ⟨b, rfl, pb⟩ := i v p
  exact ⟨b, rfl, q b H2 pb e2⟩
theorem en_if {b : Bool} (h : EvT t σ H b) (h1 : b = true → EvN ta σ H P) (h2 : b = false → EvN tb σ H P) : EvN (tIf t ta tb) σ H P := fun H1 e Q q => h H1 e _ fun H2 e2 => by
  cases b with
  | true =>
    show ta σ H2 Q
    exact h1 rfl H2 (e.trans e2) Q fun v H3 p e3 => q v H3 p (e2.trans e3)
  | false =>
    show tb σ H2 Q
    exact h2 rfl H2 (e.trans e2) Q fun v H3 p e3 => q v H3 p (e2.trans e3)
variable {D : Ends} {tu tw tz : TS} {g : TG}
theorem sn_asg {i : Nat} (h : EvN te σ H P) (k : ∀ v H1, P v → Ex H H1 → D.nx (σ.set i (some v)) H1) : tAsg te (gName i) D σ H := h H (Ex.refl H) _ fun v H1 p e => k v H1 p e
theorem qn_asg {i : Nat} (h : EvN te σ H P) (k : ∀ v H1, P v → Ex H H1 → tz D (σ.set i (some v)) H1) : tSeq (tAsg te (gName i)) tz D σ H := sn_asg (D := { D with nx := tz D }) h k
theorem sn_ret (h : EvN te σ H P) (k : ∀ v H1, P v → Ex H H1 → D.rt v H1) : tRet te D σ H := h H (Ex.refl H) _ k
theorem sn_if (h : EvTN t σ H B) (h1 : B true → ∀ H1, Ex H H1 → tu D σ H1) (h2 : B false → ∀ H1, Ex H H1 → tw D σ H1) : tIfS t tu tw D σ H := h H (Ex.refl H) _ fun b H1 p e => by
  cases b with
  | true =>
    show tu D σ H1
    exact h1 p H1 e
  | false =>
    show tw D σ H1
    exact h2 p H1 e
theorem qn_if (h : EvTN t σ H B) (h1 : B true → ∀ H1, Ex H H1 → tu { D with nx := tz D } σ H1) (h2 : B false → ∀ H1, Ex H H1 → tw { D with nx := tz D } σ H1) : tSeq (tIfS t tu tw) tz D σ H := sn_if (D := { D with nx := tz D }) h h1 h2
end

/-! ### a promise seen through other words of the heap -/
/-- B tells of the same heap otherwise -/
structure Alike (A B : Hp) : Prop where
  free : ∀ b, A b = none → B b = none
  tups : ∀ b xs, A b = some (.tup xs) → B b = some (.tup xs)
  frzs : ∀ b o u, A b = some (.frz o u) → B b = some (.frz o u)
  tbls : ∀ b ps, A b = some (.tbl ps) → B b = some (.tbl ps)
section
variable {P : Program} {w : World} {K : PySem.W.Frag} {mg : Str → Option Value} {base : Heap}
theorem fn_seen {k : Nat} {f : Addr} {fd : FuncData} {ps : List Str} {sp sp' : Sp} (F : FnOk P w K mg base CX0 k f fd ps sp) (hlen : ∀ vs H Q E, sp' vs H Q E → vs.length = ps.length)
    (h : ∀ vs H Q E, sp' vs H Q E → ∀ hp : Heap, HOk P w H hp → ∃ (H1 : Hp) (Q1 : VK), Alike H H1 ∧ HOk P w H1 hp ∧ sp vs H1 Q1 E ∧
      ∀ v H2 (hp2 : Heap), HOk P w H2 hp2 → Q1 v H2 → ∃ H3, Alike H2 H3 ∧ HOk P w H3 hp2 ∧ Q v H3) : FnOk P w K mg base CX0 k f fd ps sp' := by
  refine ⟨hlen, fun A outer s H args us vs Q E hr e0 hb hv hs => ?_⟩
  obtain ⟨H1, Q1, al, ok1, hs1, back⟩ := h vs H Q E hs s.heap e0.hok
  have e1 : Env0 P w K mg base A outer s H1 := ⟨e0.frames, e0.mod, fun b o e => ⟨(e0.bs b o e).1, al.free b (e0.bs b o e).2⟩, e0.bsz, e0.funs, fun b hb => al.free b (e0.frf b hb), ok1, e0.bare⟩
  refine codeAny_mono (F.run A outer s H1 args us vs Q1 E hr e1 hb hv hs1) fun r s' hr' => ?_
  cases r with
  | error e => exact hr'
  | ok fl =>
    cases fl with
    | ret u =>
      obtain ⟨v, H2, os, br, un, ok2, rv, q⟩ := hr'
      obtain ⟨H3, al2, ok3, q3⟩ := back v H2 s'.heap ok2 q
      exact ⟨v, H3, os, br, ⟨fun b o e n h1 h2 => un.keep b o e (al.free b n) h1 h2, fun b o e n h1 h2 => un.slot b o e (al.free b n) h1 h2, fun b o e n h1 => al2.free b (un.free b o e (al.free b n) h1), un.there,
        fun b xs e => al2.tups b xs (un.tups b xs (al.tups b xs e)), fun b o u e => al2.frzs b o u (un.frzs b o u (al.frzs b o u e)), fun b ps e => by
          obtain ⟨more, e2⟩ := un.tbls b ps (al.tbls b ps e)
          exact ⟨more, al2.tbls b _ e2⟩⟩, ok3, rv, q3⟩
    | _ => exact hr'.elim
/-- one changing object told otherwise -/
theorem alike_at {H : Hp} {d : Addr} {o o2 : HO} (h : H d = some o) (m : Mut (some o)) (h1 : ∀ xs, o2 ≠ .tup xs) (h2 : ∀ ob u, o2 ≠ .frz ob u) (h3 : ∀ ps, o2 ≠ .tbl ps) : Alike H (upd H d o2) where
  free := fun b n => by
    rw [upd_ne (ne_of_none h n).symm]
    exact n
  tups := fun b xs e => by
    rw [upd_ne (ne_of e h (by intro z; subst z; exact m))]
    exact e
  frzs := fun b ob u e => by
    rw [upd_ne (ne_of e h (by intro z; subst z; exact m))]
    exact e
  tbls := fun b ps e => by
    rw [upd_ne (ne_of e h (by intro z; subst z; exact m))]
    exact e
theorem hok_at {H : Hp} {hp : Heap} {d : Addr} {o o2 : HO} (ok : HOk P w H hp) (h : H d = some o) (m : Mut (some o)) (new : ObjOk P w (upd H d o2) hp d o2) : HOk P w (upd H d o2) hp := fun b u e => by
  by_cases hb : b = d
  · subst hb
    rw [upd_same] at e
    cases e
    exact new
  · rw [upd_ne hb] at e
    refine (ok b u e).stay (fun c z _ q => q) (fun c q => ?_) (fun c xs q => ?_)
    · rw [upd_ne (ne_of q h (by intro z; subst z; exact m))]
      exact q
    · rw [upd_ne (ne_of q h (by intro z; subst z; exact m))]
      exact q
end

/-! ### the dice: the list of the script, a place, a mixed number, a rest -/
def diceP (d a : Addr) (h : Heap) : Prop := ∃ (i m r : Int) (t1 t2 t3 : Tok) (n : Nat), h.get? d = some { cls := .type "list", data := .seq #[.ref a, .int i t1, .int m t2, .int r t3] n } ∧ 0 ≤ i ∧ 0 ≤ m ∧ m < 2147483647
/-- a dice over the script at a -/
def DiceO (d a : Addr) : HO := .ext (diceP d a)
theorem dice_ok {P : Program} {w : World} {H : Hp} {hp : Heap} {d a : Addr} (h : diceP d a hp) : ObjOk P w H hp d (DiceO d a) := by
  refine ⟨h, ?_, ?_⟩
  · obtain ⟨i, m, r, t1, t2, t3, n, e, _⟩ := h
    exact ⟨_, e⟩
  · rintro h1 h2 ⟨i, m, r, t1, t2, t3, n, e, z⟩ k
    exact ⟨i, m, r, t1, t2, t3, n, k _ e, z⟩
theorem dice_of {P : Program} {w : World} {H : Hp} {hp : Heap} {d a : Addr} {i m r : Int} (ok : HOk P w H hp) (h : H d = some (.lst [.ref a, .int i, .int m, .int r])) (h0 : 0 ≤ i) (h1 : 0 ≤ m) (h2 : m < 2147483647) : diceP d a hp := by
  obtain ⟨_, its, n, rv, e⟩ := (show ObjOk P w H hp d (.lst [.ref a, .int i, .int m, .int r]) from ok d _ h)
  cases rv with
  | cons ra rest =>
    cases ra
    cases rest with
    | cons ri rest =>
      obtain ⟨t1, rfl⟩ := ri
      cases rest with
      | cons rm rest =>
        obtain ⟨t2, rfl⟩ := rm
        cases rest with
        | cons rr rest =>
          obtain ⟨t3, rfl⟩ := rr
          cases rest
          exact ⟨i, m, r, t1, t2, t3, n, e, h0, h1, h2⟩
theorem dice_out {P : Program} {w : World} {H : Hp} {hp : Heap} {d a : Addr} (ok : HOk P w H hp) (h : H d = some (DiceO d a)) : ∃ i m r, 0 ≤ i ∧ 0 ≤ m ∧ m < 2147483647 ∧
    Alike H (upd H d (.lst [.ref a, .int i, .int m, .int r])) ∧ HOk P w (upd H d (.lst [.ref a, .int i, .int m, .int r])) hp := by
  obtain ⟨⟨i, m, r, t1, t2, t3, n, e, z0, z1, z2⟩, _⟩ := (show ObjOk P w H hp d (DiceO d a) from ok d _ h)
  refine ⟨i, m, r, z0, z1, z2, alike_at h True.intro (fun _ z => nomatch z) (fun _ _ z => nomatch z) (fun _ z => nomatch z), hok_at ok h True.intro ⟨(by show 4 ≤ sizeLine; decide), [.ref a, .int i t1, .int m t2, .int r t3], n, ?_, e⟩⟩
  exact .cons rfl (.cons ⟨_, rfl⟩ (.cons ⟨_, rfl⟩ (.cons ⟨_, rfl⟩ .nil)))
theorem dice_in {P : Program} {w : World} {H : Hp} {hp : Heap} {d a : Addr} {i m r : Int} (ok : HOk P w H hp) (h : H d = some (.lst [.ref a, .int i, .int m, .int r])) (h0 : 0 ≤ i) (h1 : 0 ≤ m) (h2 : m < 2147483647) :
    Alike H (upd H d (DiceO d a)) ∧ HOk P w (upd H d (DiceO d a)) hp :=
  ⟨alike_at h True.intro (fun _ z => nomatch z) (fun _ _ z => nomatch z) (fun _ z => nomatch z), hok_at ok h True.intro (dice_ok (dice_of ok h h0 h1 h2))⟩
end Wt

set_option Elab.async false
set_option linter.all false
set_option maxRecDepth 100000
set_option maxHeartbeats 4000000
/-! Words of a row: the plain functions. -/
namespace Wt
open PySem PySem.Spec PyProof.Rows L2 SX Evl

def letters : List Nat := [97, 98, 99, 100, 101, 102, 103, 104, 105, 106, 107, 108, 109, 110, 111, 112, 113, 114, 115, 116, 117, 118, 119, 120, 121, 122]
def figures : List Nat := [48, 49, 50, 51, 52, 53, 54, 55, 56, 57]
def signs : List (List Nat) := [[60, 62], [60, 61], [40], [41], [44], [46], [61], [60], [43], [45], [42], [47]]
def owns : List (List Nat) := [[117, 115, 101], [99, 111, 110, 115, 116], [107, 101, 101, 112], [111, 117, 116], [100, 101, 102], [110, 117, 109], [121, 101, 115], [110, 111], [108, 101, 116], [105, 102],
  [101, 108, 115, 101], [119, 104, 105, 108, 101], [101, 110, 100], [103, 105, 118, 101], [115, 97, 121], [100, 111], [111, 114], [97, 110, 100], [110, 111, 116], [109, 111, 100]]
def kName : List Nat := [110, 97, 109, 101]
def kNum : List Nat := [110, 117, 109]
def kSign : List Nat := [115, 105, 103, 110]
def kOwn : List Nat := [111, 119, 110]
def isL (c : Nat) : Bool := decide (c ∈ letters)
def isF (c : Nat) : Bool := decide (c ∈ figures)
/-- the longest word that begins what is left -/
def wordAt : List Nat → List Nat
  | [] => []
  | c :: r => if isL c = true then (c :: r).takeWhile isL else if isF c = true then (c :: r).takeWhile isF else (signs.find? fun s => decide ((c :: r).take s.length = s)).getD []
def kindOf (w : List Nat) : List Nat :=
  if w ∈ owns then kOwn else if w ∈ signs then kSign else if w = [] ∨ 6 < w.length then [] else
  if isL (w.headD 0) = true then kName else if w.headD 0 = 48 ∧ 1 < w.length then [] else kNum
/-- a word: kind, word, column -/
abbrev Word := List Nat × List Nat × Nat
/-- the words of what is left of a row, which stands behind so many signs; where the first that is none begins -/
def lexAt : Nat → Nat → List Nat → List Word × Option Nat
  | 0, _, _ => ([], none)
  | _ + 1, _, [] => ([], none)
  | f + 1, i, c :: r => if c = 32 then lexAt f (i + 1) r else
    if kindOf (wordAt (c :: r)) = [] then ([], some (i + 1)) else
      ((kindOf (wordAt (c :: r)), wordAt (c :: r), i + 1) :: (lexAt f (i + (wordAt (c :: r)).length) ((c :: r).drop (wordAt (c :: r)).length)).1,
        (lexAt f (i + (wordAt (c :: r)).length) ((c :: r).drop (wordAt (c :: r)).length)).2)
def told (row : List Nat) : List Nat := row.takeWhile fun c => decide (c ≠ 35)
def lexRow (row : List Nat) : List Word × Option Nat := lexAt (told row).length 0 (told row)

/-! ### facts -/
theorem takeWhile_len {p : Nat → Bool} : ∀ l : List Nat, (l.takeWhile p).length ≤ l.length
  | [] => Nat.le_refl _
  | c :: r => by
    rw [List.takeWhile_cons]
    split
    · exact Nat.succ_le_succ (takeWhile_len r)
    · exact Nat.zero_le _
theorem find_len {l s : List Nat} {ss : List (List Nat)} (h : ss.find? (fun s => decide (l.take s.length = s)) = some s) : s.length ≤ l.length := by
  have e := List.find?_some h
  have e2 : l.take s.length = s := of_decide_eq_true e
  have e3 := congrArg List.length e2
  rw [List.length_take] at e3
  omega
theorem wordAt_cons (c : Nat) (r : List Nat) : wordAt (c :: r) = if isL c = true then (c :: r).takeWhile isL else if isF c = true then (c :: r).takeWhile isF else (signs.find? fun s => decide ((c :: r).take s.length = s)).getD [] := rfl
theorem lexAt_cons (f i c : Nat) (r : List Nat) : lexAt (f + 1) i (c :: r) = if c = 32 then lexAt f (i + 1) r else
    if kindOf (wordAt (c :: r)) = [] then ([], some (i + 1)) else
      ((kindOf (wordAt (c :: r)), wordAt (c :: r), i + 1) :: (lexAt f (i + (wordAt (c :: r)).length) ((c :: r).drop (wordAt (c :: r)).length)).1,
        (lexAt f (i + (wordAt (c :: r)).length) ((c :: r).drop (wordAt (c :: r)).length)).2) := rfl
theorem wordAt_len : ∀ l : List Nat, (wordAt l).length ≤ l.length
  | [] => Nat.le_refl _
  | c :: r => by
    rw [wordAt_cons]
    split
    · exact takeWhile_len _
    · split
      · exact takeWhile_len _
      · cases h : signs.find? (fun s => decide ((c :: r).take s.length = s)) with
        | none => exact Nat.zero_le _
        | some s => exact find_len h
/-- what is a word is not empty -/
theorem kind_ne {w : List Nat} (h : kindOf w ≠ []) : w ≠ [] := fun e => by
  subst e
  exact h (by decide +kernel)
theorem kind_pos {w : List Nat} (h : kindOf w ≠ []) : 0 < w.length := List.length_pos_iff.mpr (kind_ne h)
/-- enough turns are enough -/
theorem lexAt_fuel : ∀ (f g i : Nat) (l : List Nat), l.length ≤ f → l.length ≤ g → lexAt f i l = lexAt g i l
  | 0, 0, _, _, _, _ => rfl
  | 0, g + 1, _, [], _, _ => rfl
  | 0, _ + 1, _, _ :: _, h, _ => absurd h (Nat.not_succ_le_zero _)
  | f + 1, 0, _, [], _, _ => rfl
  | _ + 1, 0, _, _ :: _, _, h => absurd h (Nat.not_succ_le_zero _)
  | _ + 1, _ + 1, _, [], _, _ => rfl
  | f + 1, g + 1, i, c :: r, hf, hg => by
    have hf1 : r.length ≤ f := Nat.le_of_succ_le_succ hf
    have hg1 : r.length ≤ g := Nat.le_of_succ_le_succ hg
    rw [lexAt_cons, lexAt_cons]
    by_cases h1 : c = 32
    · rw [if_pos h1, if_pos h1]
      exact lexAt_fuel f g _ r hf1 hg1
    · rw [if_neg h1, if_neg h1]
      by_cases h2 : kindOf (wordAt (c :: r)) = []
      · rw [if_pos h2, if_pos h2]
      · rw [if_neg h2, if_neg h2]
        have hp := kind_pos h2
        have hl : ((c :: r).drop (wordAt (c :: r)).length).length ≤ r.length := by
          rw [List.length_drop, List.length_cons]
          omega
        rw [lexAt_fuel f g _ _ (Nat.le_trans hl hf1) (Nat.le_trans hl hg1)]
/-- with just enough turns: the equations -/
def lexR (i : Nat) (l : List Nat) : List Word × Option Nat := lexAt l.length i l
theorem lexR_nil (i : Nat) : lexR i [] = ([], none) := rfl
theorem lexR_blank (i : Nat) (r : List Nat) : lexR i (32 :: r) = lexR (i + 1) r := by
  unfold lexR
  show lexAt (r.length + 1) i (32 :: r) = _
  rw [lexAt_cons, if_pos rfl]
theorem lexR_bad {i c : Nat} {r : List Nat} (h1 : c ≠ 32) (h2 : kindOf (wordAt (c :: r)) = []) : lexR i (c :: r) = ([], some (i + 1)) := by
  unfold lexR
  show lexAt (r.length + 1) i (c :: r) = _
  rw [lexAt_cons, if_neg h1, if_pos h2]
theorem lexR_word {i c : Nat} {r : List Nat} (h1 : c ≠ 32) (h2 : kindOf (wordAt (c :: r)) ≠ []) :
    lexR i (c :: r) = ((kindOf (wordAt (c :: r)), wordAt (c :: r), i + 1) :: (lexR (i + (wordAt (c :: r)).length) ((c :: r).drop (wordAt (c :: r)).length)).1,
      (lexR (i + (wordAt (c :: r)).length) ((c :: r).drop (wordAt (c :: r)).length)).2) := by
  have hp := kind_pos h2
  have hl : ((c :: r).drop (wordAt (c :: r)).length).length ≤ r.length := by
    rw [List.length_drop, List.length_cons]
    omega
  have e : lexR i (c :: r) = lexAt (r.length + 1) i (c :: r) := rfl
  rw [e, lexAt_cons, if_neg h1, if_neg h2]
  unfold lexR
  rw [lexAt_fuel r.length _ _ _ hl (Nat.le_refl _)]
theorem lexRow_R (row : List Nat) : lexRow row = lexR 0 (told row) := rfl
theorem lexR_count : ∀ (n i : Nat) (l : List Nat), l.length ≤ n → (lexR i l).1.length ≤ l.length
  | _, i, [], _ => by
    rw [lexR_nil]
    exact Nat.le_refl _
  | 0, _, _ :: _, h => absurd h (Nat.not_succ_le_zero _)
  | n + 1, i, c :: r, h => by
    by_cases h1 : c = 32
    · subst h1
      rw [lexR_blank]
      exact Nat.le_succ_of_le (lexR_count n _ r (Nat.le_of_succ_le_succ h))
    · by_cases h2 : kindOf (wordAt (c :: r)) = []
      · rw [lexR_bad h1 h2]
        exact Nat.zero_le _
      · rw [lexR_word h1 h2]
        have hp := kind_pos h2
        have hl : ((c :: r).drop (wordAt (c :: r)).length).length ≤ r.length := by
          rw [List.length_drop, List.length_cons]
          omega
        have ih := lexR_count n (i + (wordAt (c :: r)).length) _ (Nat.le_trans hl (Nat.le_of_succ_le_succ h))
        show _ + 1 ≤ r.length + 1
        exact Nat.succ_le_succ (Nat.le_trans ih hl)
theorem lexRow_count (row : List Nat) : (lexRow row).1.length ≤ row.length := by
  rw [lexRow_R]
  exact Nat.le_trans (lexR_count _ 0 _ (Nat.le_refl _)) (takeWhile_len _)

/-- a word as data, in a row of this number -/
def wordD (n : Nat) (w : Word) : PyData := .tuple [.str (S w.1), .str (S w.2.1), .tuple [.int (n : Int), .int (w.2.2 : Nat)]]
/-- all words of rows numbered from n on -/
def allD (n : Nat) : List (List Nat) → List PyData
  | [] => []
  | row :: rest => (lexRow row).1.map (wordD n) ++ allD (n + 1) rest
end Wt

set_option Elab.async false
set_option linter.all false
set_option maxRecDepth 100000
set_option maxHeartbeats 4000000
/-! Lists, arguments, loops known by what is true of them. -/
namespace Wt
open PySem PySem.Spec PyProof.Rows L2 SX Evl
/-- a new list, known by what is true of its items -/
def EvNL (te : TE) (σ : L2.St) (H : Hp) (P : List V → Prop) : Prop := ∀ H1, Ex H H1 → ∀ Q : VK, (∀ p H2 xs, P xs → H1 p = none → Ex H1 H2 → H2 p = some (.lst xs) → Q (.ref p) H2) → te σ H1 Q
section
variable {K : PySem.W.Frag} {σ : L2.St} {H H' : Hp} {ta tb te tx : TE} {t u : TT} {x y z v : V}
/-- [e for k in range(n)], n and e known by what is true of them -/
theorem en_lcR {j : Nat} {vs : List Nat} {N : Nat} {P : V → Prop} (h : EvN ta σ H (fun v => ∃ z : Int, v = .int z ∧ 0 ≤ z ∧ z ≤ (N : Int))) (hN : N ≤ 10000) (hw : ∀ x, wipe ((wipe σ vs).set j (some x)) vs = wipe σ vs)
    (he : ∀ (i : Nat) H1, Ex H H1 → EvN te ((wipe σ vs).set j (some (.int (i : Int)))) H1 P) : EvNL (tLc (iRng1 (tCons ta tNil)) (gName j) tYes te vs) σ H (fun xs => xs.length ≤ N ∧ ∀ x ∈ xs, P x) := fun H0 e Q q =>
  h H0 e _ fun v H1 hv e1 => by
    obtain ⟨z, rfl, z0, z1⟩ := hv
    refine ⟨z, rfl, by omega, by omega, fun Dl hD => ?_⟩
    refine lc_range (lo := 0) (n := z.toNat) (fun i H2 => ∃ xs, Ex H1 H2 ∧ H2 Dl = some (.lst xs) ∧ xs.length = i ∧ ∀ x ∈ xs, P x) ⟨[], Ex.new hD, upd_same, rfl, fun _ h => absurd h (by simp)⟩ ?_ ?_
    · rintro i H2 hi ⟨xs, e2, h2, hl, hP⟩
      have e0 : (0 : Int) + (i : Int) = (i : Int) := Int.zero_add _
      show wipe ((wipe σ vs).set j (some (.int ((0 : Int) + (i : Int))))) vs = wipe σ vs ∧ tYes ((wipe σ vs).set j (some (.int ((0 : Int) + (i : Int))))) H2 _
      rw [e0]
      refine ⟨hw _, ?_⟩
      show te ((wipe σ vs).set j (some (.int (i : Int)))) H2 _
      refine he i H2 ((e.trans e1).trans e2) H2 (Ex.refl H2) _ fun y H3 py e3 => ⟨xs, e3 Dl _ h2, sz_lt (by omega), xs ++ [y], ?_, upd_same, by rw [List.length_append, hl] <;> rfl, fun x hx => ?_⟩
      · exact Ex.mut (e2.trans e3) hD
      · rcases List.mem_append.mp hx with h | h
        · exact hP x h
        · rw [List.mem_singleton.mp h]
          exact py
    · rintro H2 ⟨xs, e2, h2, hl, hP⟩
      exact q Dl H2 xs ⟨by omega, hP⟩ (fresh_back e1 hD) (e1.trans e2) h2
theorem ev_dget {kvs : List (Key × V)} {a : Addr} {k : Str} (ha : Ev ta σ H (.ref a)) (hb : Ev tb σ H (.str k)) (h : H a = some (.dK kvs)) (hv : valV kvs (Sum.inr k : Key) = some v) : Ev (tDGet ta tb) σ H v := fun H1 e Q q =>
  ha H1 e _ fun H2 e2 => hb H2 (e.trans e2) _ fun H3 e3 => ⟨a, v, rfl, by
    have g := DGet.k (k := (Sum.inr k : Key)) (((e.trans e2).trans e3) a _ h)
    rw [hv] at g
    exact g, q H3 (e2.trans e3)⟩
theorem rv_addS {a b : List Nat} (h : a.length + b.length ≤ 100000) : RV (fun x y H Q => ∃ i j, x = .str i ∧ y = .str j ∧ i.length + j.length ≤ sizeLine ∧ Q (.str (i ++ j)) H) (.str (S a)) (.str (S b)) H (.str (S (a ++ b))) := fun H1 _ Q q =>
  ⟨S a, S b, rfl, rfl, by rw [S_len, S_len]; exact sz_of h, by rw [S_cat]; exact q H1 (Ex.refl H1)⟩
theorem rv_repS {a : List Nat} {k : Nat} (h : a.length ≤ 16) (hk : k ≤ 100000) : RV rRepS (.str (S a)) (.int (k : Int)) H (.str (S (List.replicate k a).flatten)) := fun H1 _ Q q => ⟨a, k, rfl, rfl, h, hk, q H1 (Ex.refl H1)⟩
end
theorem joinL_nil : ∀ l : List Nat, TL.joinL [] (l.map fun c => [c]) = l
  | [] => rfl
  | [c] => rfl
  | c :: d :: r => by
    show [c] ++ ([] ++ TL.joinL [] ((d :: r).map fun c => [c])) = _
    rw [joinL_nil (d :: r)] <;> rfl
theorem given_nil {n : Nat} {f : Nat → Bool} {v : Nat → V} : (given n f v = []) ↔ ∀ i, i < n → f i = false := by
  unfold given
  rw [List.map_eq_nil_iff, List.filter_eq_nil_iff]
  constructor
  · intro h i hi
    have := h i (List.mem_range.mpr hi)
    simpa using this
  · intro h i hi
    rw [h i (List.mem_range.mp hi)]
    exact Bool.false_ne_true
/-- [1, ..] != [] -/
theorem eqvAll_nil : ∀ ds : List PyData, PyData.eqvAll ds [] = decide (ds = [])
  | [] => by decide +kernel
  | d :: ds => by
    have e : PyData.eqvAll (d :: ds) [] = false := by
      unfold PyData.eqvAll
      rfl
    rw [e]
    exact (decide_eq_false (List.cons_ne_nil _ _)).symm
/-- arguments known by what is true of them -/
def EAN (ta : TA) (σ : L2.St) (H : Hp) (P : List V → Prop) : Prop := ∀ H1, Ex H H1 → ∀ Q : List V → Hp → Prop, (∀ vs H2, P vs → Ex H1 H2 → Q vs H2) → ta σ H1 Q
section
variable {K : PySem.W.Frag} {σ : L2.St} {H H' : Hp} {ta tb te tx t1 t2 : TE} {t u : TT} {x y z v : V} {P : V → Prop} {L : List V → Prop} {D : Ends} {tz : TS}
theorem ean_nil : EAN tNil σ H (· = []) := fun H1 _ _ q => q [] H1 rfl (Ex.refl H1)
theorem ean_cons {tr : TA} (h : EvN te σ H P) (hr : EAN tr σ H L) : EAN (tCons te tr) σ H (fun l => ∃ v r, l = v :: r ∧ P v ∧ L r) := fun H1 e Q q =>
  h H1 e _ fun v H2 pv e2 => hr H2 (e.trans e2) _ fun r H3 pr e3 => q (v :: r) H3 ⟨v, r, rfl, pv, pr⟩ (e2.trans e3)
theorem ean_one {tr : TA} (h : Ev te σ H v) (hr : EAN tr σ H L) : EAN (tCons te tr) σ H (fun l => ∃ r, l = v :: r ∧ L r) := fun H1 e Q q =>
  h H1 e _ fun H2 e2 => hr H2 (e.trans e2) _ fun r H3 pr e3 => q (v :: r) H3 ⟨r, rfl, pr⟩ (e2.trans e3)
theorem enl_lst {ta : TA} (h : EAN ta σ H L) (hl : ∀ l, L l → l.length ≤ 100000) : EvNL (tLst ta) σ H L := fun H1 e Q q =>
  h H1 e _ fun vs H2 pv e2 => ⟨sz_of (hl vs pv), fun p hp => q p _ vs pv (fresh_back e2 hp) (e2.trans (Ex.new hp)) upd_same⟩
theorem EvNL.of {xs : List V} (h : EvL te σ H xs) : EvNL te σ H (· = xs) := fun H1 e Q q => h H1 e Q fun p H2 hp e2 h2 => q p H2 xs rfl hp e2 h2
/-- an item of such a list at a number below its length -/
theorem en_ixNL {n : Nat} (ha : EvNL ta σ H L) (hb : EvN tb σ H (fun v => ∃ z : Int, v = .int z ∧ 0 ≤ z ∧ z < (n : Int))) (hl : ∀ l, L l → l.length = n ∧ ∀ v ∈ l, P v) : EvN (tOp (rIxL K) ta tb) σ H P := fun H1 e Q q =>
  ha H1 e _ fun p H2 xs hL hp e2 h2 => hb H2 (e.trans e2) _ fun v H3 hv e3 => by
    obtain ⟨z, rfl, z0, z1⟩ := hv
    obtain ⟨k, rfl⟩ : ∃ k : Nat, z = (k : Int) := ⟨z.toNat, by omega⟩
    obtain ⟨h5, h6⟩ := hl xs hL
    have hlt : k < xs.length := by omega
    exact ⟨p, xs, (k : Int), xs[k], rfl, rfl, sq_of (e3 p _ h2), atI_nat (List.getElem?_eq_getElem hlt), q _ H3 (h6 _ (List.getElem_mem hlt)) (e2.trans e3)⟩
/-- a, b = e, a new list -/
theorem q_tupL {i j : Nat} {xs : List V} (h1 : Ev t1 σ H v) (h2 : EvL t2 σ H xs) (k : ∀ p H1, H p = none → Ex H H1 → H1 p = some (.lst xs) → tz D ((σ.set i (some v)).set j (some (.ref p))) H1) :
    tSeq (tAsg (tTup (tCons t1 (tCons t2 tNil))) (gTup K 2 (gCons (gName i) (gCons (gName j) gNil)))) tz D σ H :=
  h1 H (Ex.refl H) _ fun H1 e1 => h2 H1 e1 _ fun p H2 hp e2 hpl => ⟨by show 2 ≤ sizeLine; decide, fun c hc =>
    ⟨c, [v, .ref p], rfl, st_of upd_same, rfl, v, [.ref p], rfl, .ref p, [], rfl, rfl, k p _ (fresh_back e1 hp) ((e1.trans e2).trans (Ex.new hc)) (by
      rw [upd_ne (ne_of_none hpl hc)]
      exact hpl)⟩⟩
/-- a new list of flat data is not empty -/
theorem ev_neNil {n : Nat} {f : Nat → Bool} (ha : EvL ta σ H (given n f fun _ => .int 1)) (hn : n ≤ 60) : Ev (tOp (rNeD K) ta (tLst tNil)) σ H (.bl ((List.range n).any f)) := ev_opLL ha (el_lst ea_nil (Nat.zero_le _)) fun p q H1 h1 h2 _ H2 e2 Q q2 => by
  obtain ⟨m, hm, em⟩ : ∃ m, m ≤ n ∧ (given n f fun _ => V.int 1) = List.replicate m (V.int 1) := by
    have hl := given_len n f fun _ => V.int 1
    refine ⟨_, hl, List.eq_replicate_iff.mpr ⟨rfl, fun b hb => ?_⟩⟩
    unfold given at hb
    obtain ⟨_, _, e⟩ := List.mem_map.mp hb
    exact e.symm
  have hall : ∀ m : Nat, DpAll K H2 (List.replicate m (V.int 1)) (List.replicate m (PyData.int 1)) := fun m => by
    induction m with
    | zero => exact .nil
    | succ m ih => exact .cons (.int 1) ih
  have hany : (List.range n).any f = !decide (m = 0) := by
    have h3 : (m = 0) ↔ ∀ i, i < n → f i = false := by
      rw [← given_nil (v := fun _ => V.int 1), em]
      cases m with
      | zero => exact ⟨fun _ => rfl, fun _ => rfl⟩
      | succ m => exact ⟨fun z => absurd z (Nat.succ_ne_zero m), fun z => by rw [List.replicate_succ] at z; cases z⟩
    cases hb : (List.range n).any f with
    | false =>
      rw [List.any_eq_false] at hb
      have hm0 : m = 0 := h3.mpr fun i hi => by
        have := hb i (List.mem_range.mpr hi)
        simpa using this
      rw [decide_eq_true hm0] <;> rfl
    | true =>
      rw [List.any_eq_true] at hb
      obtain ⟨i, hi, hfi⟩ := hb
      have hm0 : ¬ m = 0 := fun z => by
        have := h3.mp z i (List.mem_range.mp hi)
        rw [hfi] at this
        cases this
      rw [decide_eq_false hm0] <;> rfl
  rw [em] at h1
  have hsh : ∀ m, m ≤ 60 → SeqAt.shaped (.list (List.replicate m (PyData.int 1))) = true := by decide +kernel
  refine ⟨.list (List.replicate m (.int 1)), .list [], .lst (sq_of (e2 p _ h1)) (hall m), .lst (sq_of (e2 q _ h2)) .nil, hsh m (by omega), by decide +kernel, ?_⟩
  have e : PyData.eqv (.list (List.replicate m (PyData.int 1))) (.list []) = decide (m = 0) := by
    refine (eqvAll_nil _).trans ?_
    cases m with
    | zero => rfl
    | succ m =>
      rw [decide_eq_false (Nat.succ_ne_zero m), List.replicate_succ]
      exact decide_eq_false (List.cons_ne_nil _ _)
  rw [e, ← hany]
  exact q2 H2 (Ex.refl H2)
end
section
variable {K : PySem.W.Frag} {σ : L2.St} {H H' : Hp} {ta tb te tx t1 t2 : TE} {t u : TT} {x y z v : V} {P : V → Prop} {L : List V → Prop} {D : Ends} {tz tu : TS}
theorem el_cat {l : Addr} {xs zs : List V} (ha : Ev ta σ H (.ref l)) (hl : H l = some (.lst xs)) (hb : EvL tb σ H zs) (hz : xs.length + zs.length ≤ 100000) : EvL (tOp rCat ta tb) σ H (xs ++ zs) := fun H1 e Q q =>
  ha H1 e _ fun H2 e2 => hb H2 (e.trans e2) _ fun p H3 hp e3 h3 => ⟨l, p, xs, zs, rfl, rfl, e3 l _ (e2 l _ (e l _ hl)), h3, sz_of hz, fun c hc => q c _ (fresh_back (e2.trans e3) hc) ((e2.trans e3).trans (Ex.new hc)) upd_same⟩
theorem en_callN {sp : Sp} {dvs : List V} {E : XK} {ta : TA} (h : EAN ta σ H L) (hs : ∀ vs, L vs → SpN sp (vs ++ dvs) H P) : EvN (tCall sp dvs E ta) σ H P := fun H1 e Q q =>
  h H1 e _ fun vs H2 hv e2 => hs vs hv H2 (e.trans e2) Q (fun v H3 p e3 => q v H3 p (e2.trans e3)) E
/-- a loop over range(n), n known by what is true of it -/
theorem q_forRN {j N : Nat} (h : EvN te σ H (fun v => ∃ z : Int, v = .int z ∧ 0 ≤ z ∧ z < (N : Int))) (hN : N ≤ 10000) (Pv : Nat → L2.St → Hp → Prop) (h0 : ∀ H1, Ex H H1 → Pv 0 σ H1)
    (hs : ∀ (i : Nat) σ' H', i < N → Pv i σ' H' → tu { D with nx := Pv (i + 1), ct := Pv (i + 1), bk := tz D } (σ'.set j (some (.int (i : Int)))) H') (hd : ∀ n σ' H', n < N → Pv n σ' H' → tz D σ' H') :
    tSeq (tFor (iRng1 (tCons te tNil)) (gName j) tu) tz D σ H := h H (Ex.refl H) _ fun v H1 hv e1 => by
  obtain ⟨z, rfl, z0, z1⟩ := hv
  refine ⟨z, rfl, by omega, by omega, for_range (D := { D with nx := tz D }) (lo := 0) (n := z.toNat) Pv (h0 H1 e1) (fun i σ' H' hi p => ?_) fun σ' H' p => hd z.toNat σ' H' (by omega) p⟩
  have e0 : (0 : Int) + (i : Int) = (i : Int) := Int.zero_add _
  show tu { D with nx := Pv (i + 1), ct := Pv (i + 1), bk := tz D } (σ'.set j (some (.int ((0 : Int) + (i : Int))))) H'
  rw [e0]
  exact hs i σ' H' (by omega) p
theorem s_forRN {j N : Nat} (h : EvN te σ H (fun v => ∃ z : Int, v = .int z ∧ 0 ≤ z ∧ z < (N : Int))) (hN : N ≤ 10000) (Pv : Nat → L2.St → Hp → Prop) (h0 : ∀ H1, Ex H H1 → Pv 0 σ H1)
    (hs : ∀ (i : Nat) σ' H', i < N → Pv i σ' H' → tu { D with nx := Pv (i + 1), ct := Pv (i + 1), bk := D.nx } (σ'.set j (some (.int (i : Int)))) H') (hd : ∀ n σ' H', n < N → Pv n σ' H' → D.nx σ' H') :
    tFor (iRng1 (tCons te tNil)) (gName j) tu D σ H := q_forRN (D := D) (tz := tNext) h hN Pv h0 hs hd
/-- a, b = x, y -/
theorem q_par {i j : Nat} {ta : TA} {a b : V} (h : EvA ta σ H [a, b]) (k : ∀ H1, Ex H H1 → tz D ((σ.set i (some a)).set j (some b)) H1) : tSeq (tPar i j ta) tz D σ H := h H (Ex.refl H) _ fun H1 e1 => ⟨_, _, rfl, k H1 e1⟩
end
end Wt

set_option Elab.async false
set_option linter.all false
set_option maxRecDepth 100000
set_option maxHeartbeats 4000000
/-! What an expression comes to, told as data; texts as lists of signs. -/
namespace Wt
open PySem PySem.Spec PyProof.Rows L2 SX Evl
def lt (s : String) : List Nat := (Str.ofString s).cps.toList
theorem S_lt (s : String) : Str.ofString s = S (lt s) := by rw [lt, S_tl]
/-- data in tuples -/
def EvD (te : TE) (σ : L2.St) (H : Hp) (d : PyData) : Prop := ∀ H1, Ex H H1 → ∀ Q : VK, (∀ v H2, Ex H1 H2 → Td H2 v d → Q v H2) → te σ H1 Q
def EAD (ta : TA) (σ : L2.St) (H : Hp) (ds : List PyData) : Prop := ∀ H1, Ex H H1 → ∀ Q : List V → Hp → Prop, (∀ vs H2, Ex H1 H2 → TdAll H2 vs ds → Q vs H2) → ta σ H1 Q
/-- a new list of data -/
def EvDL (te : TE) (σ : L2.St) (H : Hp) (ds : List PyData) : Prop := ∀ H1, Ex H H1 → ∀ Q : VK, (∀ p H2 vs, H1 p = none → Ex H1 H2 → H2 p = some (.lst vs) → TdAll H2 vs ds → Q (.ref p) H2) → te σ H1 Q
/-- a new list of texts -/
abbrev EvLT (te : TE) (σ : L2.St) (H : Hp) (ts : List (List Nat)) : Prop := EvL te σ H (ts.map fun z => V.str (S z))
abbrev EvS (te : TE) (σ : L2.St) (H : Hp) (t : List Nat) : Prop := Ev te σ H (.str (S t))
abbrev EAT (ta : TA) (σ : L2.St) (H : Hp) (ts : List (List Nat)) : Prop := EvA ta σ H (ts.map fun z => V.str (S z))
theorem wide_texts (l : List (List Nat)) : (l.map fun z => V.str (S z)).length = l.length := List.length_map ..
section
variable {K : PySem.W.Frag} {σ : L2.St} {H H' : Hp} {ta tb te tx : TE} {tr : TA} {t u : TT} {v w : V} {d : PyData} {ds es : List PyData} {D : Ends} {tu tw tz : TS} {g : TG}
theorem ed_of (h : Ev te σ H v) (hv : Td H v d) : EvD te σ H d := fun H1 e Q q => h H1 e Q fun H2 e2 => q v H2 e2 (Td.tx (Tx.of (e.trans e2)) _ _ hv)
theorem ed_str {x : Str} (h : Ev te σ H (.str x)) : EvD te σ H (.str x) := ed_of h (.str x)
theorem ed_int {i : Int} (h : Ev te σ H (.int i)) : EvD te σ H (.int i) := ed_of h (.int i)
theorem ed_bl {b : Bool} (h : Ev te σ H (.bl b)) : EvD te σ H (.bool b) := ed_of h (.bl b)
theorem ed_non (h : Ev te σ H .non) : EvD te σ H .none := ed_of h .non
theorem EvD.mono (e : Ex H H') (h : EvD te σ H d) : EvD te σ H' d := fun H1 e1 Q q => h H1 (e.trans e1) Q q
theorem EvDL.mono (e : Ex H H') (h : EvDL te σ H ds) : EvDL te σ H' ds := fun H1 e1 Q q => h H1 (e.trans e1) Q q
theorem ed_is {d2 : PyData} (h : EvD te σ H d) (e : d = d2) : EvD te σ H d2 := e ▸ h
theorem ead_nil : EAD tNil σ H [] := fun H1 _ Q q => q [] H1 (Ex.refl _) .nil
theorem ead_cons (h : EvD te σ H d) (hr : EAD tr σ H ds) : EAD (tCons te tr) σ H (d :: ds) := fun H1 e Q q =>
  h H1 e _ fun v H2 e2 hv => hr H2 (e.trans e2) _ fun vs H3 e3 hvs => q (v :: vs) H3 (e2.trans e3) (.cons (Td.tx (Tx.of e3) _ _ hv) hvs)
theorem ed_tup {tr : TA} (h : EAD tr σ H ds) (hl : ds.length ≤ 100000) : EvD (tTup tr) σ H (.tuple ds) := fun H1 e Q q =>
  h H1 e _ fun vs H2 e2 hvs => ⟨sz_of (by rw [hvs.len]; exact hl), fun p hp => q (.ref p) _ (e2.trans (Ex.new hp)) (.tup upd_same (TdAll.tx (Tx.of (Ex.new hp)) _ _ hvs))⟩
theorem edl_lst {tr : TA} (h : EAD tr σ H ds) (hl : ds.length ≤ 100000) : EvDL (tLst tr) σ H ds := fun H1 e Q q =>
  h H1 e _ fun vs H2 e2 hvs => ⟨sz_of (by rw [hvs.len]; exact hl), fun p hp => q p _ vs (fresh_back e2 hp) (e2.trans (Ex.new hp)) upd_same (TdAll.tx (Tx.of (Ex.new hp)) _ _ hvs)⟩
theorem edl_cat {l : Addr} {xs : List V} (ha : Ev ta σ H (.ref l)) (hl : H l = some (.lst xs)) (hx : TdAll H xs ds) (hb : EvDL tb σ H es) (hz : ds.length + es.length ≤ 100000) : EvDL (tOp rCat ta tb) σ H (ds ++ es) := fun H1 e Q q =>
  ha H1 e _ fun H2 e2 => hb H2 (e.trans e2) _ fun p H3 ys hp e3 h3 hy => ⟨l, p, xs, ys, rfl, rfl, e3 l _ (e2 l _ (e l _ hl)), h3, sz_of (by rw [hx.len, hy.len]; exact hz), fun c hc =>
    q c _ _ (fresh_back (e2.trans e3) hc) ((e2.trans e3).trans (Ex.new hc)) upd_same (TdAll.tx (Tx.of (Ex.new hc)) _ _ ((TdAll.tx (Tx.of ((e.trans e2).trans e3)) _ _ hx).app hy))⟩
theorem ed_if {b : Bool} (h : EvT t σ H b) (h1 : b = true → EvD ta σ H d) (h2 : b = false → EvD tb σ H d) : EvD (tIf t ta tb) σ H d := fun H1 e Q q => h H1 e _ fun H2 e2 => by
  cases b with
  | true =>
    show ta σ H2 Q
    exact h1 rfl H2 (e.trans e2) Q fun v H3 e3 => q v H3 (e2.trans e3)
  | false =>
    show tb σ H2 Q
    exact h2 rfl H2 (e.trans e2) Q fun v H3 e3 => q v H3 (e2.trans e3)
theorem q_asgD {i : Nat} (h : EvD te σ H d) (k : ∀ v H1, Ex H H1 → Td H1 v d → tz D (σ.set i (some v)) H1) : tSeq (tAsg te (gName i)) tz D σ H := h H (Ex.refl H) _ k
theorem s_asgD {i : Nat} (h : EvD te σ H d) (k : ∀ v H1, Ex H H1 → Td H1 v d → D.nx (σ.set i (some v)) H1) : tAsg te (gName i) D σ H := h H (Ex.refl H) _ k
theorem q_asgDL {i : Nat} (h : EvDL te σ H ds) (k : ∀ p H1 vs, H p = none → Ex H H1 → H1 p = some (.lst vs) → TdAll H1 vs ds → tz D (σ.set i (some (.ref p))) H1) : tSeq (tAsg te (gName i)) tz D σ H := h H (Ex.refl H) _ k
theorem s_asgDL {i : Nat} (h : EvDL te σ H ds) (k : ∀ p H1 vs, H p = none → Ex H H1 → H1 p = some (.lst vs) → TdAll H1 vs ds → D.nx (σ.set i (some (.ref p))) H1) : tAsg te (gName i) D σ H := h H (Ex.refl H) _ k
/-- texts -/
theorem es_lit {s : String} : EvS (tC (.str (Str.ofString s))) σ H (lt s) := ev_is ev_c (congrArg V.str (S_lt s))
theorem ed_S {x : List Nat} (h : EvS te σ H x) : EvD te σ H (.str (S x)) := ed_str h
theorem es_add {a b : List Nat} (ha : EvS ta σ H a) (hb : EvS tb σ H b) (h : a.length + b.length ≤ 100000) : EvS (tOp (fun x y H Q => ∃ i j, x = .str i ∧ y = .str j ∧ i.length + j.length ≤ sizeLine ∧ Q (.str (i ++ j)) H) ta tb) σ H (a ++ b) := ev_op ha hb (rv_addS h)
theorem es_rep {a : List Nat} {k : Nat} (ha : EvS ta σ H a) (hb : Ev tb σ H (.int (k : Int))) (h : a.length ≤ 16) (hk : k ≤ 100000) : EvS (tOp rRepS ta tb) σ H (List.replicate k a).flatten := ev_op ha hb (rv_repS h hk)
theorem eat_nil : EAT tNil σ H [] := ea_nil
theorem eat_cons {a : List Nat} {ts : List (List Nat)} (h : EvS te σ H a) (hr : EAT tr σ H ts) : EAT (tCons te tr) σ H (a :: ts) := ea_cons h hr
theorem elt_lst {ts : List (List Nat)} (h : EAT tr σ H ts) (hl : ts.length ≤ 100000) : EvLT (tLst tr) σ H ts := el_lst h (by rw [List.length_map]; exact hl)
theorem el_catLL {xs zs : List V} (ha : EvL ta σ H xs) (hb : EvL tb σ H zs) (hz : xs.length + zs.length ≤ 100000) : EvL (tOp rCat ta tb) σ H (xs ++ zs) := fun H1 e Q q =>
  ha H1 e _ fun l H2 hl0 e2 hl => hb H2 (e.trans e2) _ fun p H3 hp e3 h3 => ⟨l, p, xs, zs, rfl, rfl, e3 l _ hl, h3, sz_of hz, fun c hc => q c _ (fresh_back (e2.trans e3) hc) ((e2.trans e3).trans (Ex.new hc)) upd_same⟩
theorem elt_cat {ts us : List (List Nat)} (ha : EvLT ta σ H ts) (hb : EvLT tb σ H us) (hz : ts.length + us.length ≤ 100000) : EvLT (tOp rCat ta tb) σ H (ts ++ us) := by
  have := el_catLL ha hb (by rw [List.length_map, List.length_map]; exact hz)
  rw [← List.map_append] at this
  exact this
theorem elt_catV {l : Addr} {ts us : List (List Nat)} (ha : Ev ta σ H (.ref l)) (hl : H l = some (.lst (ts.map fun z => V.str (S z)))) (hb : EvLT tb σ H us) (hz : ts.length + us.length ≤ 100000) : EvLT (tOp rCat ta tb) σ H (ts ++ us) := by
  have := el_cat ha hl hb (by rw [List.length_map, List.length_map]; exact hz)
  rw [← List.map_append] at this
  exact this
theorem rep_map {α β : Type} (f : α → β) (xs : List α) : ∀ k, (List.replicate k (xs.map f)).flatten = ((List.replicate k xs).flatten).map f
  | 0 => rfl
  | k + 1 => by rw [List.replicate_succ, List.replicate_succ, List.flatten_cons, List.flatten_cons, List.map_append, rep_map f xs k]
theorem elt_rep {ts : List (List Nat)} {i : Int} {k : Nat} (ha : EvLT ta σ H ts) (hb : Ev tb σ H (.int i)) (hi : i = (k : Int)) (hz : ts.length * k ≤ 100000) (hk : k ≤ 100000) : EvLT (tOp rRep ta tb) σ H (List.replicate k ts).flatten := fun H1 e Q q =>
  ha H1 e _ fun l H2 hl0 e2 hl => hb H2 (e.trans e2) _ fun H3 e3 => ⟨l, i, _, rfl, rfl, e3 l _ hl, by subst hi; omega, by subst hi; omega, by
    subst hi
    rw [List.length_map]
    exact sz_of hz, fun c hc => q c _ (fresh_back (e2.trans e3) hc) ((e2.trans e3).trans (Ex.new hc)) (by
      subst hi
      rw [← rep_map]
      exact upd_same)⟩
abbrev rJoin (K : PySem.W.Frag) : V → List V → Hp → VK → Prop := fun x xs H Q => ∃ a p, ∃ ys : List Str, x = .str a ∧ xs = [.ref p] ∧ (SqL K H p (ys.map V.str) ∨ SqT K H p (ys.map V.str)) ∧
      (ys.map (·.length)).sum + ys.length * a.length ≤ 16777216 ∧ Q (.str (Txt.join a ys)) H
def fitsJ (sep : List Nat) (ts : List (List Nat)) : Prop := (ts.map (fun x => x.length)).sum + ts.length * sep.length ≤ 100000
instance (sep : List Nat) (ts : List (List Nat)) : Decidable (fitsJ sep ts) := by unfold fitsJ; infer_instance
theorem join_at {sep : List Nat} {ts : List (List Nat)} {p : Addr} {Q : VK} (hp : H p = some (.lst (ts.map fun z => V.str (S z)))) (hz : fitsJ sep ts) (q : Q (.str (S (TL.joinL sep ts))) H) : rJoin K (.str (S sep)) [.ref p] H Q := by
  refine ⟨S sep, p, ts.map S, rfl, rfl, .inl ?_, ?_, ?_⟩
  · rw [List.map_map]
    exact sq_of hp
  · unfold fitsJ at hz
    rw [lens, List.length_map, S_len]
    omega
  · rw [join_S]
    exact q
theorem es_join {sep : List Nat} {ts : List (List Nat)} (ha : EvS ta σ H sep) (hb : EvLT tb σ H ts) (hz : fitsJ sep ts) : EvS (tM1 (rJoin K) ta tb) σ H (TL.joinL sep ts) := fun H1 e Q q =>
  ha H1 e _ fun H2 e2 => ⟨⟨S sep, rfl⟩, hb H2 (e.trans e2) _ fun p H3 hp e3 h3 => join_at h3 hz (q H3 (e2.trans e3))⟩
theorem es_joinV {sep : List Nat} {ts : List (List Nat)} {l : Addr} (ha : EvS ta σ H sep) (hb : Ev tb σ H (.ref l)) (hl : H l = some (.lst (ts.map fun z => V.str (S z)))) (hz : fitsJ sep ts) : EvS (tM1 (rJoin K) ta tb) σ H (TL.joinL sep ts) := fun H1 e Q q =>
  ha H1 e _ fun H2 e2 => ⟨⟨S sep, rfl⟩, hb H2 (e.trans e2) _ fun H3 e3 => join_at (e3 l _ (e2 l _ (e l _ hl))) hz (q H3 (e2.trans e3))⟩
/-- int(truth) -/
theorem ev_intB {b : Bool} (h : Ev te σ H (.bl b)) {r : List V → Hp → VK → Prop} (hr : ∀ H1 Q, Q (.int (if b = true then 1 else 0)) H1 → r [.bl b] H1 Q) : Ev (tCB r (tCons te tNil)) σ H (.int (if b = true then 1 else 0)) :=
  ev_cb (ea_cons h ea_nil) fun H1 _ Q q => hr H1 Q (q H1 (Ex.refl H1))
/-- [e for k in range(n)], e known by what is true of it: just n of them -/
theorem en_lcRn {j : Nat} {vs : List Nat} {n : Nat} {P : V → Prop} (h : Ev ta σ H (.int (n : Int))) (hN : n ≤ 10000) (hw : ∀ x, wipe ((wipe σ vs).set j (some x)) vs = wipe σ vs)
    (he : ∀ (i : Nat) H1, Ex H H1 → EvN te ((wipe σ vs).set j (some (.int (i : Int)))) H1 P) : EvNL (tLc (iRng1 (tCons ta tNil)) (gName j) tYes te vs) σ H (fun xs => xs.length = n ∧ ∀ x ∈ xs, P x) := fun H0 e Q q =>
  h H0 e _ fun H1 e1 => by
    refine ⟨(n : Int), rfl, by omega, by omega, fun Dl hD => ?_⟩
    refine lc_range (lo := 0) (n := (n : Int).toNat) (fun i H2 => ∃ xs, Ex H1 H2 ∧ H2 Dl = some (.lst xs) ∧ xs.length = i ∧ ∀ x ∈ xs, P x) ⟨[], Ex.new hD, upd_same, rfl, fun _ h => absurd h (by simp)⟩ ?_ ?_
    · rintro i H2 hi ⟨xs, e2, h2, hl, hP⟩
      have e0 : (0 : Int) + (i : Int) = (i : Int) := Int.zero_add _
      show wipe ((wipe σ vs).set j (some (.int ((0 : Int) + (i : Int))))) vs = wipe σ vs ∧ tYes ((wipe σ vs).set j (some (.int ((0 : Int) + (i : Int))))) H2 _
      rw [e0]
      refine ⟨hw _, ?_⟩
      show te ((wipe σ vs).set j (some (.int (i : Int)))) H2 _
      refine he i H2 ((e.trans e1).trans e2) H2 (Ex.refl H2) _ fun y H3 py e3 => ⟨xs, e3 Dl _ h2, sz_lt (by omega), xs ++ [y], ?_, upd_same, by rw [List.length_append, hl] <;> rfl, fun x hx => ?_⟩
      · exact Ex.mut (e2.trans e3) hD
      · rcases List.mem_append.mp hx with h | h
        · exact hP x h
        · rw [List.mem_singleton.mp h]
          exact py
    · rintro H2 ⟨xs, e2, h2, hl, hP⟩
      exact q Dl H2 xs ⟨by omega, hP⟩ (fresh_back e1 hD) (e1.trans e2) h2
end
/-! readings of lists that are known by what is true of them, of loops over new lists -/
section
variable {K : PySem.W.Frag} {σ : L2.St} {H H' : Hp} {ta tb te tx tl : TE} {tr : TA} {t u : TT} {v w : V} {d : PyData} {ds es : List PyData} {D : Ends} {tu tw tz : TS} {g : TG} {L : List V → Prop} {P : V → Prop}
theorem edl_is {es : List PyData} (h : EvDL te σ H ds) (e : ds = es) : EvDL te σ H es := e ▸ h
theorem ed_place {a b : Nat} {i j : Int} (h1 : Ev ta σ H (.int i)) (h2 : Ev tb σ H (.int j)) (e1 : i = (a : Int)) (e2 : j = (b : Int)) : EvD (tTup (tCons ta (tCons tb tNil))) σ H (.tuple [.int (a : Int), .int (b : Int)]) := by
  subst e1 e2
  exact ed_tup (ead_cons (ed_int h1) (ead_cons (ed_int h2) ead_nil)) (by show 2 ≤ 100000; decide)
theorem q_asgNL {i : Nat} (h : EvNL te σ H L) (k : ∀ p H1 xs, L xs → H p = none → Ex H H1 → H1 p = some (.lst xs) → tz D (σ.set i (some (.ref p))) H1) : tSeq (tAsg te (gName i)) tz D σ H := h H (Ex.refl H) _ k
theorem enl_cat {zs : List V} {n : Nat} (ha : EvNL ta σ H L) (hb : EvL tb σ H zs) (hn : ∀ xs, L xs → xs.length ≤ n) (hz : n + zs.length ≤ 100000) : EvNL (tOp rCat ta tb) σ H (fun xs => ∃ ys, L ys ∧ xs = ys ++ zs) := fun H1 e Q q =>
  ha H1 e _ fun l H2 xs hL hl0 e2 hl => hb H2 (e.trans e2) _ fun p H3 hp e3 h3 => ⟨l, p, xs, zs, rfl, rfl, e3 l _ hl, h3, sz_of (by have := hn xs hL; omega), fun c hc => q c _ _ ⟨xs, hL, rfl⟩ (fresh_back (e2.trans e3) hc) ((e2.trans e3).trans (Ex.new hc)) upd_same⟩
theorem enl_rep {ts : List (List Nat)} {B : Nat} (ha : EvLT ta σ H ts) (hb : EvN tb σ H (fun v => ∃ z : Int, v = .int z ∧ 0 ≤ z ∧ z < (B : Int))) (hz : ts.length * B ≤ 100000) (hB : B ≤ 100000) : EvNL (tOp rRep ta tb) σ H (fun xs => ∃ k, k < B ∧ xs = (List.replicate k ts).flatten.map fun z => V.str (S z)) := fun H1 e Q q =>
  ha H1 e _ fun l H2 hl0 e2 hl => hb H2 (e.trans e2) _ fun v H3 hv e3 => by
    obtain ⟨z, rfl, z0, z1⟩ := hv
    obtain ⟨k, rfl⟩ : ∃ k : Nat, z = (k : Int) := ⟨z.toNat, by omega⟩
    have hk : k < B := by omega
    have hm : ts.length * k ≤ ts.length * B := Nat.mul_le_mul_left _ (by omega)
    exact ⟨l, k, _, rfl, rfl, e3 l _ hl, by omega, by omega, by
      rw [List.length_map, Int.toNat_natCast]
      exact sz_of (by omega), fun c hc => q c _ _ ⟨k, hk, rfl⟩ (fresh_back (e2.trans e3) hc) ((e2.trans e3).trans (Ex.new hc)) (by
        rw [← rep_map, Int.toNat_natCast]
        exact upd_same)⟩
theorem qn_par {i j : Nat} {L : List V → Prop} (h : EAN tr σ H L) (k : ∀ vs H1, L vs → Ex H H1 → ∃ v w, vs = [v, w] ∧ tz D ((σ.set i (some v)).set j (some w)) H1) : tSeq (tPar i j tr) tz D σ H := h H (Ex.refl H) _ k
theorem s_appD {l : Addr} {xs : List V} (hl : H l = some (.lst xs)) (ha : Ev ta σ H (.ref l)) (h : EvD te σ H d) (hz : xs.length < 100000) (k : ∀ v H1, Ex H H1 → Td H1 v d → D.nx σ (upd H1 l (.lst (xs ++ [v])))) : tDrop (tBM K "list" rAppend ta (tCons te tNil)) D σ H := ha H (Ex.refl H) _ fun H1 e1 =>
  ⟨Or.inl ⟨rfl, xs, sq_of (e1 l _ hl)⟩, h H1 e1 _ fun v H2 e2 hv => ⟨l, xs, v, rfl, rfl, e2 l _ (e1 l _ hl), sz_lt hz, k v H2 (e1.trans e2) hv⟩⟩
theorem q_appD {l : Addr} {xs : List V} (hl : H l = some (.lst xs)) (ha : Ev ta σ H (.ref l)) (h : EvD te σ H d) (hz : xs.length < 100000) (k : ∀ v H1, Ex H H1 → Td H1 v d → tz D σ (upd H1 l (.lst (xs ++ [v])))) : tSeq (tDrop (tBM K "list" rAppend ta (tCons te tNil))) tz D σ H := s_appD (D := { D with nx := tz D }) hl ha h hz k
theorem q_forDL (h : EvDL tl σ H ds) (k : ∀ p H1 vs, H p = none → Ex H H1 → H1 p = some (.lst vs) → TdAll H1 vs ds → ∃ Pv : Nat → L2.St → Hp → Prop, Pv 0 σ H1 ∧ (∀ i σ' H', i ≤ vs.length → Pv i σ' H' → SqL K H' p vs) ∧
    (∀ i x σ' H', vs[i]? = some x → Pv i σ' H' → g x σ' H' fun σ2 H2 => tu { D with nx := Pv (i + 1), ct := Pv (i + 1), bk := tz D } σ2 H2) ∧ (∀ σ' H', Pv vs.length σ' H' → tz D σ' H')) : tSeq (tFor (iList K tl) g tu) tz D σ H :=
  h H (Ex.refl H) _ fun p H1 vs hp e h1 hT => by
    obtain ⟨Pv, p0, p1, p2, p3⟩ := k p H1 vs hp e h1 hT
    exact ⟨p, rfl, ⟨vs, sq_of h1⟩, for_list (D := { D with nx := tz D }) Pv p0 p1 p2 p3⟩
theorem TdAll.at {vs : List V} {i : Nat} {x : V} (h : TdAll H vs ds) (hx : vs[i]? = some x) : ∃ d, ds[i]? = some d ∧ Td H x d := by
  induction i generalizing vs ds with
  | zero =>
    cases h with
    | nil => cases hx
    | cons a b =>
      cases hx
      exact ⟨_, rfl, a⟩
  | succ i ih =>
    cases h with
    | nil => cases hx
    | cons a b => exact ih b hx
/-- a, b = x where x is a pair -/
theorem g_pair {i j : Nat} {x : V} {d1 d2 : PyData} {Q : L2.St → Hp → Prop} (h : Td H x (.tuple [d1, d2])) (k : ∀ v w, Td H v d1 → Td H w d2 → Q ((σ.set i (some v)).set j (some w)) H) : gTup K 2 (gCons (gName i) (gCons (gName j) gNil)) x σ H Q := by
  cases h with
  | @tup a xs _ h1 h2 =>
    cases h2 with
    | @cons v _ _ _ g1 g2 =>
      cases g2 with
      | @cons w _ _ _ g3 g4 =>
        cases g4
        exact ⟨a, [v, w], rfl, st_of h1, rfl, v, [w], rfl, w, [], rfl, rfl, k v w g1 g3⟩
theorem td_S {x : V} {l : List Nat} (h : Td H x (.str (S l))) : x = .str (S l) := by cases h; rfl
theorem td_int {x : V} {i : Int} (h : Td H x (.int i)) : x = .int i := by cases h; rfl
/-- [e for c in text]: texts -/
theorem elt_lcS {l : List Nat} {j : Nat} {vs : List Nat} {f : Nat → List Nat} (h : EvS tl σ H l) (hz : l.length ≤ 40000) (hw : ∀ x, wipe ((wipe σ vs).set j (some x)) vs = wipe σ vs)
    (he : ∀ (c : Nat) H1, Ex H H1 → EvS te ((wipe σ vs).set j (some (.str (S [c])))) H1 (f c)) : EvLT (tLc (iStr tl) (gName j) tYes te vs) σ H (l.map f) := fun H0 e Q q => h H0 e _ fun H1 e1 => by
  refine ⟨S l, rfl, fun Dl hD => ?_⟩
  have hsz : (S l).cps.size = l.length := by simp [S]
  refine lc_it (walk_str (z := S l)) (fun i H' => Ex H1 H' ∧ H' Dl = some (.lst (((l.take i).map f).map fun z => V.str (S z)))) ⟨Ex.new hD, upd_same⟩ (fun _ _ _ _ => trivial) ?_ ?_
  · rintro i x H2 H3 hi ⟨e2, h2⟩ ⟨rfl, c, hc, rfl⟩
    refine ⟨hw _, ?_⟩
    have hc2 : l[i]? = some c := by
      have : (S l).cps.toList[i]? = some c := by rw [Array.getElem?_toList]; exact hc
      rw [S_list] at this
      exact this
    have hlt : i < l.length := by rw [← hsz]; exact hi
    show te _ H3 _
    refine he c H3 ((e.trans e1).trans e2) H3 (Ex.refl H3) _ fun H4 e4 => ⟨_, e4 _ _ h2, sz_lt (by simp; omega), Ex.mut (e2.trans e4) hD, ?_⟩
    rw [show l.take (i + 1) = l.take i ++ [c] by rw [List.take_succ, hc2]; rfl, List.map_append, List.map_append]
    exact upd_same
  · rintro H2 ⟨e2, h2⟩
    rw [hsz, List.take_length] at h2
    exact q Dl H2 (fresh_back e1 hD) (e1.trans e2) h2
theorem ev_slS {l r : List Nat} {i : Int} {tl2 : TO} {th : TO} (h : EvS te σ H l) (h1 : EvO tl2 σ H none) (h2 : EvO th σ H (some i)) (hl : l.length ≤ 100000) (hr : Txt.slice (S l) none (some i) = S r) : EvS (tSl C8.rSlX te tl2 th) σ H r := fun H1 e Q q =>
  h H1 e _ fun H2 e2 => h1 H2 (e.trans e2) _ fun H3 e3 => h2 H3 ((e.trans e2).trans e3) _ fun H4 e4 => ⟨S l, rfl, by rw [S_len]; exact sz_of hl, by
    rw [hr]
    exact q H4 ((e2.trans e3).trans e4)⟩
end
end Wt

set_option Elab.async false
set_option linter.all false
set_option maxRecDepth 100000
set_option maxHeartbeats 4000000
/-! What an expression comes to, told as data of which something is true. -/
namespace Wt
open PySem PySem.Spec PyProof.Rows L2 SX Evl
def EvR (te : TE) (σ : L2.St) (H : Hp) (R : PyData → Prop) : Prop := ∀ H1, Ex H H1 → ∀ Q : VK, (∀ v H2 d, R d → Ex H1 H2 → Td H2 v d → Q v H2) → te σ H1 Q
def EAR (ta : TA) (σ : L2.St) (H : Hp) (R : List PyData → Prop) : Prop := ∀ H1, Ex H H1 → ∀ Q : List V → Hp → Prop, (∀ vs H2 ds, R ds → Ex H1 H2 → TdAll H2 vs ds → Q vs H2) → ta σ H1 Q
/-- a new list -/
def EvRL (te : TE) (σ : L2.St) (H : Hp) (R : List PyData → Prop) : Prop := ∀ H1, Ex H H1 → ∀ Q : VK, (∀ p H2 vs ds, R ds → H1 p = none → Ex H1 H2 → H2 p = some (.lst vs) → TdAll H2 vs ds → Q (.ref p) H2) → te σ H1 Q
/-- a list of texts that stands there, or a new one -/
def EvLs (te : TE) (σ : L2.St) (H : Hp) (P : List (List Nat) → Prop) : Prop := ∀ H1, Ex H H1 → ∀ Q : VK, (∀ p H2 ts, P ts → Ex H1 H2 → H2 p = some (.lst (ts.map fun z => V.str (S z))) → Q (.ref p) H2) → te σ H1 Q
theorem td_get {H : Hp} : ∀ {us : List V} {ds : List PyData} {i : Nat} {d : PyData}, TdAll H us ds → ds[i]? = some d → ∃ v, us[i]? = some v ∧ Td H v d
  | _, _, _, _, .nil, h => by simp at h
  | _, _, 0, _, .cons a b, h => ⟨_, rfl, by
    cases Option.some.inj h
    exact a⟩
  | _, _, i + 1, _, .cons a b, h => td_get (i := i) b h
theorem td_mem {H : Hp} : ∀ {us : List V} {ds : List PyData} {v : V}, TdAll H us ds → v ∈ us → ∃ d ∈ ds, Td H v d
  | _, _, _, .nil, h => by cases h
  | _, _, v, .cons a b, h => by
    rcases List.mem_cons.mp h with rfl | h
    · exact ⟨_, List.mem_cons_self .., a⟩
    · obtain ⟨d, hd, hT⟩ := td_mem b h
      exact ⟨d, List.mem_cons_of_mem _ hd, hT⟩
theorem cutV_from {xs : List V} {k : Nat} (h : k ≤ xs.length) : cutV xs (some (k : Int)) none = xs.drop k := by
  have h1 : HT.sIx xs.length 0 (some (k : Int)) = k := by
    rw [HT.sIx_nat]
    omega
  have h2 : HT.sIx xs.length xs.length none = xs.length := rfl
  unfold cutV
  rw [h1, h2]
  exact List.take_of_length_le (by rw [List.length_drop]; omega)
theorem td_drop {H : Hp} : ∀ {n : Nat} {us : List V} {ds : List PyData}, TdAll H us ds → TdAll H (us.drop n) (ds.drop n)
  | 0, _, _, h => h
  | _ + 1, _, _, .nil => .nil
  | n + 1, _, _, .cons a b => td_drop (n := n) b
section
variable {K : PySem.W.Frag} {σ : L2.St} {H H' : Hp} {ta tb te tx tl : TE} {tr : TA} {t u : TT} {v w : V} {R R2 : PyData → Prop} {L : List PyData → Prop} {D : Ends} {tu tw tz : TS} {P : V → Prop}
theorem er_of {d : PyData} (h : EvD te σ H d) : EvR te σ H (· = d) := fun H1 e Q q => h H1 e Q fun v H2 e2 hv => q v H2 d rfl e2 hv
theorem EvR.imp (h : EvR te σ H R) (i : ∀ d, R d → R2 d) : EvR te σ H R2 := fun H1 e Q q => h H1 e Q fun v H2 d r => q v H2 d (i d r)
theorem EvR.mono (e : Ex H H') (h : EvR te σ H R) : EvR te σ H' R := fun H1 e1 Q q => h H1 (e.trans e1) Q q
theorem er_N (h : EvN te σ H P) (hP : ∀ v, P v → ∃ d, R d ∧ ∀ H', Td H' v d) : EvR te σ H R := fun H1 e Q q => h H1 e Q fun v H2 p e2 => by
  obtain ⟨d, r, hd⟩ := hP v p
  exact q v H2 d r e2 (hd H2)
theorem ear_nil : EAR tNil σ H (· = []) := fun H1 _ Q q => q [] H1 [] rfl (Ex.refl _) .nil
theorem ear_cons (h : EvR te σ H R) (hr : EAR tr σ H L) : EAR (tCons te tr) σ H (fun l => ∃ d ds, l = d :: ds ∧ R d ∧ L ds) := fun H1 e Q q =>
  h H1 e _ fun v H2 d r e2 hv => hr H2 (e.trans e2) _ fun vs H3 ds rs e3 hvs => q (v :: vs) H3 (d :: ds) ⟨d, ds, rfl, r, rs⟩ (e2.trans e3) (.cons (Td.tx (Tx.of e3) _ _ hv) hvs)
theorem ear_one {d : PyData} (h : EvD te σ H d) (hr : EAR tr σ H L) : EAR (tCons te tr) σ H (fun l => ∃ ds, l = d :: ds ∧ L ds) := fun H1 e Q q =>
  h H1 e _ fun v H2 e2 hv => hr H2 (e.trans e2) _ fun vs H3 ds rs e3 hvs => q (v :: vs) H3 (d :: ds) ⟨ds, rfl, rs⟩ (e2.trans e3) (.cons (Td.tx (Tx.of e3) _ _ hv) hvs)
theorem EAR.imp {L2 : List PyData → Prop} (h : EAR tr σ H L) (i : ∀ d, L d → L2 d) : EAR tr σ H L2 := fun H1 e Q q => h H1 e Q fun v H2 d r => q v H2 d (i d r)
theorem er_tup (h : EAR tr σ H L) (hl : ∀ ds, L ds → ds.length ≤ 100000) : EvR (tTup tr) σ H (fun d => ∃ ds, L ds ∧ d = .tuple ds) := fun H1 e Q q =>
  h H1 e _ fun vs H2 ds r e2 hvs => ⟨sz_of (by rw [hvs.len]; exact hl ds r), fun p hp => q (.ref p) _ (.tuple ds) ⟨ds, r, rfl⟩ (e2.trans (Ex.new hp)) (.tup upd_same (TdAll.tx (Tx.of (Ex.new hp)) _ _ hvs))⟩
theorem erl_lst (h : EAR tr σ H L) (hl : ∀ ds, L ds → ds.length ≤ 100000) : EvRL (tLst tr) σ H L := fun H1 e Q q =>
  h H1 e _ fun vs H2 ds r e2 hvs => ⟨sz_of (by rw [hvs.len]; exact hl ds r), fun p hp => q p _ vs ds r (fresh_back e2 hp) (e2.trans (Ex.new hp)) upd_same (TdAll.tx (Tx.of (Ex.new hp)) _ _ hvs)⟩
theorem er_if {b : Bool} (h : EvT t σ H b) (h1 : b = true → EvR ta σ H R) (h2 : b = false → EvR tb σ H R) : EvR (tIf t ta tb) σ H R := fun H1 e Q q => h H1 e _ fun H2 e2 => by
  cases b with
  | true =>
    show ta σ H2 Q
    exact h1 rfl H2 (e.trans e2) Q fun v H3 d r e3 => q v H3 d r (e2.trans e3)
  | false =>
    show tb σ H2 Q
    exact h2 rfl H2 (e.trans e2) Q fun v H3 d r e3 => q v H3 d r (e2.trans e3)
theorem er_tupleOf (h : EvRL te σ H L) : EvR (tCB (fun xs H Q => ∃ p ys, xs = [.ref p] ∧ ((SqL K H p ys ∧ ∀ l, H l = none → Q (.ref l) (upd H l (.tup ys))) ∨ (SqT K H p ys ∧ Q (.ref p) H))) (tCons te tNil)) σ H (fun d => ∃ ds, L ds ∧ d = .tuple ds) := fun H1 e Q q =>
  h H1 e _ fun l H2 vs ds r hl e2 hl2 hvs => ⟨l, vs, rfl, .inl ⟨sq_of hl2, fun c hc => q _ _ _ ⟨ds, r, rfl⟩ (e2.trans (Ex.new hc)) (.tup upd_same (TdAll.tx (Tx.of (Ex.new hc)) _ _ hvs))⟩⟩
/-- (a, b, ..) + e[k:] -/
theorem er_catSl {k : Nat} {ds1 : List PyData} (h : EAD tr σ H ds1) (he : EvR te σ H R) (hR : ∀ d, R d → ∃ es, d = .tuple es ∧ k < es.length ∧ es.length ≤ 100) (hk : 0 < k) (h1 : ds1 ≠ []) (hl1 : ds1.length ≤ 100) :
    EvR (tOp (rCatA K) (tTup tr) (tSl (rSlA K) te (tPart (tC (.int (k : Int)))) tNoPart)) σ H (fun d => ∃ es, R (.tuple es) ∧ d = .tuple (ds1 ++ es.drop k)) := fun H1 e Q q => h H1 e _ fun vs H2 e2 hvs => ⟨sz_of (by rw [hvs.len]; omega), fun pa hpa => by
  have e3 := Ex.new (o := HO.tup vs) hpa
  refine he _ ((e.trans e2).trans e3) _ fun v H4 d r e4 hv => ?_
  obtain ⟨es, rfl, hkl, hl⟩ := hR d r
  refine ⟨(k : Int), rfl, ?_⟩
  cases hv with
  | @tup ea xs _ hx1 hx2 =>
    have hxl := hx2.len
    have h2 : HT.sIx xs.length 0 (some (k : Int)) = k := by
      rw [HT.sIx_nat]
      omega
    refine ⟨ea, xs, rfl, st_of hx1, fun z => ?_, fun _ pb hpb => ?_⟩
    · exfalso
      have := z.1
      rw [h2] at this
      omega
    · rw [cutV_from (by omega)] at *
      have e5 := Ex.new (o := HO.tup (xs.drop k)) hpb
      have hvs5 := TdAll.tx (Tx.of ((e3.trans e4).trans e5)) _ _ hvs
      have hd5 := td_drop (n := k) (TdAll.tx (Tx.of e5) _ _ hx2)
      have ne1 : vs ≠ [] := fun z => h1 (by
        rw [z] at hvs
        cases hvs
        rfl)
      have ne2 : xs.drop k ≠ [] := fun z => by
        have := congrArg List.length z
        rw [List.length_drop] at this
        simp at this
        omega
      refine ⟨pa, pb, vs, xs.drop k, rfl, rfl, st_of (e5 _ _ (e4 _ _ upd_same)), st_of upd_same, sz_of (by
        rw [List.length_drop, hvs.len]
        omega), fun z => absurd z ne1, fun _ z => absurd z ne2, fun _ _ pc hpc => ?_⟩
      have e6 := Ex.new (o := HO.tup (vs ++ xs.drop k)) hpc
      exact q _ _ _ ⟨es, r, rfl⟩ ((((e2.trans e3).trans e4).trans e5).trans e6) (.tup upd_same (TdAll.tx (Tx.of e6) _ _ (hvs5.app hd5)))⟩
theorem q_asgR {i : Nat} (h : EvR te σ H R) (k : ∀ v H1 d, R d → Ex H H1 → Td H1 v d → tz D (σ.set i (some v)) H1) : tSeq (tAsg te (gName i)) tz D σ H := h H (Ex.refl H) _ k
theorem q_asgRL {i : Nat} (h : EvRL te σ H L) (k : ∀ p H1 vs ds, L ds → H p = none → Ex H H1 → H1 p = some (.lst vs) → TdAll H1 vs ds → tz D (σ.set i (some (.ref p))) H1) : tSeq (tAsg te (gName i)) tz D σ H := h H (Ex.refl H) _ k
theorem s_retR (h : EvR te σ H R) (k : ∀ v H1 d, R d → Ex H H1 → Td H1 v d → D.rt v H1) : tRet te D σ H := h H (Ex.refl H) _ k
/-- lists of texts -/
theorem els_new {ts : List (List Nat)} {Pt : List (List Nat) → Prop} (h : EvLT te σ H ts) (p : Pt ts) : EvLs te σ H Pt := fun H1 e Q q => h H1 e Q fun l H2 _ e2 hl => q l H2 ts p e2 hl
theorem els_at {l : Addr} {ts : List (List Nat)} {Pt : List (List Nat) → Prop} (h : Ev te σ H (.ref l)) (hl : H l = some (.lst (ts.map fun z => V.str (S z)))) (p : Pt ts) : EvLs te σ H Pt := fun H1 e Q q => h H1 e Q fun H2 e2 => q l H2 ts p e2 ((e.trans e2) _ _ hl)
theorem els_if {b : Bool} {Pt : List (List Nat) → Prop} (h : EvT t σ H b) (h1 : b = true → EvLs ta σ H Pt) (h2 : b = false → EvLs tb σ H Pt) : EvLs (tIf t ta tb) σ H Pt := fun H1 e Q q => h H1 e _ fun H2 e2 => by
  cases b with
  | true =>
    show ta σ H2 Q
    exact h1 rfl H2 (e.trans e2) Q fun p H3 ts r e3 => q p H3 ts r (e2.trans e3)
  | false =>
    show tb σ H2 Q
    exact h2 rfl H2 (e.trans e2) Q fun p H3 ts r e3 => q p H3 ts r (e2.trans e3)
/-- [x for x in xs if ..] over a list of data -/
theorem edl_filter {a : Addr} {xs : List V} {ds : List PyData} {j : Nat} {vs : List Nat} (p : PyData → Bool) (h : Ev tl σ H (.ref a)) (hx : H a = some (.lst xs)) (hT : TdAll H xs ds) (hz : ds.length ≤ 40000) (hw : ∀ x, wipe ((wipe σ vs).set j (some x)) vs = wipe σ vs) (hj : ∀ x, ((wipe σ vs).set j (some x))[j]? = some (some x))
    (ht : ∀ (x : V) (d : PyData) H1, Ex H H1 → d ∈ ds → Td H1 x d → EvT t ((wipe σ vs).set j (some x)) H1 (p d)) : EvDL (tLc (iList K tl) (gName j) t (tVar j) vs) σ H (ds.filter p) := fun H0 e Q q => h H0 e _ fun H1 e1 => ⟨a, rfl, ⟨xs, sq_of ((e.trans e1) _ _ hx)⟩, fun Dl hD => by
  have hx1 := (e.trans e1) _ _ hx
  have hT1 := TdAll.tx (Tx.of (e.trans e1)) _ _ hT
  refine lc_it (walk_list (K := K) (a := a) (xs := xs)) (fun i H' => ∃ acc, Ex H1 H' ∧ H' Dl = some (.lst acc) ∧ TdAll H' acc ((ds.take i).filter p)) ⟨[], Ex.new hD, upd_same, .nil⟩ (fun _ H' _ ⟨_, e2, _⟩ => sq_of (e2 _ _ hx1)) ?_ ?_
  · rintro i x H2 H3 hi ⟨acc, e2, hDl, hA⟩ ⟨rfl, hxi⟩
    refine ⟨hw x, ?_⟩
    have hlen := hT1.len
    have hi2 : i < ds.length := by omega
    have hd : ds[i]? = some ds[i] := List.getElem?_eq_getElem hi2
    obtain ⟨v, hv, hTv⟩ := td_get hT1 hd
    rw [hxi] at hv
    cases hv
    have hal : acc.length ≤ ds.length := by
      have := List.length_filter_le p (ds.take i)
      rw [List.length_take] at this
      have := hA.len
      omega
    refine ht x ds[i] H3 ((e.trans e1).trans e2) (List.getElem_mem hi2) (Td.tx (Tx.of e2) _ _ hTv) H3 (Ex.refl _) _ fun H4 e4 => ?_
    have tk : (ds.take (i + 1)).filter p = (ds.take i).filter p ++ if p ds[i] = true then [ds[i]] else [] := by
      rw [List.take_succ, hd, List.filter_append]
      congr 1
      show List.filter p [ds[i]] = _
      rw [List.filter_cons]
      rfl
    cases hp : p ds[i] with
    | false =>
      rw [if_neg (by decide)]
      refine ⟨acc, e2.trans e4, e4 _ _ hDl, ?_⟩
      rw [tk, hp, if_neg (by decide), List.append_nil]
      exact TdAll.tx (Tx.of e4) _ _ hA
    | true =>
      rw [if_pos rfl]
      refine ev_var (hj x) H4 (Ex.refl _) _ fun H5 e5 => ⟨acc, e5 _ _ (e4 _ _ hDl), sz_lt (by omega), acc ++ [x], Ex.mut ((e2.trans e4).trans e5) hD, upd_same, ?_⟩
      rw [tk, hp, if_pos rfl]
      have tx : Tx H5 (upd H5 Dl (.lst (acc ++ [x]))) := Tx.lst (e5 _ _ (e4 _ _ hDl))
      exact (TdAll.tx ((Tx.of (e4.trans e5)).trans tx) _ _ hA).snoc (Td.tx ((Tx.of ((e2.trans e4).trans e5)).trans tx) _ _ hTv)
  · rintro H2 ⟨acc, e2, hDl, hA⟩
    rw [hT1.len, List.take_length] at hA
    exact q Dl H2 acc (fresh_back e1 hD) (e1.trans e2) hDl hA⟩
/-- [e for x in t] over a tuple of data -/
theorem erl_lcT {a : Addr} {xs : List V} {ds : List PyData} {j : Nat} {vs : List Nat} (h : Ev tl σ H (.ref a)) (hx : H a = some (.tup xs)) (hT : TdAll H xs ds) (hz : ds.length ≤ 40000) (hw : ∀ x, wipe ((wipe σ vs).set j (some x)) vs = wipe σ vs)
    (he : ∀ (x : V) (d : PyData) H1, Ex H H1 → d ∈ ds → Td H1 x d → EvR te ((wipe σ vs).set j (some x)) H1 R) : EvRL (tLc (iTup K tl) (gName j) tYes te vs) σ H (fun es => es.length = ds.length ∧ ∀ d ∈ es, R d) := fun H0 e Q q => h H0 e _ fun H1 e1 => ⟨a, rfl, ⟨xs, st_of ((e.trans e1) _ _ hx)⟩, fun Dl hD => by
  have hx1 := (e.trans e1) _ _ hx
  have hT1 := TdAll.tx (Tx.of (e.trans e1)) _ _ hT
  refine lc_it (walk_tup (K := K) (a := a) (xs := xs)) (fun i H' => ∃ acc es, Ex H1 H' ∧ H' Dl = some (.lst acc) ∧ TdAll H' acc es ∧ es.length = i ∧ ∀ d ∈ es, R d) ⟨[], [], Ex.new hD, upd_same, .nil, rfl, fun _ h => by cases h⟩ (fun _ H' _ ⟨_, _, e2, _⟩ => st_of (e2 _ _ hx1)) ?_ ?_
  · rintro i x H2 H3 hi ⟨acc, es, e2, hDl, hA, hes, hR⟩ ⟨rfl, hxi⟩
    refine ⟨hw x, ?_⟩
    have hlen := hT1.len
    have hi2 : i < ds.length := by omega
    have hd : ds[i]? = some ds[i] := List.getElem?_eq_getElem hi2
    obtain ⟨v, hv, hTv⟩ := td_get hT1 hd
    rw [hxi] at hv
    cases hv
    show te ((wipe σ vs).set j (some x)) H3 _
    refine he x ds[i] H3 ((e.trans e1).trans e2) (List.getElem_mem hi2) (Td.tx (Tx.of e2) _ _ hTv) H3 (Ex.refl _) _ fun y H4 d r e4 hy => ?_
    have hal := hA.len
    refine ⟨acc, e4 _ _ hDl, sz_lt (by omega), acc ++ [y], es ++ [d], Ex.mut (e2.trans e4) hD, upd_same, ?_, by rw [List.length_append, hes] <;> rfl, fun d2 hd2 => ?_⟩
    · have tx : Tx H4 (upd H4 Dl (.lst (acc ++ [y]))) := Tx.lst (e4 _ _ hDl)
      exact (TdAll.tx ((Tx.of e4).trans tx) _ _ hA).snoc (Td.tx tx _ _ hy)
    · rcases List.mem_append.mp hd2 with z | z
      · exact hR d2 z
      · rw [List.mem_singleton.mp z]
        exact r
  · rintro H2 ⟨acc, es, e2, hDl, hA, hes, hR⟩
    exact q Dl H2 acc es ⟨by rw [hes, hT1.len], hR⟩ (fresh_back e1 hD) (e1.trans e2) hDl hA⟩
/-- {k1: v1, k2: v2}[k] -/
theorem ev_disp2 {k1 k2 k : Str} {v1 v2 v : V} (hne : k1 ≠ k2) (hb : Ev tb σ H (.str k)) (hv : (k = k1 ∧ v = v1) ∨ (k = k2 ∧ v = v2)) : Ev (tDGet (tDisp [(tC (.str k1), tC v1), (tC (.str k2), tC v2)]) tb) σ H v := fun H1 e Q q => fun p hp => by
  refine ⟨upd_same, [(Sum.inr k1, v1), (Sum.inr k2, v2)], rfl, by show 2 ≤ 15; decide, ?_⟩
  have hne2 : ¬ (Sum.inr k1 : Key) = Sum.inr k2 := fun z => hne (Sum.inr.inj z)
  have hm : mergeK [] [((Sum.inr k1 : Key), v1), (Sum.inr k2, v2)] = [(Sum.inr k1, v1), (Sum.inr k2, v2)] := by
    unfold mergeK
    simp only [List.foldl_cons, List.foldl_nil, putK, List.any_nil, List.any_cons, Bool.or_false, Bool.false_eq_true, if_false, List.nil_append, decide_eq_true_eq, hne2, List.cons_append, Bool.or_self, decide_false]
  have e1 : Ex H1 (upd (upd H1 p (.dK [])) p (.dK (mergeK [] [((Sum.inr k1 : Key), v1), (Sum.inr k2, v2)]))) := Ex.mut (Ex.new hp) hp
  refine hb _ (e.trans e1) _ fun H2 e2 => ⟨p, v, rfl, ?_, q H2 (e1.trans e2)⟩
  have g := DGet.k (k := (Sum.inr k : Key)) (e2 p _ upd_same)
  rw [hm] at g
  rcases hv with ⟨rfl, rfl⟩ | ⟨rfl, rfl⟩
  · rw [valV_pos (p := ((Sum.inr k : Key), v)) rfl] at g
    exact g
  · rw [valV_neg (p := ((Sum.inr k1 : Key), v1)) hne2, valV_pos (p := ((Sum.inr k : Key), v)) rfl] at g
    exact g
end
end Wt

set_option Elab.async false
set_option linter.all false
set_option maxRecDepth 100000
set_option maxHeartbeats 4000000
namespace Wt
open PySem PySem.Spec PyProof.Rows L2 SX Evl
open C8 (Def Cal cal0 fnScope_by fnScope)
/-! ### further readings -/
theorem lit_letters : Str.ofString "abcdefghijklmnopqrstuvwxyz" = S letters := by decide +kernel
theorem lit_figures : Str.ofString "0123456789" = S figures := by decide +kernel
theorem slice_any {a : List Nat} {i j : Nat} (h : i ≤ j) (hi : i ≤ a.length) : Txt.slice (S a) (some (i : Int)) (some (j : Int)) = S ((a.drop i).take (j - i)) := by
  by_cases hj : j ≤ a.length
  · exact slice_mid h hj
  · have e : Txt.slice (S a) (some (i : Int)) (some (j : Int)) = Txt.slice (S a) (some (i : Int)) (some (a.length : Int)) := by
      unfold Txt.slice
      rw [S_len, idx_hi (by omega)]
    rw [e, slice_mid hi (Nat.le_refl _)]
    refine congrArg S ?_
    rw [List.take_of_length_le (by rw [List.length_drop]; omega), List.take_of_length_le (by rw [List.length_drop]; omega)]
theorem inV_S (w : List Nat) : ∀ ws : List (List Nat), inV (.str (S w)) (ws.map fun z => V.str (S z)) = decide (w ∈ ws)
  | [] => (decide_eq_false (by simp)).symm
  | z :: ws => by
    have ih := inV_S w ws
    have e : inV (.str (S w)) ((z :: ws).map fun z => V.str (S z)) = (eqV (.str (S z)) (.str (S w)) || inV (.str (S w)) (ws.map fun z => V.str (S z))) := rfl
    have e2 : eqV (.str (S z)) (.str (S w)) = decide (z = w) := by
      show (S z == S w) = _
      exact S_beq_eq
    rw [e, ih, e2]
    by_cases h : z = w
    · subst h
      simp
    · have h2 : ¬ w = z := fun q => h q.symm
      simp [h, h2]
theorem flat_S : ∀ ws : List (List Nat), (ws.map fun z => V.str (S z)).all flatV = true
  | [] => rfl
  | z :: ws => by
    rw [List.map_cons, List.all_cons, flat_S ws] <;> rfl
theorem strEq {a b : List Nat} : decide ((V.str (S a)) = V.str (S b)) = decide (a = b) := by
  by_cases h : a = b
  · subst h
    simp
  · rw [decide_eq_false h]
    exact decide_eq_false fun e => h (S_inj (V.str.inj e))
section
variable {K : PySem.W.Frag} {σ : L2.St} {H H' : Hp} {ta tb te tx : TE} {t u : TT} {x y z v : V}
theorem ev_slA {te : TE} {tl th : TO} {a : List Nat} {i j : Nat} (h : Ev te σ H (.str (S a))) (h1 : EvO tl σ H (some (i : Int))) (h2 : EvO th σ H (some (j : Int))) (hl : a.length ≤ 100000) (hi : i ≤ j) (hj : i ≤ a.length) :
    Ev (tSl C8.rSlX te tl th) σ H (.str (S ((a.drop i).take (j - i)))) := fun H1 e Q q =>
  h H1 e _ fun H2 e2 => h1 H2 (e.trans e2) _ fun H3 e3 => h2 H3 ((e.trans e2).trans e3) _ fun H4 e4 => by
    refine ⟨S a, rfl, ?_, ?_⟩
    · rw [S_len]
      exact sz_of hl
    · rw [slice_any hi hj]
      exact q H4 ((e2.trans e3).trans e4)
theorem ev_eqS {a b : List Nat} (ha : Ev ta σ H (.str (S a))) (hb : Ev tb σ H (.str (S b))) : Ev (tOp rEq ta tb) σ H (.bl (decide (a = b))) := ev_is (ev_op ha hb (rv_eq rfl)) (congrArg V.bl strEq)
theorem ev_neS {a b : List Nat} (ha : Ev ta σ H (.str (S a))) (hb : Ev tb σ H (.str (S b))) : Ev (tOp rNe ta tb) σ H (.bl (!decide (a = b))) := ev_is (ev_op ha hb (rv_ne rfl)) (congrArg (fun b => V.bl (!b)) strEq)
theorem ev_inSg {c : Nat} {w : List Nat} (ha : Ev ta σ H (.str (S [c]))) (hb : Ev tb σ H (.str (S w))) :
    Ev (tOp (fun x y H Q => ∃ (c : Nat) (z : Str), x = .str ⟨#[c]⟩ ∧ y = .str z ∧ Q (.bl (decide (c ∈ z.cps.toList))) H) ta tb) σ H (.bl (decide (c ∈ w))) := ev_op ha hb rv_inSign
theorem ev_inTs {w : List Nat} {ws : List (List Nat)} {p : Addr} (ha : Ev ta σ H (.str (S w))) (hb : Ev tb σ H (.ref p)) (hp : SqT K H p (ws.map fun z => V.str (S z))) :
    Ev (tOp (rIn K false) ta tb) σ H (.bl (decide (w ∈ ws))) := ev_is (ev_op ha hb (rv_isT hp rfl (flat_S ws))) (congrArg V.bl (inV_S w ws))
/-- x in [..], a list made on the way, of texts -/
theorem ev_inLs {w : List Nat} {ws : List (List Nat)} {xs : List V} (ha : Ev ta σ H (.str (S w))) (hb : EvL tb σ H xs) (e : xs = ws.map fun z => V.str (S z)) : Ev (tOp (rIn K false) ta tb) σ H (.bl (decide (w ∈ ws))) := by
  subst e
  exact ev_is (ev_opL ha hb fun _ _ h _ => rv_isL (sq_of h) rfl (flat_S ws)) (congrArg V.bl (inV_S w ws))
theorem ev_inUs {w : List Nat} {ws : List (List Nat)} {xs : List V} (ha : Ev ta σ H (.str (S w))) (hb : EvU tb σ H xs) (e : xs = ws.map fun z => V.str (S z)) : Ev (tOp (rIn K false) ta tb) σ H (.bl (decide (w ∈ ws))) := by
  subst e
  exact ev_is (ev_inU ha hb rfl (flat_S ws)) (congrArg V.bl (inV_S w ws))
theorem ev_inLv {w : List Nat} {ws : List (List Nat)} {p : Addr} (ha : Ev ta σ H (.str (S w))) (hb : Ev tb σ H (.ref p)) (hp : H p = some (.lst (ws.map fun z => V.str (S z)))) : Ev (tOp (rIn K false) ta tb) σ H (.bl (decide (w ∈ ws))) :=
  ev_is (ev_op ha hb (rv_isL (sq_of hp) rfl (flat_S ws))) (congrArg V.bl (inV_S w ws))
theorem ev_eqI {i j : Int} (ha : Ev ta σ H (.int i)) (hb : Ev tb σ H (.int j)) : Ev (tOp rEq ta tb) σ H (.bl (decide (i = j))) := ev_is (ev_op ha hb (rv_eq rfl)) (by
  by_cases h : i = j
  · subst h
    simp
  · rw [decide_eq_false h, decide_eq_false fun z => h (V.int.inj z)])
end
end Wt

set_option Elab.async false
set_option linter.all false
set_option maxRecDepth 100000
set_option maxHeartbeats 4000000
namespace Wt
open PySem PySem.Spec PyProof.Rows L2 SX Evl
open C8 (Def Cal cal0 fnScope_by fnScope)
def topS (i : Nat) : Stmt := PySem.Challenge.pw_wholetongue_k49_whole_cells_by_other_num.main.body.getD i (.Pass ⟨0, 0, 0, 0⟩)
end Wt

set_option Elab.async false
set_option linter.all false
set_option maxRecDepth 100000
set_option maxHeartbeats 4000000
namespace Wt
open PySem PySem.Spec PyProof.Rows L2 SX Evl
open C8 (Def Cal cal0 fnScope_by fnScope)
/-! The dice, as laws draw from it. -/
structure ModsL (K : PySem.W.Frag) (mg : Str → Option Value) : Prop where
  m_len : mg "len" = none
  m_int : mg "int" = none
  m_str : mg "str" = none
  m_bool : mg "bool" = none
  m_tuple : mg "tuple" = none
  m_list : mg "list" = none
  m_range : mg "range" = none
  m_isinstance : mg "isinstance" = none
/-- what is locked stays -/
def Fx (H H' : Hp) : Prop := ∀ b o u, H b = some (.frz o u) → H' b = some (.frz o u)
theorem Fx.of {H H' : Hp} (e : Ex H H') : Fx H H' := fun b o u h => e b _ h
theorem Fx.trans {H H1 H2 : Hp} (a : Fx H H1) (b : Fx H1 H2) : Fx H H2 := fun x o u h => b x o u (a x o u h)
theorem Fx.mut {H : Hp} {d : Addr} {o o2 : HO} (h : H d = some o) (m : Mut (some o)) : Fx H (upd H d o2) := fun b ob u q => by
  rw [upd_ne (ne_of q h (by intro z; subst z; exact m))]
  exact q
/-- the script: locked, or of the written part -/
def Scr (K : PySem.W.Frag) (H : Hp) (a : Addr) (ns : List Int) : Prop := ns.length ≤ 63 ∧ ∀ H', Fx H H' → SqL K H' a (ns.map V.int)
theorem Scr.fx {K : PySem.W.Frag} {H H' : Hp} {a : Addr} {ns : List Int} (f : Fx H H') (h : Scr K H a ns) : Scr K H' a ns := ⟨h.1, fun H2 f2 => h.2 H2 (f.trans f2)⟩
theorem Scr.ex {K : PySem.W.Frag} {H H' : Hp} {a : Addr} {ns : List Int} (e : Ex H H') (h : Scr K H a ns) : Scr K H' a ns := h.fx (Fx.of e)
theorem Scr.sq {K : PySem.W.Frag} {H : Hp} {a : Addr} {ns : List Int} (h : Scr K H a ns) : SqL K H a (ns.map V.int) := h.2 H fun _ _ _ q => q
def Exd (d : Addr) (H H' : Hp) : Prop := ∀ b o, b ≠ d → H b = some o → H' b = some o

section
variable {K : PySem.W.Frag}
def spDice0 (K : PySem.W.Frag) : Sp := fun vs H Q _ => ∃ (a : Addr) (ns : List Int), vs = [.ref a] ∧ Scr K H a ns ∧ ∀ p H2 m, H p = none → Ex H H2 → 0 ≤ m → m < 2147483647 → H2 p = some (.lst [.ref a, .int 0, .int m, .int 0]) → Q (.ref p) H2
/-- .. as a dice -/
def spDice (K : PySem.W.Frag) : Sp := fun vs H Q _ => ∃ (a : Addr) (ns : List Int), vs = [.ref a] ∧ Scr K H a ns ∧ ∀ p H2, H p = none → Ex H H2 → H2 p = some (DiceO p a) → Q (.ref p) H2
def spNext0 (K : PySem.W.Frag) : Sp := fun vs H Q _ => ∃ (d a : Addr) (ns : List Int) (many i m r : Int), vs = [.ref d, .int many] ∧ 0 < many ∧ many < 1073741824 ∧ H d = some (.lst [.ref a, .int i, .int m, .int r]) ∧ 0 ≤ i ∧ 0 ≤ m ∧ m < 2147483647 ∧ Scr K H a ns ∧
  ∀ z H2 i' m' r', 0 ≤ z → z < many → 0 ≤ i' → 0 ≤ m' → m' < 2147483647 → H2 d = some (.lst [.ref a, .int i', .int m', .int r']) → Exd d H H2 → Q (.int z) H2
/-- .. over a dice: some number below what is handed in, nothing else is told -/
def spNext (K : PySem.W.Frag) : Sp := fun vs H Q _ => ∃ (d a : Addr) (ns : List Int) (many : Int), vs = [.ref d, .int many] ∧ 0 < many ∧ many < 1073741824 ∧ H d = some (DiceO d a) ∧ Scr K H a ns ∧
  ∀ z H2, 0 ≤ z → z < many → Ex H H2 → Q (.int z) H2
/-- the dice at d over the script at a -/
structure Dc (K : PySem.W.Frag) (H : Hp) (d a : Addr) (ns : List Int) : Prop where
  o : H d = some (DiceO d a)
  s : Scr K H a ns
theorem Dc.ex {H H' : Hp} {d a : Addr} {ns : List Int} (h : Dc K H d a ns) (e : Ex H H') : Dc K H' d a ns := ⟨e d _ h.o, h.s.ex e⟩
theorem sn_next {H : Hp} {d a : Addr} {ns : List Int} {many : Int} (h : Dc K H d a ns) (m0 : 0 < many) (m1 : many < 1073741824) : SpN (spNext K) [.ref d, .int many] H (fun v => ∃ z : Int, v = .int z ∧ 0 ≤ z ∧ z < many) :=
  fun H1 e Q q E => ⟨d, a, ns, many, rfl, m0, m1, e d _ h.o, h.s.ex e, fun z H2 z0 z1 e2 => q _ H2 ⟨z, rfl, z0, z1⟩ e2⟩
theorem en_next {H : Hp} {σ : L2.St} {E : XK} {ta tb : TE} {d a : Addr} {ns : List Int} {many : Int} (h : Dc K H d a ns) (ha : Ev ta σ H (.ref d)) (hb : Ev tb σ H (.int many)) (m0 : 0 < many := by decide) (m1 : many < 1073741824 := by decide) :
    EvN (tCall (spNext K) [] E (tCons ta (tCons tb tNil))) σ H (fun v => ∃ z : Int, v = .int z ∧ 0 ≤ z ∧ z < many) := en_call (ea_cons ha (ea_cons hb ea_nil)) (sn_next h m0 m1)
end
end Wt

set_option Elab.async false
set_option linter.all false
set_option maxRecDepth 100000
set_option maxHeartbeats 4000000
namespace Wt
open PySem PySem.Spec PyProof.Rows L2 SX Evl
open C8 (Def Cal cal0 fnScope_by fnScope)
/-! Likeness of data: what both laws' and programs' texts ask. -/
def tyN : PyData → String
  | .none => "NoneType"
  | .bool _ => "bool"
  | .int _ => "int"
  | .str _ => "str"
  | .list _ => "list"
  | .tuple _ => "tuple"
  | .dict _ => "dict"
theorem dp_ty {K : PySem.W.Frag} {H : Hp} {v : V} {d : PyData} (h : Dp K H v d) : TyX K H v (.type (tyN d)) := by
  cases h with
  | non => exact .base .non
  | bl b => exact .base (.bl b)
  | int i => exact .base (.int i)
  | str x => exact .base (.str x)
  | lst h1 _ =>
    rcases h1 with (h1 | ⟨o, h1⟩) | ⟨o, its, n, h1, h2, _⟩
    · exact .base (.lst h1)
    · exact .base (.frz h1)
    · exact .kList h1 h2
  | tup h1 _ =>
    rcases h1 with (h1 | ⟨o, h1⟩) | ⟨o, its, n, h1, h2, _⟩
    · exact .base (.tup h1)
    · exact .fTuple h1
    · exact .kTuple h1 h2
mutual
def wideD : PyData → Bool
  | .list xs => decide (xs.length ≤ 40000) && wideAll xs
  | .tuple xs => decide (xs.length ≤ 40000) && wideAll xs
  | .dict _ => false
  | .none => true
  | .bool _ => true
  | .int _ => true
  | .str _ => true
def wideAll : List PyData → Bool
  | [] => true
  | d :: ds => wideD d && wideAll ds
end
theorem wide_get : ∀ {ds : List PyData} {i : Nat} {d : PyData}, wideAll ds = true → ds[i]? = some d → wideD d = true
  | [], _, _, _, h => by simp at h
  | x :: ds, 0, d, h, e => by
    have e2 : x = d := Option.some.inj e
    subst e2
    unfold wideAll at h
    exact (Bool.and_eq_true_iff.mp h).1
  | x :: ds, i + 1, d, h, e => by
    unfold wideAll at h
    exact wide_get (Bool.and_eq_true_iff.mp h).2 e
theorem depth_get : ∀ {ds : List PyData} {i : Nat} {d : PyData}, ds[i]? = some d → d.depth ≤ PyData.depthAll ds
  | [], _, _, h => by simp at h
  | x :: ds, 0, d, e => by
    have e2 : x = d := Option.some.inj e
    subst e2
    unfold PyData.depthAll
    exact Nat.le_max_left _ _
  | x :: ds, i + 1, d, e => by
    unfold PyData.depthAll
    exact Nat.le_trans (depth_get (ds := ds) (i := i) e) (Nat.le_max_right _ _)
section
variable {K : PySem.W.Frag} {σ : L2.St} {H H' : Hp} {ta tb te tx : TE} {t u : TT} {x y z v : V}
theorem ev_isi {d : PyData} {n : String} {b : Bool} (ha : Ev ta σ H x) (hb : Ev tb σ H (.ty n)) (hx : Dp K H x d) (hk : kitB (tyN d) n = some b) : Ev (tCB (rIsi K) (tCons ta (tCons tb tNil))) σ H (.bl b) :=
  ev_cb (ea_cons ha (ea_cons hb ea_nil)) fun H1 e Q q => ⟨x, .ty n, .type (tyN d), .type n, b, rfl, .ty n, dp_ty (Dp.ex e d x hx), kit_ty hk, q H1 (Ex.refl H1)⟩
theorem ev_lenD {p : Addr} {xs : List V} (ha : Ev ta σ H (.ref p)) (h : SqL K H p xs ∨ SqT K H p xs) : Ev (tCB (rLenS K) (tCons ta tNil)) σ H (.int (xs.length : Int)) := fun H1 e Q q =>
  ha H1 e _ fun H2 e2 => ⟨p, xs, rfl, h.imp (ex_l (e.trans e2)) (ex_t (e.trans e2)), q H2 e2⟩
theorem ev_ixD {p : Addr} {xs : List V} {i : Nat} (ha : Ev ta σ H (.ref p)) (hb : Ev tb σ H (.int (i : Int))) (h : SqL K H p xs ∨ SqT K H p xs) (hv : xs[i]? = some v) : Ev (tOp (rIx K) ta tb) σ H v :=
  ev_op ha hb fun H1 e Q q => by
    rcases h with h | h
    · exact .inl ⟨p, xs, (i : Int), v, rfl, rfl, ex_l e h, atI_nat hv, q H1 (Ex.refl H1)⟩
    · exact .inr (.inl ⟨p, xs, (i : Int), v, rfl, rfl, ex_t e h, atI_nat hv, q H1 (Ex.refl H1)⟩)
theorem given_none (n : Nat) (v : Nat → V) : given n (fun _ => false) v = [] := by
  unfold given
  have e : (List.range n).filter (fun _ => false) = [] := by simp
  rw [e] <;> rfl
/-- [..] == [] where nothing was given -/
theorem ev_eqNil (ha : EvL ta σ H []) : Ev (tOp (rEqD K) ta (tLst tNil)) σ H (.bl true) := ev_opLL ha (el_lst ea_nil (Nat.zero_le _)) fun p q H1 h1 h2 _ H2 e2 Q q2 =>
  ⟨.list [], .list [], .lst (sq_of (e2 p _ h1)) .nil, .lst (sq_of (e2 q _ h2)) .nil, by decide +kernel, by decide +kernel, by
    have e : PyData.eqv (.list []) (.list []) = true := by decide +kernel
    rw [e]
    exact q2 H2 (Ex.refl H2)⟩
end
section
variable {K : PySem.W.Frag}
/-- two of the same data, a list or a tuple -/
theorem like_seq {H : Hp} {x y : V} {ds : List PyData} {d : PyData} (hd : d = .list ds ∨ d = .tuple ds) (hx : Dp K H x d) (hy : Dp K H y d) :
    ∃ p xs q ys, x = .ref p ∧ y = .ref q ∧ (SqL K H p xs ∨ SqT K H p xs) ∧ (SqL K H q ys ∨ SqT K H q ys) ∧ DpAll K H xs ds ∧ DpAll K H ys ds := by
  rcases hd with rfl | rfl
  · cases hx with
    | lst h1 h2 =>
      cases hy with
      | lst g1 g2 => exact ⟨_, _, _, _, rfl, rfl, .inl h1, .inl g1, h2, g2⟩
  · cases hx with
    | tup h1 h2 =>
      cases hy with
      | tup g1 g2 => exact ⟨_, _, _, _, rfl, rfl, .inr h1, .inr g1, h2, g2⟩
theorem like_flat {H : Hp} {x y : V} {d : PyData} (h1 : ∀ ds, d ≠ .list ds) (h2 : ∀ ds, d ≠ .tuple ds) (hx : Dp K H x d) (hy : Dp K H y d) : x = y ∧ scal x y = true := by
  cases hx with
  | non => cases hy; exact ⟨rfl, rfl⟩
  | bl b => cases hy; exact ⟨rfl, rfl⟩
  | int i => cases hy; exact ⟨rfl, rfl⟩
  | str z => cases hy; exact ⟨rfl, rfl⟩
  | lst _ _ => exact absurd rfl (h1 _)
  | tup _ _ => exact absurd rfl (h2 _)
end
end Wt

set_option Elab.async false
set_option linter.all false
set_option maxRecDepth 100000
set_option maxHeartbeats 4000000
/-! enumerate(tuple). -/
namespace Wt
open PySem PySem.Spec PyProof.Rows L2 SX Evl
set_option maxHeartbeats 4000000 in
theorem meets_enumerate_newT {v : Value} {o : Obj} {H : Heap → Prop} (B : Begins v o H) :
    Meets (Builtin.«enumerate.__new__» ⟨[.type "enumerate", v], []⟩) (fun _ R s => H s.heap ∧
      R (.ok (.ret (.ref (s.heap.push o).objs.size))) { s with heap := (s.heap.push o).push { cls := .type "enumerate", data := .fields #[.none, .bool false, .ref s.heap.objs.size, rawInt 0, .none, .none] } }) :=
  .of_wp fun prog w A R s h => by
    obtain ⟨hp, g, d, tk, os⟩ := s; obtain ⟨h1, h⟩ := h
    have hsub := sub_enumerate
    have q1 : ∀ {A' : Around} {E : Value → Shared → Prop} {Q : Value → Shared → Prop}, Q (.ref hp.objs.size) ⟨hp.push o, g, d, tk, os⟩ → wpAny (model prog w) A' (pyIter v) Q E ⟨hp, g, d, tk, os⟩ :=
      fun q => B.iter prog w _ _ ⟨hp, g, d, tk, os⟩ _ h1 q
    wp_walk using q1
    refine wpAny_stack_any fun st => wpAny_pure ?_
    split
    · rename_i c _ _ _ _ _
      cases (c == Value.type "enumerate")
      · wp_walk using q1
        exact ⟨_, rfl, h⟩
      · wp_walk using q1
        exact ⟨_, rfl, h⟩
    · wp_walk using q1
      exact ⟨_, rfl, h⟩
section
variable {prog : Program} {w : World} {A : Around} {E : Value → Shared → Prop} {s : Shared}
theorem enum_begins1 {v : Value} {o : Obj} {H : Heap → Prop} {Q : Value → Shared → Prop} (B : Begins v o H) (h1 : H s.heap)
    (h : ∀ h', IsEnum h' (s.heap.objs.size + 1) s.heap.objs.size 0 .none → h'.get? s.heap.objs.size = some o → h'.objs.size = s.heap.objs.size + 2 →
      (∀ b o, s.heap.get? b = some o → h'.get? b = some o) → Q (.ref (s.heap.objs.size + 1)) { s with heap := h' }) :
    wpAny (model prog w) A (call (.type "enumerate") [v]) Q E s := by
  refine callType_new F.called_enumerate (by decide) (F.typeCall_enumerate_1 _) (F.newCall_enumerate_1 _) (fun obj => F.args_object_init_2 obj _) F.entry_enumerate_new
    (meets_enumerate_newT B) ⟨h1, ?_⟩
  have hz : (s.heap.push o).objs.size = s.heap.objs.size + 1 := Heap.size_push ..
  show _ ∧ _
  rw [hz]
  have he : IsEnum ((s.heap.push o).push { cls := .type "enumerate", data := .fields #[.none, .bool false, .ref s.heap.objs.size, rawInt 0, .none, .none] }) (s.heap.objs.size + 1) s.heap.objs.size 0 .none := by
    have := Heap.get?_push_size (s.heap.push o) (o := { cls := .type "enumerate", data := .fields #[.none, .bool false, .ref s.heap.objs.size, rawInt 0, .none, .none] }) rfl
    rw [hz] at this; exact this
  refine ⟨⟨_, he, rfl⟩, h _ he (Heap.get?_push_of_some _ (Heap.get?_push_size _ B.free)) (by rw [Heap.size_push, hz]) fun b o x => Heap.get?_push_of_some _ (Heap.get?_push_of_some _ x)⟩
end
/-- the tuple at a, each item in a new pair behind its number -/
def Itet (K : PySem.W.Frag) (a : Addr) : It :=
  ⟨fun i H => ∃ (xs : List V) (x : V), SqT K H a xs ∧ xs[i]? = some x, fun i H v H' => ∃ T x, v = .ref T ∧ H T = none ∧ H' = upd H T (.tup [.int (i : Nat), x]) ∧ ∀ xs, SqT K H a xs → xs[i]? = some x, fun i H => ∃ xs : List V, SqT K H a xs ∧ xs.length ≤ i⟩
theorem turn_enumT {P : Program} {w : World} {K : PySem.W.Frag} {elts : List Expr} {kk : Nat} {tpos : Pos} (a e it : Addr) (hai : a ≠ it) (hae : a ≠ e) :
    Turn P w K (.Tuple elts kk tpos) (Itet K a) [e, it] e (fun i h => (∃ old, IsEnum h e it ((i : Nat) : Int) old) ∧ h.IsTupleIter it a i ∧ e ≠ it) where
  mem := List.mem_cons_self ..
  obj := by
    rintro i h ⟨⟨old, he⟩, ⟨o, ho, hc, hd⟩, _⟩ b hb
    rcases List.mem_cons.mp hb with rfl | hb
    · exact ⟨_, he, fun v q => nomatch q⟩
    · rw [List.mem_singleton.mp hb]
      exact ⟨o, ho, fun v q => by rw [hd] at q; cases q⟩
  keep := by
    rintro i h h2 ⟨⟨old, he⟩, hi, hne⟩ kp
    exact ⟨⟨old, kp e (List.mem_cons_self ..) _ he⟩, hi.at fun o q => kp it (List.mem_cons_of_mem _ (List.mem_singleton.mpr rfl)) o q, hne⟩
  item := by
    intro X hP hw hK hc i pins s σ H E I hf st hg
    subst hP hw hK
    obtain ⟨⟨old, he⟩, hit, hne⟩ := st
    obtain ⟨xs, x, hq, hx⟩ := hg
    obtain ⟨its, rv, p, hz⟩ := I.tuple hq
    obtain ⟨u, hu, ru⟩ := rv.get hx
    have hel : e < s.heap.objs.size := Heap.lt_size he
    have hil : it < s.heap.objs.size := by
      obtain ⟨_, q, _⟩ := hit
      exact Heap.lt_size q
    have hlt : i < its.toArray.size := by
      have := (List.getElem?_eq_some_iff.mp hu).1
      rw [List.size_toArray]
      exact this
    refine wpAny_pyNext_enum_itemC (Draws.tuple (prog := X.prog) (w := X.w) (A := X.A.in1) (show X.A.in1.handled = none from I.ok.hd hc) it a hai its.toArray) he ⟨hit, show s.heap.IsTuple a its.toArray from p⟩ hlt hne (fun m => ?_) fun y h2 tk hy ho st2 hT hsz hk => ?_
    · rcases List.mem_cons.mp m with z | z
      · exact hne z
      · exact hae (List.mem_singleton.mp z).symm
    have hyu : y = u := by
      have z : its[i]? = some y := by simpa using hy
      rw [hu] at z
      exact (Option.some.inj z).symm
    subst hyu
    refine ⟨_, rfl, wpAny_letOwnedTupleGo_enum (s := { s with heap := h2, toks := tk + 1 }) ho fun h3 he3 sb => ?_⟩
    have hT2 := (sb.2 s.heap.objs.size (Nat.ne_of_gt hel)).trans hT
    have new : ObjOk X.prog X.w (upd H s.heap.objs.size (.tup [.int (i : Nat), x])) h3 s.heap.objs.size (.tup [.int (i : Nat), x]) :=
      ⟨by show 2 ≤ sizeLine; decide, [.int (i : Nat) tk, y], .cons ⟨_, rfl⟩ (.cons ru .nil), ⟨_, hT2, rfl, _, rfl⟩⟩
    have I1 := I.turnedNew (h' := h3) (t' := tk + 1) (ch := [e, it]) (fun b ob hb q => by
      have n1 : b ≠ e := fun z => hb (z ▸ List.mem_cons_self ..)
      have n2 : b ≠ it := fun z => hb (z ▸ List.mem_cons_of_mem _ (List.mem_singleton.mpr rfl))
      exact (sb.2 b n1).trans (hk b ob n1 n2 q)) hf (Nat.le_refl _) new
    refine ⟨.ref s.heap.objs.size, _, I1, rfl, ⟨_, x, rfl, I.hok.fresh (Nat.le_refl _), rfl, fun ys hy2 => ?_⟩, ⟨⟨y, ?_⟩, ?_, hne⟩, fun b hb => ?_⟩
    · rw [I.tuple_inj hy2 hq]
      exact hx
    · have e1 : ((i + 1 : Nat) : Int) = (i : Int) + 1 := by omega
      rw [e1]
      exact he3
    · exact st2.1.at fun o q => (sb.2 it (Ne.symm hne)).trans q
    · have hb2 : b < s.heap.objs.size := by
        rcases List.mem_cons.mp hb with rfl | z
        · exact hel
        · rw [List.mem_singleton.mp z]
          exact hil
      rw [upd_ne (Nat.ne_of_lt hb2)]
      exact (hf b hb).1
  done := by
    intro X hP hw hK hc i pins s σ H E I hf st hg
    subst hP hw hK
    obtain ⟨⟨old, he⟩, hit, hne⟩ := st
    obtain ⟨xs, hq, hx⟩ := hg
    obtain ⟨its, rv, p, hz⟩ := I.tuple hq
    obtain ⟨f0, f1, f2, f3, f4, f5⟩ := hf it (List.mem_cons_of_mem _ (List.mem_singleton.mpr rfl))
    have hl := rv.length
    have hT : s.TypeIs (.ref e) "enumerate" := ⟨_, he, rfl⟩
    have hnone : its.toArray[i]? = none := by
      simp
      omega
    unfold pyNext
    refine wpAny_bind (wpAny_attempt (wpAny_callSpecial?_slot (name := Str.ofString "__next__") hT PySem.F.slot_enumerate_next
      (wpAny_call_entry PySem.F.slot_enumerate_next hT PySem.F.entry_enumerate_next ?_ (PySem.F.args_enumerate_next_1 _))))
    show wpAny _ _ (field (.ref e) 2 >>= _) _ _ _
    refine wpAny_bind (wpAny_field he rfl (x := .ref it) rfl (wpAny_bind (wpAny_nextOf_tuple_end (I.ok.hd hc) hit (show s.heap.IsTuple a its.toArray from p) hnone fun h2 x2 hE2 hx2 => ?_)))
    obtain ⟨o2, ho2, hc2⟩ := hx2
    exact wpAny_bind (wpAny_isInstance (T := "StopIteration") (b := true) ⟨o2, ho2, hc2⟩ isSubtype_stop
      (wpAny_pure ⟨rfl, I.turned (t' := s.toks) (fun b o hb q => hE2 b o hb q) f0 f1 f3 f4 f5⟩))
  self := by
    rintro A i s Q E ⟨⟨_, he⟩, _⟩ h
    exact wpAny_pyIter_enum he h
def iEnumT (K : PySem.W.Frag) (ta : TA) : TI := fun σ H R => ta σ H fun vs H1 => ∃ a xs, vs = [.ref a] ∧ SqT K H1 a xs ∧ R (Itet K a) H1
theorem pi_enumT {X : Cx} {e : Expr} {ta : TA} {p pos tpos : Pos} {elts : List Expr} {kk : Nat} (hg : Gl X "enumerate") (hm : X.mg "enumerate" = none) (ha : PA X [e] ta) (hs : starEach [e] X.env = [(false, eval e X.env)] := by rfl) :
    PI X (.Tuple elts kk tpos) (.Call (.Name "enumerate" p) [e] [] pos) (iEnumT X.K ta) := by
  refine ⟨fun pins s σ H R I h => ?_⟩
  refine Call_ (ld_blt I hg hm boot_enumerate (PyProof.Rows.callWith_type1 (thn (ha.run pos pins s σ H _ I h) fun us s1 ⟨vs, H1, I1, r1, q1⟩ => ?_) hs rfl))
  obtain ⟨a, xs, ex, hq, q⟩ := q1
  subst ex
  cases r1 with
  | cons r rr =>
    cases rr
    cases r
    obtain ⟨its, rv, p', hz⟩ := I1.tuple hq
    have p2 : s1.heap.IsTuple a its.toArray := p'
    refine enum_begins1 (begins_tuple a its.toArray) p2 fun h' he hit hsz hk => wpAny_pyIter_enum he ?_
    have I2 : Inv X pins σ H1 { s1 with heap := h' } := I1.kept (t' := s1.toks) hk
    have hal : a < s1.heap.objs.size := by
      obtain ⟨o, ho, _⟩ := p2
      exact Heap.lt_size ho
    refine ⟨s1.heap.objs.size + 1, [s1.heap.objs.size + 1, s1.heap.objs.size], _, _, H1, rfl, I2, turn_enumT a (s1.heap.objs.size + 1) s1.heap.objs.size (Nat.ne_of_lt hal) (Nat.ne_of_lt (Nat.lt_succ_of_lt hal)), ⟨⟨.none, he⟩, ⟨_, hit, rfl, rfl⟩, Nat.succ_ne_self _⟩, fun b hb => ?_, q⟩
    have e' : b = s1.heap.objs.size + 1 ∨ b = s1.heap.objs.size := by simpa using hb
    have hle : s1.heap.objs.size ≤ b := by
      rcases e' with z | z
      · rw [z]; exact Nat.le_add_right _ _
      · rw [z]; exact Nat.le_refl _
    exact I1.fpOk hle (I1.hok.fresh hle)
theorem walk_enumT {K : PySem.W.Frag} {a : Addr} {xs : List V} : Walk (Itet K a) xs.length (fun H => SqT K H a xs) (YPair (fun i => some (.int (i : Nat))) (fun i => xs[i]?)) := by
  refine ⟨fun i _ hi q => ⟨xs, xs[i], q, by simp [hi]⟩, fun _ q => ⟨xs, q, Nat.le_refl _⟩, ?_⟩
  rintro i H v H' hi q ⟨T, x, rfl, hT, rfl, h⟩
  exact ⟨T, _, x, rfl, hT, rfl, rfl, h xs q⟩
end Wt

set_option Elab.async false
set_option linter.all false
set_option maxRecDepth 100000
set_option maxHeartbeats 4000000
/-! Readings: a dict made and walked, enumerate(tuple), comprehensions of data. -/
namespace Wt
open PySem PySem.Spec PyProof.Rows L2 SX Evl
/-- a thing that is made while an expression is worked out, locked from then on -/
def tFrz (t : TE) : TE := fun σ H Q => t σ H fun x H1 => ∃ d u, x = .ref d ∧ H1 d = some u ∧ Mut (some u) ∧ ∀ od, Q x (upd H1 d (.frz od u))
theorem pe_frz {X : Cx} {e : Expr} {t : TE} (h : PE X e t) : PE X e (tFrz t) := by
  refine ⟨fun pins s σ H Q I hw => ?_⟩
  refine thn (h.run pins s σ _ _ I hw) fun v s1 ⟨x, H1, I1, r, q⟩ => ?_
  obtain ⟨d, u, rfl, hd, mu, q⟩ := q
  obtain ⟨od, I2⟩ := I1.lock hd mu
  exact ⟨_, _, I2, r, q od⟩
/-- a new list of data -/
def RetDL (ds : List PyData) (H : Hp) (Q : VK) : Prop := ∀ p H2 vs, H p = none → Ex H H2 → H2 p = some (.lst vs) → TdAll H2 vs ds → Q (.ref p) H2
section
variable {K : PySem.W.Frag} {σ : L2.St} {H H' : Hp} {ta tb te tl t0 t1 t2 tv : TE} {tr : TA} {D : Ends} {tz tu : TS} {E : XK} {R : PyData → Prop}
/-- t[j], t a tuple of data -/
theorem ev_ixTd {v : V} {ds : List PyData} {j : Nat} {d : PyData} (ha : Ev ta σ H v) (hv : Td H v (.tuple ds)) (hb : Ev tb σ H (.int (j : Int))) (hj : ds[j]? = some d) : ∃ x, Td H x d ∧ Ev (tOp (rIxT K) ta tb) σ H x := by
  cases hv with
  | @tup a xs _ h1 h2 =>
    obtain ⟨x, hx, hT⟩ := td_get h2 hj
    exact ⟨x, hT, ev_op ha hb (rv_ixT (st_of h1) (atI_nat hx))⟩
theorem ed_ixTd {v : V} {ds : List PyData} {j : Nat} {d : PyData} (ha : Ev ta σ H v) (hv : Td H v (.tuple ds)) (hb : Ev tb σ H (.int (j : Int))) (hj : ds[j]? = some d) : EvD (tOp (rIxT K) ta tb) σ H d := by
  obtain ⟨x, hT, h⟩ := ev_ixTd (K := K) ha hv hb hj
  exact ed_of h hT
theorem ev_ixTs {v : V} {ds : List PyData} {j : Nat} {x : Str} (ha : Ev ta σ H v) (hv : Td H v (.tuple ds)) (hb : Ev tb σ H (.int (j : Int))) (hj : ds[j]? = some (.str x)) : Ev (tOp (rIxT K) ta tb) σ H (.str x) := by
  obtain ⟨x, hT, h⟩ := ev_ixTd (K := K) ha hv hb hj
  cases hT
  exact h
theorem ev_ixTi {v : V} {ds : List PyData} {j : Nat} {x : Int} (ha : Ev ta σ H v) (hv : Td H v (.tuple ds)) (hb : Ev tb σ H (.int (j : Int))) (hj : ds[j]? = some (.int x)) : Ev (tOp (rIxT K) ta tb) σ H (.int x) := by
  obtain ⟨x, hT, h⟩ := ev_ixTd (K := K) ha hv hb hj
  cases hT
  exact h
/-- for i, x in enumerate(t) -/
theorem q_forEnumT {a : Addr} {xs : List V} {i j : Nat} (h : Ev tl σ H (.ref a)) (hx : SqT K H a xs) (Pv : Nat → L2.St → Hp → Prop) (h0 : ∀ H1, Ex H H1 → Pv 0 σ H1) (hl : ∀ k σ' H', k ≤ xs.length → Pv k σ' H' → SqT K H' a xs)
    (hs : ∀ k x σ' H' H1, xs[k]? = some x → Pv k σ' H' → Ex H' H1 → tu { D with nx := Pv (k + 1), ct := Pv (k + 1), bk := tz D } ((σ'.set i (some (.int (k : Int)))).set j (some x)) H1) (hd : ∀ σ' H', Pv xs.length σ' H' → tz D σ' H') :
    tSeq (tFor (iEnumT K (tCons tl tNil)) (gTup K 2 (gCons (gName i) (gCons (gName j) gNil))) tu) tz D σ H := h H (Ex.refl H) _ fun H1 e1 => ⟨a, xs, rfl, ex_t e1 hx, by
  refine for_it (D := { D with nx := tz D }) (walk_enumT (K := K) (a := a) (xs := xs)) Pv (h0 H1 e1) (fun k σ' H' hk p => hl k σ' H' hk p) ?_ hd
  rintro k v σ' H2 H3 hk p ⟨T, x, y, rfl, hT, rfl, hx1, hy⟩
  cases hx1
  exact ⟨T, [.int (k : Int), y], rfl, st_of upd_same, rfl, .int (k : Int), [y], rfl, y, [], rfl, rfl, hs k y σ' H2 _ hy p (Ex.new hT)⟩⟩
/-- [e for x in t] over a tuple of data -/
theorem edl_lcT {a : Addr} {xs : List V} {ds : List PyData} {j : Nat} {vs : List Nat} {f : PyData → PyData} (h : Ev tl σ H (.ref a)) (hx : H a = some (.tup xs)) (hT : TdAll H xs ds) (hz : ds.length ≤ 40000) (hw : ∀ x, wipe ((wipe σ vs).set j (some x)) vs = wipe σ vs)
    (he : ∀ (x : V) (d : PyData) H1, Ex H H1 → d ∈ ds → Td H1 x d → EvD te ((wipe σ vs).set j (some x)) H1 (f d)) : EvDL (tLc (iTup K tl) (gName j) tYes te vs) σ H (ds.map f) := fun H0 e Q q => h H0 e _ fun H1 e1 => ⟨a, rfl, ⟨xs, st_of ((e.trans e1) _ _ hx)⟩, fun Dl hD => by
  have hx1 := (e.trans e1) _ _ hx
  have hT1 := TdAll.tx (Tx.of (e.trans e1)) _ _ hT
  refine lc_it (walk_tup (K := K) (a := a) (xs := xs)) (fun i H' => ∃ acc, Ex H1 H' ∧ H' Dl = some (.lst acc) ∧ TdAll H' acc ((ds.take i).map f)) ⟨[], Ex.new hD, upd_same, .nil⟩ (fun _ H' _ ⟨_, e2, _⟩ => st_of (e2 _ _ hx1)) ?_ ?_
  · rintro i x H2 H3 hi ⟨acc, e2, hDl, hA⟩ ⟨rfl, hxi⟩
    refine ⟨hw x, ?_⟩
    have hlen := hT1.len
    have hi2 : i < ds.length := by omega
    have hd : ds[i]? = some ds[i] := List.getElem?_eq_getElem hi2
    obtain ⟨v, hv, hTv⟩ := td_get hT1 hd
    rw [hxi] at hv
    cases hv
    show te ((wipe σ vs).set j (some x)) H3 _
    refine he x ds[i] H3 ((e.trans e1).trans e2) (List.getElem_mem hi2) (Td.tx (Tx.of e2) _ _ hTv) H3 (Ex.refl _) _ fun y H4 e4 hy => ?_
    have hal := hA.len
    rw [List.length_map, List.length_take] at hal
    refine ⟨acc, e4 _ _ hDl, sz_lt (by omega), acc ++ [y], Ex.mut (e2.trans e4) hD, upd_same, ?_⟩
    have tx : Tx H4 (upd H4 Dl (.lst (acc ++ [y]))) := Tx.lst (e4 _ _ hDl)
    rw [List.take_succ, hd, List.map_append]
    exact (TdAll.tx ((Tx.of e4).trans tx) _ _ hA).snoc (Td.tx tx _ _ hy)
  · rintro H2 ⟨acc, e2, hDl, hA⟩
    rw [hT1.len, List.take_length] at hA
    exact q Dl H2 acc (fresh_back e1 hD) (e1.trans e2) hDl hA⟩
/-- [e for x in l] over a list of data -/
theorem edl_lcL {a : Addr} {xs : List V} {ds : List PyData} {j : Nat} {vs : List Nat} {f : PyData → PyData} (h : Ev tl σ H (.ref a)) (hx : H a = some (.lst xs)) (hT : TdAll H xs ds) (hz : ds.length ≤ 40000) (hw : ∀ x, wipe ((wipe σ vs).set j (some x)) vs = wipe σ vs)
    (he : ∀ (x : V) (d : PyData) H1, Ex H H1 → d ∈ ds → Td H1 x d → EvD te ((wipe σ vs).set j (some x)) H1 (f d)) : EvDL (tLc (iList K tl) (gName j) tYes te vs) σ H (ds.map f) := fun H0 e Q q => h H0 e _ fun H1 e1 => ⟨a, rfl, ⟨xs, sq_of ((e.trans e1) _ _ hx)⟩, fun Dl hD => by
  have hx1 := (e.trans e1) _ _ hx
  have hT1 := TdAll.tx (Tx.of (e.trans e1)) _ _ hT
  refine lc_it (walk_list (K := K) (a := a) (xs := xs)) (fun i H' => ∃ acc, Ex H1 H' ∧ H' Dl = some (.lst acc) ∧ TdAll H' acc ((ds.take i).map f)) ⟨[], Ex.new hD, upd_same, .nil⟩ (fun _ H' _ ⟨_, e2, _⟩ => sq_of (e2 _ _ hx1)) ?_ ?_
  · rintro i x H2 H3 hi ⟨acc, e2, hDl, hA⟩ ⟨rfl, hxi⟩
    refine ⟨hw x, ?_⟩
    have hlen := hT1.len
    have hi2 : i < ds.length := by omega
    have hd : ds[i]? = some ds[i] := List.getElem?_eq_getElem hi2
    obtain ⟨v, hv, hTv⟩ := td_get hT1 hd
    rw [hxi] at hv
    cases hv
    show te ((wipe σ vs).set j (some x)) H3 _
    refine he x ds[i] H3 ((e.trans e1).trans e2) (List.getElem_mem hi2) (Td.tx (Tx.of e2) _ _ hTv) H3 (Ex.refl _) _ fun y H4 e4 hy => ?_
    have hal := hA.len
    rw [List.length_map, List.length_take] at hal
    refine ⟨acc, e4 _ _ hDl, sz_lt (by omega), acc ++ [y], Ex.mut (e2.trans e4) hD, upd_same, ?_⟩
    have tx : Tx H4 (upd H4 Dl (.lst (acc ++ [y]))) := Tx.lst (e4 _ _ hDl)
    rw [List.take_succ, hd, List.map_append]
    exact (TdAll.tx ((Tx.of e4).trans tx) _ _ hA).snoc (Td.tx tx _ _ hy)
  · rintro H2 ⟨acc, e2, hDl, hA⟩
    rw [hT1.len, List.take_length] at hA
    exact q Dl H2 acc (fresh_back e1 hD) (e1.trans e2) hDl hA⟩
/-- .. over a list that is new -/
theorem edl_lcDL {ds : List PyData} {j : Nat} {vs : List Nat} {f : PyData → PyData} (h : EvDL tl σ H ds) (hz : ds.length ≤ 40000) (hw : ∀ x, wipe ((wipe σ vs).set j (some x)) vs = wipe σ vs)
    (he : ∀ (x : V) (d : PyData) H1, Ex H H1 → d ∈ ds → Td H1 x d → EvD te ((wipe σ vs).set j (some x)) H1 (f d)) : EvDL (tLc (iList K tl) (gName j) tYes te vs) σ H (ds.map f) := fun H0 e Q q => h H0 e _ fun a H1 xs ha e1 hx1 hT1 => ⟨a, rfl, ⟨xs, sq_of hx1⟩, fun Dl hD => by
  refine lc_it (walk_list (K := K) (a := a) (xs := xs)) (fun i H' => ∃ acc, Ex H1 H' ∧ H' Dl = some (.lst acc) ∧ TdAll H' acc ((ds.take i).map f)) ⟨[], Ex.new hD, upd_same, .nil⟩ (fun _ H' _ ⟨_, e2, _⟩ => sq_of (e2 _ _ hx1)) ?_ ?_
  · rintro i x H2 H3 hi ⟨acc, e2, hDl, hA⟩ ⟨rfl, hxi⟩
    refine ⟨hw x, ?_⟩
    have hlen := hT1.len
    have hi2 : i < ds.length := by omega
    have hd : ds[i]? = some ds[i] := List.getElem?_eq_getElem hi2
    obtain ⟨v, hv, hTv⟩ := td_get hT1 hd
    rw [hxi] at hv
    cases hv
    show te ((wipe σ vs).set j (some x)) H3 _
    refine he x ds[i] H3 ((e.trans e1).trans e2) (List.getElem_mem hi2) (Td.tx (Tx.of e2) _ _ hTv) H3 (Ex.refl _) _ fun y H4 e4 hy => ?_
    have hal := hA.len
    rw [List.length_map, List.length_take] at hal
    refine ⟨acc, e4 _ _ hDl, sz_lt (by omega), acc ++ [y], Ex.mut (e2.trans e4) hD, upd_same, ?_⟩
    have tx : Tx H4 (upd H4 Dl (.lst (acc ++ [y]))) := Tx.lst (e4 _ _ hDl)
    rw [List.take_succ, hd, List.map_append]
    exact (TdAll.tx ((Tx.of e4).trans tx) _ _ hA).snoc (Td.tx tx _ _ hy)
  · rintro H2 ⟨acc, e2, hDl, hA⟩
    rw [hT1.len, List.take_length] at hA
    exact q Dl H2 acc (fresh_back e1 hD) (e1.trans e2) hDl hA⟩
theorem s_retDL {ds : List PyData} {Q : VK} (h : EvDL te σ H ds) (hq : D.rt = Q) (q : RetDL ds H Q) : tRet te D σ H := h H (Ex.refl H) _ fun p H1 vs hp e h1 hT => by
  rw [hq]
  exact q p H1 vs hp e h1 hT
theorem RetDL.go {ds : List PyData} {Q : VK} (k : RetDL ds H Q) (e : Ex H H') : RetDL ds H' Q := fun p H2 vs hp e2 h hT => k p H2 vs (fresh_back e hp) (e.trans e2) h hT
theorem eqW {a b : Str} (ha : Ev ta σ H (.str a)) (hb : Ev tb σ H (.str b)) : Ev (tOp rEq ta tb) σ H (.bl (decide (V.str a = V.str b))) := ev_op ha hb (rv_eq rfl)
/-- a comprehension of a dict over a walk -/
theorem dc_it {J : It} {n : Nat} {G : Hp → Prop} {Y : Nat → Hp → V → Hp → Prop} (w : Walk J n G Y) {g : TG} {tt : TT} {tk tv : TE} {vs : List Nat} {σ : L2.St} {H1 : Hp} {D : Addr} {Qd : Hp → Prop} (Pv : Nat → Hp → Prop) (h0 : Pv 0 (upd H1 D (.dK []))) (hG : ∀ i H, i ≤ n → Pv i H → G H)
    (hs : ∀ i x H H', i < n → Pv i H → Y i H x H' → g x (wipe σ vs) H' fun σ2 H2 => wipe σ2 vs = wipe σ vs ∧ tt σ2 H2 fun b H3 =>
      if b = true then tk σ2 H3 fun y H4 => tv σ2 H4 fun z H5 => ∃ kvs k, y = kV k ∧ H5 D = some (.dK kvs) ∧ kvs.length < sizeLine ∧ Pv (i + 1) (upd H5 D (.dK (putK kvs k z))) else Pv (i + 1) H3) (hd : ∀ H, Pv n H → Qd H) :
    ∃ W : Nat → Nat → Hp → Prop, (∃ m, W 0 m (upd H1 D (.dK []))) ∧ ∀ i m H, W i m H →
      (J.stop i H ∧ Qd H) ∨ (J.go i H ∧ ∃ Nx : Hp → Prop, (∀ H', Nx H' → ∃ m', m' < m ∧ W (i + 1) m' H') ∧ ∀ x H', J.yld i H x H' → g x (wipe σ vs) H' fun σ2 H2 => wipe σ2 vs = wipe σ vs ∧ tt σ2 H2 fun b H3 =>
        if b = true then tk σ2 H3 fun y H4 => tv σ2 H4 fun z H5 => ∃ kvs k, y = kV k ∧ H5 D = some (.dK kvs) ∧ kvs.length < sizeLine ∧ Nx (upd H5 D (.dK (putK kvs k z))) else Nx H3) := by
  refine ⟨fun i m H => m = n - i ∧ i ≤ n ∧ Pv i H, ⟨n, by simp, Nat.zero_le _, h0⟩, ?_⟩
  rintro i m H ⟨rfl, hi, p⟩
  have q := hG i H hi p
  by_cases hlt : i < n
  · refine .inr ⟨w.goes i H hlt q, Pv (i + 1), fun H' p' => ⟨n - (i + 1), by omega, rfl, hlt, p'⟩, fun x H' y => hs i x H H' hlt p (w.yields i H x H' hlt q y)⟩
  · have e : i = n := by omega
    subst e
    exact .inl ⟨w.stops H q, hd H p⟩
theorem putK_new {kvs : List (Key × V)} {k : Key} {v : V} (h : k ∉ kvs.map Prod.fst) : putK kvs k v = kvs ++ [(k, v)] := by
  unfold putK
  rw [if_neg]
  intro z
  obtain ⟨p, hp, e⟩ := List.any_eq_true.mp z
  exact h (List.mem_map.mpr ⟨p, hp, of_decide_eq_true e⟩)
/-- numbers as keys -/
def intKv (l : List (Int × Nat)) (f : Nat → Nat) : List (Key × V) := l.map fun p => ((Sum.inl p.1 : Key), V.int (f p.2 : Int))
theorem intKv_val (f : Nat → Nat) (k : Int) : ∀ l : List (Int × Nat), valV (intKv l f) (Sum.inl k : Key) = (l.lookup k).map fun i => V.int (f i : Int)
  | [] => rfl
  | (a, b) :: l => by
    have ih := intKv_val f k l
    show valV (((Sum.inl a : Key), V.int (f b : Int)) :: intKv l f) (Sum.inl k) = _
    by_cases h : k = a
    · subst h
      rw [valV_pos (p := ((Sum.inl k : Key), V.int (f b : Int))) rfl]
      simp [List.lookup]
    · have hne : ¬ (Sum.inl a : Key) = Sum.inl k := fun z => h (Sum.inl.inj z).symm
      rw [valV_neg (p := ((Sum.inl a : Key), V.int (f b : Int))) hne, ih]
      have h2 : (k == a) = false := by simpa using h
      simp [List.lookup, h2]
theorem intKv_keys (f : Nat → Nat) (l : List (Int × Nat)) : (intKv l f).map Prod.fst = (l.map Prod.fst).map Sum.inl := by
  unfold intKv
  rw [List.map_map, List.map_map]
  rfl
theorem ev_dgetI {kvs : List (Key × V)} {a : Addr} {k : Int} {v : V} (ha : Ev ta σ H (.ref a)) (hb : Ev tb σ H (.int k)) (h : H a = some (.dK kvs)) (hv : valV kvs (Sum.inl k : Key) = some v) : Ev (tDGet ta tb) σ H v := fun H1 e Q q =>
  ha H1 e _ fun H2 e2 => hb H2 (e.trans e2) _ fun H3 e3 => ⟨a, v, rfl, by
    have g := DGet.k (k := (Sum.inl k : Key)) ((e2.trans e3) a _ (e a _ h))
    rw [hv] at g
    exact g, q H3 (e2.trans e3)⟩
/-- l.extend(new) -/
theorem q_extDL {l : Addr} {xs : List V} {ds : List PyData} (hl : H l = some (.lst xs)) (ha : Ev ta σ H (.ref l)) (h : EvDL te σ H ds) (hz : xs.length + ds.length ≤ 100000) (k : ∀ vs H1, Ex H H1 → TdAll H1 vs ds → tz D σ (upd H1 l (.lst (xs ++ vs)))) :
    tSeq (tDrop (tBM K "list" rExtend ta (tCons te tNil))) tz D σ H := ha H (Ex.refl H) _ fun H1 e1 =>
  ⟨Or.inl ⟨rfl, xs, sq_of (e1 l _ hl)⟩, h H1 e1 _ fun p H2 vs hp e2 hpl hT => ⟨l, p, xs, vs, rfl, rfl, e2 l _ (e1 l _ hl), hpl, sz_of (by rw [hT.len]; exact hz), k vs H2 (e1.trans e2) hT⟩⟩
theorem s_extDL {l : Addr} {xs : List V} {ds : List PyData} (hl : H l = some (.lst xs)) (ha : Ev ta σ H (.ref l)) (h : EvDL te σ H ds) (hz : xs.length + ds.length ≤ 100000) (k : ∀ vs H1, Ex H H1 → TdAll H1 vs ds → D.nx σ (upd H1 l (.lst (xs ++ vs)))) :
    tDrop (tBM K "list" rExtend ta (tCons te tNil)) D σ H := q_extDL (D := D) (tz := tNext) hl ha h hz k
theorem edl_callRet {sp : Sp} {vs : List V} {ds : List PyData} (h : EvA tr σ H vs) (hs : ∀ H1, Ex H H1 → ∀ Q : VK, RetDL ds H1 Q → sp vs H1 Q E) : EvDL (tCall sp [] E tr) σ H ds := fun H1 e Q q => h H1 e _ fun H2 e2 => by
  rw [List.append_nil]
  exact hs H2 (e.trans e2) Q fun p H3 ws hp e3 h3 hT => q p H3 ws (fresh_back e2 hp) (e2.trans e3) h3 hT
/-- t + u, both of data -/
theorem ed_catA {va : V} {ds1 ds2 : List PyData} (ha : Ev ta σ H va) (hv : Td H va (.tuple ds1)) (h1 : ds1 ≠ []) (l1 : ds1.length ≤ 100) (hb : EvD tb σ H (.tuple ds2)) (h2 : ds2 ≠ []) (l2 : ds2.length ≤ 100) : EvD (tOp (rCatA K) ta tb) σ H (.tuple (ds1 ++ ds2)) := fun H1 e Q q => ha H1 e _ fun H2 e2 => hb H2 (e.trans e2) _ fun v H3 e3 hw => by
  have hv3 := Td.tx (Tx.of ((e.trans e2).trans e3)) _ _ hv
  cases hv3 with
  | @tup a xs _ hx1 hx2 =>
    cases hw with
    | @tup b ys _ hy1 hy2 =>
      have lx := hx2.len
      have ly := hy2.len
      have nx : xs ≠ [] := fun z => h1 (by rw [z] at hx2; cases hx2; rfl)
      have ny : ys ≠ [] := fun z => h2 (by rw [z] at hy2; cases hy2; rfl)
      exact ⟨a, b, xs, ys, rfl, rfl, st_of hx1, st_of hy1, sz_of (by omega), fun z => absurd z nx, fun _ z => absurd z ny, fun _ _ p hp => q _ _ ((e2.trans e3).trans (Ex.new hp)) (.tup upd_same (TdAll.tx (Tx.of (Ex.new hp)) _ _ (hx2.app hy2)))⟩
theorem et_notNone {v : V} {b : Bool} (h : Ev te σ H v) (e : (!decide (v = .non)) = b) : EvT (tTest (tOp (fun x y H Q => y = .non ∧ Q (.bl (!decide (x = .non))) H) te (tC .non))) σ H b := et_test (ev_is (ev_op h ev_c fun H1 _ Q q => ⟨rfl, q H1 (Ex.refl H1)⟩) (congrArg V.bl e))
theorem et_isNone {v : V} {b : Bool} (h : Ev te σ H v) (e : decide (v = .non) = b) : EvT (tTest (tOp (fun x y H Q => y = .non ∧ Q (.bl (decide (x = .non))) H) te (tC .non))) σ H b := et_test (ev_is (ev_op h ev_c fun H1 _ Q q => ⟨rfl, q H1 (Ex.refl H1)⟩) (congrArg V.bl e))
/-- a, b, .. = a tuple -/
theorem q_unpack {n : Nat} {gs : TGs} {a : Addr} {xs : List V} (h : Ev te σ H (.ref a)) (ha : H a = some (.tup xs)) (hn : xs.length = n) (k : ∀ H1, Ex H H1 → gs xs σ H1 fun σ' H' => tz D σ' H') : tSeq (tAsg te (gTup K n gs)) tz D σ H :=
  h H (Ex.refl H) _ fun H1 e1 => ⟨a, xs, rfl, st_of (e1 _ _ ha), hn, k H1 e1⟩
theorem eqWT {a b c : Str} {r : Bool} (ha : Ev ta σ H (.str a)) (hb : Ev tb σ H (.str b)) (e : a = c) (h : decide (c = b) = r) : EvT (tTest (tOp rEq ta tb)) σ H r := by
  subst e h
  refine et_test (ev_is (ev_op ha hb (rv_eq rfl)) (congrArg V.bl ?_))
  by_cases z : a = b
  · subst z
    rw [decide_eq_true rfl, decide_eq_true rfl]
  · rw [decide_eq_false z, decide_eq_false fun y => z (V.str.inj y)]
theorem inWT {p : Addr} {xs : List V} {a c : Str} {r : Bool} (ha : Ev ta σ H (.str a)) (hb : Ev tb σ H (.ref p)) (hp : SqT K H p xs) (hf : xs.all flatV = true) (e : a = c) (h : inV (.str c) xs = r) : EvT (tTest (tOp (rIn K false) ta tb)) σ H r := by
  subst e h
  exact et_test (ev_op ha hb (rv_isT hp rfl hf))
theorem inWU {xs : List V} {a c : Str} {r : Bool} (ha : Ev ta σ H (.str a)) (hb : EvU tb σ H xs) (hf : xs.all flatV = true) (e : a = c) (h : inV (.str c) xs = r) : EvT (tTest (tOp (rIn K false) ta tb)) σ H r := by
  subst e h
  exact et_test (ev_inU ha hb rfl hf)
theorem ev_lenT {p : Addr} {xs : List V} (ha : Ev ta σ H (.ref p)) (h : SqT K H p xs) : Ev (tCB (rLenS K) (tCons ta tNil)) σ H (.int (xs.length : Int)) := fun H1 e Q q =>
  ha H1 e _ fun H2 e2 => ⟨p, xs, rfl, .inr (ex_t (e.trans e2) h), q H2 e2⟩
/-- [e for x in l], item by item -/
theorem edl_lcLi {a : Addr} {xs : List V} {ds es : List PyData} {j : Nat} {vs : List Nat} (h : Ev tl σ H (.ref a)) (hx : H a = some (.lst xs)) (hT : TdAll H xs ds) (hz : ds.length ≤ 40000) (hes : es.length = ds.length) (hw : ∀ x, wipe ((wipe σ vs).set j (some x)) vs = wipe σ vs)
    (he : ∀ (i : Nat) (x : V) (d e : PyData) H1, Ex H H1 → ds[i]? = some d → es[i]? = some e → Td H1 x d → EvD te ((wipe σ vs).set j (some x)) H1 e) : EvDL (tLc (iList K tl) (gName j) tYes te vs) σ H es := fun H0 e Q q => h H0 e _ fun H1 e1 => ⟨a, rfl, ⟨xs, sq_of ((e.trans e1) _ _ hx)⟩, fun Dl hD => by
  have hx1 := (e.trans e1) _ _ hx
  have hT1 := TdAll.tx (Tx.of (e.trans e1)) _ _ hT
  refine lc_it (walk_list (K := K) (a := a) (xs := xs)) (fun i H' => ∃ acc, Ex H1 H' ∧ H' Dl = some (.lst acc) ∧ TdAll H' acc (es.take i)) ⟨[], Ex.new hD, upd_same, .nil⟩ (fun _ H' _ ⟨_, e2, _⟩ => sq_of (e2 _ _ hx1)) ?_ ?_
  · rintro i x H2 H3 hi ⟨acc, e2, hDl, hA⟩ ⟨rfl, hxi⟩
    refine ⟨hw x, ?_⟩
    have hlen := hT1.len
    have hi2 : i < ds.length := by omega
    have hd : ds[i]? = some ds[i] := List.getElem?_eq_getElem hi2
    have hi3 : i < es.length := by omega
    have hd3 : es[i]? = some es[i] := List.getElem?_eq_getElem hi3
    obtain ⟨v, hv, hTv⟩ := td_get hT1 hd
    rw [hxi] at hv
    cases hv
    show te ((wipe σ vs).set j (some x)) H3 _
    refine he i x ds[i] es[i] H3 ((e.trans e1).trans e2) hd hd3 (Td.tx (Tx.of e2) _ _ hTv) H3 (Ex.refl _) _ fun y H4 e4 hy => ?_
    have hal := hA.len
    rw [List.length_take] at hal
    refine ⟨acc, e4 _ _ hDl, sz_lt (by omega), acc ++ [y], Ex.mut (e2.trans e4) hD, upd_same, ?_⟩
    have tx : Tx H4 (upd H4 Dl (.lst (acc ++ [y]))) := Tx.lst (e4 _ _ hDl)
    rw [List.take_succ, hd3]
    exact (TdAll.tx ((Tx.of e4).trans tx) _ _ hA).snoc (Td.tx tx _ _ hy)
  · rintro H2 ⟨acc, e2, hDl, hA⟩
    rw [hT1.len, ← hes, List.take_length] at hA
    exact q Dl H2 acc (fresh_back e1 hD) (e1.trans e2) hDl hA⟩
theorem tYes_go {f h : Hp → Prop} (x : f H) : tYes σ H (fun b H3 => if b = true then f H3 else h H3) := by
  show (if true = true then f H else h H)
  rw [if_pos rfl]
  exact x
/-- a cut of data -/
def cutP (ds : List PyData) (lo hi : Option Int) : List PyData := (ds.drop (HT.sIx ds.length 0 lo)).take (HT.sIx ds.length ds.length hi - HT.sIx ds.length 0 lo)
theorem td_take {H : Hp} : ∀ {n : Nat} {us : List V} {ds : List PyData}, TdAll H us ds → TdAll H (us.take n) (ds.take n)
  | 0, _, _, _ => .nil
  | _ + 1, _, _, .nil => .nil
  | n + 1, _, _, .cons a b => .cons a (td_take (n := n) b)
theorem td_cut {xs : List V} {ds : List PyData} (h : TdAll H xs ds) (lo hi : Option Int) : TdAll H (cutV xs lo hi) (cutP ds lo hi) := by
  unfold cutV cutP
  rw [h.len]
  exact td_take (td_drop h)
theorem ed_slT {v : V} {ds es : List PyData} {lo hi : Option Int} {tlo thi : TO} (ha : Ev ta σ H v) (hv : Td H v (.tuple ds)) (hlo : EvO tlo σ H lo) (hhi : EvO thi σ H hi) (e : cutP ds lo hi = es) : EvD (tSl (rSlA K) ta tlo thi) σ H (.tuple es) := fun H1 e1 Q q =>
  ha H1 e1 _ fun H2 e2 => hlo H2 (e1.trans e2) _ fun H3 e3 => hhi H3 ((e1.trans e2).trans e3) _ fun H4 e4 => by
    subst e
    have e14 := ((e1.trans e2).trans e3).trans e4
    have hv4 := Td.tx (Tx.of e14) _ _ hv
    cases hv4 with
    | @tup a xs _ h1 h2 =>
      refine ⟨a, xs, rfl, st_of h1, fun hw => ?_, fun _ p hp => q _ _ (((e2.trans e3).trans e4).trans (Ex.new hp)) (.tup upd_same (TdAll.tx (Tx.of (Ex.new hp)) _ _ (td_cut h2 lo hi)))⟩
      refine q _ H4 ((e2.trans e3).trans e4) (.tup h1 ?_)
      have : cutP ds lo hi = ds := by
        unfold cutP
        rw [← h2.len, hw.1, hw.2, List.drop_zero, Nat.sub_zero, h2.len]
        exact List.take_length ..
      rw [this]
      exact h2
/-- t[-1] -/
theorem ev_ixTl {v : V} {ds : List PyData} {k : Int} (ha : Ev ta σ H v) (hv : Td H v (.tuple (ds ++ [.int k]))) : Ev (tOp (rIxT K) ta (tUn (rU fun i => .int (-i)) (tC (.int 1)))) σ H (.int k) := by
  cases hv with
  | @tup a xs _ h1 h2 =>
    have hl := h2.len
    rw [List.length_append] at hl
    obtain ⟨x, hx, hT⟩ := td_get h2 (i := ds.length) (d := .int k) (by simp)
    cases hT
    have e : xs = xs.dropLast ++ [.int k] := by
      have hne : xs ≠ [] := fun z => by rw [z] at hl; simp at hl
      have h3 := List.dropLast_concat_getLast hne
      have h4 : xs.getLast hne = .int k := by
        rw [List.getLast_eq_getElem]
        have h5 : xs.length - 1 = ds.length := by rw [hl]; rfl
        have h6 := List.getElem?_eq_some_iff.mp hx
        obtain ⟨h7, h8⟩ := h6
        simp only [h5]
        exact h8
      rw [h4] at h3
      exact h3.symm
    refine ev_op ha (ev_un ev_c ru_neg) (rv_ixT (i := -1) (st_of h1) ?_)
    rw [e]
    exact atI_last _ _
/-- [e for x in t], t a tuple that may be new -/
theorem edl_lcTD {ds : List PyData} {j : Nat} {vs : List Nat} {f : PyData → PyData} (h : EvD tl σ H (.tuple ds)) (hz : ds.length ≤ 40000) (hw : ∀ x, wipe ((wipe σ vs).set j (some x)) vs = wipe σ vs)
    (he : ∀ (x : V) (d : PyData) H1, Ex H H1 → d ∈ ds → Td H1 x d → EvD te ((wipe σ vs).set j (some x)) H1 (f d)) : EvDL (tLc (iTup K tl) (gName j) tYes te vs) σ H (ds.map f) := fun H0 e Q q => h H0 e _ fun v H1 e1 hv => by
  cases hv with
  | @tup a xs _ hx1 hT1 =>
  refine ⟨a, rfl, ⟨xs, st_of hx1⟩, fun Dl hD => ?_⟩
  refine lc_it (walk_tup (K := K) (a := a) (xs := xs)) (fun i H' => ∃ acc, Ex H1 H' ∧ H' Dl = some (.lst acc) ∧ TdAll H' acc ((ds.take i).map f)) ⟨[], Ex.new hD, upd_same, .nil⟩ (fun _ H' _ ⟨_, e2, _⟩ => st_of (e2 _ _ hx1)) ?_ ?_
  · rintro i x H2 H3 hi ⟨acc, e2, hDl, hA⟩ ⟨rfl, hxi⟩
    refine ⟨hw x, ?_⟩
    have hlen := hT1.len
    have hi2 : i < ds.length := by omega
    have hd : ds[i]? = some ds[i] := List.getElem?_eq_getElem hi2
    obtain ⟨v, hv, hTv⟩ := td_get hT1 hd
    rw [hxi] at hv
    cases hv
    show te ((wipe σ vs).set j (some x)) H3 _
    refine he x ds[i] H3 ((e.trans e1).trans e2) (List.getElem_mem hi2) (Td.tx (Tx.of e2) _ _ hTv) H3 (Ex.refl _) _ fun y H4 e4 hy => ?_
    have hal := hA.len
    rw [List.length_map, List.length_take] at hal
    refine ⟨acc, e4 _ _ hDl, sz_lt (by omega), acc ++ [y], Ex.mut (e2.trans e4) hD, upd_same, ?_⟩
    have tx : Tx H4 (upd H4 Dl (.lst (acc ++ [y]))) := Tx.lst (e4 _ _ hDl)
    rw [List.take_succ, hd, List.map_append]
    exact (TdAll.tx ((Tx.of e4).trans tx) _ _ hA).snoc (Td.tx tx _ _ hy)
  · rintro H2 ⟨acc, e2, hDl, hA⟩
    rw [hT1.len, List.take_length] at hA
    exact q Dl H2 acc (fresh_back e1 hD) (e1.trans e2) hDl hA
/-- a <= b < c -/
theorem ev_chain {i j k : Int} (ha : Ev ta σ H (.int i)) (hb : Ev tb σ H (.int j)) (hc : Ev te σ H (.int k)) : Ev (tChain (rI0 fun i j => .bl (decide (i ≤ j))) (rI0 fun i j => .bl (decide (i < j))) ta tb te) σ H (.bl (decide (i ≤ j) && decide (j < k))) := fun H1 e Q q =>
  ha H1 e _ fun H2 e2 => hb H2 (e.trans e2) _ fun H3 e3 => ⟨i, j, rfl, rfl, decide (i ≤ j), rfl, by
    by_cases h : i ≤ j
    · rw [decide_eq_true h, if_pos rfl]
      refine hc H3 ((e.trans e2).trans e3) _ fun H4 e4 => ⟨j, k, rfl, rfl, ?_⟩
      have := q H4 ((e2.trans e3).trans e4)
      rw [decide_eq_true h, Bool.true_and] at this
      exact this
    · rw [decide_eq_false h, if_neg Bool.false_ne_true]
      have := q H3 (e2.trans e3)
      rw [decide_eq_false h, Bool.false_and] at this
      exact this⟩
theorem dpa_bools : ∀ bs : List Bool, DpAll K H (bs.map V.bl) (bs.map PyData.bool)
  | [] => .nil
  | x :: xs => .cons (.bl x) (dpa_bools xs)
/-- two lists of truths, the same ones -/
theorem ev_eqBL {bs : List Bool} (ha : EvL ta σ H (bs.map .bl)) (hb : EvL tb σ H (bs.map .bl)) (hs : SeqAt.shaped (.list (bs.map .bool)) = true) : Ev (tOp (rEqD K) ta tb) σ H (.bl true) := ev_opLL ha hb fun p q H1 h1 h2 _ H2 e2 Q q2 =>
  ⟨.list (bs.map .bool), .list (bs.map .bool), .lst (sq_of (e2 p _ h1)) (dpa_bools bs), .lst (sq_of (e2 q _ h2)) (dpa_bools bs), hs, hs, by
    rw [SeqAt.eqv_refl]
    · exact q2 H2 (Ex.refl H2)
    · exact (Bool.and_eq_true_iff.mp hs).1⟩
theorem ev_eqBLv {bs : List Bool} {l : Addr} (ha : Ev ta σ H (.ref l)) (hl : H l = some (.lst (bs.map .bl))) (hb : EvL tb σ H (bs.map .bl)) (hs : SeqAt.shaped (.list (bs.map .bool)) = true) : Ev (tOp (rEqD K) ta tb) σ H (.bl true) := ev_opL ha hb fun q H1 h2 e1 H2 e2 Q q2 =>
  ⟨.list (bs.map .bool), .list (bs.map .bool), .lst (sq_of ((e1.trans e2) _ _ hl)) (dpa_bools bs), .lst (sq_of (e2 q _ h2)) (dpa_bools bs), hs, hs, by
    rw [SeqAt.eqv_refl]
    · exact q2 H2 (Ex.refl H2)
    · exact (Bool.and_eq_true_iff.mp hs).1⟩
/-- two things of the same data -/
theorem ev_eqDD {d : PyData} (ha : EvD ta σ H d) (hb : EvD tb σ H d) (hs : SeqAt.shaped d = true) : Ev (tOp (rEqD K) ta tb) σ H (.bl true) := fun H1 e Q q => ha H1 e _ fun v H2 e2 hv => hb H2 (e.trans e2) _ fun w H3 e3 hw =>
  ⟨d, d, Td.dp _ _ (Td.tx (Tx.of e3) _ _ hv), Td.dp _ _ hw, hs, hs, by
    rw [SeqAt.eqv_refl]
    · exact q H3 (e2.trans e3)
    · exact (Bool.and_eq_true_iff.mp hs).1⟩
theorem td_bools : ∀ {vs : List V} {bs : List Bool}, TdAll H vs (bs.map .bool) → vs = bs.map .bl
  | _, [], .nil => rfl
  | _, b :: bs, .cons a t => by
    cases a
    rw [td_bools t] <;> rfl
theorem ev_lenTd {v : V} {ds : List PyData} (ha : Ev ta σ H v) (hv : Td H v (.tuple ds)) : Ev (tCB (rLenS K) (tCons ta tNil)) σ H (.int (ds.length : Int)) := by
  cases hv with
  | @tup a xs _ h1 h2 => exact ev_is (ev_lenT (K := K) ha (st_of h1)) (by rw [h2.len])
theorem ev_eqSame {a : Str} (ha : Ev ta σ H (.str a)) (hb : Ev tb σ H (.str a)) : Ev (tOp rEq ta tb) σ H (.bl true) := ev_is (ev_op ha hb (rv_eq rfl)) (congrArg V.bl (decide_eq_true rfl))
theorem ev_eqSameI {a b : Int} (ha : Ev ta σ H (.int a)) (hb : Ev tb σ H (.int b)) (h : a = b) : Ev (tOp rEq ta tb) σ H (.bl true) := by
  subst h
  exact ev_is (ev_op ha hb (rv_eq rfl)) (congrArg V.bl (decide_eq_true rfl))
theorem ev_tt {x y : TE} (h1 : Ev x σ H (.bl true)) (h2 : Ev y σ H (.bl true)) : Ev (tAndV x y) σ H (.bl true) := ev_is (ev_andV h1 fun _ => h2) rfl
theorem el_rep2 {b : V} : EvL (tOp rRep (tLst (tCons (tC b) tNil)) (tC (.int 2))) σ H [b, b] := fun H1 e Q q =>
  (show EvL (tLst (tCons (tC b) tNil)) σ H [b] from el_lst (ea_cons ev_c ea_nil) (by show 1 ≤ 100000; decide)) H1 e _ fun l H2 hl0 e2 hl => ⟨l, 2, _, rfl, rfl, hl, by decide, by decide, by show 1 * 2 ≤ sizeLine; decide, fun c hc => q c _ (fresh_back e2 hc) (e2.trans (Ex.new hc)) upd_same⟩
theorem ed_catDD {ds1 ds2 : List PyData} (ha : EvD ta σ H (.tuple ds1)) (h1 : ds1 ≠ []) (l1 : ds1.length ≤ 100) (hb : EvD tb σ H (.tuple ds2)) (h2 : ds2 ≠ []) (l2 : ds2.length ≤ 100) : EvD (tOp (rCatA K) ta tb) σ H (.tuple (ds1 ++ ds2)) := fun H1 e Q q => ha H1 e _ fun u H2 e2 hu => hb H2 (e.trans e2) _ fun v H3 e3 hw => by
  have hv3 := Td.tx (Tx.of e3) _ _ hu
  cases hv3 with
  | @tup a xs _ hx1 hx2 =>
    cases hw with
    | @tup b ys _ hy1 hy2 =>
      have lx := hx2.len
      have ly := hy2.len
      have nx : xs ≠ [] := fun z => h1 (by rw [z] at hx2; cases hx2; rfl)
      have ny : ys ≠ [] := fun z => h2 (by rw [z] at hy2; cases hy2; rfl)
      exact ⟨a, b, xs, ys, rfl, rfl, st_of hx1, st_of hy1, sz_of (by omega), fun z => absurd z nx, fun _ z => absurd z ny, fun _ _ p hp => q _ _ ((e2.trans e3).trans (Ex.new hp)) (.tup upd_same (TdAll.tx (Tx.of (Ex.new hp)) _ _ (hx2.app hy2)))⟩
/-- {k: v}.get(x, z) -/
theorem ev_get1 {k1 k : Str} {v1 z : V} {r : V} (hb : ∀ H', Ev tb σ H' (.str k)) (hz : ∀ H', Ev te σ H' z) (h : (k = k1 ∧ r = v1) ∨ (k ≠ k1 ∧ r = z)) : Ev (tDGet2 (tDisp [(tC (.str k1), tC v1)]) tb te) σ H r := fun H1 e Q q => fun p hp => by
  refine ⟨upd_same, [((Sum.inr k1 : Key), v1)], rfl, by show 1 ≤ 15; decide, ?_⟩
  have hm : mergeK [] [((Sum.inr k1 : Key), v1)] = [((Sum.inr k1 : Key), v1)] := rfl
  rw [hm]
  have e1 : Ex H1 (upd (upd H1 p (.dK [])) p (.dK [((Sum.inr k1 : Key), v1)])) := Ex.mut (Ex.new hp) hp
  have hp2 : (upd (upd H1 p (.dK [])) p (.dK [((Sum.inr k1 : Key), v1)])) p = some (.dK [((Sum.inr k1 : Key), v1)]) := upd_same
  generalize upd (upd H1 p (.dK [])) p (.dK [((Sum.inr k1 : Key), v1)]) = H2 at e1 hp2 ⊢
  refine ⟨p, rfl, .inl ⟨_, .inl hp2⟩, hb H2 H2 (Ex.refl _) _ fun H3 e3 => hz H3 H3 (Ex.refl _) _ fun H4 e4 => ?_⟩
  refine ⟨_, DGet.k (k := (Sum.inr k : Key)) ((e3.trans e4) _ _ hp2), ?_⟩
  rcases h with ⟨rfl, rfl⟩ | ⟨hne, rfl⟩
  · rw [valV_pos (p := ((Sum.inr k : Key), r)) rfl]
    exact q H4 (e1.trans (e3.trans e4))
  · rw [valV_neg (p := ((Sum.inr k1 : Key), v1)) (fun y => hne (Sum.inr.inj y).symm)]
    exact q H4 (e1.trans (e3.trans e4))
theorem cutP_from1 {d : PyData} {es : List PyData} : cutP (d :: es) (some 1) none = es := by
  unfold cutP
  have h1 : HT.sIx (d :: es).length 0 (some 1) = 1 := by
    have := HT.sIx_nat (d :: es).length 0 1
    rw [show ((1 : Nat) : Int) = 1 from rfl] at this
    rw [this, List.length_cons]
    omega
  rw [h1, HT.sIx_none, List.drop_succ_cons, List.drop_zero, List.length_cons]
  exact List.take_length ..
theorem cutV_last {xs : List V} {x : V} : cutV (xs ++ [x]) (some (-1)) none = [x] := by
  unfold cutV
  have h1 : HT.sIx (xs ++ [x]).length 0 (some (-1)) = xs.length := by
    show (if (-1 : Int) < 0 then ((-1 : Int) + ((xs ++ [x]).length : Int)).toNat else min (-1 : Int).toNat (xs ++ [x]).length) = _
    rw [if_pos (by decide), List.length_append]
    show (-1 + ((xs.length + 1 : Nat) : Int)).toNat = _
    omega
  rw [h1, HT.sIx_none, List.drop_left, List.length_append]
  show [x].take (xs.length + 1 - xs.length) = [x]
  rw [show xs.length + 1 - xs.length = 1 by omega] <;> rfl
end
end Wt

set_option Elab.async false
set_option linter.all false
set_option maxRecDepth 100000
set_option maxHeartbeats 4000000
/-! x in (.., ..), texts, where x is a dict. -/
namespace PySem.SeqAt
open AutoSeq1 (wpAny_loadPart')
open MeetsSeq
theorem str_eq_declines_dict (b : Str) (u : Tok) (l : Addr) (c : Value) (es : Array DictEntry) (ep : Nat) (dd : Option Addr) (sl : Array (Option Value)) :
    Meets (Builtin.«str.__eq__» ⟨[.str b u, .ref l], []⟩) (fun _ R s => s.heap.get? l = some { cls := c, dict := dd, data := .dict es ep, slots := sl } ∧ R (.ok (.ret .notImplemented)) s) :=
  .of_wp fun prog w A R s h => by obtain ⟨hp, g, d, tk, os⟩ := s; obtain ⟨hl, h⟩ := h; wp_walk using wpAny_loadPart' hl, wpAny_load hl; exact ⟨_, rfl, h⟩
theorem dict_eq_declines_str (l : Addr) (es : Array DictEntry) (ep : Nat) (dd : Option Addr) (sl : Array (Option Value)) (b : Str) (u : Tok) :
    Meets (Builtin.«dict.__eq__» ⟨[.ref l, .str b u], []⟩) (fun _ R s => s.heap.get? l = some { cls := .type "dict", dict := dd, data := .dict es ep, slots := sl } ∧ R (.ok (.ret .notImplemented)) s) :=
  .of_wp fun prog w A R s h => by obtain ⟨hp, g, d, tk, os⟩ := s; obtain ⟨hl, h⟩ := h; have f1 := F.sub_str_dict; wp_walk using wpAny_loadPart' hl; exact ⟨_, rfl, h⟩
end PySem.SeqAt
namespace PySem.SeqAt
theorem RcAt.str_dict {A : Around} {s : Shared} {l : Addr} {es : Array DictEntry} {ep : Nat} {dd : Option Addr} {sl : Array (Option Value)} (b : Str) (u : Tok) (ho : s.heap.get? l = some { cls := .type "dict", dict := dd, data := .dict es ep, slots := sl }) (hu : A.units < cLine) : RcAt A s (.str b u) (.ref l) false := fun prog w E Q h => by
  exact rc_eq_decline_or (k := false) (typeIs_str s b u) ⟨_, ho, rfl⟩ (by decide) F.sub_dict_str F.slot_str_eq F.slot_dict_eq_refl
    (fun _ hq => call_meets F.slot_str_eq (typeIs_str s b u) F.entry_str_eq (F.args_str_eq_2 _ _) (str_eq_declines_dict b u l (.type "dict") es ep dd sl) ⟨ho, hq⟩)
    (fun _ hq => call_meets F.slot_dict_eq_refl ⟨_, ho, rfl⟩ F.entry_dict_eq (F.args_dict_eq_2 _ _) (dict_eq_declines_str l es ep dd sl b u) ⟨ho, hq⟩)
    (fun _ hq => wpAny_of_eq (rfl : isSame (.str b u) (.ref l) = pure false) hq) (.inr hu) h
theorem EqAt.str_dict {A : Around} {s : Shared} {l : Addr} {es : Array DictEntry} {ep : Nat} {dd : Option Addr} {sl : Array (Option Value)} (b : Str) (u : Tok) (ho : s.heap.get? l = some { cls := .type "dict", dict := dd, data := .dict es ep, slots := sl }) (hu : A.units < cLine) : EqAt A s (.str b u) (.ref l) false := fun prog w E Q h => by
  unfold eqBool
  refine wpAny_holding ?_
  refine wpAny_ite_split (fun hab => absurd (eq_of_beq hab) nofun) (fun _ => ?_)
  exact wpAny_bind (RcAt.str_dict b u ho hu prog w E _ (wpAny_truthy_bool h))
end PySem.SeqAt
namespace Wt
open PySem PySem.Spec PyProof.Rows L2 SX Evl
section
variable {X : Cx}
/-- x in a tuple of texts: x flat, or a dict -/
def rInQ (K : PySem.W.Frag) : R2 := fun x y H Q => ∃ (p : Addr) (zs : List Str), y = .ref p ∧ SqT K H p (zs.map V.str) ∧ ((flatV x = true ∧ Q (.bl (inV x (zs.map V.str))) H) ∨ ∃ a kvs, x = .ref a ∧ H a = some (.dK kvs) ∧ Q (.bl false) H)
theorem op_inQ (hu : X.A.units + 1 < cLine) : OpR X (compareOp .In) (rInQ X.K) := by
  intro pins s σ H x y v u Q I rx ry h
  obtain ⟨p, zs, rfl, hq, h⟩ := h
  have fs : ∀ zs : List Str, (zs.map V.str).all flatV = true := fun zs => by
    induction zs with
    | nil => rfl
    | cons z zs ih => rw [List.map_cons, List.all_cons, ih] <;> rfl
  rcases h with ⟨fx, q⟩ | ⟨a, kvs, rfl, ha, q⟩
  · exact op_in_seq pins s σ H x (.ref p) v u Q I rx ry ⟨p, _, rfl, .inr hq, fx, fs zs, q⟩
  · cases rx
    cases ry
    obtain ⟨its, r, pl, hz⟩ := I.tuple hq
    obtain ⟨_, _, vs, _, o, es, ep, ho, ⟨ec1, ec2, ec3⟩, ed, _⟩ := (show ObjOk X.prog X.w H s.heap a (.dK kvs) from I.hok a _ ha)
    have ho2 : s.heap.get? a = some { cls := .type "dict", dict := none, data := .dict es ep, slots := #[] } := by
      rw [ho]
      obtain ⟨c1, c2, c3, c4⟩ := o
      simp only at ec1 ec2 ec3 ed
      subst ec1 ec2 ec3 ed
      rfl
    have hall : ∀ w ∈ its, ∃ z t, w = Value.str z t := by
      intro w hw
      have : ∀ {zs : List Str} {its : List Value}, Vals (zs.map V.str) its → ∀ w ∈ its, ∃ z t, w = Value.str z t := by
        intro zs
        induction zs with
        | nil => intro its r w hw; cases r; cases hw
        | cons z zs ih =>
          intro its r w hw
          cases r with
          | cons r1 r2 =>
            rcases List.mem_cons.mp hw with rfl | hw
            · obtain ⟨t, rfl⟩ := r1
              exact ⟨z, t, rfl⟩
            · exact ih r2 w hw
      exact this r w hw
    refine SeqAt.in_tupleAt (fun _ => false) pl (fun w hw => ?_) ⟨.bl false, H, I, ?_, q⟩
    · obtain ⟨z, t, rfl⟩ := hall w (by simpa using hw)
      exact SeqAt.EqAt.str_dict z t ho2 hu
    · show RelV _ _
      have : its.toArray.any (fun _ => false) = false := by simp
      rw [this] <;> rfl
/-- // by what isn't nought -/
def CDivQ (i j : Int) : Prop := j ≠ 0 ∧ j.natAbs ≤ 1000000000000
theorem op_fdivQ : OpR X (binaryOp .FloorDiv) (rI CDivQ fun i j => .int (i.fdiv j)) := opI fun _ _ _ _ _ _ _ hc q => floordiv_int hc.1 q (.inl (PyProof.noPylong_of_log2 (by
  have h : _ ≤ 1000000000000 := hc.2
  exact Nat.lt_of_lt_of_le (PySem.Flt.log2_lt_of (k := 41) (by decide) (Nat.lt_of_le_of_lt h (by decide))) (by decide))))
/-- a[::-1], a list -/
def tRev (K : PySem.W.Frag) (te : TE) (ts : TO) : TE := fun σ H Q => te σ H fun x H1 => ts σ H1 fun o H2 => ∃ a xs, x = .ref a ∧ o = some (-1) ∧ SqL K H2 a xs ∧ ∀ p, H2 p = none → Q (.ref p) (upd H2 p (.lst xs.reverse))
theorem pe_rev {e st : Expr} {te : TE} {ts : TO} {p2 pos : Pos} (he : PE X e te) (hs : PO X (some st) ts) : PE X (.Subscript e (.Slice none none (some st) p2) pos) (tRev X.K te ts) := by
  refine ⟨fun pins s σ H Q I h => ?_⟩
  refine Subscript_ (thn (he.run pins s σ H _ I h) fun v s1 ⟨x, H1, I1, r1, q1⟩ => ?_)
  refine wpAny_Slice ?_
  rw [evalPart_none]
  refine wpAny_pure ?_
  refine wpAny_pure ?_
  refine thn (hs.run pins s1 σ H1 _ I1 q1) fun vs s3 ⟨o, H3, I3, po, a, xs, ex, eo, hx, q3⟩ => ?_
  subst ex eo
  cases r1
  have I4 : Inv X pins σ H3 { s3 with heap := s3.heap.push { cls := .type "slice", data := .fields #[.none, .none, vs] } } := I3.kept (t' := s3.toks) fun b ob q => Heap.get?_push_of_some _ q
  obtain ⟨its, r, ht, hz⟩ := I4.list hx
  have hlen := r.length
  show wpAny (model X.prog X.w) X.A (subscriptTail e (.Slice none none (some st) p2) (.ref a) (.ref s3.heap.objs.size)) (EP X pins σ Q) X.xe { s3 with heap := s3.heap.push { cls := .type "slice", data := .fields #[.none, .none, vs] } }
  refine tail_any (ops := [.ref a, .ref s3.heap.objs.size]) ht.isList.typeIs slot_list_getitem.lookup ?_ (by with_unfolding_all rfl)
  refine wpAny_getItem_list_slice ht.isList (Heap.IsSliceOf.new ..) .none .none po (by decide) ?_ (by rw [List.size_toArray] <;> omega)
  rw [PySem.W.krv_pick]
  refine ⟨.ref _, _, I4.laid (t' := s3.toks) (o := .lst xs.reverse) (fun b ob q => Heap.get?_push_of_some _ q) (Nat.le_refl _) ?_, rfl, q3 _ (I4.hok.fresh (Nat.le_refl _))⟩
  exact ⟨by rw [List.length_reverse]; omega, _, 0, r.reverse, Heap.get?_push_size _ rfl⟩
/-- a tuple times 0 or 1 -/
def rRepQ (K : PySem.W.Frag) : R2 := fun x y H Q => ∃ l b xs, x = .ref l ∧ y = .int (if b = true then 1 else 0) ∧ SqT K H l xs ∧ xs ≠ [] ∧ (b = true → Q (.ref l) H) ∧ (b = false → ∀ p, H p = none → Q (.ref p) (upd H p (.tup [])))
theorem tuple_mul1 (l : Addr) (items : Array Value) (n : Nat) (sl : Array (Option Value)) (u : Tok) (dd : Option Addr) :
    Meets (Builtin.«tuple.__mul__» ⟨[.ref l, .int 1 u], []⟩) (fun _ R s => s.heap.get? l = some { cls := .type "tuple", dict := dd, data := .seq items n, slots := sl } ∧ R (.ok (.ret (Value.ref l))) s) :=
  .of_wp fun prog w A R s h => by
    obtain ⟨hp, g, d, tk, os⟩ := s
    obtain ⟨hl, h⟩ := h
    have f1 := AutoSeq1.idx_int
    wp_walk using AutoSeq1.wpAny_loadPart' hl, wpAny_load hl
    exact ⟨_, rfl, h⟩
theorem tuple_mul0 (l : Addr) (items : Array Value) (n : Nat) (sl : Array (Option Value)) (u : Tok) (dd : Option Addr) (c1 : (items.isEmpty || (0 : Int) == 1) = false) :
    Meets (Builtin.«tuple.__mul__» ⟨[.ref l, .int 0 u], []⟩) (fun _ R s => s.heap.get? l = some { cls := .type "tuple", dict := dd, data := .seq items n, slots := sl } ∧ R (.ok (.ret (Value.ref s.heap.objs.size))) { s with heap := s.heap.push { cls := Value.type "tuple", data := Data.seq #[] }, toks := s.toks }) :=
  .of_wp fun prog w A R s h => by
    obtain ⟨hp, g, d, tk, os⟩ := s
    obtain ⟨hl, h⟩ := h
    have f1 := AutoSeq1.idx_int
    wp_walk using AutoSeq1.wpAny_loadPart' hl, wpAny_load hl
    refine wpAny_ite_false (decide_eq_false (by rw [c1]; exact Bool.false_ne_true)) ?_
    wp_walk using AutoSeq1.wpAny_loadPart' hl
    exact ⟨_, rfl, h⟩
theorem op_repQ : OpR X (binaryOp .Mult) (rRepQ X.K) := by
  intro pins s σ H x y v u Q I rx ry h
  obtain ⟨l, b, xs, rfl, rfl, hT, hne, q1, q0⟩ := h
  cases rx
  obtain ⟨t, rfl⟩ := ry
  obtain ⟨its, r, ⟨⟨cls, dd, data, sl⟩, ho, hc, n, hd⟩, hs⟩ := I.tuple hT
  simp only at hc hd
  subst hc hd
  have hle : its.length = xs.length := r.length.symm
  have hn : its ≠ [] := fun e => hne (by
    rw [e] at hle
    exact List.eq_nil_of_length_eq_zero hle.symm)
  have hi : its.toArray.isEmpty = false := by
    cases its with
    | nil => exact absurd rfl hn
    | cons a b => rfl
  cases b with
  | true =>
    refine wpAny_binaryOp_repeat_ref (T := "tuple") (U := "int") (by decide) ⟨_, ho, rfl⟩ (fun s' => typeIs_int s' 1 t) noFill_tuple_mul F.fills_int_mul F.slot_int_rmul repeat_tuple F.slot_int_index.lookup
      (call_meets F.slot_int_rmul (typeIs_int s 1 t) F.entry_int_rmul (F.args_int_rmul_2 _ _) (int_rmul_tuple 1 t l its.toArray n dd sl)
        ⟨ho, rfl, ⟨_, ho, rfl⟩, call_meets F.slot_tuple_mul ⟨_, ho, rfl⟩ F.entry_tuple_mul (F.args_tuple_mul_2 _ _) (tuple_mul1 l its.toArray n sl t dd) ⟨ho, ?_⟩⟩)
    exact ⟨.ref l, H, I, rfl, q1 rfl⟩
  | false =>
    refine wpAny_binaryOp_repeat_ref (T := "tuple") (U := "int") (by decide) ⟨_, ho, rfl⟩ (fun s' => typeIs_int s' 0 t) noFill_tuple_mul F.fills_int_mul F.slot_int_rmul repeat_tuple F.slot_int_index.lookup
      (call_meets F.slot_int_rmul (typeIs_int s 0 t) F.entry_int_rmul (F.args_int_rmul_2 _ _) (int_rmul_tuple 0 t l its.toArray n dd sl)
        ⟨ho, rfl, ⟨_, ho, rfl⟩, call_meets F.slot_tuple_mul ⟨_, ho, rfl⟩ F.entry_tuple_mul (F.args_tuple_mul_2 _ _) (tuple_mul0 l its.toArray n sl t dd (by rw [hi] <;> rfl)) ⟨ho, ?_⟩⟩)
    refine ⟨.ref s.heap.objs.size, _, I.laid (t' := s.toks) (o := .tup []) (fun b ob q => Heap.get?_push_of_some _ q) (Nat.le_refl _) ?_, rfl, q0 rfl _ (I.hok.fresh (Nat.le_refl _))⟩
    exact ⟨Nat.zero_le _, [], .nil, IsTup.new _ _⟩
/-- a != [], a != () -/
def rNe0 (K : PySem.W.Frag) : R2 := fun x y H Q => ∃ a b xs, x = .ref a ∧ y = .ref b ∧ ((SqL K H a xs ∧ SqL K H b []) ∨ (SqT K H a xs ∧ SqT K H b [])) ∧ Q (.bl (!xs.isEmpty)) H
theorem op_ne0 (hu : X.A.units + 1 < cLine) : OpR X (compareOp .NotEq) (rNe0 X.K) := by
  intro pins s σ H x y v u Q I rx ry h
  obtain ⟨a, b, xs, rfl, rfl, h, q⟩ := h
  cases rx
  cases ry
  have hu1 : X.A.units < cLine := by omega
  rcases h with ⟨ha, hb⟩ | ⟨ha, hb⟩
  · obtain ⟨its, r, pl, hz⟩ := I.list ha
    obtain ⟨its2, r2, pl2, hz2⟩ := I.list hb
    cases r2
    cases r with
    | nil => exact SeqAt.RcNeAt.lists (e := fun _ => true) pl.isList pl2.isList rfl hu1 (fun j h1 h2 => absurd h2 (Nat.not_lt_zero _)) X.prog X.w _ _ ⟨.bl false, H, I, rfl, q⟩
    | cons r1 r2 => exact SeqAt.RcNeAt.lists_lengths pl.isList pl2.isList (by simp) hu1 X.prog X.w _ _ ⟨.bl true, H, I, rfl, q⟩
  · obtain ⟨its, r, pl, hz⟩ := I.tuple ha
    obtain ⟨its2, r2, pl2, hz2⟩ := I.tuple hb
    cases r2
    refine SeqAt.RcNeAt.tuples (e := fun _ => true) pl pl2 hu1 (fun j h1 h2 => absurd h2 (Nat.not_lt_zero _)) X.prog X.w _ _ ⟨.bl (!xs.isEmpty), H, I, ?_, q⟩
    cases r with
    | nil => rfl
    | cons r1 r2 => show RelV _ _; simp; rfl
/-- pe_bm0 where the K is said -/
theorem pe_bm0K {K : PySem.W.Frag} {o : Expr} {to : TE} {name : Str} {apos cpos : Pos} {T id : String} {r : V → List V → Hp → VK → Prop} (hK : X.K = K) (pa : PlainAttrs T) (slot : Slot T name id) (hty : typeOf (.builtin id) = pure (.type "method_descriptor")) (hm : MtR X id r) (ho : PE X o to)
    (hbase : attributeBase o name X.env (eval o X.env) = eval o X.env := by rfl) (hline : (apos.endLine == cpos.line) = true := by rfl) : PE X (.Call (.Attribute o name apos) [] [] cpos) (tBM0 K T r to) := by
  subst hK
  exact pe_bm0 pa slot hty hm ho hbase hline
end
end Wt

set_option Elab.async false
set_option linter.all false
set_option maxRecDepth 100000
set_option maxHeartbeats 4000000
namespace Wt
open PySem PySem.Spec PyProof.Rows L2 SX Evl
/-! d.get(k, x), k perhaps None. -/
section
variable {X : Cx} {pins : List (Addr × Obj)} {σ : L2.St} {H : Hp} {s : Shared} {a : Addr} {kvs : List (Key × V)} {r : Value} {A : Around} {E : Value → Shared → Prop}
theorem d_getNone {Q : Value → Shared → Prop} (I : Inv X pins σ H s) (e : Rd H a (.dK kvs)) (h : ∀ s', Inv X pins σ H s' → Q r s') : wpAny (model X.prog X.w) A (call (.builtin "dict.get") [.ref a, .none, r]) Q E s := by
  obtain ⟨_, hd, vs, _, dd⟩ := dk_rd I.hok e
  obtain ⟨f, hm, hf⟩ := none_map dd
  refine call_meetsIn PySem.F.slot_dict_get dd.typeIs PySem.F.entry_dict_get (PySem.F.args_dict_get_3 _ _ _) (meets_dict_get_default (noneKind X.prog X.w) a (show (noneKind X.prog X.w).is none .none = true from rfl) hd r) ⟨f, hm, ?_⟩
  rw [hf]
  exact h _ (I.tok _)
end
def tDGetN (td ty tx : TE) : TE := fun σ H Q => td σ H fun x H1 => ∃ a, x = .ref a ∧ IsD H1 a ∧ ty σ H1 fun y H2 => tx σ H2 fun z H3 => (∃ o, DGet H3 a y o ∧ Q (o.getD z) H3) ∨ ∃ kvs, y = .non ∧ Rd H3 a (.dK kvs) ∧ Q z H3
section
variable {X : Cx} {o e f : Expr} {apos cpos : Pos} {td ty tx : TE}
theorem pe_dgetN (hu : X.A.units + 1 < cLine) (ho : PE X o td) (he : PE X e ty) (hf : PE X f tx) (m : M2 X o "get" apos e f cpos) : PE X (.Call (.Attribute o "get" apos) [e, f] [] cpos) (tDGetN td ty tx) := by
  refine ⟨fun pins s σ H Q I h => ?_⟩
  refine wpAny_Call_method m.base m.few m.line PySem.F.plainAttrs_dict PySem.F.slot_dict_get PySem.F.type_dict_get (thn (ho.run pins s σ H _ I h) fun u s1 ⟨x, H1, I1, rx, a, ex, d, q1⟩ => ?_)
  subst ex
  obtain rfl : u = Value.ref a := rx
  obtain ⟨t1, t2, _⟩ := isD_at I1 d
  refine ⟨t1, t2, ?_⟩
  rw [m.trees]
  refine Calls.callWith_builtin rfl (Calls.evalArgs_plain (Calls.spliced_cons (thn (he.run pins s1 σ H1 _ I1 q1) fun iv s2 ⟨y, H2, I2, ry, q2⟩ =>
    Calls.spliced_cons (thn (hf.run pins s2 σ H2 _ I2 q2) fun fv s3 ⟨z, H3, I3, rz, q3⟩ => Calls.spliced_nil ?_))))
  rcases q3 with ⟨ov, g, q3⟩ | ⟨kvs, ey, g, q3⟩
  · exact d_get2 hu I3 g ry rz fun w' s4 I4 rw' => ⟨_, H3, I4, rw', q3⟩
  · subst ey
    obtain rfl : iv = Value.none := ry
    exact d_getNone I3 g fun s4 I4 => ⟨z, H3, I4, rz, q3⟩
end
end Wt

set_option Elab.async false
set_option linter.all false
set_option maxRecDepth 100000
set_option maxHeartbeats 4000000
namespace Wt
open PySem PySem.Spec PyProof.Rows L2 SX Evl
/-! A dice made within the law. -/
/-- a dice made on the way -/
def tDice (t : TE) : TE := fun σ H Q => t σ H fun x H1 => ∃ d a i m r, x = .ref d ∧ H1 d = some (.lst [.ref a, .int i, .int m, .int r]) ∧ 0 ≤ i ∧ 0 ≤ m ∧ m < 2147483647 ∧ Q x (upd H1 d (DiceO d a))
theorem pe_dice {X : Cx} {e : Expr} {t : TE} (h : PE X e t) : PE X e (tDice t) := by
  refine ⟨fun pins s σ H Q I hw => ?_⟩
  refine thn (h.run pins s σ _ _ I hw) fun v s1 ⟨x, H1, I1, r, q⟩ => ?_
  obtain ⟨d, a, i, m, rr, rfl, hd, h0, h1, h2, q⟩ := q
  have od := dice_of I1.hok hd h0 h1 h2
  obtain ⟨_, _, _, _, _, _, _, e, _⟩ := id od
  exact ⟨_, _, I1.write (x := d) (e := d) (t' := s1.toks) (h' := s1.heap) (by rw [hd]; exact True.intro) (.inl rfl) (fun b v _ q => q) ⟨_, e⟩ (dice_ok od), r, q⟩
section
variable {K : PySem.W.Frag} {σ : L2.St} {H H' : Hp} {ta te : TE} {D : Ends} {tz : TS}
theorem q_dice0 {i : Nat} {a : Addr} {ns : List Int} (h : EvL te σ H [.ref a, .int 0, .int 0, .int 0]) (hS : Scr K H a ns) (k : ∀ d H1, Ex H H1 → Dc K H1 d a ns → tz D (σ.set i (some (.ref d))) H1) :
    tSeq (tAsg (tDice te) (gName i)) tz D σ H := h H (Ex.refl H) _ fun p H1 hp0 e1 hp =>
    ⟨p, a, 0, 0, 0, rfl, hp, Int.le_refl 0, Int.le_refl 0, by decide, k p _ (Ex.mut e1 hp0) ⟨upd_same, hS.ex (Ex.mut e1 hp0)⟩⟩
theorem q_dice {i : Nat} {a : Addr} {ns : List Int} (ha : Ev ta σ H (.ref a)) (hS : Scr K H a ns) (k : ∀ d H1, Ex H H1 → Dc K H1 d a ns → tz D (σ.set i (some (.ref d))) H1) :
    tSeq (tAsg (tDice (tLst (tCons ta (tCons (tC (.int 0)) (tCons (tC (.int 0)) (tCons (tC (.int 0)) tNil)))))) (gName i)) tz D σ H :=
  q_dice0 (el_lst (ea_cons ha (ea_cons ev_c (ea_cons ev_c (ea_cons ev_c ea_nil)))) (by show 4 ≤ 100000; decide)) hS k
end
end Wt

set_option Elab.async false
set_option linter.all false
set_option maxRecDepth 100000
set_option maxHeartbeats 4000000
/-! Rows over cells and rows of a machine as plain things; how rows are drawn. -/
namespace Wt
open PySem PySem.Spec PyProof.Rows L2 SX Evl
inductive Op
  | add | take | times | over | rest | less | same
deriving DecidableEq, Repr
def opS : Op → Str
  | .add => Str.ofString "add"
  | .take => Str.ofString "take"
  | .times => Str.ofString "times"
  | .over => Str.ofString "over"
  | .rest => Str.ofString "rest"
  | .less => Str.ofString "less"
  | .same => Str.ofString "same"
def fS (b : Bool) : Str := if b then Str.ofString "g" else Str.ofString "f"
def nS (b : Bool) : Str := if b then Str.ofString "db" else Str.ofString "da"
def keepS (b : Bool) : Str := if b then Str.ofString "kb" else Str.ofString "ka"
def kindS (b : Bool) : Str := if b then Str.ofString "yes" else Str.ofString "num"
/-- a row over cells, but for its place -/
inductive Rw
  | begin_ | put (c n : Int) | copy (c d : Int) | op (o : Op) (c d e : Int) | fetch (c : Int) (f n : Bool) | lay (n : Bool) (c : Int)
  | label (k : Int) | go (k : Int) | unless_ (c k : Int) | call (c : Option Int) (f n : Bool) (cs : List Int) | say (k : Bool) (c : Int)
  | give (c : Option Int) | nothing
deriving DecidableEq
def oD : Option Int → PyData
  | none => .none
  | some c => .int c
def rwW : Rw → Str
  | .begin_ => Str.ofString "begin"
  | .put .. => Str.ofString "put"
  | .copy .. => Str.ofString "copy"
  | .op o .. => opS o
  | .fetch .. => Str.ofString "fetch"
  | .lay .. => Str.ofString "lay"
  | .label _ => Str.ofString "label"
  | .go _ => Str.ofString "go"
  | .unless_ .. => Str.ofString "unless"
  | .call .. => Str.ofString "call"
  | .say .. => Str.ofString "say"
  | .give _ => Str.ofString "give"
  | .nothing => Str.ofString "nothing"
def rwA : Rw → List PyData
  | .begin_ => []
  | .put c n => [.int c, .int n]
  | .copy c d => [.int c, .int d]
  | .op _ c d e => [.int c, .int d, .int e]
  | .fetch c f n => [.int c, .str (fS f), .str (keepS n)]
  | .lay n c => [.str (keepS n), .int c]
  | .label k => [.int k]
  | .go k => [.int k]
  | .unless_ c k => [.int c, .int k]
  | .call c f n cs => [oD c, .str (fS f), .str (nS n), .tuple (cs.map .int)]
  | .say k c => [.str (kindS k), .int c]
  | .give c => [oD c]
  | .nothing => []
def rwDs (r : Rw) : List PyData := .str (rwW r) :: rwA r
def plD (p : Int × Int) : PyData := .tuple [.int p.1, .int p.2]
/-- a row with its place -/
abbrev Rp := Rw × (Int × Int)
def rpDs (r : Rp) : List PyData := rwDs r.1 ++ [plD r.2]
def rpD (r : Rp) : PyData := .tuple (rpDs r)
def reads : Rw → List Int
  | .copy _ d => [d]
  | .op _ _ d e => [d, e]
  | .lay _ c => [c]
  | .unless_ c _ => [c]
  | .call _ _ _ cs => cs
  | .say _ c => [c]
  | .give (some c) => [c]
  | _ => []
def writes : Rw → List Int
  | .put c _ => [c]
  | .copy c _ => [c]
  | .op _ c _ _ => [c]
  | .fetch c _ _ => [c]
  | .call (some c) _ _ _ => [c]
  | _ => []
def lab1 : Rw → List Int
  | .label k => [k]
  | _ => []
def labs (rs : List Rw) : List Int := rs.flatMap lab1
def jump1 : Rw → List Int
  | .go k => [k]
  | .unless_ _ k => [k]
  | _ => []
def jumps (rs : List Rw) : List Int := rs.flatMap jump1
/-- rows that go straight on -/
def plain : Rw → Bool
  | .put .. => true
  | .copy .. => true
  | .op .. => true
  | .fetch .. => true
  | .lay .. => true
  | .call .. => true
  | .say .. => true
  | _ => false
def fewC : Rw → Bool
  | .call _ _ _ cs => decide (cs.length ≤ 3)
  | .put _ n => decide (n.natAbs ≤ 1000000)
  | _ => true
/-- how a block is drawn: from laid cells, labels so far, to laid cells, labels then -/
inductive Blk : List Int → Nat → List Rw → List Int → Nat → Prop
  | nil (A : List Int) (n : Nat) : Blk A n [] A n
  | begin_ {A n rs B m} : Blk A n rs B m → Blk A n (rs ++ [.begin_]) B m
  | plain {A n rs B m} {r : Rw} : Blk A n rs B m → plain r = true → fewC r = true → (∀ c ∈ reads r, c ∈ B) → Blk A n (rs ++ [r]) (B ++ writes r) m
  | choice1 {A n rs B m r1 B1 m1} {c : Int} : Blk A n rs B m → c ∈ B → Blk B (m + 2) r1 B1 m1 →
      Blk A n (rs ++ ([.unless_ c (m : Int)] ++ r1 ++ [.go ((m : Int) + 1), .label (m : Int), .label ((m : Int) + 1)])) B m1
  | choice2 {A n rs B m r1 B1 m1 r2 B2 m2} {c : Int} : Blk A n rs B m → c ∈ B → Blk B (m + 2) r1 B1 m1 → Blk B m1 r2 B2 m2 →
      Blk A n (rs ++ ([.unless_ c (m : Int)] ++ r1 ++ [.go ((m : Int) + 1), .label (m : Int)] ++ r2 ++ [.label ((m : Int) + 1)])) B m2
  | round {A n rs B m r1 B1 m1} {c x : Int} : Blk A n rs B m → x.natAbs ≤ 1000000 → Blk (B ++ [c, c + 1]) (m + 2) r1 B1 m1 →
      Blk A n (rs ++ ([.put c x, .put (c + 1) 1, .label (m : Int), .begin_, .unless_ c ((m : Int) + 1)] ++ r1 ++ [.op .take c c (c + 1), .go (m : Int), .label ((m : Int) + 1)])) (B ++ [c, c + 1]) m1
theorem Blk.app {A n rs B m rs2 C k} (h : Blk A n rs B m) (g : Blk B m rs2 C k) : Blk A n (rs ++ rs2) C k := by
  induction g with
  | nil => rw [List.append_nil]; exact h
  | begin_ _ ih => rw [← List.append_assoc]; exact .begin_ (ih h)
  | plain _ h1 h2 h3 ih => rw [← List.append_assoc]; exact .plain (ih h) h1 h2 h3
  | choice1 _ hc h1 ih _ => rw [← List.append_assoc]; exact .choice1 (ih h) hc h1
  | choice2 _ hc h1 h2 ih _ _ => rw [← List.append_assoc]; exact .choice2 (ih h) hc h1 h2
  | round _ hx h1 ih _ => rw [← List.append_assoc]; exact .round (ih h) hx h1
theorem labs_app (rs ss : List Rw) : labs (rs ++ ss) = labs rs ++ labs ss := List.flatMap_append
theorem jumps_app (rs ss : List Rw) : jumps (rs ++ ss) = jumps rs ++ jumps ss := List.flatMap_append
theorem labs_plain {r : Rw} (h : plain r = true) : labs [r] = [] := by cases r <;> first | rfl | cases h
theorem jumps_plain {r : Rw} (h : plain r = true) : jumps [r] = [] := by cases r <;> first | rfl | cases h
theorem Blk.up {A n rs B m} (h : Blk A n rs B m) : n ≤ m := by
  induction h with
  | nil => exact Nat.le_refl _
  | begin_ _ ih => exact ih
  | plain _ _ _ _ ih => exact ih
  | choice1 _ _ _ ih ih1 => omega
  | choice2 _ _ _ _ ih ih1 ih2 => omega
  | round _ _ _ ih ih1 => omega
/-- each label told once, between n and m; each way leads to one of them -/
structure LabOk (n m : Nat) (rs : List Rw) : Prop where
  nd : (labs rs).Nodup
  is : ∀ k : Int, k ∈ labs rs ↔ (n : Int) ≤ k ∧ k < (m : Int)
  js : ∀ k ∈ jumps rs, (n : Int) ≤ k ∧ k < (m : Int)
theorem nodup_app {α : Type} {xs ys : List α} (h1 : xs.Nodup) (h2 : ys.Nodup) (h : ∀ x ∈ xs, x ∉ ys) : (xs ++ ys).Nodup := by
  rw [List.nodup_append]
  exact ⟨h1, h2, fun a ha b hb e => h a ha (e ▸ hb)⟩
theorem Blk.lab {A n rs B m} (h : Blk A n rs B m) : LabOk n m rs := by
  induction h with
  | nil A n => exact ⟨List.nodup_nil, fun k => ⟨fun h => (by cases h), fun h => (by omega)⟩, fun k h => (by cases h)⟩
  | begin_ _ ih =>
    refine ⟨?_, ?_, ?_⟩
    · rw [labs_app]; exact (List.append_nil _).symm ▸ ih.nd
    · intro k
      rw [labs_app]
      exact (List.append_nil _).symm ▸ ih.is k
    · intro k
      rw [jumps_app]
      exact (List.append_nil _).symm ▸ ih.js k
  | plain _ hp _ _ ih =>
    refine ⟨?_, ?_, ?_⟩
    · rw [labs_app, labs_plain hp, List.append_nil]; exact ih.nd
    · intro k
      rw [labs_app, labs_plain hp, List.append_nil]; exact ih.is k
    · intro k
      rw [jumps_app, jumps_plain hp, List.append_nil]; exact ih.js k
  | @choice1 A n rs B m r1 B1 m1 c h0 hc h1 ih ih1 =>
    have u0 := h0.up
    have u1 := h1.up
    have el : labs (rs ++ ([.unless_ c (m : Int)] ++ r1 ++ [.go ((m : Int) + 1), .label (m : Int), .label ((m : Int) + 1)])) = labs rs ++ (labs r1 ++ [(m : Int), (m : Int) + 1]) := by
      rw [labs_app, labs_app, labs_app] <;> rfl
    have ej : jumps (rs ++ ([.unless_ c (m : Int)] ++ r1 ++ [.go ((m : Int) + 1), .label (m : Int), .label ((m : Int) + 1)])) = jumps rs ++ ((m : Int) :: (jumps r1 ++ [(m : Int) + 1])) := by
      rw [jumps_app, jumps_app, jumps_app] <;> rfl
    refine ⟨?_, ?_, ?_⟩
    · rw [el]
      refine nodup_app ih.nd (nodup_app ih1.nd (by simp; omega) fun x hx hy => ?_) fun x hx hy => ?_
      · have := (ih1.is x).mp hx
        simp only [List.mem_cons, List.not_mem_nil, or_false] at hy
        omega
      · have a := (ih.is x).mp hx
        rcases List.mem_append.mp hy with hy | hy
        · have := (ih1.is x).mp hy
          omega
        · simp only [List.mem_cons, List.not_mem_nil, or_false] at hy
          omega
    · intro k
      rw [el, List.mem_append, List.mem_append, ih.is, ih1.is]
      simp only [List.mem_cons, List.not_mem_nil, or_false]
      omega
    · intro k hk
      rw [ej, List.mem_append, List.mem_cons, List.mem_append] at hk
      simp only [List.mem_cons, List.not_mem_nil, or_false] at hk
      rcases hk with hk | hk | hk | hk
      · have := ih.js k hk; omega
      · omega
      · have := ih1.js k hk; omega
      · omega
  | @choice2 A n rs B m r1 B1 m1 r2 B2 m2 c h0 hc h1 h2 ih ih1 ih2 =>
    have u0 := h0.up
    have u1 := h1.up
    have u2 := h2.up
    have el : labs (rs ++ ([.unless_ c (m : Int)] ++ r1 ++ [.go ((m : Int) + 1), .label (m : Int)] ++ r2 ++ [.label ((m : Int) + 1)])) = labs rs ++ ((labs r1 ++ [(m : Int)]) ++ (labs r2 ++ [(m : Int) + 1])) := by
      rw [labs_app, labs_app, labs_app, labs_app, labs_app]
      show labs rs ++ (([] ++ labs r1) ++ [(m : Int)] ++ labs r2 ++ [(m : Int) + 1]) = _
      simp only [List.nil_append, List.append_assoc]
    have ej : jumps (rs ++ ([.unless_ c (m : Int)] ++ r1 ++ [.go ((m : Int) + 1), .label (m : Int)] ++ r2 ++ [.label ((m : Int) + 1)])) = jumps rs ++ ((m : Int) :: (jumps r1 ++ ((m : Int) + 1) :: jumps r2)) := by
      rw [jumps_app, jumps_app, jumps_app, jumps_app, jumps_app]
      show jumps rs ++ (([(m : Int)] ++ jumps r1) ++ [(m : Int) + 1] ++ jumps r2 ++ []) = _
      simp only [List.nil_append, List.append_assoc, List.cons_append, List.append_nil]
    refine ⟨?_, ?_, ?_⟩
    · rw [el]
      refine nodup_app ih.nd (nodup_app (nodup_app ih1.nd (by simp) fun x hx hy => ?_) (nodup_app ih2.nd (by simp) fun x hx hy => ?_) fun x hx hy => ?_) fun x hx hy => ?_
      · have := (ih1.is x).mp hx
        simp only [List.mem_cons, List.not_mem_nil, or_false] at hy
        omega
      · have := (ih2.is x).mp hx
        simp only [List.mem_cons, List.not_mem_nil, or_false] at hy
        omega
      · simp only [List.mem_append, List.mem_cons, List.not_mem_nil, or_false, ih1.is, ih2.is] at hx hy
        omega
      · simp only [List.mem_append, List.mem_cons, List.not_mem_nil, or_false, ih.is, ih1.is, ih2.is] at hx hy
        omega
    · intro k
      rw [el]
      simp only [List.mem_append, List.mem_cons, List.not_mem_nil, or_false, ih.is, ih1.is, ih2.is]
      omega
    · intro k hk
      rw [ej] at hk
      simp only [List.mem_append, List.mem_cons, List.not_mem_nil, or_false] at hk
      rcases hk with hk | hk | hk | hk | hk
      · have := ih.js k hk; omega
      · omega
      · have := ih1.js k hk; omega
      · omega
      · have := ih2.js k hk; omega
  | @round A n rs B m r1 B1 m1 c x h0 hx h1 ih ih1 =>
    have u0 := h0.up
    have u1 := h1.up
    have el : labs (rs ++ ([.put c x, .put (c + 1) 1, .label (m : Int), .begin_, .unless_ c ((m : Int) + 1)] ++ r1 ++ [.op .take c c (c + 1), .go (m : Int), .label ((m : Int) + 1)])) = labs rs ++ ((m : Int) :: (labs r1 ++ [(m : Int) + 1])) := by
      rw [labs_app, labs_app, labs_app] <;> rfl
    have ej : jumps (rs ++ ([.put c x, .put (c + 1) 1, .label (m : Int), .begin_, .unless_ c ((m : Int) + 1)] ++ r1 ++ [.op .take c c (c + 1), .go (m : Int), .label ((m : Int) + 1)])) = jumps rs ++ (((m : Int) + 1) :: (jumps r1 ++ [(m : Int)])) := by
      rw [jumps_app, jumps_app, jumps_app] <;> rfl
    refine ⟨?_, ?_, ?_⟩
    · rw [el]
      refine nodup_app ih.nd (List.nodup_cons.mpr ⟨fun hy => ?_, nodup_app ih1.nd (by simp) fun x hx hy => ?_⟩) fun x hx hy => ?_
      · simp only [List.mem_append, List.mem_cons, List.not_mem_nil, or_false, ih1.is] at hy
        omega
      · simp only [List.mem_cons, List.not_mem_nil, or_false, ih1.is] at hx hy
        omega
      · simp only [List.mem_append, List.mem_cons, List.not_mem_nil, or_false, ih.is, ih1.is] at hx hy
        omega
    · intro k
      rw [el]
      simp only [List.mem_append, List.mem_cons, List.not_mem_nil, or_false, ih.is, ih1.is]
      omega
    · intro k hk
      rw [ej] at hk
      simp only [List.mem_append, List.mem_cons, List.not_mem_nil, or_false] at hk
      rcases hk with hk | hk | hk | hk
      · have := ih.js k hk; omega
      · omega
      · have := ih1.js k hk; omega
      · omega

/-! ### rows of the machine -/
inductive Mr
  | row | nothing | push (n : Int) | load (c : Int) | store (c : Int) | fetch (f n : Bool) | lay (n : Bool) | op (o : Op) | jump (k : Int) | unless_ (k : Int)
  | call (f n : Bool) (many : Nat) | give (some_ : Bool) | say (k : Bool)
deriving DecidableEq
def mrW : Mr → Str
  | .row => Str.ofString "row"
  | .nothing => Str.ofString "nothing"
  | .push _ => Str.ofString "push"
  | .load _ => Str.ofString "load"
  | .store _ => Str.ofString "store"
  | .fetch .. => Str.ofString "fetch"
  | .lay _ => Str.ofString "lay"
  | .op o => opS o
  | .jump _ => Str.ofString "jump"
  | .unless_ _ => Str.ofString "unless"
  | .call .. => Str.ofString "call"
  | .give _ => Str.ofString "give"
  | .say _ => Str.ofString "say"
def mrA : Mr → List PyData
  | .row => []
  | .nothing => []
  | .push n => [.int n]
  | .load c => [.int c]
  | .store c => [.int c]
  | .fetch f n => [.str (fS f), .str (keepS n)]
  | .lay n => [.str (keepS n)]
  | .op _ => []
  | .jump k => [.int k]
  | .unless_ k => [.int k]
  | .call f n many => [.str (fS f), .str (nS n), .int (many : Int)]
  | .give b => [.int (if b then 1 else 0)]
  | .say k => [.str (kindS k)]
def mrDs (m : Mr) : List PyData := .str (mrW m) :: mrA m
def mrD (m : Mr) : PyData := .tuple (mrDs m)
/-- .. with the number of the row from which it comes -/
def mkDs (m : Mr × Nat) : List PyData := mrDs m.1 ++ [.int (m.2 : Int)]
def mkD (m : Mr × Nat) : PyData := .tuple (mkDs m)
def rowsFor : Rw → List Mr
  | .begin_ => [.row]
  | .nothing => [.nothing]
  | .put c n => [.push n, .store c]
  | .copy c d => [.load d, .store c]
  | .fetch c f n => [.fetch f n, .store c]
  | .op o c d e => [.load d, .load e, .op o, .store c]
  | .call none f n cs => cs.map .load ++ [.call f n cs.length]
  | .call (some c) f n cs => cs.map .load ++ [.call f n cs.length] ++ [.store c]
  | .give none => [.give false]
  | .give (some c) => [.load c, .give true]
  | .lay n c => [.load c, .lay n]
  | .say k c => [.load c, .say k]
  | .go k => [.jump k]
  | .unless_ c k => [.load c, .unless_ k]
  | .label _ => []
/-- rows from the i-th on, each with its number -/
def madeFrom : Nat → List Rw → List (Mr × Nat)
  | _, [] => []
  | i, r :: rs => (rowsFor r).map (fun m => (m, i)) ++ madeFrom (i + 1) rs
/-- how many machine rows stand ahead of the i-th row -/
def first (rs : List Rw) (i : Nat) : Nat := ((rs.take i).flatMap rowsFor).length
def withNum (at_ : Int → Int) : Mr → Mr
  | .jump k => .jump (at_ k)
  | .unless_ k => .unless_ (at_ k)
  | m => m
/-- each label with the number of its row -/
def labAt : Nat → List Rw → List (Int × Nat)
  | _, [] => []
  | i, r :: rs => (lab1 r).map (fun k => (k, i)) ++ labAt (i + 1) rs
def goal (rs : List Rw) (k : Int) : Int :=
  match (labAt 0 rs).lookup k with
  | some i => (first rs i : Int)
  | none => 0
def machine (rs : List Rw) : List (Mr × Nat) := (madeFrom 0 rs).map fun m => (withNum (goal rs) m.1, m.2)
/-- rows as machine_of is handed them -/
structure RowsOk (rs : List Rw) : Prop where
  nd : (labs rs).Nodup
  js : ∀ k ∈ jumps rs, k ∈ labs rs
  few : rs.length ≤ 400
  cs : ∀ r ∈ rs, fewC r = true
theorem labAt_fst : ∀ (i : Nat) (rs : List Rw), (labAt i rs).map Prod.fst = labs rs
  | _, [] => rfl
  | i, r :: rs => by
    have ih := labAt_fst (i + 1) rs
    have e : labs (r :: rs) = lab1 r ++ labs rs := List.flatMap_cons
    rw [e, ← ih]
    cases r <;> rfl
theorem labAt_at : ∀ {i : Nat} {rs : List Rw} {p : Int × Nat}, p ∈ labAt i rs → ∃ j, p.2 = i + j ∧ rs[j]? = some (.label p.1)
  | _, [], p, h => by cases h
  | i, r :: rs, p, h => by
    unfold labAt at h
    rcases List.mem_append.mp h with h | h
    · obtain ⟨k, hk, rfl⟩ := List.mem_map.mp h
      cases r with
      | label k2 =>
        have e : k = k2 := List.mem_singleton.mp hk
        subst e
        exact ⟨0, rfl, rfl⟩
      | _ => cases hk
    · obtain ⟨j, h1, h2⟩ := labAt_at h
      exact ⟨j + 1, by omega, h2⟩
theorem labAt_bound {i : Nat} {rs : List Rw} {p : Int × Nat} (h : p ∈ labAt i rs) : i ≤ p.2 ∧ p.2 < i + rs.length := by
  obtain ⟨j, h1, h2⟩ := labAt_at h
  have := (List.getElem?_eq_some_iff.mp h2).1
  omega
theorem lookup_mem {α β : Type} [BEq α] [LawfulBEq α] {k : α} : ∀ {l : List (α × β)}, k ∈ l.map Prod.fst → ∃ v, l.lookup k = some v ∧ (k, v) ∈ l
  | [], h => by cases h
  | (a, b) :: l, h => by
    by_cases e : k = a
    · subst e
      exact ⟨b, by simp [List.lookup], List.mem_cons_self ..⟩
    · have h2 : k ∈ l.map Prod.fst := by
        rcases List.mem_cons.mp h with z | z
        · exact absurd z e
        · exact z
      obtain ⟨v, h3, h4⟩ := lookup_mem h2
      refine ⟨v, ?_, List.mem_cons_of_mem _ h4⟩
      have : (k == a) = false := by simpa using e
      simp [List.lookup, this, h3]
theorem rowsFor_len (r : Rw) (h : fewC r = true) : (rowsFor r).length ≤ 5 := by
  cases r with
  | call c f n cs =>
    have hc : cs.length ≤ 3 := of_decide_eq_true h
    cases c <;> (unfold rowsFor; simp; omega)
  | give c => cases c <;> (unfold rowsFor; simp)
  | _ => unfold rowsFor; simp
theorem madeFrom_len : ∀ (i : Nat) (rs : List Rw), (madeFrom i rs).length = (rs.flatMap rowsFor).length
  | _, [] => rfl
  | i, r :: rs => by
    unfold madeFrom
    rw [List.length_append, List.length_map, madeFrom_len (i + 1) rs, List.flatMap_cons, List.length_append]
theorem flat_len : ∀ (rs : List Rw), (∀ r ∈ rs, fewC r = true) → (rs.flatMap rowsFor).length ≤ 5 * rs.length
  | [], _ => Nat.zero_le _
  | r :: rs, h => by
    rw [List.flatMap_cons, List.length_append, List.length_cons]
    have := rowsFor_len r (h r (List.mem_cons_self ..))
    have := flat_len rs fun x hx => h x (List.mem_cons_of_mem _ hx)
    omega
theorem madeFrom_app : ∀ (i : Nat) (rs ss : List Rw), madeFrom i (rs ++ ss) = madeFrom i rs ++ madeFrom (i + rs.length) ss
  | i, [], ss => rfl
  | i, r :: rs, ss => by
    show (rowsFor r).map (fun m => (m, i)) ++ madeFrom (i + 1) (rs ++ ss) = ((rowsFor r).map (fun m => (m, i)) ++ madeFrom (i + 1) rs) ++ madeFrom (i + (rs.length + 1)) ss
    rw [madeFrom_app (i + 1) rs ss, List.append_assoc, show i + 1 + rs.length = i + (rs.length + 1) by omega]
theorem labAt_app : ∀ (i : Nat) (rs ss : List Rw), labAt i (rs ++ ss) = labAt i rs ++ labAt (i + rs.length) ss
  | i, [], ss => rfl
  | i, r :: rs, ss => by
    show (lab1 r).map (fun k => (k, i)) ++ labAt (i + 1) (rs ++ ss) = ((lab1 r).map (fun k => (k, i)) ++ labAt (i + 1) rs) ++ labAt (i + (rs.length + 1)) ss
    rw [labAt_app (i + 1) rs ss, List.append_assoc, show i + 1 + rs.length = i + (rs.length + 1) by omega]
theorem madeFrom_mem : ∀ {i : Nat} {rs : List Rw} {m : Mr × Nat}, m ∈ madeFrom i rs → ∃ j r, rs[j]? = some r ∧ m.2 = i + j ∧ m.1 ∈ rowsFor r
  | i, [], m, h => by cases h
  | i, r :: rs, m, h => by
    unfold madeFrom at h
    rcases List.mem_append.mp h with h | h
    · obtain ⟨x, hx, rfl⟩ := List.mem_map.mp h
      exact ⟨0, r, rfl, rfl, hx⟩
    · obtain ⟨j, q, h1, h2, h3⟩ := madeFrom_mem h
      exact ⟨j + 1, q, h1, by omega, h3⟩
theorem jump_mem {r : Rw} {m : Mr} {k : Int} (h : m ∈ rowsFor r) (hm : m = .jump k ∨ m = .unless_ k) : jumps [r] = [k] := by
  cases r with
  | go k2 =>
    have e : m = .jump k2 := List.mem_singleton.mp h
    rcases hm with rfl | rfl
    · cases e; rfl
    · cases e
  | unless_ c k2 =>
    simp only [rowsFor, List.mem_cons, List.not_mem_nil, or_false] at h
    rcases hm with rfl | rfl
    · rcases h with e | e <;> cases e
    · rcases h with e | e
      · cases e
      · cases e
        rfl
  | call c f n cs =>
    exfalso
    cases c <;> (simp only [rowsFor, List.mem_append, List.mem_map, List.mem_cons, List.not_mem_nil, or_false] at h; rcases hm with rfl | rfl <;> simp at h)
  | give c =>
    exfalso
    cases c <;> (simp only [rowsFor, List.mem_cons, List.not_mem_nil, or_false] at h; rcases hm with rfl | rfl <;> simp at h)
  | _ =>
    exfalso
    rcases hm with rfl | rfl <;> simp [rowsFor] at h
theorem jumps_mem {rs : List Rw} {j : Nat} {r : Rw} {k : Int} (h : rs[j]? = some r) (hk : jumps [r] = [k]) : k ∈ jumps rs := by
  refine List.mem_flatMap.mpr ⟨r, List.mem_of_getElem? h, ?_⟩
  have e : jumps [r] = jump1 r := by unfold jumps; rw [List.flatMap_cons, List.flatMap_nil, List.append_nil]
  rw [← e, hk]
  exact List.mem_singleton.mpr rfl
end Wt

set_option Elab.async false
set_option linter.all false
set_option maxRecDepth 100000
set_option maxHeartbeats 4000000
/-! What the top leaves, as it is looked at. -/
namespace Wt
open PySem PySem.Spec PyProof.Rows L2 SX Evl
def absS : Value → Option (List Nat)
  | .str x _ => some x.cps.toList
  | _ => none
theorem vals_abs : ∀ (us : List Value) (ws : List (List Nat)), us.map absS = ws.map some → Vals (ws.map fun z => V.str (S z)) us
  | [], [], _ => .nil
  | [], _ :: _, h => by cases h
  | _ :: _, [], h => by cases h
  | u :: us, w :: ws, h => by
    rw [List.map_cons, List.map_cons] at h
    injection h with h1 h2
    refine .cons ?_ (vals_abs us ws h2)
    cases u with
    | str x t =>
      have e : x.cps.toList = w := Option.some.inj h1
      subst e
      exact ⟨t, by rw [S_tl]⟩
    | _ => cases h1
theorem tup_written {K : PySem.W.Frag} {a : Addr} {od : Option Addr} {its : Array Value} {n : Nat} {sl : Array (Option Value)} {ws : List (List Nat)} (l : K.lookup a = some ⟨.type "tuple", od, .seq its n, sl⟩) (v : its.toList.map absS = ws.map some) (hl : ws.length ≤ 1000) (H : Hp) :
    SqT K H a (ws.map fun z => V.str (S z)) := by
  have r := vals_abs _ _ v
  refine .inr ⟨_, its, n, l, rfl, rfl, ?_, r⟩
  have e := r.length
  rw [List.length_map] at e
  rw [← Array.length_toList, ← e]
  exact Nat.le_of_lt (small1000 hl)
theorem str_written {mg : Str → Option Value} {x y : Str} {t : Tok} {l : List Nat} (h : mg x = some (.str y t)) (e : y = S l) : ∃ u, mg x = some u ∧ RelV (.str (S l)) u := ⟨_, h, t, by rw [e]⟩
/-- a code object's table -/
def ptOf (K : PySem.W.Frag) (c : Addr) : Addr := match K.lookup c with
  | some ⟨_, _, .fields vs, _⟩ => match (vs[11]? : Option Value) with
    | some (.ref p) => p
    | _ => 0
  | _ => 0
theorem mem_elem {a : Addr} {l : List Addr} (h : l.elem a = true) : a ∈ l := List.elem_iff.mp h
end Wt

set_option Elab.async false
set_option linter.all false
set_option maxRecDepth 100000
set_option maxHeartbeats 4000000
namespace Wt
open PySem PySem.Spec PyProof.Rows L2 SX Evl
open C8 (Def Cal cal0 fnScope_by fnScope)
/-! The program: rows of a machine. -/
structure ModsM (K : PySem.W.Frag) (mg : Str → Option Value) (aG : Addr) : Prop where
  m_len : mg "len" = none
  m_enumerate : mg "enumerate" = none
  g_SIGNED : ∃ u, mg "SIGNED" = some u ∧ RelV (.ref aG) u
  sG : ∀ H : Hp, SqT K H aG [V.str (Str.ofString "add"), .str (Str.ofString "take"), .str (Str.ofString "times"), .str (Str.ofString "over"), .str (Str.ofString "rest"), .str (Str.ofString "less"), .str (Str.ofString "same")]
section
variable {P : Program} {w : World} {K : PySem.W.Frag} {mg : Str → Option Value} {base : Heap} {aG : Addr}
/-! ### rows_for_call -/
abbrev s_rows_for_call : Stmt := topS 6
theorem sc_rows_for_call : FnScope ["row", "_", "cell", "file", "name", "given", "made", "one"] ["row"] (fnScope s_rows_for_call) := fnScope_by (by decide +kernel)
def cellV : Option Int → V
  | none => .non
  | some c => .int c
theorem td_cell {H : Hp} {x : V} {c : Option Int} (h : Td H x (oD c)) : x = cellV c := by
  cases c with
  | none => cases h; rfl
  | some c => cases h; rfl
def spRowsCall (K : PySem.W.Frag) : Sp := fun vs H Q _ => ∃ (v : V) (c : Option Int) (f n : Bool) (cs : List Int) (pl : Int × Int), vs = [v] ∧ Td H v (rpD (.call c f n cs, pl)) ∧ cs.length ≤ 3 ∧ RetDL ((rowsFor (.call c f n cs)).map mrD) H Q
theorem ok_rows_for_call (T : ModsM K mg aG) {f : Addr} {fd : FuncData} (F : Def K mg "rows_for_call" s_rows_for_call f fd) (b : Binds K fd ["row"] []) : Cal P w K mg base 1 "rows_for_call" (spRowsCall K) [] := by
  refine cal0 F b .nil sc_rows_for_call (fun vs H Q E h => ?_) (fun cdv A outer s H vs Q E hr h => ?_)
  · obtain ⟨_, _, _, _, _, _, rfl, _⟩ := h
    rfl
  · obtain ⟨v, c, fb, nb, cs, pl, rfl, hv, hl, q⟩ := h
    have m_len := T.m_len
    have hu := hu_of hr
    have hu64 := hr.units
    refine ⟨_, (pss_cons (ps_asg (pv 0) (pg_tup rfl (pgs_cons (pg_name (i := 1) sc_rows_for_call.nd rfl (.inl rfl)) (pgs_cons (pg_name (i := 2) sc_rows_for_call.nd rfl (.inl rfl)) (pgs_cons (pg_name (i := 3) sc_rows_for_call.nd rfl (.inl rfl)) (pgs_cons (pg_name (i := 4) sc_rows_for_call.nd rfl (.inl rfl)) (pgs_cons (pg_name (i := 5) sc_rows_for_call.nd rfl (.inl rfl)) (pgs_cons (pg_name (i := 1) sc_rows_for_call.nd rfl (.inl rfl)) pgs_nil))))))))
      (pss_cons (ps_setLc (i := 6) (own := [("one", 7)]) (g := (gName 7)) (tt := tYes) rfl sc_rows_for_call.nd rfl rfl (sw_true rfl rfl rfl (by decide +kernel)) (pi_tup (pv 5)) (blkOk_by (N := ["row", "_", "cell", "file", "name", "given", "made", "one"]) (sc := C8.fnScope s_rows_for_call) (by decide +kernel)) (fun _ _ _ _ _ => pg_name (i := 7) sc_rows_for_call.nd rfl (Or.inl rfl)) (fun _ _ _ _ _ => pts_nil) (fun _ _ _ _ _ => (pe_tup (pa_cons pe_str (pa_cons (pv 7) pa_nil)))))
      (pss_cons (ps_expr (pe_bm PySem.F.plainAttrs_list PySem.F.slot_list_append PySem.F.type_list_append mt_append (pv 6) (pa_cons (pe_tup (pa_cons pe_str (pa_cons (pv 3) (pa_cons (pv 4) (pa_cons (pe_callB call_len_seq (by rfl) m_len PySem.boot_len (pa_cons (pv 5) pa_nil)) pa_nil))))) pa_nil)))
      (pss_cons (ps_if (pt_cmpR op_notN (pv 2) pe_non (nomark _)) (pss_one (ps_expr (pe_bm PySem.F.plainAttrs_list PySem.F.slot_list_append PySem.F.type_list_append mt_append (pv 6) (pa_cons (pe_tup (pa_cons pe_str (pa_cons (pv 2) pa_nil))) pa_nil)))) pss_nil)
      (pss_one (ps_ret (pv 6))))))), ?_⟩
    cases hv with
    | @tup a xs _ ha hT =>
      cases hT with
      | @cons x0 _ _ _ t0 hT =>
      cases hT with
      | @cons x1 _ _ _ t1 hT =>
      cases hT with
      | @cons x2 _ _ _ t2 hT =>
      cases hT with
      | @cons x3 _ _ _ t3 hT =>
      cases hT with
      | @cons x4 _ _ _ t4 hT =>
      cases hT with
      | @cons x5 _ _ _ t5 hT =>
      cases hT
      have e1 := td_cell t1
      subst e1
      cases t2
      cases t3
      cases t4 with
      | @tup ac ys _ hac hcs =>
      refine q_unpack (ev_var rfl) ha rfl fun H1 e1 => ⟨_, _, rfl, _, _, rfl, _, _, rfl, _, _, rfl, _, _, rfl, _, _, rfl, rfl, ?_⟩
      have hac1 := e1 _ _ hac
      have hcs1 := TdAll.tx (Tx.of e1) _ _ hcs
      have lcs : ys.length = cs.length := by rw [hcs.len, List.length_map]
      refine q_asgDL (edl_lcT (f := fun d => .tuple [.str (Str.ofString "load"), d]) (ev_var rfl) hac1 hcs1 (by rw [List.length_map]; omega) (fun _ => rfl) fun x d H2 e2 _ hx => ed_tup (ead_cons (ed_str ev_c) (ead_cons (ed_of (ev_var rfl) hx) ead_nil)) (by show 2 ≤ 100000; decide)) fun p H2 vs hp e2 hpl hvs => ?_
      have lvs : vs.length = cs.length := by rw [hvs.len, List.length_map, List.length_map]
      have hac2 := e2 _ _ hac1
      refine q_appD hpl (ev_var rfl) (ed_tup (ead_cons (ed_str ev_c) (ead_cons (ed_str (ev_var rfl)) (ead_cons (ed_str (ev_var rfl)) (ead_cons (ed_is (ed_int (ev_lenT (K := K) (ev_var rfl) (st_of hac2))) (congrArg PyData.int (by rw [lcs]))) ead_nil)))) (by show 4 ≤ 100000; decide)) (by omega) fun x3 H3 e3 hx3 => ?_
      have hpl3 := e3 _ _ hpl
      have tx3 : Tx H3 (upd H3 p (.lst (vs ++ [x3]))) := Tx.lst hpl3
      have hvs4 := (TdAll.tx ((Tx.of e3).trans tx3) _ _ hvs).snoc (Td.tx tx3 _ _ hx3)
      have e14 : Ex H (upd H3 p (.lst (vs ++ [x3]))) := Ex.mut (e1.trans (e2.trans e3)) (fresh_back e1 hp)
      have hp0 : H p = none := fresh_back e1 hp
      have hpl4 : (upd H3 p (.lst (vs ++ [x3]))) p = some (.lst (vs ++ [x3])) := upd_same
      generalize upd H3 p (.lst (vs ++ [x3])) = H4 at hvs4 e14 hpl4 ⊢
      have eL : (cs.map PyData.int).map (fun d => PyData.tuple [.str (Str.ofString "load"), d]) ++ [.tuple [.str (Str.ofString "call"), .str (fS fb), .str (nS nb), .int (cs.length : Int)]] = (cs.map Mr.load ++ [Mr.call fb nb cs.length]).map mrD := by
        rw [List.map_append, List.map_map, List.map_map] <;> rfl
      rw [eL] at hvs4
      cases c with
      | none =>
        refine q_when (b := false) (et_notNone (ev_var rfl) rfl) (fun z => by cases z) (fun _ H5 e5 => ?_)
        refine s_ret (ev_var rfl) fun H6 e6 => q p H6 _ hp0 (e14.trans (e5.trans e6)) ((e5.trans e6) _ _ hpl4) (TdAll.tx (Tx.of (e5.trans e6)) _ _ hvs4)
      | some c =>
        refine q_when (b := true) (et_notNone (ev_var rfl) rfl) (fun _ H5 e5 => ?_) (fun z => by cases z)
        have hpl5 := e5 _ _ hpl4
        refine s_appD hpl5 (ev_var rfl) (ed_tup (ead_cons (ed_str ev_c) (ead_cons (ed_int (ev_var rfl)) ead_nil)) (by show 2 ≤ 100000; decide)) (by rw [List.length_append]; show vs.length + 1 < 100000; omega) fun x6 H6 e6 hx6 => ?_
        have hpl6 := e6 _ _ hpl5
        have tx6 : Tx H6 (upd H6 p (.lst (vs ++ [x3] ++ [x6]))) := Tx.lst hpl6
        have hvs7 := (TdAll.tx ((Tx.of (e5.trans e6)).trans tx6) _ _ hvs4).snoc (Td.tx tx6 _ _ hx6)
        have e17 : Ex H (upd H6 p (.lst (vs ++ [x3] ++ [x6]))) := Ex.mut (e14.trans (e5.trans e6)) hp0
        dsimp only
        refine s_ret (ev_var rfl) fun H8 e8 => q p H8 _ hp0 (e17.trans e8) (e8 _ _ upd_same) (TdAll.tx (Tx.of e8) _ _ ?_)
        show TdAll _ _ ((cs.map Mr.load ++ [Mr.call fb nb cs.length] ++ [Mr.store c]).map mrD)
        rw [List.map_append (l₁ := cs.map Mr.load ++ [Mr.call fb nb cs.length])]
        exact hvs7
/-! ### rows_for_way -/
abbrev s_rows_for_way : Stmt := topS 7
theorem sc_rows_for_way : FnScope ["row"] ["row"] (fnScope s_rows_for_way) := fnScope_by (by decide +kernel)
def wayR : Rw → Bool
  | .go _ => true
  | .unless_ .. => true
  | .label _ => true
  | _ => false
def spRowsWay (K : PySem.W.Frag) : Sp := fun vs H Q _ => ∃ (v : V) (r : Rw) (pl : Int × Int), vs = [v] ∧ Td H v (rpD (r, pl)) ∧ wayR r = true ∧ RetDL ((rowsFor r).map mrD) H Q
theorem ok_rows_for_way (T : ModsM K mg aG) {f : Addr} {fd : FuncData} (F : Def K mg "rows_for_way" s_rows_for_way f fd) (b : Binds K fd ["row"] []) : Cal P w K mg base 1 "rows_for_way" (spRowsWay K) [] := by
  refine cal0 F b .nil sc_rows_for_way (fun vs H Q E h => ?_) (fun cdv A outer s H vs Q E hr h => ?_)
  · obtain ⟨_, _, _, rfl, _⟩ := h
    rfl
  · obtain ⟨v, r, pl, rfl, hv, hw, q⟩ := h

    have hu := hu_of hr
    have hu64 := hr.units
    refine ⟨_, (pss_cons (ps_if (pt_cmpR op_eq (pe_ix ix_tup (pv 0) pe_int (fun _ _ => rfl)) pe_str (nomark _)) (pss_one (ps_ret (pe_lst (pa_cons (pe_tup (pa_cons pe_str (pa_cons (pe_ix ix_tup (pv 0) pe_int (fun _ _ => rfl)) pa_nil))) pa_nil)))) pss_nil)
      (pss_cons (ps_if (pt_cmpR op_eq (pe_ix ix_tup (pv 0) pe_int (fun _ _ => rfl)) pe_str (nomark _)) (pss_one (ps_ret (pe_lst (pa_cons (pe_tup (pa_cons pe_str (pa_cons (pe_ix ix_tup (pv 0) pe_int (fun _ _ => rfl)) pa_nil))) (pa_cons (pe_tup (pa_cons pe_str (pa_cons (pe_ix ix_tup (pv 0) pe_int (fun _ _ => rfl)) pa_nil))) pa_nil))))) pss_nil)
      (pss_one (ps_ret (pe_lst pa_nil))))), ?_⟩
    have hvx : ∀ H', Ex H H' → Td H' v (.tuple (rpDs (r, pl))) := fun H' e => Td.tx (Tx.of e) _ _ hv
    have t0 : ∀ {σ : L2.St} (H' : Hp), Ex H H' → σ[0]? = some (some v) → Ev (tOp (rIxT K) (tVar 0) (tC (.int 0))) σ H' (.str (rwW r)) := fun H' e h0 => ev_ixTs (K := K) (j := 0) (ev_var h0) (hvx _ e) ev_c rfl
    cases r with
    | go k =>
      refine q_when (b := true) (eqWT (c := Str.ofString "go") (t0 H (Ex.refl H) rfl) ev_c rfl (by decide +kernel)) (fun _ H1 e1 => ?_) (fun z => by cases z)
      exact s_retDL (edl_lst (ead_cons (ed_tup (ead_cons (ed_str ev_c) (ead_cons (ed_ixTd (K := K) (j := 1) (ev_var rfl) (hvx _ e1) ev_c rfl) ead_nil)) (by show 2 ≤ 100000; decide)) ead_nil) (by show 1 ≤ 100000; decide)) rfl (q.go e1)
    | unless_ c k =>
      refine q_when (b := false) (eqWT (c := Str.ofString "unless") (t0 H (Ex.refl H) rfl) ev_c rfl (by decide +kernel)) (fun z => by cases z) (fun _ H1 e1 => ?_)
      refine q_when (b := true) (eqWT (c := Str.ofString "unless") (t0 H1 e1 rfl) ev_c rfl (by decide +kernel)) (fun _ H2 e2 => ?_) (fun z => by cases z)
      exact s_retDL (edl_lst (ead_cons (ed_tup (ead_cons (ed_str ev_c) (ead_cons (ed_ixTd (K := K) (j := 1) (ev_var rfl) (hvx _ (e1.trans e2)) ev_c rfl) ead_nil)) (by show 2 ≤ 100000; decide)) (ead_cons (ed_tup (ead_cons (ed_str ev_c) (ead_cons (ed_ixTd (K := K) (j := 2) (ev_var rfl) (hvx _ (e1.trans e2)) ev_c rfl) ead_nil)) (by show 2 ≤ 100000; decide)) ead_nil)) (by show 2 ≤ 100000; decide)) rfl (q.go (e1.trans e2))
    | label k =>
      refine q_when (b := false) (eqWT (c := Str.ofString "label") (t0 H (Ex.refl H) rfl) ev_c rfl (by decide +kernel)) (fun z => by cases z) (fun _ H1 e1 => ?_)
      refine q_when (b := false) (eqWT (c := Str.ofString "label") (t0 H1 e1 rfl) ev_c rfl (by decide +kernel)) (fun z => by cases z) (fun _ H2 e2 => ?_)
      exact s_retDL (edl_lst ead_nil (Nat.zero_le _)) rfl (q.go (e1.trans e2))
    | _ => cases hw
/-! ### rows_for -/
abbrev s_rows_for : Stmt := topS 5
theorem sc_rows_for : FnScope ["row", "what"] ["row"] (fnScope s_rows_for) := fnScope_by (by decide +kernel)
def spRowsFor (K : PySem.W.Frag) : Sp := fun vs H Q _ => ∃ (v : V) (r : Rw) (pl : Int × Int), vs = [v] ∧ Td H v (rpD (r, pl)) ∧ fewC r = true ∧ RetDL ((rowsFor r).map mrD) H Q
theorem ok_rows_for (T : ModsM K mg aG) (c_rows_for_call : Cal P w K mg base 1 "rows_for_call" (spRowsCall K) []) (c_rows_for_way : Cal P w K mg base 1 "rows_for_way" (spRowsWay K) []) {f : Addr} {fd : FuncData} (F : Def K mg "rows_for" s_rows_for f fd) (b : Binds K fd ["row"] []) : Cal P w K mg base 2 "rows_for" (spRowsFor K) [] := by
  refine cal0 F b .nil sc_rows_for (fun vs H Q E h => ?_) (fun cdv A outer s H vs Q E hr h => ?_)
  · obtain ⟨_, _, _, rfl, _⟩ := h
    rfl
  · obtain ⟨v, r, pl, rfl, hv, hf, q⟩ := h
    have g_SIGNED := T.g_SIGNED
    have hu := hu_of hr
    have hu64 := hr.units
    refine ⟨_, (pss_cons (ps_set (i := 1) sc_rows_for.nd rfl (.inl rfl) (pe_ix ix_tup (pv 0) pe_int (fun _ _ => rfl)))
      (pss_cons (ps_if (pt_cmpR op_eq (pv 1) pe_str (nomark _)) (pss_one (ps_ret (pe_lst (pa_cons (pe_tup (pa_cons pe_str pa_nil)) pa_nil)))) pss_nil)
      (pss_cons (ps_if (pt_cmpR op_eq (pv 1) pe_str (nomark _)) (pss_one (ps_ret (pe_lst (pa_cons (pe_tup (pa_cons pe_str pa_nil)) pa_nil)))) pss_nil)
      (pss_cons (ps_if (pt_cmpR op_eq (pv 1) pe_str (nomark _)) (pss_one (ps_ret (pe_lst (pa_cons (pe_tup (pa_cons pe_str (pa_cons (pe_ix ix_tup (pv 0) pe_int (fun _ _ => rfl)) pa_nil))) (pa_cons (pe_tup (pa_cons pe_str (pa_cons (pe_ix ix_tup (pv 0) pe_int (fun _ _ => rfl)) pa_nil))) pa_nil))))) pss_nil)
      (pss_cons (ps_if (pt_cmpR op_eq (pv 1) pe_str (nomark _)) (pss_one (ps_ret (pe_lst (pa_cons (pe_tup (pa_cons pe_str (pa_cons (pe_ix ix_tup (pv 0) pe_int (fun _ _ => rfl)) pa_nil))) (pa_cons (pe_tup (pa_cons pe_str (pa_cons (pe_ix ix_tup (pv 0) pe_int (fun _ _ => rfl)) pa_nil))) pa_nil))))) pss_nil)
      (pss_cons (ps_if (pt_cmpR op_eq (pv 1) pe_str (nomark _)) (pss_one (ps_ret (pe_lst (pa_cons (pe_tup (pa_cons pe_str (pa_cons (pe_ix ix_tup (pv 0) pe_int (fun _ _ => rfl)) (pa_cons (pe_ix ix_tup (pv 0) pe_int (fun _ _ => rfl)) pa_nil)))) (pa_cons (pe_tup (pa_cons pe_str (pa_cons (pe_ix ix_tup (pv 0) pe_int (fun _ _ => rfl)) pa_nil))) pa_nil))))) pss_nil)
      (pss_cons (ps_if (pt_cmpR op_in_seq (pv 1) (C8.pe_gc (by rfl) g_SIGNED) (by with_unfolding_all rfl)) (pss_one (ps_ret (pe_lst (pa_cons (pe_tup (pa_cons pe_str (pa_cons (pe_ix ix_tup (pv 0) pe_int (fun _ _ => rfl)) pa_nil))) (pa_cons (pe_tup (pa_cons pe_str (pa_cons (pe_ix ix_tup (pv 0) pe_int (fun _ _ => rfl)) pa_nil))) (pa_cons (pe_tup (pa_cons (pv 1) pa_nil)) (pa_cons (pe_tup (pa_cons pe_str (pa_cons (pe_ix ix_tup (pv 0) pe_int (fun _ _ => rfl)) pa_nil))) pa_nil))))))) pss_nil)
      (pss_cons (ps_if (pt_cmpR op_eq (pv 1) pe_str (nomark _)) (pss_one (ps_ret (C8.pe_c c_rows_for_call hr (by first | decide | exact Nat.le_refl _ | omega) (by rfl) (pa_cons (pv 0) pa_nil)))) pss_nil)
      (pss_cons (ps_if (PW.pt (pw_and (pt_cmpR op_eq (pv 1) pe_str (nomark _)) (pw_and1 (pt_cmpR op_isN (pe_ix ix_tup (pv 0) pe_int (fun _ _ => rfl)) pe_non (nomark _))))) (pss_one (ps_ret (pe_lst (pa_cons (pe_tup (pa_cons pe_str (pa_cons pe_int pa_nil))) pa_nil)))) pss_nil)
      (pss_cons (ps_if (pt_cmpR op_eq (pv 1) pe_str (nomark _)) (pss_one (ps_ret (pe_lst (pa_cons (pe_tup (pa_cons pe_str (pa_cons (pe_ix ix_tup (pv 0) pe_int (fun _ _ => rfl)) pa_nil))) (pa_cons (pe_tup (pa_cons pe_str (pa_cons pe_int pa_nil))) pa_nil))))) pss_nil)
      (pss_cons (ps_if (pt_cmpR op_in_seq (pv 1) (pe_tup (pa_cons pe_str (pa_cons pe_str pa_nil))) (by with_unfolding_all rfl)) (pss_one (ps_ret (pe_lst (pa_cons (pe_tup (pa_cons pe_str (pa_cons (pe_ix ix_tup (pv 0) pe_int (fun _ _ => rfl)) pa_nil))) (pa_cons (pe_tup (pa_cons (pv 1) (pa_cons (pe_ix ix_tup (pv 0) pe_int (fun _ _ => rfl)) pa_nil))) pa_nil))))) pss_nil)
      (pss_one (ps_ret (C8.pe_c c_rows_for_way hr (by first | decide | exact Nat.le_refl _ | omega) (by rfl) (pa_cons (pv 0) pa_nil))))))))))))))), ?_⟩
    have hvx : ∀ H', Ex H H' → Td H' v (.tuple (rpDs (r, pl))) := fun H' e => Td.tx (Tx.of e) _ _ hv
    refine q_asg (ev_ixTs (K := K) (j := 0) (ev_var rfl) hv ev_c rfl) fun H1 e0 => ?_
    cases r with
    | begin_ =>
      refine q_when (b := true) (eqWT (c := Str.ofString "begin") (ev_var rfl) ev_c rfl (by decide +kernel)) (fun _ H2 e100 => ?_) (fun z => by cases z)
      have eN := e0.trans e100
      exact s_retDL (edl_lst (ead_cons (ed_tup (ead_cons (ed_str ev_c) ead_nil) (by show 1 ≤ 100000; decide)) ead_nil) (by show 1 ≤ 100000; decide)) rfl (q.go eN)
    | nothing =>
      refine q_when (b := false) (eqWT (c := Str.ofString "nothing") (ev_var rfl) ev_c rfl (by decide +kernel)) (fun z => by cases z) (fun _ H2 e1x => ?_)
      have e1 := e0.trans e1x
      refine q_when (b := true) (eqWT (c := Str.ofString "nothing") (ev_var rfl) ev_c rfl (by decide +kernel)) (fun _ H3 e101 => ?_) (fun z => by cases z)
      have eN := e1.trans e101
      exact s_retDL (edl_lst (ead_cons (ed_tup (ead_cons (ed_str ev_c) ead_nil) (by show 1 ≤ 100000; decide)) ead_nil) (by show 1 ≤ 100000; decide)) rfl (q.go eN)
    | put c n =>
      refine q_when (b := false) (eqWT (c := Str.ofString "put") (ev_var rfl) ev_c rfl (by decide +kernel)) (fun z => by cases z) (fun _ H2 e1x => ?_)
      have e1 := e0.trans e1x
      refine q_when (b := false) (eqWT (c := Str.ofString "put") (ev_var rfl) ev_c rfl (by decide +kernel)) (fun z => by cases z) (fun _ H3 e2x => ?_)
      have e2 := e1.trans e2x
      refine q_when (b := true) (eqWT (c := Str.ofString "put") (ev_var rfl) ev_c rfl (by decide +kernel)) (fun _ H4 e102 => ?_) (fun z => by cases z)
      have eN := e2.trans e102
      exact s_retDL (edl_lst (ead_cons (ed_tup (ead_cons (ed_str ev_c) (ead_cons (ed_ixTd (K := K) (j := 2) (ev_var rfl) (hvx _ eN) ev_c rfl) ead_nil)) (by show 2 ≤ 100000; decide)) (ead_cons (ed_tup (ead_cons (ed_str ev_c) (ead_cons (ed_ixTd (K := K) (j := 1) (ev_var rfl) (hvx _ eN) ev_c rfl) ead_nil)) (by show 2 ≤ 100000; decide)) ead_nil)) (by show 2 ≤ 100000; decide)) rfl (q.go eN)
    | copy c d =>
      refine q_when (b := false) (eqWT (c := Str.ofString "copy") (ev_var rfl) ev_c rfl (by decide +kernel)) (fun z => by cases z) (fun _ H2 e1x => ?_)
      have e1 := e0.trans e1x
      refine q_when (b := false) (eqWT (c := Str.ofString "copy") (ev_var rfl) ev_c rfl (by decide +kernel)) (fun z => by cases z) (fun _ H3 e2x => ?_)
      have e2 := e1.trans e2x
      refine q_when (b := false) (eqWT (c := Str.ofString "copy") (ev_var rfl) ev_c rfl (by decide +kernel)) (fun z => by cases z) (fun _ H4 e3x => ?_)
      have e3 := e2.trans e3x
      refine q_when (b := true) (eqWT (c := Str.ofString "copy") (ev_var rfl) ev_c rfl (by decide +kernel)) (fun _ H5 e103 => ?_) (fun z => by cases z)
      have eN := e3.trans e103
      exact s_retDL (edl_lst (ead_cons (ed_tup (ead_cons (ed_str ev_c) (ead_cons (ed_ixTd (K := K) (j := 2) (ev_var rfl) (hvx _ eN) ev_c rfl) ead_nil)) (by show 2 ≤ 100000; decide)) (ead_cons (ed_tup (ead_cons (ed_str ev_c) (ead_cons (ed_ixTd (K := K) (j := 1) (ev_var rfl) (hvx _ eN) ev_c rfl) ead_nil)) (by show 2 ≤ 100000; decide)) ead_nil)) (by show 2 ≤ 100000; decide)) rfl (q.go eN)
    | fetch c f2 n =>
      refine q_when (b := false) (eqWT (c := Str.ofString "fetch") (ev_var rfl) ev_c rfl (by decide +kernel)) (fun z => by cases z) (fun _ H2 e1x => ?_)
      have e1 := e0.trans e1x
      refine q_when (b := false) (eqWT (c := Str.ofString "fetch") (ev_var rfl) ev_c rfl (by decide +kernel)) (fun z => by cases z) (fun _ H3 e2x => ?_)
      have e2 := e1.trans e2x
      refine q_when (b := false) (eqWT (c := Str.ofString "fetch") (ev_var rfl) ev_c rfl (by decide +kernel)) (fun z => by cases z) (fun _ H4 e3x => ?_)
      have e3 := e2.trans e3x
      refine q_when (b := false) (eqWT (c := Str.ofString "fetch") (ev_var rfl) ev_c rfl (by decide +kernel)) (fun z => by cases z) (fun _ H5 e4x => ?_)
      have e4 := e3.trans e4x
      refine q_when (b := true) (eqWT (c := Str.ofString "fetch") (ev_var rfl) ev_c rfl (by decide +kernel)) (fun _ H6 e104 => ?_) (fun z => by cases z)
      have eN := e4.trans e104
      exact s_retDL (edl_lst (ead_cons (ed_tup (ead_cons (ed_str ev_c) (ead_cons (ed_ixTd (K := K) (j := 2) (ev_var rfl) (hvx _ eN) ev_c rfl) (ead_cons (ed_ixTd (K := K) (j := 3) (ev_var rfl) (hvx _ eN) ev_c rfl) ead_nil))) (by show 3 ≤ 100000; decide)) (ead_cons (ed_tup (ead_cons (ed_str ev_c) (ead_cons (ed_ixTd (K := K) (j := 1) (ev_var rfl) (hvx _ eN) ev_c rfl) ead_nil)) (by show 2 ≤ 100000; decide)) ead_nil)) (by show 2 ≤ 100000; decide)) rfl (q.go eN)
    | op o c d e =>
      refine q_when (b := false) (eqWT (c := opS o) (ev_var rfl) ev_c rfl (by cases o <;> decide +kernel)) (fun z => by cases z) (fun _ H2 e1x => ?_)
      have e1 := e0.trans e1x
      refine q_when (b := false) (eqWT (c := opS o) (ev_var rfl) ev_c rfl (by cases o <;> decide +kernel)) (fun z => by cases z) (fun _ H3 e2x => ?_)
      have e2 := e1.trans e2x
      refine q_when (b := false) (eqWT (c := opS o) (ev_var rfl) ev_c rfl (by cases o <;> decide +kernel)) (fun z => by cases z) (fun _ H4 e3x => ?_)
      have e3 := e2.trans e3x
      refine q_when (b := false) (eqWT (c := opS o) (ev_var rfl) ev_c rfl (by cases o <;> decide +kernel)) (fun z => by cases z) (fun _ H5 e4x => ?_)
      have e4 := e3.trans e4x
      refine q_when (b := false) (eqWT (c := opS o) (ev_var rfl) ev_c rfl (by cases o <;> decide +kernel)) (fun z => by cases z) (fun _ H6 e5x => ?_)
      have e5 := e4.trans e5x
      refine q_when (b := true) (inWT (K := K) (c := opS o) (ev_var rfl) ev_c (T.sG _) rfl rfl (by cases o <;> decide +kernel)) (fun _ H7 e105 => ?_) (fun z => by cases z)
      have eN := e5.trans e105
      exact s_retDL (edl_lst (ead_cons (ed_tup (ead_cons (ed_str ev_c) (ead_cons (ed_ixTd (K := K) (j := 2) (ev_var rfl) (hvx _ eN) ev_c rfl) ead_nil)) (by show 2 ≤ 100000; decide)) (ead_cons (ed_tup (ead_cons (ed_str ev_c) (ead_cons (ed_ixTd (K := K) (j := 3) (ev_var rfl) (hvx _ eN) ev_c rfl) ead_nil)) (by show 2 ≤ 100000; decide)) (ead_cons (ed_tup (ead_cons (ed_str (ev_var rfl)) ead_nil) (by show 1 ≤ 100000; decide)) (ead_cons (ed_tup (ead_cons (ed_str ev_c) (ead_cons (ed_ixTd (K := K) (j := 1) (ev_var rfl) (hvx _ eN) ev_c rfl) ead_nil)) (by show 2 ≤ 100000; decide)) ead_nil)))) (by show 4 ≤ 100000; decide)) rfl (q.go eN)
    | call c f2 n cs =>
      refine q_when (b := false) (eqWT (c := Str.ofString "call") (ev_var rfl) ev_c rfl (by decide +kernel)) (fun z => by cases z) (fun _ H2 e1x => ?_)
      have e1 := e0.trans e1x
      refine q_when (b := false) (eqWT (c := Str.ofString "call") (ev_var rfl) ev_c rfl (by decide +kernel)) (fun z => by cases z) (fun _ H3 e2x => ?_)
      have e2 := e1.trans e2x
      refine q_when (b := false) (eqWT (c := Str.ofString "call") (ev_var rfl) ev_c rfl (by decide +kernel)) (fun z => by cases z) (fun _ H4 e3x => ?_)
      have e3 := e2.trans e3x
      refine q_when (b := false) (eqWT (c := Str.ofString "call") (ev_var rfl) ev_c rfl (by decide +kernel)) (fun z => by cases z) (fun _ H5 e4x => ?_)
      have e4 := e3.trans e4x
      refine q_when (b := false) (eqWT (c := Str.ofString "call") (ev_var rfl) ev_c rfl (by decide +kernel)) (fun z => by cases z) (fun _ H6 e5x => ?_)
      have e5 := e4.trans e5x
      refine q_when (b := false) (inWT (K := K) (c := Str.ofString "call") (ev_var rfl) ev_c (T.sG _) rfl rfl (by decide +kernel)) (fun z => by cases z) (fun _ H7 e6x => ?_)
      have e6 := e5.trans e6x
      refine q_when (b := true) (eqWT (c := Str.ofString "call") (ev_var rfl) ev_c rfl (by decide +kernel)) (fun _ H8 e106 => ?_) (fun z => by cases z)
      have eN := e6.trans e106
      refine s_retDL (edl_callRet (ea_cons (ev_var rfl) ea_nil) fun H50 e50 Q50 q50 => ⟨v, c, f2, n, cs, pl, rfl, hvx _ (eN.trans e50), of_decide_eq_true hf, q50⟩) rfl (q.go eN)
    | lay n c =>
      refine q_when (b := false) (eqWT (c := Str.ofString "lay") (ev_var rfl) ev_c rfl (by decide +kernel)) (fun z => by cases z) (fun _ H2 e1x => ?_)
      have e1 := e0.trans e1x
      refine q_when (b := false) (eqWT (c := Str.ofString "lay") (ev_var rfl) ev_c rfl (by decide +kernel)) (fun z => by cases z) (fun _ H3 e2x => ?_)
      have e2 := e1.trans e2x
      refine q_when (b := false) (eqWT (c := Str.ofString "lay") (ev_var rfl) ev_c rfl (by decide +kernel)) (fun z => by cases z) (fun _ H4 e3x => ?_)
      have e3 := e2.trans e3x
      refine q_when (b := false) (eqWT (c := Str.ofString "lay") (ev_var rfl) ev_c rfl (by decide +kernel)) (fun z => by cases z) (fun _ H5 e4x => ?_)
      have e4 := e3.trans e4x
      refine q_when (b := false) (eqWT (c := Str.ofString "lay") (ev_var rfl) ev_c rfl (by decide +kernel)) (fun z => by cases z) (fun _ H6 e5x => ?_)
      have e5 := e4.trans e5x
      refine q_when (b := false) (inWT (K := K) (c := Str.ofString "lay") (ev_var rfl) ev_c (T.sG _) rfl rfl (by decide +kernel)) (fun z => by cases z) (fun _ H7 e6x => ?_)
      have e6 := e5.trans e6x
      refine q_when (b := false) (eqWT (c := Str.ofString "lay") (ev_var rfl) ev_c rfl (by decide +kernel)) (fun z => by cases z) (fun _ H8 e7x => ?_)
      have e7 := e6.trans e7x
      refine q_when (b := false) (et_is (b := false) (et_and (b := true) (a := false) (eqWT (c := Str.ofString "lay") (ev_var rfl) ev_c rfl (by decide +kernel)) (fun z => by cases z)) rfl) (fun z => by cases z) (fun _ H9 e8x => ?_)
      have e8 := e7.trans e8x
      refine q_when (b := false) (eqWT (c := Str.ofString "lay") (ev_var rfl) ev_c rfl (by decide +kernel)) (fun z => by cases z) (fun _ H10 e9x => ?_)
      have e9 := e8.trans e9x
      refine q_when (b := true) (inWU (K := K) (c := Str.ofString "lay") (ev_var rfl) (eu_tup (ea_cons ev_c (ea_cons ev_c ea_nil)) (by decide)) rfl rfl (by decide +kernel)) (fun _ H11 e109 => ?_) (fun z => by cases z)
      have eN := e9.trans e109
      exact s_retDL (edl_lst (ead_cons (ed_tup (ead_cons (ed_str ev_c) (ead_cons (ed_ixTd (K := K) (j := 2) (ev_var rfl) (hvx _ eN) ev_c rfl) ead_nil)) (by show 2 ≤ 100000; decide)) (ead_cons (ed_tup (ead_cons (ed_str (ev_var rfl)) (ead_cons (ed_ixTd (K := K) (j := 1) (ev_var rfl) (hvx _ eN) ev_c rfl) ead_nil)) (by show 2 ≤ 100000; decide)) ead_nil)) (by show 2 ≤ 100000; decide)) rfl (q.go eN)
    | say k c =>
      refine q_when (b := false) (eqWT (c := Str.ofString "say") (ev_var rfl) ev_c rfl (by decide +kernel)) (fun z => by cases z) (fun _ H2 e1x => ?_)
      have e1 := e0.trans e1x
      refine q_when (b := false) (eqWT (c := Str.ofString "say") (ev_var rfl) ev_c rfl (by decide +kernel)) (fun z => by cases z) (fun _ H3 e2x => ?_)
      have e2 := e1.trans e2x
      refine q_when (b := false) (eqWT (c := Str.ofString "say") (ev_var rfl) ev_c rfl (by decide +kernel)) (fun z => by cases z) (fun _ H4 e3x => ?_)
      have e3 := e2.trans e3x
      refine q_when (b := false) (eqWT (c := Str.ofString "say") (ev_var rfl) ev_c rfl (by decide +kernel)) (fun z => by cases z) (fun _ H5 e4x => ?_)
      have e4 := e3.trans e4x
      refine q_when (b := false) (eqWT (c := Str.ofString "say") (ev_var rfl) ev_c rfl (by decide +kernel)) (fun z => by cases z) (fun _ H6 e5x => ?_)
      have e5 := e4.trans e5x
      refine q_when (b := false) (inWT (K := K) (c := Str.ofString "say") (ev_var rfl) ev_c (T.sG _) rfl rfl (by decide +kernel)) (fun z => by cases z) (fun _ H7 e6x => ?_)
      have e6 := e5.trans e6x
      refine q_when (b := false) (eqWT (c := Str.ofString "say") (ev_var rfl) ev_c rfl (by decide +kernel)) (fun z => by cases z) (fun _ H8 e7x => ?_)
      have e7 := e6.trans e7x
      refine q_when (b := false) (et_is (b := false) (et_and (b := true) (a := false) (eqWT (c := Str.ofString "say") (ev_var rfl) ev_c rfl (by decide +kernel)) (fun z => by cases z)) rfl) (fun z => by cases z) (fun _ H9 e8x => ?_)
      have e8 := e7.trans e8x
      refine q_when (b := false) (eqWT (c := Str.ofString "say") (ev_var rfl) ev_c rfl (by decide +kernel)) (fun z => by cases z) (fun _ H10 e9x => ?_)
      have e9 := e8.trans e9x
      refine q_when (b := true) (inWU (K := K) (c := Str.ofString "say") (ev_var rfl) (eu_tup (ea_cons ev_c (ea_cons ev_c ea_nil)) (by decide)) rfl rfl (by decide +kernel)) (fun _ H11 e109 => ?_) (fun z => by cases z)
      have eN := e9.trans e109
      exact s_retDL (edl_lst (ead_cons (ed_tup (ead_cons (ed_str ev_c) (ead_cons (ed_ixTd (K := K) (j := 2) (ev_var rfl) (hvx _ eN) ev_c rfl) ead_nil)) (by show 2 ≤ 100000; decide)) (ead_cons (ed_tup (ead_cons (ed_str (ev_var rfl)) (ead_cons (ed_ixTd (K := K) (j := 1) (ev_var rfl) (hvx _ eN) ev_c rfl) ead_nil)) (by show 2 ≤ 100000; decide)) ead_nil)) (by show 2 ≤ 100000; decide)) rfl (q.go eN)
    | go k =>
      refine q_when (b := false) (eqWT (c := Str.ofString "go") (ev_var rfl) ev_c rfl (by decide +kernel)) (fun z => by cases z) (fun _ H2 e1x => ?_)
      have e1 := e0.trans e1x
      refine q_when (b := false) (eqWT (c := Str.ofString "go") (ev_var rfl) ev_c rfl (by decide +kernel)) (fun z => by cases z) (fun _ H3 e2x => ?_)
      have e2 := e1.trans e2x
      refine q_when (b := false) (eqWT (c := Str.ofString "go") (ev_var rfl) ev_c rfl (by decide +kernel)) (fun z => by cases z) (fun _ H4 e3x => ?_)
      have e3 := e2.trans e3x
      refine q_when (b := false) (eqWT (c := Str.ofString "go") (ev_var rfl) ev_c rfl (by decide +kernel)) (fun z => by cases z) (fun _ H5 e4x => ?_)
      have e4 := e3.trans e4x
      refine q_when (b := false) (eqWT (c := Str.ofString "go") (ev_var rfl) ev_c rfl (by decide +kernel)) (fun z => by cases z) (fun _ H6 e5x => ?_)
      have e5 := e4.trans e5x
      refine q_when (b := false) (inWT (K := K) (c := Str.ofString "go") (ev_var rfl) ev_c (T.sG _) rfl rfl (by decide +kernel)) (fun z => by cases z) (fun _ H7 e6x => ?_)
      have e6 := e5.trans e6x
      refine q_when (b := false) (eqWT (c := Str.ofString "go") (ev_var rfl) ev_c rfl (by decide +kernel)) (fun z => by cases z) (fun _ H8 e7x => ?_)
      have e7 := e6.trans e7x
      refine q_when (b := false) (et_is (b := false) (et_and (b := true) (a := false) (eqWT (c := Str.ofString "go") (ev_var rfl) ev_c rfl (by decide +kernel)) (fun z => by cases z)) rfl) (fun z => by cases z) (fun _ H9 e8x => ?_)
      have e8 := e7.trans e8x
      refine q_when (b := false) (eqWT (c := Str.ofString "go") (ev_var rfl) ev_c rfl (by decide +kernel)) (fun z => by cases z) (fun _ H10 e9x => ?_)
      have e9 := e8.trans e9x
      refine q_when (b := false) (inWU (K := K) (c := Str.ofString "go") (ev_var rfl) (eu_tup (ea_cons ev_c (ea_cons ev_c ea_nil)) (by decide)) rfl rfl (by decide +kernel)) (fun z => by cases z) (fun _ H11 e10x => ?_)
      have e10 := e9.trans e10x
      have eN := e10
      exact s_retDL (edl_callRet (ea_cons (ev_var rfl) ea_nil) fun H50 e50 Q50 q50 => ⟨v, .go k, pl, rfl, hvx _ (eN.trans e50), rfl, q50⟩) rfl (q.go eN)
    | unless_ c k =>
      refine q_when (b := false) (eqWT (c := Str.ofString "unless") (ev_var rfl) ev_c rfl (by decide +kernel)) (fun z => by cases z) (fun _ H2 e1x => ?_)
      have e1 := e0.trans e1x
      refine q_when (b := false) (eqWT (c := Str.ofString "unless") (ev_var rfl) ev_c rfl (by decide +kernel)) (fun z => by cases z) (fun _ H3 e2x => ?_)
      have e2 := e1.trans e2x
      refine q_when (b := false) (eqWT (c := Str.ofString "unless") (ev_var rfl) ev_c rfl (by decide +kernel)) (fun z => by cases z) (fun _ H4 e3x => ?_)
      have e3 := e2.trans e3x
      refine q_when (b := false) (eqWT (c := Str.ofString "unless") (ev_var rfl) ev_c rfl (by decide +kernel)) (fun z => by cases z) (fun _ H5 e4x => ?_)
      have e4 := e3.trans e4x
      refine q_when (b := false) (eqWT (c := Str.ofString "unless") (ev_var rfl) ev_c rfl (by decide +kernel)) (fun z => by cases z) (fun _ H6 e5x => ?_)
      have e5 := e4.trans e5x
      refine q_when (b := false) (inWT (K := K) (c := Str.ofString "unless") (ev_var rfl) ev_c (T.sG _) rfl rfl (by decide +kernel)) (fun z => by cases z) (fun _ H7 e6x => ?_)
      have e6 := e5.trans e6x
      refine q_when (b := false) (eqWT (c := Str.ofString "unless") (ev_var rfl) ev_c rfl (by decide +kernel)) (fun z => by cases z) (fun _ H8 e7x => ?_)
      have e7 := e6.trans e7x
      refine q_when (b := false) (et_is (b := false) (et_and (b := true) (a := false) (eqWT (c := Str.ofString "unless") (ev_var rfl) ev_c rfl (by decide +kernel)) (fun z => by cases z)) rfl) (fun z => by cases z) (fun _ H9 e8x => ?_)
      have e8 := e7.trans e8x
      refine q_when (b := false) (eqWT (c := Str.ofString "unless") (ev_var rfl) ev_c rfl (by decide +kernel)) (fun z => by cases z) (fun _ H10 e9x => ?_)
      have e9 := e8.trans e9x
      refine q_when (b := false) (inWU (K := K) (c := Str.ofString "unless") (ev_var rfl) (eu_tup (ea_cons ev_c (ea_cons ev_c ea_nil)) (by decide)) rfl rfl (by decide +kernel)) (fun z => by cases z) (fun _ H11 e10x => ?_)
      have e10 := e9.trans e10x
      have eN := e10
      exact s_retDL (edl_callRet (ea_cons (ev_var rfl) ea_nil) fun H50 e50 Q50 q50 => ⟨v, .unless_ c k, pl, rfl, hvx _ (eN.trans e50), rfl, q50⟩) rfl (q.go eN)
    | label k =>
      refine q_when (b := false) (eqWT (c := Str.ofString "label") (ev_var rfl) ev_c rfl (by decide +kernel)) (fun z => by cases z) (fun _ H2 e1x => ?_)
      have e1 := e0.trans e1x
      refine q_when (b := false) (eqWT (c := Str.ofString "label") (ev_var rfl) ev_c rfl (by decide +kernel)) (fun z => by cases z) (fun _ H3 e2x => ?_)
      have e2 := e1.trans e2x
      refine q_when (b := false) (eqWT (c := Str.ofString "label") (ev_var rfl) ev_c rfl (by decide +kernel)) (fun z => by cases z) (fun _ H4 e3x => ?_)
      have e3 := e2.trans e3x
      refine q_when (b := false) (eqWT (c := Str.ofString "label") (ev_var rfl) ev_c rfl (by decide +kernel)) (fun z => by cases z) (fun _ H5 e4x => ?_)
      have e4 := e3.trans e4x
      refine q_when (b := false) (eqWT (c := Str.ofString "label") (ev_var rfl) ev_c rfl (by decide +kernel)) (fun z => by cases z) (fun _ H6 e5x => ?_)
      have e5 := e4.trans e5x
      refine q_when (b := false) (inWT (K := K) (c := Str.ofString "label") (ev_var rfl) ev_c (T.sG _) rfl rfl (by decide +kernel)) (fun z => by cases z) (fun _ H7 e6x => ?_)
      have e6 := e5.trans e6x
      refine q_when (b := false) (eqWT (c := Str.ofString "label") (ev_var rfl) ev_c rfl (by decide +kernel)) (fun z => by cases z) (fun _ H8 e7x => ?_)
      have e7 := e6.trans e7x
      refine q_when (b := false) (et_is (b := false) (et_and (b := true) (a := false) (eqWT (c := Str.ofString "label") (ev_var rfl) ev_c rfl (by decide +kernel)) (fun z => by cases z)) rfl) (fun z => by cases z) (fun _ H9 e8x => ?_)
      have e8 := e7.trans e8x
      refine q_when (b := false) (eqWT (c := Str.ofString "label") (ev_var rfl) ev_c rfl (by decide +kernel)) (fun z => by cases z) (fun _ H10 e9x => ?_)
      have e9 := e8.trans e9x
      refine q_when (b := false) (inWU (K := K) (c := Str.ofString "label") (ev_var rfl) (eu_tup (ea_cons ev_c (ea_cons ev_c ea_nil)) (by decide)) rfl rfl (by decide +kernel)) (fun z => by cases z) (fun _ H11 e10x => ?_)
      have e10 := e9.trans e10x
      have eN := e10
      exact s_retDL (edl_callRet (ea_cons (ev_var rfl) ea_nil) fun H50 e50 Q50 q50 => ⟨v, .label k, pl, rfl, hvx _ (eN.trans e50), rfl, q50⟩) rfl (q.go eN)
    | give oc =>
      have isn : ∀ (H' : Hp), Ex H H' → Ev (tOp (rIxT K) (tVar 0) (tC (.int 1))) [some v, some (.str (Str.ofString "give"))] H' (match oc with | none => V.non | some c => .int c) := fun H' e => by
        obtain ⟨x, hx, h⟩ := ev_ixTd (K := K) (σ := [some v, some (.str (Str.ofString "give"))]) (ta := tVar 0) (tb := tC (.int 1)) (j := 1) (ev_var rfl) (hvx _ e) ev_c rfl
        cases oc with
        | none => cases hx; exact h
        | some c => cases hx; exact h
      cases oc with
      | none =>
        refine q_when (b := false) (eqWT (c := Str.ofString "give") (ev_var rfl) ev_c rfl (by decide +kernel)) (fun z => by cases z) (fun _ H2 e1x => ?_)
        have e1 := e0.trans e1x
        refine q_when (b := false) (eqWT (c := Str.ofString "give") (ev_var rfl) ev_c rfl (by decide +kernel)) (fun z => by cases z) (fun _ H3 e2x => ?_)
        have e2 := e1.trans e2x
        refine q_when (b := false) (eqWT (c := Str.ofString "give") (ev_var rfl) ev_c rfl (by decide +kernel)) (fun z => by cases z) (fun _ H4 e3x => ?_)
        have e3 := e2.trans e3x
        refine q_when (b := false) (eqWT (c := Str.ofString "give") (ev_var rfl) ev_c rfl (by decide +kernel)) (fun z => by cases z) (fun _ H5 e4x => ?_)
        have e4 := e3.trans e4x
        refine q_when (b := false) (eqWT (c := Str.ofString "give") (ev_var rfl) ev_c rfl (by decide +kernel)) (fun z => by cases z) (fun _ H6 e5x => ?_)
        have e5 := e4.trans e5x
        refine q_when (b := false) (inWT (K := K) (c := Str.ofString "give") (ev_var rfl) ev_c (T.sG _) rfl rfl (by decide +kernel)) (fun z => by cases z) (fun _ H7 e6x => ?_)
        have e6 := e5.trans e6x
        refine q_when (b := false) (eqWT (c := Str.ofString "give") (ev_var rfl) ev_c rfl (by decide +kernel)) (fun z => by cases z) (fun _ H8 e7x => ?_)
        have e7 := e6.trans e7x
        refine q_when (b := true) (et_is (b := true) (et_and (a := true) (eqWT (c := Str.ofString "give") (ev_var rfl) ev_c rfl (by decide +kernel)) (fun _ => et_isNone (isn _ e7) rfl)) rfl) (fun _ H9 e107 => ?_) (fun z => by cases z)
        have eN := e7.trans e107
        exact s_retDL (edl_lst (ead_cons (ed_tup (ead_cons (ed_str ev_c) (ead_cons (ed_int ev_c) ead_nil)) (by show 2 ≤ 100000; decide)) ead_nil) (by show 1 ≤ 100000; decide)) rfl (q.go eN)
      | some c =>
        refine q_when (b := false) (eqWT (c := Str.ofString "give") (ev_var rfl) ev_c rfl (by decide +kernel)) (fun z => by cases z) (fun _ H2 e1x => ?_)
        have e1 := e0.trans e1x
        refine q_when (b := false) (eqWT (c := Str.ofString "give") (ev_var rfl) ev_c rfl (by decide +kernel)) (fun z => by cases z) (fun _ H3 e2x => ?_)
        have e2 := e1.trans e2x
        refine q_when (b := false) (eqWT (c := Str.ofString "give") (ev_var rfl) ev_c rfl (by decide +kernel)) (fun z => by cases z) (fun _ H4 e3x => ?_)
        have e3 := e2.trans e3x
        refine q_when (b := false) (eqWT (c := Str.ofString "give") (ev_var rfl) ev_c rfl (by decide +kernel)) (fun z => by cases z) (fun _ H5 e4x => ?_)
        have e4 := e3.trans e4x
        refine q_when (b := false) (eqWT (c := Str.ofString "give") (ev_var rfl) ev_c rfl (by decide +kernel)) (fun z => by cases z) (fun _ H6 e5x => ?_)
        have e5 := e4.trans e5x
        refine q_when (b := false) (inWT (K := K) (c := Str.ofString "give") (ev_var rfl) ev_c (T.sG _) rfl rfl (by decide +kernel)) (fun z => by cases z) (fun _ H7 e6x => ?_)
        have e6 := e5.trans e6x
        refine q_when (b := false) (eqWT (c := Str.ofString "give") (ev_var rfl) ev_c rfl (by decide +kernel)) (fun z => by cases z) (fun _ H8 e7x => ?_)
        have e7 := e6.trans e7x
        refine q_when (b := false) (et_is (b := false) (et_and (a := true) (eqWT (c := Str.ofString "give") (ev_var rfl) ev_c rfl (by decide +kernel)) (fun _ => et_isNone (isn _ e7) rfl)) rfl) (fun z => by cases z) (fun _ H9 e8x => ?_)
        have e8 := e7.trans e8x
        refine q_when (b := true) (eqWT (c := Str.ofString "give") (ev_var rfl) ev_c rfl (by decide +kernel)) (fun _ H10 e108 => ?_) (fun z => by cases z)
        have eN := e8.trans e108
        exact s_retDL (edl_lst (ead_cons (ed_tup (ead_cons (ed_str ev_c) (ead_cons (ed_ixTd (K := K) (j := 1) (ev_var rfl) (hvx _ eN) ev_c rfl) ead_nil)) (by show 2 ≤ 100000; decide)) (ead_cons (ed_tup (ead_cons (ed_str ev_c) (ead_cons (ed_int ev_c) ead_nil)) (by show 2 ≤ 100000; decide)) ead_nil)) (by show 2 ≤ 100000; decide)) rfl (q.go eN)
end
end Wt

set_option Elab.async false
set_option linter.all false
set_option maxRecDepth 100000
set_option maxHeartbeats 4000000
namespace Wt
open PySem PySem.Spec PyProof.Rows L2 SX Evl
open C8 (Def Cal cal0 fnScope_by fnScope)
/-! places_of_labels, with_number, machine_of. -/
section
variable {P : Program} {w : World} {K : PySem.W.Frag} {mg : Str → Option Value} {base : Heap} {aG : Addr}
/-! ### with_number -/
abbrev s_with_number : Stmt := topS 8
theorem sc_with_number : FnScope ["row", "labels"] ["row", "labels"] (fnScope s_with_number) := fnScope_by (by decide +kernel)
def spWith (K : PySem.W.Frag) : Sp := fun vs H Q _ => ∃ (v : V) (m : Mr × Nat) (lab : Addr) (kvs : List (Key × V)) (at_ : Int → Int), vs = [v, .ref lab] ∧ Td H v (mkD m) ∧ H lab = some (.dK kvs) ∧
  (∀ k, m.1 = .jump k ∨ m.1 = .unless_ k → valV kvs (Sum.inl k : Key) = some (.int (at_ k))) ∧ ∀ v' H2, Ex H H2 → Td H2 v' (mkD (withNum at_ m.1, m.2)) → Q v' H2
theorem mrW_jump (m : Mr) : inV (.str (mrW m)) [V.str (Str.ofString "jump"), .str (Str.ofString "unless")] = (match m with | .jump _ => true | .unless_ _ => true | _ => false) := by
  cases m with
  | op o => cases o <;> (show inV (.str (Str.ofString _)) _ = false; decide +kernel)
  | _ => first | (show inV (.str (Str.ofString _)) _ = false; decide +kernel) | (show inV (.str (Str.ofString _)) _ = true; decide +kernel)
theorem ok_with_number (T : ModsM K mg aG) {f : Addr} {fd : FuncData} (F : Def K mg "with_number" s_with_number f fd) (b : Binds K fd ["row", "labels"] []) : Cal P w K mg base 1 "with_number" (spWith K) [] := by
  refine cal0 F b .nil sc_with_number (fun vs H Q E h => ?_) (fun cdv A outer s H vs Q E hr h => ?_)
  · obtain ⟨_, _, _, _, _, rfl, _⟩ := h
    rfl
  · obtain ⟨v, ⟨m, i⟩, lab, kvs, at_, rfl, hv, hl, hk, q⟩ := h

    have hu := hu_of hr
    have hu64 := hr.units
    refine ⟨_, (pss_cons (ps_if (pt_cmpR op_in_seq (pe_ix ix_tup (pv 0) pe_int (fun _ _ => rfl)) (pe_tup (pa_cons pe_str (pa_cons pe_str pa_nil))) (by with_unfolding_all rfl)) (pss_one (ps_ret (pe_tup (pa_cons (pe_ix ix_tup (pv 0) pe_int (fun _ _ => rfl)) (pa_cons (pe_dget hu (pv 1) (pe_ix ix_tup (pv 0) pe_int (fun _ _ => rfl)) (fun _ _ => rfl)) (pa_cons (pe_ix ix_tup (pv 0) pe_int (fun _ _ => rfl)) pa_nil)))))) pss_nil)
      (pss_one (ps_ret (pv 0)))), ?_⟩
    have t0 : Ev (tOp (rIxT K) (tVar 0) (tC (.int 0))) [some v, some (.ref lab)] H (.str (mrW m)) := ev_ixTs (K := K) (j := 0) (ev_var rfl) hv ev_c rfl
    have other : (∀ k, m ≠ .jump k) → (∀ k, m ≠ .unless_ k) → withNum at_ m = m := fun h1 h2 => by
      cases m with
      | jump k => exact absurd rfl (h1 k)
      | unless_ k => exact absurd rfl (h2 k)
      | _ => rfl
    refine q_when (inWU (K := K) (c := mrW m) t0 (eu_tup (ea_cons ev_c (ea_cons ev_c ea_nil)) (by decide)) rfl rfl (mrW_jump m)) (fun hb H1 e1 => ?_) (fun hb H1 e1 => ?_)
    · have hv1 := Td.tx (Tx.of e1) _ _ hv
      have hl1 := e1 _ _ hl
      cases m with
      | jump k =>
        exact s_retR (er_of (ed_tup (ead_cons (ed_ixTd (K := K) (j := 0) (ev_var rfl) hv1 ev_c rfl) (ead_cons (ed_int (ev_dgetI (ev_var rfl) (ev_ixTi (K := K) (j := 1) (ev_var rfl) hv1 ev_c rfl) hl1 (hk k (.inl rfl)))) (ead_cons (ed_ixTd (K := K) (j := 2) (ev_var rfl) hv1 ev_c rfl) ead_nil))) (by show 3 ≤ 100000; decide))) fun v' H2 d hd e2 hv' => q v' H2 (e1.trans e2) (by subst hd; exact hv')
      | unless_ k =>
        exact s_retR (er_of (ed_tup (ead_cons (ed_ixTd (K := K) (j := 0) (ev_var rfl) hv1 ev_c rfl) (ead_cons (ed_int (ev_dgetI (ev_var rfl) (ev_ixTi (K := K) (j := 1) (ev_var rfl) hv1 ev_c rfl) hl1 (hk k (.inr rfl)))) (ead_cons (ed_ixTd (K := K) (j := 2) (ev_var rfl) hv1 ev_c rfl) ead_nil))) (by show 3 ≤ 100000; decide))) fun v' H2 d hd e2 hv' => q v' H2 (e1.trans e2) (by subst hd; exact hv')
      | _ => cases hb
    · have e : withNum at_ m = m := by
        cases m with
        | jump k => cases hb
        | unless_ k => cases hb
        | _ => rfl
      refine s_ret (ev_var rfl) fun H2 e2 => q v H2 (e1.trans e2) ?_
      show Td H2 v (mkD (withNum at_ m, i))
      rw [e]
      exact Td.tx (Tx.of (e1.trans e2)) _ _ hv
/-! ### places_of_labels -/
abbrev s_places_of_labels : Stmt := topS 2
theorem sc_places_of_labels : FnScope ["rows", "at", "row"] ["rows"] (fnScope s_places_of_labels) := fnScope_by (by decide +kernel)
def spLabels (K : PySem.W.Frag) : Sp := fun vs H Q _ => ∃ (v : V) (rows : List Rp), vs = [v] ∧ Td H v (.tuple (rows.map rpD)) ∧ (labs (rows.map Prod.fst)).Nodup ∧ rows.length ≤ 500 ∧
  ∀ p H2, H p = none → Ex H H2 → H2 p = some (.dK (intKv (labAt 0 (rows.map Prod.fst)) id)) → Q (.ref p) H2
theorem isLab (r : Rw) : decide (rwW r = Str.ofString "label") = (match r with | .label _ => true | _ => false) := by
  cases r with
  | op o => cases o <;> (show decide (Str.ofString _ = Str.ofString "label") = false; decide +kernel)
  | _ => first | (show decide (Str.ofString _ = Str.ofString "label") = false; decide +kernel) | (show decide (Str.ofString _ = Str.ofString "label") = true; decide +kernel)
theorem labAt_len : ∀ (i : Nat) (rs : List Rw), (labAt i rs).length ≤ rs.length
  | _, [] => Nat.le_refl _
  | i, r :: rs => by
    have ih := labAt_len (i + 1) rs
    unfold labAt
    rw [List.length_append, List.length_map, List.length_cons]
    have : (lab1 r).length ≤ 1 := by cases r <;> simp [lab1]
    omega
theorem labAt_snoc (rs : List Rw) (i : Nat) (r : Rw) (h : rs[i]? = some r) : labAt 0 (rs.take (i + 1)) = labAt 0 (rs.take i) ++ (lab1 r).map fun k => (k, i) := by
  have hl := (List.getElem?_eq_some_iff.mp h).1
  rw [List.take_succ, h, labAt_app, List.length_take, Nat.min_eq_left (by omega)]
  show _ ++ ((lab1 r).map (fun k => (k, 0 + i)) ++ labAt (0 + i + 1) []) = _
  rw [Nat.zero_add]
  show _ ++ ((lab1 r).map (fun k => (k, i)) ++ []) = _
  rw [List.append_nil]
theorem labs_take_not {rs : List Rw} {i : Nat} {k : Int} (nd : (labs rs).Nodup) (h : rs[i]? = some (.label k)) : k ∉ (labAt 0 (rs.take i)).map Prod.fst := by
  rw [labAt_fst]
  have hl := (List.getElem?_eq_some_iff.mp h).1
  have e : rs = rs.take i ++ ([Rw.label k] ++ rs.drop (i + 1)) := by
    have h2 : rs[i] = Rw.label k := by
      have := List.getElem?_eq_getElem hl
      rw [h] at this
      exact (Option.some.inj this).symm
    have := List.take_append_drop i rs
    rw [List.drop_eq_getElem_cons hl, h2] at this
    exact this.symm
  rw [e, labs_app, labs_app] at nd
  intro z
  have := (List.nodup_append.mp nd).2.2 k z k (List.mem_append_left _ (by exact List.mem_singleton.mpr rfl))
  exact this rfl
theorem ok_labels (T : ModsM K mg aG) {f : Addr} {fd : FuncData} (F : Def K mg "places_of_labels" s_places_of_labels f fd) (b : Binds K fd ["rows"] []) : Cal P w K mg base 1 "places_of_labels" (spLabels K) [] := by
  refine cal0 F b .nil sc_places_of_labels (fun vs H Q E h => ?_) (fun cdv A outer s H vs Q E hr h => ?_)
  · obtain ⟨_, _, rfl, _⟩ := h
    rfl
  · obtain ⟨v, rows, rfl, hv, nd, hl, q⟩ := h
    have m_enumerate := T.m_enumerate
    have hu := hu_of hr
    have hu64 := hr.units
    refine ⟨_, (pss_one (ps_ret (pe_dc (own := [("at", 1), ("row", 2)]) (g := (gTup K 2 (gCons (gName 1) (gCons (gName 2) gNil)))) rfl sc_places_of_labels.nd (Wt.pi_enumT (by rfl) m_enumerate (pa_cons (pv 0) pa_nil)) (blkOk_by (N := ["rows", "at", "row"]) (sc := C8.fnScope s_places_of_labels) (by decide +kernel)) (fun _ _ _ _ _ => pg_tup rfl (pgs_cons (pg_name (i := 1) sc_places_of_labels.nd rfl (Or.inl rfl)) (pgs_cons (pg_name (i := 2) sc_places_of_labels.nd rfl (Or.inl rfl)) pgs_nil))) (fun _ _ _ _ _ => pts_one (pt_cmpR op_eq (pe_ix (show IxR _ (rIxT K) from ix_tup) (pv 2) pe_int (fun _ _ => rfl)) pe_str (nomark _))) (fun _ _ _ _ _ => (pe_ix (show IxR _ (rIxT K) from ix_tup) (pv 2) pe_int (fun _ _ => rfl))) (fun _ _ _ _ _ => (pv 1))))), ?_⟩
    cases hv with
    | @tup a xs _ ha hT =>
    have lxs : xs.length = rows.length := by rw [hT.len, List.length_map]
    refine ev_var rfl H (Ex.refl H) _ fun H1 e1 => ⟨a, xs, rfl, st_of (e1 _ _ ha), fun Dd hD => ?_⟩
    have ha1 := e1 _ _ ha
    have hT1 := TdAll.tx (Tx.of e1) _ _ hT
    refine dc_it (walk_enumT (K := K) (a := a) (xs := xs)) (fun i H' => Ex H1 H' ∧ H' Dd = some (.dK (intKv (labAt 0 ((rows.map Prod.fst).take i)) id))) ⟨Ex.new hD, upd_same⟩ (fun _ H' _ ⟨e2, _⟩ => st_of (e2 _ _ ha1)) ?_ ?_
    · rintro i x H2 H3 hi ⟨e2, hDd⟩ ⟨Tt, x1, y, rfl, hTt, rfl, hx1, hy⟩
      cases hx1
      have e3 := Ex.new (o := HO.tup [V.int (i : Int), y]) hTt
      have hi2 : i < rows.length := by omega
      have hr : (rows.map rpD)[i]? = some (rpD rows[i]) := by rw [List.getElem?_map, List.getElem?_eq_getElem hi2] <;> rfl
      have hr1 : (rows.map Prod.fst)[i]? = some rows[i].1 := by rw [List.getElem?_map, List.getElem?_eq_getElem hi2] <;> rfl
      obtain ⟨v2, hv2, hTv⟩ := td_get hT1 hr
      have hy2 : xs[i]? = some y := hy
      rw [hy2] at hv2
      cases hv2
      have hTv3 := Td.tx (Tx.of (e2.trans e3)) _ _ hTv
      refine ⟨Tt, [.int (i : Int), y], rfl, st_of upd_same, rfl, .int (i : Int), [y], rfl, y, [], rfl, rfl, rfl, ?_⟩
      have hDd3 := e3 _ _ hDd
      generalize upd H2 Tt (.tup [V.int (i : Int), y]) = H4 at e3 hTv3 hDd3 ⊢
      generalize rows[i] = rp at hr1 hTv3
      obtain ⟨r, pl⟩ := rp
      refine eqWT (ev_ixTs (K := K) (j := 0) (ev_var rfl) hTv3 ev_c rfl) ev_c rfl (isLab r) H4 (Ex.refl _) _ fun H5 e5 => ?_
      have hDd5 := e5 _ _ hDd3
      have sn := labAt_snoc _ i r hr1
      cases r with
      | label k =>
        show (if true = true then _ else _)
        rw [if_pos rfl]
        refine ev_ixTi (K := K) (j := 1) (x := k) (ev_var rfl) (Td.tx (Tx.of e5) _ _ hTv3) ev_c rfl H5 (Ex.refl _) _ fun H6 e6 => ev_var rfl H6 (Ex.refl _) _ fun H7 e7 => ?_
        have hDd7 := (e6.trans e7) _ _ hDd5
        refine ⟨_, Sum.inl k, rfl, hDd7, ?_, Ex.mut ((e2.trans e3).trans (e5.trans (e6.trans e7))) hD, ?_⟩
        · have := labAt_len 0 ((rows.map Prod.fst).take i)
          rw [List.length_take, List.length_map] at this
          unfold intKv
          rw [List.length_map]
          exact sz_lt (by omega)
        · rw [putK_new (by rw [intKv_keys]; intro z; obtain ⟨k2, hk2, e9⟩ := List.mem_map.mp z; cases e9; exact labs_take_not nd hr1 hk2), upd_same, sn]
          unfold intKv
          rw [List.map_append] <;> rfl
      | _ =>
        show (if false = true then _ else _)
        rw [if_neg Bool.false_ne_true]
        refine ⟨(e2.trans e3).trans e5, ?_⟩
        rw [sn]
        show H5 Dd = some (.dK (intKv (_ ++ []) id))
        rw [List.append_nil]
        exact hDd5
    · rintro H2 ⟨e2, hDd⟩
      rw [lxs, List.take_of_length_le (by rw [List.length_map]; exact Nat.le_refl _)] at hDd
      exact q Dd H2 (fresh_back e1 hD) (e1.trans e2) hDd
/-! ### machine_of -/
abbrev s_machine_of : Stmt := topS 4
theorem sc_machine_of : FnScope ["one", "rows", "made", "firsts", "number", "row", "labels", "label", "at", "thing"] ["one"] (fnScope s_machine_of) := fnScope_by (by decide +kernel)
def spMachine (K : PySem.W.Frag) : Sp := fun vs H Q _ => ∃ (v : V) (ds : List PyData) (rows : List Rp), vs = [v] ∧ Td H v (.tuple ds) ∧ ds[4]? = some (.tuple (rows.map rpD)) ∧ RowsOk (rows.map Prod.fst) ∧ RetDL ((machine (rows.map Prod.fst)).map mkD) H Q
theorem madeFrom_snoc (rs : List Rw) (i : Nat) (r : Rw) (h : rs[i]? = some r) : madeFrom 0 (rs.take (i + 1)) = madeFrom 0 (rs.take i) ++ (rowsFor r).map fun m => (m, i) := by
  have hl := (List.getElem?_eq_some_iff.mp h).1
  rw [List.take_succ, h, madeFrom_app, List.length_take, Nat.min_eq_left (by omega)]
  show _ ++ ((rowsFor r).map (fun m => (m, 0 + i)) ++ madeFrom (0 + i + 1) []) = _
  rw [Nat.zero_add]
  show _ ++ ((rowsFor r).map (fun m => (m, i)) ++ []) = _
  rw [List.append_nil]
theorem first_made (rs : List Rw) (i : Nat) : (madeFrom 0 (rs.take i)).length = first rs i := by
  rw [madeFrom_len] <;> rfl
theorem first_few {rs : List Rw} (h : RowsOk rs) (i : Nat) : first rs i ≤ 2000 := by
  have h1 := flat_len (rs.take i) fun r hr => h.cs r (List.mem_of_mem_take hr)
  have h2 := h.few
  rw [List.length_take] at h1
  unfold first
  omega
theorem ok_machine_of (T : ModsM K mg aG) (c_rows_for : Cal P w K mg base 2 "rows_for" (spRowsFor K) []) (c_places_of_labels : Cal P w K mg base 1 "places_of_labels" (spLabels K) []) (c_with_number : Cal P w K mg base 1 "with_number" (spWith K) [])
    {f : Addr} {fd : FuncData} (F : Def K mg "machine_of" s_machine_of f fd) (b : Binds K fd ["one"] []) : Cal P w K mg base 3 "machine_of" (spMachine K) [] := by
  refine cal0 F b .nil sc_machine_of (fun vs H Q E h => ?_) (fun cdv A outer s H vs Q E hr h => ?_)
  · obtain ⟨_, _, _, rfl, _⟩ := h
    rfl
  · obtain ⟨v, ds, rows, rfl, hv, h4, ok, q⟩ := h
    have m_enumerate := T.m_enumerate
    have m_len := T.m_len
    have hu := hu_of hr
    have hu64 := hr.units
    refine ⟨_, (pss_cons (ps_set (i := 1) sc_machine_of.nd rfl (.inl rfl) (pe_ix ix_tup (pv 0) pe_int (fun _ _ => rfl)))
      (pss_cons (ps_set (i := 2) sc_machine_of.nd rfl (.inl rfl) (pe_lst pa_nil))
      (pss_cons (ps_set (i := 3) sc_machine_of.nd rfl (.inr rfl) (pe_lst pa_nil))
      (pss_cons (ps_for PassesOwn.never rfl (Wt.pi_enumT (by rfl) m_enumerate (pa_cons (pv 1) pa_nil)) (pg_tup rfl (pgs_cons (pg_name (i := 4) sc_machine_of.nd rfl (.inr rfl)) (pgs_cons (pg_name (i := 5) sc_machine_of.nd rfl (.inl rfl)) pgs_nil))) (pss_cons (ps_expr (pe_bm PySem.F.plainAttrs_list PySem.F.slot_list_append PySem.F.type_list_append mt_append (pv 3) (pa_cons (pe_callB call_len_seq (by rfl) m_len PySem.boot_len (pa_cons (pv 2) pa_nil)) pa_nil)))
      (pss_one (ps_expr (pe_bm PySem.F.plainAttrs_list PySem.F.slot_list_extend PySem.F.type_list_extend mt_extend (pv 2) (pa_cons (pe_lc (own := [("thing", 9)]) (g := (gName 9)) (tt := tYes) rfl sc_machine_of.nd (pi_list (C8.pe_c c_rows_for hr (by first | decide | exact Nat.le_refl _ | omega) (by rfl) (pa_cons (pv 5) pa_nil))) (blkOk_by (N := ["one", "rows", "made", "firsts", "number", "row", "labels", "label", "at", "thing"]) (sc := C8.fnScope s_machine_of) (by decide +kernel)) (fun _ _ _ _ _ => pg_name (i := 9) sc_machine_of.nd rfl (Or.inl rfl)) (fun _ _ _ _ _ => pts_nil) (fun _ _ _ _ _ => (pe_op (show OpR _ (binaryOp .Add) (rCatA K) from op_catA) (pv 9) (pe_tup (pa_cons (pv 4) pa_nil))))) pa_nil))))))
      (pss_cons (ps_set (i := 6) sc_machine_of.nd rfl (.inr rfl) (pe_dc (own := [("label", 7), ("at", 8)]) (g := (gTup K 2 (gCons (gName 7) (gCons (gName 8) gNil)))) (tt := tYes) rfl sc_machine_of.nd (pi_items (Wt.pe_frz (C8.pe_c c_places_of_labels hr (by first | decide | exact Nat.le_refl _ | omega) (by rfl) (pa_cons (pv 1) pa_nil)))) (blkOk_by (N := ["one", "rows", "made", "firsts", "number", "row", "labels", "label", "at", "thing"]) (sc := C8.fnScope s_machine_of) (by decide +kernel)) (fun _ _ _ _ _ => pg_tup rfl (pgs_cons (pg_name (i := 7) sc_machine_of.nd rfl (Or.inl rfl)) (pgs_cons (pg_name (i := 8) sc_machine_of.nd rfl (Or.inl rfl)) pgs_nil))) (fun _ _ _ _ _ => pts_nil) (fun _ _ _ _ _ => (pv 7)) (fun _ _ _ _ _ => (pe_ix (show IxR _ (rIxL K) from ix_list) (pv 3) (pv 8) (fun _ _ => rfl)))))
      (pss_one (ps_ret (pe_lc (own := [("row", 5)]) (g := (gName 5)) (tt := tYes) rfl sc_machine_of.nd (pi_list (pv 2)) (blkOk_by (N := ["one", "rows", "made", "firsts", "number", "row", "labels", "label", "at", "thing"]) (sc := C8.fnScope s_machine_of) (by decide +kernel)) (fun _ _ _ _ _ => pg_name (i := 5) sc_machine_of.nd rfl (Or.inl rfl)) (fun _ _ _ _ _ => pts_nil) (fun _ _ _ _ _ => (C8.pe_c c_with_number hr (by first | decide | exact Nat.le_refl _ | omega) (by rfl) (pa_cons (pv 5) (pa_cons (pv 6) pa_nil)))))))))))), ?_⟩
    obtain ⟨rs, ers⟩ : ∃ rs, rs = rows.map Prod.fst := ⟨_, rfl⟩
    rw [← ers] at ok q
    have lrs : rs.length = rows.length := by rw [ers, List.length_map]
    have few := ok.few
    obtain ⟨x4, hx4, ev4⟩ := ev_ixTd (K := K) (σ := [some v, none, none, none, none, none, none, none, none, none]) (ta := tVar 0) (tb := tC (.int 4)) (j := 4) (ev_var rfl) hv ev_c h4
    refine q_asg ev4 fun H1 e1 => ?_
    have hx1 := Td.tx (Tx.of e1) _ _ hx4
    refine q_asgL (xs := []) (el_lst ea_nil (Nat.zero_le _)) fun pm H2 hpm0 e2 hpm => ?_
    refine q_asgL (xs := []) (el_lst ea_nil (Nat.zero_le _)) fun pf H3 hpf0 e3 hpf => ?_
    have hpm3 := e3 _ _ hpm
    have npf : pm ≠ pf := ne_of_none hpm hpf0
    have e13 := (e1.trans e2).trans e3
    have hpm00 : H pm = none := fresh_back e1 hpm0
    have hpf00 : H pf = none := fresh_back (e1.trans e2) hpf0
    cases hx1 with
    | @tup a xs _ ha hT =>
    have lxs : xs.length = rs.length := by rw [hT.len, List.length_map, lrs]
    have ha3 := (e2.trans e3) _ _ ha
    have hT3 := TdAll.tx (Tx.of (e2.trans e3)) _ _ hT
    refine q_forEnumT (K := K) (ev_var rfl) (st_of ha3) (fun i σ' H' => ∃ y4 y5 vs, σ' = [some v, some (.ref a), some (.ref pm), some (.ref pf), y4, y5, none, none, none, none] ∧ Ex H H' ∧ H' a = some (.tup xs) ∧ TdAll H' xs (rows.map rpD) ∧ H' pm = some (.lst vs) ∧ TdAll H' vs ((madeFrom 0 (rs.take i)).map mkD) ∧ H' pf = some (.lst (((List.range i).map fun j => (first rs j : Int)).map .int)))
      (fun H4 e4 => ⟨none, none, [], rfl, e13.trans e4, e4 _ _ ha3, TdAll.tx (Tx.of e4) _ _ hT3, e4 _ _ hpm3, .nil, e4 _ _ hpf⟩) (fun i σ' H' _ ⟨_, _, _, _, _, h, _⟩ => st_of h) ?_ ?_
    · rintro i x σ' H4 H5 hx ⟨y4, y5, vs, rfl, e4, ha4, hT4, hpm4, hvs4, hpf4⟩ e5
      have hi : i < rs.length := by
        have := (List.getElem?_eq_some_iff.mp hx).1
        omega
      have hi2 : i < rows.length := by omega
      have hr : (rows.map rpD)[i]? = some (rpD rows[i]) := by rw [List.getElem?_map, List.getElem?_eq_getElem hi2] <;> rfl
      have hr1 : rs[i]? = some rows[i].1 := by rw [ers, List.getElem?_map, List.getElem?_eq_getElem hi2] <;> rfl
      have ha5 := e5 _ _ ha4
      have hT5 := TdAll.tx (Tx.of e5) _ _ hT4
      obtain ⟨v2, hv2, hTv⟩ := td_get hT5 hr
      rw [hx] at hv2
      cases hv2
      generalize rows[i] = rp at hr1 hTv
      obtain ⟨r, pl⟩ := rp
      have hr1' : rs[i]? = some r := hr1
      have hfew : fewC r = true := ok.cs r (List.mem_of_getElem? hr1')
      have lvs : vs.length = first rs i := by rw [hvs4.len, List.length_map, first_made]
      have hf2000 := first_few ok i
      have hf2001 := first_few ok (i + 1)
      -- firsts
      refine q_app (e5 _ _ hpf4) (ev_var rfl) (ev_len (K := K) (ev_var rfl) (sq_of (e5 _ _ hpm4))) (by rw [List.length_map, List.length_map, List.length_range]; omega) fun H6 e6 => ?_
      have hpf6 := (e5.trans e6) _ _ hpf4
      have tx6 : Tx H6 (upd H6 pf (.lst (((List.range i).map fun j => (first rs j : Int)).map V.int ++ [.int (vs.length : Int)]))) := Tx.lst hpf6
      have eF : (upd H6 pf (.lst (((List.range i).map fun j => (first rs j : Int)).map V.int ++ [.int (vs.length : Int)]))) pf = some (.lst (((List.range (i + 1)).map fun j => (first rs j : Int)).map .int)) := by
        rw [upd_same, List.range_succ, List.map_append, List.map_append, lvs] <;> rfl
      have npa : a ≠ pf := ne_of ha4 hpf4 (by intro z; cases z)
      have e47 : Ex H (upd H6 pf (.lst (((List.range i).map fun j => (first rs j : Int)).map V.int ++ [.int (vs.length : Int)]))) := Ex.mut (e4.trans (e5.trans e6)) hpf00
      have ha7 : (upd H6 pf (.lst (((List.range i).map fun j => (first rs j : Int)).map V.int ++ [.int (vs.length : Int)]))) a = some (.tup xs) := by rw [upd_ne npa]; exact e6 _ _ ha5
      have hpm7 : (upd H6 pf (.lst (((List.range i).map fun j => (first rs j : Int)).map V.int ++ [.int (vs.length : Int)]))) pm = some (.lst vs) := by rw [upd_ne npf]; exact (e5.trans e6) _ _ hpm4
      have hT7 := TdAll.tx ((Tx.of e6).trans tx6) _ _ hT5
      have hvs7 := TdAll.tx ((Tx.of (e5.trans e6)).trans tx6) _ _ hvs4
      have hTv7 := Td.tx ((Tx.of e6).trans tx6) _ _ hTv
      generalize upd H6 pf (.lst (((List.range i).map fun j => (first rs j : Int)).map V.int ++ [.int (vs.length : Int)])) = H7 at eF e47 ha7 hpm7 hT7 hvs7 hTv7 ⊢
      -- made
      have len5 := rowsFor_len r hfew
      refine s_extDL (K := K) (ds := ((rowsFor r).map mrD).map fun d => match d with | .tuple es => .tuple (es ++ [.int (i : Int)]) | d => d) hpm7 (ev_var rfl) (edl_lcDL (edl_callRet (ds := (rowsFor r).map mrD) (ea_cons (ev_var rfl) ea_nil) fun H8 e8 Q8 q8 => ⟨x, r, pl, rfl, Td.tx (Tx.of e8) _ _ hTv7, hfew, q8⟩) (by rw [List.length_map]; omega) (fun _ => rfl) fun y d H8 e8 hd hy => ?_) (by rw [List.length_map, List.length_map]; omega) fun ws H8 e8 hws => ?_
      · obtain ⟨m, hm, rfl⟩ := List.mem_map.mp hd
        have l4 : (mrDs m).length ≤ 100 := by cases m <;> (show _ + 1 ≤ 100; simp [mrA])
        exact ed_catA (K := K) (ev_var rfl) hy (List.cons_ne_nil _ _) l4 (ed_tup (ead_cons (ed_int (ev_var rfl)) ead_nil) (by show 1 ≤ 100000; decide)) (List.cons_ne_nil _ _) (by show 1 ≤ 100; decide)
      · have hpm8 := e8 _ _ hpm7
        have tx8 : Tx H8 (upd H8 pm (.lst (vs ++ ws))) := Tx.lst hpm8
        have npa2 : a ≠ pm := ne_of ha7 hpm7 (by intro z; cases z)
        refine ⟨_, _, vs ++ ws, rfl, Ex.mut (e47.trans e8) hpm00, by rw [upd_ne npa2]; exact e8 _ _ ha7, TdAll.tx ((Tx.of e8).trans tx8) _ _ hT7, upd_same, ?_, by rw [upd_ne npf.symm]; exact e8 _ _ eF⟩
        rw [madeFrom_snoc rs i r hr1', List.map_append]
        refine (TdAll.tx ((Tx.of e8).trans tx8) _ _ hvs7).app ?_
        have e9 : (((rowsFor r).map fun m => (m, i)).map mkD) = ((rowsFor r).map mrD).map fun d => match d with | .tuple es => .tuple (es ++ [.int (i : Int)]) | d => d := by
          rw [List.map_map, List.map_map] <;> rfl
        rw [e9]
        exact TdAll.tx tx8 _ _ hws
    · rintro σ' H4 ⟨y4, y5, vs, rfl, e4, ha4, hT4, hpm4, hvs4, hpf4⟩
      rw [lxs] at hvs4 hpf4
      rw [List.take_length] at hvs4
      -- labels
      have nlab := labAt_len 0 rs
      refine ev_var rfl H4 (Ex.refl H4) _ fun H5 e5 => ⟨.ref a, rows, rfl, .tup (e5 _ _ ha4) (TdAll.tx (Tx.of e5) _ _ hT4), by rw [← ers]; exact ok.nd, by omega, fun d H6 hd0 e6 hdk => ⟨d, _, rfl, hdk, True.intro, fun od => ⟨d, od, _, rfl, upd_same, fun Dd hD => ?_⟩⟩⟩
      rw [← ers] at hdk hD
      have e46 := e5.trans e6
      have hd04 : H4 d = none := fresh_back e5 hd0
      have nDd : Dd ≠ d := fun z => by
        rw [z, upd_same] at hD
        cases hD
      have hD6 : H6 Dd = none := by
        rw [upd_ne nDd] at hD
        exact hD
      have e4f : Ex H4 (upd H6 d (.frz od (.dK (intKv (labAt 0 rs) id)))) := Ex.mut e46 hd04
      rw [← ers]
      refine dc_it (walk_items (kvs := intKv (labAt 0 rs) id)) (fun n H' => Ex (upd H6 d (.frz od (.dK (intKv (labAt 0 rs) id)))) H' ∧ H' Dd = some (.dK (intKv ((labAt 0 rs).take n) (first rs)))) ⟨Ex.new hD, upd_same⟩ (fun _ H' _ ⟨e, _⟩ => e _ _ upd_same) ?_ ?_
      · rintro n x H7 H8 hn ⟨e7, hDd⟩ ⟨Tt, x1, y, rfl, hTt, rfl, hx1, hy⟩
        have ln : (intKv (labAt 0 rs) id).length = (labAt 0 rs).length := List.length_map ..
        have hn2 : n < (labAt 0 rs).length := by omega
        obtain ⟨⟨k, at0⟩, hka⟩ : ∃ p, (labAt 0 rs)[n]? = some p := ⟨_, List.getElem?_eq_getElem hn2⟩
        have hkv : (intKv (labAt 0 rs) id)[n]? = some ((Sum.inl k : Key), V.int (at0 : Int)) := by
          unfold intKv
          rw [List.getElem?_map, hka] <;> rfl
        have hx1' : (intKv (labAt 0 rs) id)[n]?.map (fun kv => kV kv.1) = some x1 := hx1
        have hy' : (intKv (labAt 0 rs) id)[n]?.map Prod.snd = some y := hy
        rw [hkv] at hx1' hy'
        cases hx1'
        cases hy'
        have hb := labAt_bound (List.mem_of_getElem? hka)
        have e8 := Ex.new (o := HO.tup [kV (Sum.inl k : Key), V.int (at0 : Int)]) hTt
        refine ⟨Tt, [kV (Sum.inl k : Key), V.int (at0 : Int)], rfl, st_of upd_same, rfl, _, [V.int (at0 : Int)], rfl, _, [], rfl, rfl, rfl, ?_⟩
        have hDd8 := e8 _ _ hDd
        have hpf8 := e8 _ _ (e7 _ _ (e4f _ _ hpf4))
        generalize upd H7 Tt (.tup [kV (Sum.inl k : Key), V.int (at0 : Int)]) = H9 at e8 hDd8 hpf8 ⊢
        have hat : ((List.range rs.length).map fun j => (first rs j : Int)).map V.int = ((List.range rs.length).map fun j => V.int (first rs j : Int)) := by
          rw [List.map_map] <;> rfl
        have hg : (((List.range rs.length).map fun j => (first rs j : Int)).map V.int)[at0]? = some (V.int (first rs at0 : Int)) := by
          rw [hat, List.getElem?_map, List.getElem?_range (by omega)] <;> rfl
        refine tYes_go ?_
        refine ev_var rfl H9 (Ex.refl _) _ fun H10 e10 => ?_
        refine ev_op (r := rIxL K) (ta := tVar 3) (tb := tVar 8) (ev_var rfl) (ev_var rfl) (rv_ixL (K := K) (i := (at0 : Int)) (sq_of (e10 _ _ hpf8)) (atI_nat hg)) H10 (Ex.refl _) _ fun H11 e11 => ?_
        have hDd11 := (e10.trans e11) _ _ hDd8
        have nk : (Sum.inl k : Key) ∉ (intKv ((labAt 0 rs).take n) (first rs)).map Prod.fst := by
          rw [intKv_keys]
          intro z
          obtain ⟨k2, hk2, e9⟩ := List.mem_map.mp z
          cases e9
          have nd := ok.nd
          rw [← labAt_fst 0 rs] at nd
          have e12 : (labAt 0 rs).map Prod.fst = ((labAt 0 rs).take n).map Prod.fst ++ (k :: ((labAt 0 rs).drop (n + 1)).map Prod.fst) := by
            have h9 : (labAt 0 rs)[n] = (k, at0) := by
              have := List.getElem?_eq_getElem hn2
              rw [hka] at this
              exact (Option.some.inj this).symm
            have h10 := List.take_append_drop n (labAt 0 rs)
            rw [List.drop_eq_getElem_cons hn2, h9] at h10
            conv => lhs; rw [← h10]
            rw [List.map_append, List.map_cons]
          rw [e12] at nd
          exact (List.nodup_append.mp nd).2.2 k hk2 k (List.mem_cons_self ..) rfl
        refine ⟨_, Sum.inl k, rfl, hDd11, ?_, Ex.mut (e7.trans (e8.trans (e10.trans e11))) hD, ?_⟩
        · unfold intKv
          rw [List.length_map, List.length_take]
          exact sz_lt (by omega)
        · rw [putK_new nk, upd_same, List.take_succ, hka]
          unfold intKv
          rw [List.map_append] <;> rfl
      · rintro H7 ⟨e7, hDd⟩
        have lk : (intKv (labAt 0 rs) id).length = (labAt 0 rs).length := List.length_map ..
        rw [lk, List.take_length] at hDd
        have e47 := e4f.trans e7
        -- the rows told
        have hpm7 := e47 _ _ hpm4
        have hvs7 := TdAll.tx (Tx.of e47) _ _ hvs4
        have lmade := madeFrom_len 0 rs
        have few5 := flat_len rs ok.cs
        refine s_retDL (ds := (machine rs).map mkD) (edl_lcLi (ev_var rfl) hpm7 hvs7 (by rw [List.length_map]; omega) (by unfold machine; rw [List.length_map, List.length_map, List.length_map]) (fun _ => rfl) fun i x d e H8 e8 hd he hx => ?_) rfl (q.go (e4.trans e47))
        obtain ⟨m, hm, rfl⟩ : ∃ m, (madeFrom 0 rs)[i]? = some m ∧ d = mkD m := by
          rw [List.getElem?_map] at hd
          cases h9 : (madeFrom 0 rs)[i]? with
          | none => rw [h9] at hd; cases hd
          | some m => rw [h9] at hd; exact ⟨m, rfl, (Option.some.inj hd).symm⟩
        have he2 : e = mkD (withNum (goal rs) m.1, m.2) := by
          unfold machine at he
          rw [List.map_map, List.getElem?_map, hm] at he
          exact (Option.some.inj he).symm
        subst he2
        refine fun H9 e9 Q9 q9 => ea_cons (H := H8) (ta := tVar 5) (ev_var rfl) (ea_cons (ta := tVar 6) (ev_var rfl) ea_nil) H9 e9 _ fun H10 e10 => ⟨x, m, Dd, intKv (labAt 0 rs) (first rs), goal rs, rfl, Td.tx (Tx.of (e9.trans e10)) _ _ hx, (e8.trans (e9.trans e10)) _ _ hDd, fun k hk => ?_, fun v' H11 e11 hv' => q9 v' H11 (e10.trans e11) hv'⟩
        rw [intKv_val]
        obtain ⟨j, r, hj, _, hmr⟩ := madeFrom_mem (List.mem_of_getElem? hm)
        have hkl : k ∈ (labAt 0 rs).map Prod.fst := by
          rw [labAt_fst]
          exact ok.js k (jumps_mem hj (jump_mem hmr hk))
        obtain ⟨i2, hi2, _⟩ := lookup_mem hkl
        unfold goal
        rw [hi2] <;> rfl
end
end Wt

set_option Elab.async false
set_option linter.all false
set_option maxRecDepth 100000
set_option maxHeartbeats 4000000
namespace Wt
open PySem PySem.Spec PyProof.Rows L2 SX Evl
open C8 (Def Cal cal0 fnScope_by fnScope)
/-! What a def of rows is drawn from: the dice, the state so far. -/
section
variable {P : Program} {w : World} {K : PySem.W.Frag} {mg : Str → Option Value} {base : Heap}
/-! ### _law_taken -/
abbrev s__law_taken : Stmt := topS 10
theorem sc__law_taken : FnScope ["_law_row", "_law_many", "_law_found", "_law_cell"] ["_law_row", "_law_many"] (fnScope s__law_taken) := fnScope_by (by decide +kernel)
theorem ok_taken0 (T : ModsL K mg) {f : Addr} {fd : FuncData} (F : Def K mg "_law_taken" s__law_taken f fd) (b : Binds K fd ["_law_row", "_law_many"] []) : Cal P w K mg base 1 "_law_taken" (spNext0 K) [] := by
  refine cal0 F b .nil sc__law_taken (fun vs H Q E h => ?_) (fun cdv A outer s H vs Q E hr h => ?_)
  · obtain ⟨_, _, _, _, _, _, _, rfl, _⟩ := h
    rfl
  · obtain ⟨d, a, ns, many, i, m, r, rfl, hm0, hm1, hd, hi, h0, h1, hS, q⟩ := h
    have m_len := T.m_len
    refine ⟨_, (pss_cons (ps_if (pt_cmpR op_gt (pe_ix ix_list (pv 0) pe_int (fun _ _ => rfl)) pe_int (nomark _)) (pss_cons (ps_set (i := 2) sc__law_taken.nd rfl (.inl rfl) (pe_op op_mod (pe_ix ix_list (pv 0) pe_int (fun _ _ => rfl)) (pv 1)))
      (pss_cons (ps_asg (pe_op op_fdiv (pe_ix ix_list (pv 0) pe_int (fun _ _ => rfl)) (pv 1)) (pg_sub (pv 0) pe_int set_list))
      (pss_one (ps_ret (pv 2))))) pss_nil)
      (pss_cons (ps_asg (pe_op op_add (pe_ix ix_list (pv 0) pe_int (fun _ _ => rfl)) pe_int) (pg_sub (pv 0) pe_int set_list))
      (pss_cons (ps_if (pt_cmpR op_gt (pe_ix ix_list (pv 0) pe_int (fun _ _ => rfl)) (pe_callB call_len_seq (by rfl) m_len PySem.boot_len (pa_cons (pe_ix ix_list (pv 0) pe_int (fun _ _ => rfl)) pa_nil)) (nomark _)) (pss_cons (ps_asg (pe_op op_mod (pe_op op_add (pe_op op_mul (pe_ix ix_list (pv 0) pe_int (fun _ _ => rfl)) pe_int) pe_int) pe_int) (pg_sub (pv 0) pe_int set_list))
      (pss_one (ps_ret (pe_op op_mod (pe_op op_fdiv (pe_ix ix_list (pv 0) pe_int (fun _ _ => rfl)) pe_int) (pv 1))))) pss_nil)
      (pss_cons (ps_set (i := 3) sc__law_taken.nd rfl (.inl rfl) (pe_ix ix_list (pe_ix ix_list (pv 0) pe_int (fun _ _ => rfl)) (pe_op op_sub (pe_ix ix_list (pv 0) pe_int (fun _ _ => rfl)) pe_int) (fun _ _ => rfl)))
      (pss_cons (ps_asg (pe_op op_mod (pe_op op_add (pe_op op_add (pe_op op_mul (pe_ix ix_list (pv 0) pe_int (fun _ _ => rfl)) pe_int) (pv 3)) pe_int) pe_int) (pg_sub (pv 0) pe_int set_list))
      (pss_cons (ps_if (pt_cmpR op_ge (pv 3) (pe_op op_pow pe_int pe_int) (nomark _)) (pss_one (ps_asg (pe_op op_fdiv (pv 3) (pv 1)) (pg_sub (pv 0) pe_int set_list))) pss_nil)
      (pss_one (ps_ret (pe_op op_mod (pv 3) (pv 1)))))))))), ?_⟩
    have ix : ∀ {H' : Hp} {σ : L2.St} {ta tb : TE} {xs : List V} {j : Nat} {v : V}, Ev ta σ H' (.ref d) → Ev tb σ H' (.int (j : Int)) → H' d = some (.lst xs) → xs[j]? = some v → Ev (tOp (rIxL K) ta tb) σ H' v :=
      fun ha hb h1 h2 => ev_op ha hb (rv_ixL (sq_of h1) (atI_nat h2))
    have c0 : ∀ {H' : Hp} {σ : L2.St}, Ev (tC (.int 0)) σ H' (.int ((0 : Nat) : Int)) := ev_c
    have c1 : ∀ {H' : Hp} {σ : L2.St}, Ev (tC (.int 1)) σ H' (.int ((1 : Nat) : Int)) := ev_c
    have c2 : ∀ {H' : Hp} {σ : L2.St}, Ev (tC (.int 2)) σ H' (.int ((2 : Nat) : Int)) := ev_c
    have c3 : ∀ {H' : Hp} {σ : L2.St}, Ev (tC (.int 3)) σ H' (.int ((3 : Nat) : Int)) := ev_c
    have hdiv : ∀ x : Int, CDiv x many := fun x => ⟨hm0, hm1⟩
    have rz : ∀ x : Int, 0 ≤ x % many ∧ x % many < many := fun x => ⟨Int.emod_nonneg x (by omega), Int.emod_lt_of_pos x hm0⟩
    have rm : ∀ x : Int, 0 ≤ x % 2147483647 ∧ x % 2147483647 < 2147483647 := fun x => ⟨Int.emod_nonneg x (by decide), Int.emod_lt_of_pos x (by decide)⟩
    refine q_when (et_test (ev_op (ix (ev_var rfl) c3 hd rfl) ev_c rv_I0)) (fun hb H1 e1 => ?_) (fun hb H1 e1 => ?_)
    · have hd1 := e1 d _ hd
      refine q_asg (ev_op (ix (ev_var rfl) c3 hd1 rfl) (ev_var rfl) (rv_I hm0)) fun H2 e2 => ?_
      have hd2 := e2 d _ hd1
      refine q_setL (xs := [.ref a, .int i, .int m, .int r]) (j := 3) hd2 (ev_op (ix (ev_var rfl) c3 hd2 rfl) (ev_var rfl) (rv_I (hdiv r))) (ev_var rfl) c3 (by show 3 < 4; decide) fun H3 e3 => ?_
      have x3 : Exd d H (upd H3 d (.lst ([V.ref a, .int i, .int m, .int r].set 3 (.int (r / many))))) := fun b o hb2 ho => by
        rw [upd_ne hb2]
        exact e3 b o (e2 b o (e1 b o ho))
      refine s_ret (ev_var rfl) fun H4 e4 => q _ H4 i m (r / many) (rz r).1 (rz r).2 hi h0 h1 (e4 d _ upd_same) fun b o hb2 ho => e4 b o (x3 b o hb2 ho)
    · have hd1 := e1 d _ hd
      refine q_setL (xs := [.ref a, .int i, .int m, .int r]) (j := 1) hd1 (ev_op (ix (ev_var rfl) c1 hd1 rfl) ev_c rv_I0) (ev_var rfl) c1 (by show 1 < 4; decide) fun H2 e2 => ?_
      have hd2 := e2 d _ hd1
      have hd3 : (upd H2 d (.lst ([V.ref a, .int i, .int m, .int r].set 1 (.int (i + 1))))) d = some (.lst [.ref a, .int (i + 1), .int m, .int r]) := upd_same
      have x3 : Exd d H (upd H2 d (.lst ([V.ref a, .int i, .int m, .int r].set 1 (.int (i + 1))))) := fun b o hb2 ho => by
        rw [upd_ne hb2]
        exact e2 b o (e1 b o ho)
      have hS3 : Scr K (upd H2 d (.lst ([V.ref a, .int i, .int m, .int r].set 1 (.int (i + 1))))) a ns := (hS.ex (e1.trans e2)).fx (Fx.mut hd2 True.intro)
      generalize upd H2 d (.lst ([V.ref a, .int i, .int m, .int r].set 1 (.int (i + 1)))) = H3 at hd3 x3 hS3 ⊢
      refine q_when (et_test (ev_op (ix (ev_var rfl) c1 hd3 rfl) (ev_len (K := K) (ix (ev_var rfl) c0 hd3 rfl) hS3.sq) rv_I0)) (fun hb2 H4 e4 => ?_) (fun hb2 H4 e4 => ?_)
      · have hd4 := e4 d _ hd3
        refine q_setL (xs := [.ref a, .int (i + 1), .int m, .int r]) (j := 2) hd4 (ev_op (ev_op (ev_op (ix (ev_var rfl) c2 hd4 rfl) ev_c (rv_I (.inl ⟨by omega, by omega⟩))) ev_c rv_I0) ev_c (rv_I (show (0 : Int) < 2147483647 by decide))) (ev_var rfl) c2 (by show 2 < 4; decide) fun H5 e5 => ?_
        have hd6 : (upd H5 d (.lst ([V.ref a, .int (i + 1), .int m, .int r].set 2 (.int ((m * 48271 + 11) % 2147483647))))) d = some (.lst [.ref a, .int (i + 1), .int ((m * 48271 + 11) % 2147483647), .int r]) := upd_same
        have x6 : Exd d H (upd H5 d (.lst ([V.ref a, .int (i + 1), .int m, .int r].set 2 (.int ((m * 48271 + 11) % 2147483647))))) := fun b o hb2 ho => by
          rw [upd_ne hb2]
          exact e5 b o (e4 b o (x3 b o hb2 ho))
        generalize upd H5 d (.lst ([V.ref a, .int (i + 1), .int m, .int r].set 2 (.int ((m * 48271 + 11) % 2147483647)))) = H6 at hd6 x6 ⊢
        refine s_ret (ev_op (ev_op (ix (ev_var rfl) c2 hd6 rfl) ev_c (rv_I ⟨by decide, by decide⟩)) (ev_var rfl) (rv_I hm0)) fun H7 e7 => q _ H7 (i + 1) _ r (rz _).1 (rz _).2 (by omega) (rm _).1 (rm _).2 (e7 d _ hd6) fun b o hb2 ho => e7 b o (x6 b o hb2 ho)
      · have hle := of_decide_eq_false hb2
        rw [List.length_map] at hle
        have hd4 := e4 d _ hd3
        have hlt : i.toNat < ns.length := by omega
        have hg : (ns.map V.int)[i.toNat]? = some (.int ns[i.toNat]) := by
          rw [List.getElem?_map, List.getElem?_eq_getElem hlt] <;> rfl
        refine q_asg (ev_op (ix (ev_var rfl) c0 hd4 rfl) (ev_is (ev_op (ix (ev_var rfl) c1 hd4 rfl) ev_c rv_I0) (show V.int (i + 1 - 1) = V.int ((i.toNat : Nat) : Int) by rw [show i + 1 - 1 = ((i.toNat : Nat) : Int) by omega])) (rv_ixL (hS3.ex e4).sq (atI_nat hg))) fun H5 e5 => ?_
        have hd5 := e5 d _ hd4
        refine q_setL (xs := [.ref a, .int (i + 1), .int m, .int r]) (j := 2) hd5 (ev_op (ev_op (ev_op (ev_op (ix (ev_var rfl) c2 hd5 rfl) ev_c (rv_I (.inl ⟨by omega, by omega⟩))) (ev_var rfl) rv_I0) ev_c rv_I0) ev_c (rv_I (show (0 : Int) < 2147483647 by decide))) (ev_var rfl) c2 (by show 2 < 4; decide) fun H6 e6 => ?_
        have hd7 : (upd H6 d (.lst ([V.ref a, .int (i + 1), .int m, .int r].set 2 (.int ((m * 48271 + ns[i.toNat] + 11) % 2147483647))))) d = some (.lst [.ref a, .int (i + 1), .int ((m * 48271 + ns[i.toNat] + 11) % 2147483647), .int r]) := upd_same
        have x7 : Exd d H (upd H6 d (.lst ([V.ref a, .int (i + 1), .int m, .int r].set 2 (.int ((m * 48271 + ns[i.toNat] + 11) % 2147483647))))) := fun b o hb2 ho => by
          rw [upd_ne hb2]
          exact e6 b o (e5 b o (e4 b o (x3 b o hb2 ho)))
        generalize upd H6 d (.lst ([V.ref a, .int (i + 1), .int m, .int r].set 2 (.int ((m * 48271 + ns[i.toNat] + 11) % 2147483647)))) = H7 at hd7 x7 ⊢
        refine q_when (et_test (ev_op (ev_var rfl) (ev_op ev_c ev_c (rv_I ⟨by decide, by decide, by decide⟩)) rv_I0)) (fun hb3 H8 e8 => ?_) (fun hb3 H8 e8 => ?_)
        · have hd8 := e8 d _ hd7
          refine s_setL (xs := [.ref a, .int (i + 1), .int ((m * 48271 + ns[i.toNat] + 11) % 2147483647), .int r]) (j := 3) hd8 (ev_op (ev_var rfl) (ev_var rfl) (rv_I (hdiv _))) (ev_var rfl) c3 (by show 3 < 4; decide) fun H9 e9 => ?_
          have x9 : Exd d H (upd H9 d (.lst ([V.ref a, .int (i + 1), .int ((m * 48271 + ns[i.toNat] + 11) % 2147483647), .int r].set 3 (.int (ns[i.toNat] / many))))) := fun b o hb4 ho => by
            rw [upd_ne hb4]
            exact e9 b o (e8 b o (x7 b o hb4 ho))
          dsimp only
          refine s_ret (ev_op (ev_var rfl) (ev_var rfl) (rv_I hm0)) fun H10 e10 => q _ H10 (i + 1) _ (ns[i.toNat] / many) (rz _).1 (rz _).2 (by omega) (rm _).1 (rm _).2 (e10 d _ upd_same) fun b o hb4 ho => e10 b o (x9 b o hb4 ho)
        · refine s_ret (ev_op (ev_var rfl) (ev_var rfl) (rv_I hm0)) fun H9 e9 => q _ H9 (i + 1) _ r (rz _).1 (rz _).2 (by omega) (rm _).1 (rm _).2 (e9 d _ (e8 d _ hd7)) fun b o hb4 ho => e9 b o (e8 b o (x7 b o hb4 ho))
/-- .. over a dice -/
theorem cal_next {x : Str} {j : Nat} (c : Cal P w K mg base j x (spNext0 K) []) : Cal P w K mg base j x (spNext K) [] := by
  obtain ⟨f, fd, ps, ds, F, h1, h2, h3, h4⟩ := c.ex
  cases h4
  refine ⟨f, fd, ps, [], fn_seen F (fun vs H Q E h => ?_) (fun vs H Q E h hp ok => ?_), h1, h2, h3, .nil⟩
  · obtain ⟨d, a, ns, many, rfl, m0, m1, hd, hS, q⟩ := h
    have hS2 : Scr K (upd H d (.lst [.ref a, .int 0, .int 0, .int 0])) a ns := hS.fx (Fx.mut hd True.intro)
    exact F.len [.ref d, .int many] _ (fun v H' => True) E ⟨d, a, ns, many, 0, 0, 0, rfl, m0, m1, upd_same, by decide, by decide, by decide, hS2, fun _ _ _ _ _ _ _ _ _ _ _ _ => trivial⟩
  · obtain ⟨d, a, ns, many, rfl, m0, m1, hd, hS, q⟩ := h
    obtain ⟨i, m, r, b0, b1, b2, al, ok1⟩ := dice_out ok hd
    refine ⟨_, fun v H2 => ∃ z i' m' r', v = .int z ∧ 0 ≤ z ∧ z < many ∧ 0 ≤ i' ∧ 0 ≤ m' ∧ m' < 2147483647 ∧ H2 d = some (.lst [.ref a, .int i', .int m', .int r']) ∧ Exd d (upd H d (.lst [.ref a, .int i, .int m, .int r])) H2, al, ok1,
      ⟨d, a, ns, many, i, m, r, rfl, m0, m1, upd_same, b0, b1, b2, hS.fx (Fx.mut hd True.intro), fun z H2 i' m' r' z0 z1 z2 z3 z4 z5 z6 => ⟨z, i', m', r', rfl, z0, z1, z2, z3, z4, z5, z6⟩⟩, ?_⟩
    rintro v H2 hp2 ok2 ⟨z, i', m', r', rfl, z0, z1, z2, z3, z4, z5, z6⟩
    obtain ⟨al2, ok3⟩ := dice_in ok2 z5 z2 z3 z4
    refine ⟨_, al2, ok3, q z _ z0 z1 fun b o ho => ?_⟩
    by_cases hb : b = d
    · subst hb
      rw [hd] at ho
      cases ho
      exact upd_same
    · rw [upd_ne hb]
      exact z6 b o hb (by rw [upd_ne hb]; exact ho)
/-! ### the state -/
def qR : Key := Sum.inr (Str.ofString "rows")
def qI : Key := Sum.inr (Str.ofString "line")
def qB : Key := Sum.inr (Str.ofString "labels")
def qX : Key := Sum.inr (Str.ofString "next")
def qL : Key := Sum.inr (Str.ofString "laid")
def qN : Key := Sum.inr (Str.ofString "named")
theorem q_ne : qR ≠ qI ∧ qR ≠ qB ∧ qR ≠ qX ∧ qR ≠ qL ∧ qR ≠ qN ∧ qI ≠ qB ∧ qI ≠ qX ∧ qI ≠ qL ∧ qI ≠ qN ∧ qB ≠ qX ∧ qB ≠ qL ∧ qB ≠ qN ∧ qX ≠ qL ∧ qX ≠ qN ∧ qL ≠ qN := by decide +kernel
def sd (rl : Addr) (li lb nx : Int) (ll nl : Addr) : List (Key × V) := [(qR, .ref rl), (qI, .int li), (qB, .int lb), (qX, .int nx), (qL, .ref ll), (qN, .ref nl)]
theorem sd_R (rl : Addr) (li lb nx : Int) (ll nl : Addr) : valV (sd rl li lb nx ll nl) qR = some (.ref rl) := valV_pos (p := (qR, V.ref rl)) rfl
theorem sd_I (rl : Addr) (li lb nx : Int) (ll nl : Addr) : valV (sd rl li lb nx ll nl) qI = some (.int li) := by
  unfold sd
  rw [valV_neg (p := (qR, V.ref rl)) q_ne.1, valV_pos (p := (qI, V.int li)) rfl]
theorem sd_B (rl : Addr) (li lb nx : Int) (ll nl : Addr) : valV (sd rl li lb nx ll nl) qB = some (.int lb) := by
  obtain ⟨h1, h2, h3, h4, h5, h6, h7, h8, h9, h10, h11, h12, h13, h14, h15⟩ := q_ne
  unfold sd
  rw [valV_neg (p := (qR, V.ref rl)) h2, valV_neg (p := (qI, V.int li)) h6, valV_pos (p := (qB, V.int lb)) rfl]
theorem sd_X (rl : Addr) (li lb nx : Int) (ll nl : Addr) : valV (sd rl li lb nx ll nl) qX = some (.int nx) := by
  obtain ⟨h1, h2, h3, h4, h5, h6, h7, h8, h9, h10, h11, h12, h13, h14, h15⟩ := q_ne
  unfold sd
  rw [valV_neg (p := (qR, V.ref rl)) h3, valV_neg (p := (qI, V.int li)) h7, valV_neg (p := (qB, V.int lb)) h10, valV_pos (p := (qX, V.int nx)) rfl]
theorem sd_L (rl : Addr) (li lb nx : Int) (ll nl : Addr) : valV (sd rl li lb nx ll nl) qL = some (.ref ll) := by
  obtain ⟨h1, h2, h3, h4, h5, h6, h7, h8, h9, h10, h11, h12, h13, h14, h15⟩ := q_ne
  unfold sd
  rw [valV_neg (p := (qR, V.ref rl)) h4, valV_neg (p := (qI, V.int li)) h8, valV_neg (p := (qB, V.int lb)) h11, valV_neg (p := (qX, V.int nx)) h13, valV_pos (p := (qL, V.ref ll)) rfl]
theorem sd_N (rl : Addr) (li lb nx : Int) (ll nl : Addr) : valV (sd rl li lb nx ll nl) qN = some (.ref nl) := by
  obtain ⟨h1, h2, h3, h4, h5, h6, h7, h8, h9, h10, h11, h12, h13, h14, h15⟩ := q_ne
  unfold sd
  rw [valV_neg (p := (qR, V.ref rl)) h5, valV_neg (p := (qI, V.int li)) h9, valV_neg (p := (qB, V.int lb)) h12, valV_neg (p := (qX, V.int nx)) h14, valV_neg (p := (qL, V.ref ll)) h15, valV_pos (p := (qN, V.ref nl)) rfl]
theorem sd_put (rl : Addr) (li lb nx : Int) (ll nl : Addr) : (∀ r2, putK (sd rl li lb nx ll nl) qR (.ref r2) = sd r2 li lb nx ll nl) ∧ (∀ i2, putK (sd rl li lb nx ll nl) qI (.int i2) = sd rl i2 lb nx ll nl) ∧
    (∀ b2, putK (sd rl li lb nx ll nl) qB (.int b2) = sd rl li b2 nx ll nl) ∧ (∀ x2, putK (sd rl li lb nx ll nl) qX (.int x2) = sd rl li lb x2 ll nl) ∧ (∀ l2, putK (sd rl li lb nx ll nl) qL (.ref l2) = sd rl li lb nx l2 nl) := by
  obtain ⟨h1, h2, h3, h4, h5, h6, h7, h8, h9, h10, h11, h12, h13, h14, h15⟩ := q_ne
  refine ⟨fun _ => ?_, fun _ => ?_, fun _ => ?_, fun _ => ?_, fun _ => ?_⟩ <;> (unfold sd putK; simp only [List.any_cons, List.any_nil, Bool.or_false, decide_true, decide_eq_true_eq, Bool.or_true, Bool.true_or, if_true, List.map_cons, List.map_nil, h1, h2, h3, h4, h5, h6, h7, h8, h9, h10, h11, h12, h13, h14, h15, h1.symm, h2.symm, h3.symm, h4.symm, h5.symm, h6.symm, h7.symm, h8.symm, h9.symm, h10.symm, h11.symm, h12.symm, h13.symm, h14.symm, h15.symm, if_false])
/-- what is so far: addresses, rows, labels, next cell, laid cells, named cells -/
structure Gh where
  d : Addr
  a : Addr
  s : Addr
  rl : Addr
  ll : Addr
  nl : Addr
  ns : List Int
  R : List Rp
  lb : Nat
  nx : Nat
  A : List Int
  M : List Int
structure Gs (K : PySem.W.Frag) (H : Hp) (g : Gh) : Prop where
  dc : Dc K H g.d g.a g.ns
  dk : ∃ li : Int, H g.s = some (.dK (sd g.rl li g.lb g.nx g.ll g.nl))
  r : ∃ vs, H g.rl = some (.lst vs) ∧ TdAll H vs (g.R.map rpD)
  l : H g.ll = some (.lst (g.A.map .int))
  n : H g.nl = some (.lst (g.M.map .int))
  n1 : g.rl ≠ g.ll
  n2 : g.rl ≠ g.nl
  n3 : g.ll ≠ g.nl
  ca : ∀ c ∈ g.A, 0 ≤ c ∧ c < (g.nx : Int)
  cm : ∀ c ∈ g.M, 0 ≤ c ∧ c < (g.nx : Int)
  cr : ∀ r ∈ g.R, ∀ c ∈ reads r.1 ++ writes r.1, 0 ≤ c ∧ c < (g.nx : Int)
  la : g.A.length ≤ 500
  lm : g.M.length ≤ 500
  lr : g.R.length ≤ 500
theorem Gs.ex {H H' : Hp} {g : Gh} (h : Gs K H g) (e : Ex H H') : Gs K H' g := by
  obtain ⟨li, hd⟩ := h.dk
  obtain ⟨vs, h1, h2⟩ := h.r
  exact ⟨h.dc.ex e, ⟨li, e _ _ hd⟩, ⟨vs, e _ _ h1, TdAll.tx (Tx.of e) _ _ h2⟩, e _ _ h.l, e _ _ h.n, h.n1, h.n2, h.n3, h.ca, h.cm, h.cr, h.la, h.lm, h.lr⟩
/-- s["key"] -/
theorem ev_sd {σ : L2.St} {H : Hp} {ta : TE} {g : Gh} {k : String} {v : V} (h : Gs K H g) (ha : Ev ta σ H (.ref g.s)) (hv : ∀ li, valV (sd g.rl li g.lb g.nx g.ll g.nl) (Sum.inr (Str.ofString k) : Key) = some v) : Ev (tDGet ta (tC (.str (Str.ofString k)))) σ H v := by
  obtain ⟨li, hd⟩ := h.dk
  exact ev_dget ha ev_c hd (hv li)
theorem s_retEA {σ : L2.St} {H : Hp} {tr : TA} {L : List V → Prop} {D : Ends} (h : EAN tr σ H L) (hl : ∀ vs, L vs → vs.length ≤ 100000) (k : ∀ p H1 vs, L vs → H p = none → Ex H H1 → H1 p = some (.tup vs) → D.rt (.ref p) H1) : tRet (tTup tr) D σ H :=
  h H (Ex.refl H) _ fun vs H1 pv e1 => ⟨sz_of (hl vs pv), fun p hp => k p _ vs pv (fresh_back e1 hp) (e1.trans (Ex.new hp)) upd_same⟩
/-! ### _law_operand -/
abbrev s__law_operand : Stmt := topS 12
theorem sc__law_operand : FnScope ["_law_row", "_law_s", "_law_some"] ["_law_row", "_law_s"] (fnScope s__law_operand) := fnScope_by (by decide +kernel)
def spOperand (K : PySem.W.Frag) : Sp := fun vs H Q _ => ∃ g : Gh, vs = [.ref g.d, .ref g.s] ∧ Gs K H g ∧ g.A ≠ [] ∧ ∀ c H2, c ∈ g.A → Ex H H2 → Q (.int c) H2
/-- an item of a list of ints at a number below its length -/
theorem en_ixI {σ : L2.St} {H : Hp} {ta tb : TE} {l : Addr} {xs : List Int} (ha : Ev ta σ H (.ref l)) (hl : H l = some (.lst (xs.map .int))) (hb : EvN tb σ H (fun v => ∃ z : Int, v = .int z ∧ 0 ≤ z ∧ z < (xs.length : Int))) : EvN (tOp (rIxL K) ta tb) σ H (fun v => ∃ c, v = .int c ∧ c ∈ xs) := by
  refine en_opV (EvN.of ha) (fun _ _ => hb) ?_
  rintro x y rfl ⟨z, rfl, z0, z1⟩
  obtain ⟨k, rfl⟩ : ∃ k : Nat, z = (k : Int) := ⟨z.toNat, by omega⟩
  have hlt : k < xs.length := by omega
  refine ⟨.int xs[k], ⟨_, rfl, List.getElem_mem hlt⟩, rv_ixL (sq_of hl) (atI_nat ?_)⟩
  rw [List.getElem?_map, List.getElem?_eq_getElem hlt] <;> rfl
theorem ok_operand (T : ModsL K mg) (c__law_taken : Cal P w K mg base 1 "_law_taken" (spNext K) []) {f : Addr} {fd : FuncData} (F : Def K mg "_law_operand" s__law_operand f fd) (b : Binds K fd ["_law_row", "_law_s"] []) : Cal P w K mg base 2 "_law_operand" (spOperand K) [] := by
  refine cal0 F b .nil sc__law_operand (fun vs H Q E h => ?_) (fun cdv A outer s H vs Q E hr h => ?_)
  · obtain ⟨_, rfl, _⟩ := h
    rfl
  · obtain ⟨g, rfl, hG, hne, q⟩ := h
    have m_len := T.m_len
    have hu := hu_of hr
    have hu64 := hr.units
    refine ⟨_, (pss_cons (ps_set (i := 2) sc__law_operand.nd rfl (.inl rfl) (pe_dget hu (pv 1) pe_str (fun _ _ => rfl)))
      (pss_one (ps_ret (pe_ifExp (pt_cmpR op_eq (C8.pe_c c__law_taken hr (by first | decide | exact Nat.le_refl _ | omega) (by rfl) (pa_cons (pv 0) (pa_cons pe_int pa_nil))) pe_int (nomark _)) (pe_ix ix_list (pv 2) (pe_un un_neg pe_int) (fun _ _ => rfl)) (pe_ix ix_list (pv 2) (C8.pe_c c__law_taken hr (by first | decide | exact Nat.le_refl _ | omega) (by rfl) (pa_cons (pv 0) (pa_cons (pe_callB call_len_seq (by rfl) m_len PySem.boot_len (pa_cons (pv 2) pa_nil)) pa_nil))) (fun _ _ => rfl)))))), ?_⟩
    refine q_asg (ev_sd hG (ev_var rfl) fun li => sd_L _ _ _ _ _ _) fun H1 e1 => ?_
    have hG1 := hG.ex e1
    have hl0 : 0 < g.A.length := List.length_pos_iff.mpr hne
    have hla := hG.la
    obtain ⟨ys, y, hy⟩ : ∃ ys y, g.A = ys ++ [y] := ⟨_, _, (List.dropLast_concat_getLast hne).symm⟩
    refine sn_ret (P := fun v => ∃ c, v = .int c ∧ c ∈ g.A) ?_ fun v H2 hv e2 => ?_
    · have et : EvTN (tTest (tOp rEq (tCall (spNext K) [] C8.E0 (tCons (tVar 0) (tCons (tC (.int 2)) tNil))) (tC (.int 0)))) [some (V.ref g.d), some (V.ref g.s), some (V.ref g.ll)] H1 (fun _ => True) := etn_test (en_opV (en_next hG1.dc (ev_var rfl) ev_c) (fun _ _ => EvN.of ev_c) (P3 := fun v => ∃ b : Bool, v = .bl b) (by
        rintro x y ⟨z, rfl, _, _⟩ rfl
        exact ⟨_, ⟨_, rfl⟩, rv_eq rfl⟩)) fun v ⟨b, hb⟩ => ⟨b, hb, trivial⟩
      have h1 : EvN (tOp (rIxL K) (tVar 2) (tUn (rU fun i => .int (-i)) (tC (.int 1)))) [some (V.ref g.d), some (V.ref g.s), some (V.ref g.ll)] H1 (fun v => ∃ c, v = .int c ∧ c ∈ g.A) := (EvN.of (ev_op (ev_var rfl) (ev_un ev_c ru_neg) (rv_ixL (i := -1) (v := .int y) (sq_of hG1.l) (by
        rw [hy, List.map_append]
        exact atI_last _ _)))).imp fun v hv => ⟨_, hv, by rw [hy]; simp⟩
      have h2 : EvN (tOp (rIxL K) (tVar 2) (tCall (spNext K) [] C8.E0 (tCons (tVar 0) (tCons (tCB (rLenS K) (tCons (tVar 2) tNil)) tNil)))) [some (V.ref g.d), some (V.ref g.s), some (V.ref g.ll)] H1 (fun v => ∃ c, v = .int c ∧ c ∈ g.A) := en_ixI (ev_var rfl) hG1.l (en_next hG1.dc (ev_var rfl) (ev_is (ev_len (K := K) (ev_var rfl) (sq_of hG1.l)) (by rw [List.length_map])) (by omega) (by omega))
      intro H2 e2 Q2 q2
      refine et H2 e2 _ fun bb H3 _ e3 => ?_
      cases bb with
      | true => exact h1 H3 (e2.trans e3) _ fun v H4 p e4 => q2 v H4 p (e3.trans e4)
      | false => exact h2 H3 (e2.trans e3) _ fun v H4 p e4 => q2 v H4 p (e3.trans e4)
    · obtain ⟨c, rfl, hc⟩ := hv
      exact q c H2 hc (e1.trans e2)
theorem sn_operand {H : Hp} {g : Gh} (h : Gs K H g) (hne : g.A ≠ []) : SpN (spOperand K) [.ref g.d, .ref g.s] H (fun v => ∃ c, v = .int c ∧ c ∈ g.A) :=
  fun H1 e Q q E => ⟨g, rfl, h.ex e, hne, fun c H2 hc e2 => q _ H2 ⟨c, rfl, hc⟩ e2⟩
theorem en_operand {σ : L2.St} {H : Hp} {E : XK} {ta tb : TE} {g : Gh} (h : Gs K H g) (hne : g.A ≠ []) (ha : Ev ta σ H (.ref g.d)) (hb : Ev tb σ H (.ref g.s)) : EvN (tCall (spOperand K) [] E (tCons ta (tCons tb tNil))) σ H (fun v => ∃ c, v = .int c ∧ c ∈ g.A) := en_call (ea_cons ha (ea_cons hb ea_nil)) (sn_operand h hne)
/-! ### _law_place -/
abbrev s__law_place : Stmt := topS 14
theorem sc__law_place : FnScope ["_law_row", "_law_s"] ["_law_row", "_law_s"] (fnScope s__law_place) := fnScope_by (by decide +kernel)
def spPlace (K : PySem.W.Frag) : Sp := fun vs H Q _ => ∃ g : Gh, vs = [.ref g.d, .ref g.s] ∧ Gs K H g ∧ ∀ (p : Addr) (x y : Int) H2, H p = none → Ex H H2 → H2 p = some (.tup [.int x, .int y]) → Q (.ref p) H2
theorem ok_place (T : ModsL K mg) (c__law_taken : Cal P w K mg base 1 "_law_taken" (spNext K) []) {f : Addr} {fd : FuncData} (F : Def K mg "_law_place" s__law_place f fd) (b : Binds K fd ["_law_row", "_law_s"] []) : Cal P w K mg base 2 "_law_place" (spPlace K) [] := by
  refine cal0 F b .nil sc__law_place (fun vs H Q E h => ?_) (fun cdv A outer s H vs Q E hr h => ?_)
  · obtain ⟨_, rfl, _⟩ := h
    rfl
  · obtain ⟨g, rfl, hG, q⟩ := h

    have hu := hu_of hr
    refine ⟨_, (pss_one (ps_ret (pe_tup (pa_cons (pe_dget hu (pv 1) pe_str (fun _ _ => rfl)) (pa_cons (pe_op op_add pe_int (C8.pe_c c__law_taken hr (by first | decide | exact Nat.le_refl _ | omega) (by rfl) (pa_cons (pv 0) (pa_cons pe_int pa_nil)))) pa_nil))))), ?_⟩
    obtain ⟨li, hd⟩ := hG.dk
    refine s_retEA (ean_one (ev_dget (ev_var rfl) ev_c hd (sd_I _ _ _ _ _ _)) (ean_cons (P := fun v => ∃ z : Int, v = .int z) (en_opV (EvN.of ev_c) (fun _ _ => en_next (many := 40) hG.dc (ev_var rfl) ev_c) ?_) ean_nil)) ?_ fun p H1 vs hvs hp e1 hp1 => ?_
    · rintro x y rfl ⟨z, rfl, _, _⟩
      exact ⟨_, ⟨_, rfl⟩, rv_I0⟩
    · rintro vs ⟨_, rfl, _, _, rfl, _, rfl⟩
      show 2 ≤ 100000
      decide
    · obtain ⟨_, rfl, _, _, rfl, ⟨z, rfl⟩, rfl⟩ := hvs
      exact q p _ _ _ hp e1 hp1
/-- a place, as data -/
theorem er_place {σ : L2.St} {H : Hp} {E : XK} {ta tb : TE} {g : Gh} (h : Gs K H g) (ha : Ev ta σ H (.ref g.d)) (hb : Ev tb σ H (.ref g.s)) : EvR (tCall (spPlace K) [] E (tCons ta (tCons tb tNil))) σ H (fun d => ∃ p : Int × Int, d = plD p) := fun H1 e Q q =>
  ha H1 e _ fun H2 e2 => hb H2 (e.trans e2) _ fun H3 e3 => ⟨g, rfl, h.ex ((e.trans e2).trans e3), fun p x y H4 hp e4 h4 => q _ H4 _ ⟨(x, y), rfl⟩ ((e2.trans e3).trans e4) (.tup h4 (.cons (.int x) (.cons (.int y) .nil)))⟩
end
end Wt

set_option Elab.async false
set_option linter.all false
set_option maxRecDepth 100000
set_option maxHeartbeats 4000000
namespace Wt
open PySem PySem.Spec PyProof.Rows L2 SX Evl
open C8 (Def Cal cal0 fnScope_by fnScope)
/-! A fresh cell, a row that lays one. -/
/-- all but these addresses stays, nothing goes away -/
structure Kp (l : List Addr) (H H2 : Hp) : Prop where
  keep : ∀ b o, b ∉ l → H b = some o → H2 b = some o
  there : ∀ b, H2 b = none → H b = none
theorem Kp.of {l : List Addr} {H H2 : Hp} (e : Ex H H2) : Kp l H H2 := ⟨fun b o _ h => e b o h, fun b h => fresh_back e h⟩
theorem Kp.refl (l : List Addr) (H : Hp) : Kp l H H := .of (Ex.refl H)
theorem Kp.trans {l : List Addr} {H H1 H2 : Hp} (a : Kp l H H1) (b : Kp l H1 H2) : Kp l H H2 := ⟨fun x o n h => b.keep x o n (a.keep x o n h), fun x h => a.there x (b.there x h)⟩
theorem Kp.mono {l m : List Addr} {H H2 : Hp} (k : Kp l H H2) (h : ∀ x ∈ l, x ∈ m) : Kp m H H2 := ⟨fun b o n => k.keep b o fun z => n (h b z), k.there⟩
theorem Kp.upd {l : List Addr} {H : Hp} {p : Addr} {o o2 : HO} (hp : p ∈ l) (h : H p = some o) : Kp l H (upd H p o2) := ⟨fun b u n hb => by
  have hne : b ≠ p := fun z => n (by rw [z]; exact hp)
  rw [upd_ne hne]
  exact hb, fun b hb => by
  by_cases e : b = p
  · subst e
    rw [upd_same] at hb
    cases hb
  · rw [upd_ne e] at hb
    exact hb⟩
section
variable {P : Program} {w : World} {K : PySem.W.Frag} {mg : Str → Option Value} {base : Heap}
theorem Gs.tx {H H2 : Hp} {g : Gh} (h : Gs K H g) (k : Kp [g.s, g.rl, g.ll] H H2) : Tx H H2 := fun a xs ha => by
  obtain ⟨li, hd⟩ := h.dk
  obtain ⟨vs, hr, _⟩ := h.r
  refine k.keep a _ (fun z => ?_) ha
  simp only [List.mem_cons, List.not_mem_nil, or_false] at z
  rcases z with rfl | rfl | rfl
  · rw [hd] at ha; cases ha
  · rw [hr] at ha; cases ha
  · rw [h.l] at ha; cases ha
theorem Gs.dcK {H H2 : Hp} {g : Gh} (h : Gs K H g) (k : Kp [g.s, g.rl, g.ll] H H2) : Dc K H2 g.d g.a g.ns := by
  obtain ⟨li, hd⟩ := h.dk
  obtain ⟨vs, hr, _⟩ := h.r
  refine ⟨k.keep _ _ (fun z => ?_) h.dc.o, h.dc.s.fx fun b o u hb => k.keep _ _ (fun z => ?_) hb⟩
  · have ho := h.dc.o
    unfold DiceO at ho
    simp only [List.mem_cons, List.not_mem_nil, or_false] at z
    rcases z with z | z | z
    · rw [z, hd] at ho; cases ho
    · rw [z, hr] at ho; cases ho
    · rw [z, h.l] at ho; cases ho
  · simp only [List.mem_cons, List.not_mem_nil, or_false] at z
    rcases z with rfl | rfl | rfl
    · rw [hd] at hb; cases hb
    · rw [hr] at hb; cases hb
    · rw [h.l] at hb; cases hb
theorem Gs.sr {H : Hp} {g : Gh} (h : Gs K H g) : g.rl ≠ g.s ∧ g.ll ≠ g.s ∧ g.nl ≠ g.s := by
  obtain ⟨li, hd⟩ := h.dk
  obtain ⟨vs, hr, _⟩ := h.r
  exact ⟨ne_of hr hd (by intro z; cases z), ne_of h.l hd (by intro z; cases z), ne_of h.n hd (by intro z; cases z)⟩
/-- the state's own dict told otherwise, lists as they are -/
theorem Gs.putS {H H2 : Hp} {g : Gh} (h : Gs K H g) (e : Ex H H2) {li : Int} {lb nx : Nat} (hn : g.nx ≤ nx) : Gs K (upd H2 g.s (.dK (sd g.rl li lb nx g.ll g.nl))) { g with lb := lb, nx := nx } := by
  have h2 := h.ex e
  obtain ⟨li0, hd⟩ := h2.dk
  obtain ⟨vs, hr, hT⟩ := h2.r
  obtain ⟨n1, n2, n3⟩ := h2.sr
  have k : Kp [g.s, g.rl, g.ll] H2 (upd H2 g.s (.dK (sd g.rl li lb nx g.ll g.nl))) := .upd (List.mem_cons_self ..) hd
  have up : ∀ {c : Int}, 0 ≤ c ∧ c < (g.nx : Int) → 0 ≤ c ∧ c < (nx : Int) := fun z => ⟨z.1, by omega⟩
  exact ⟨h2.dcK k, ⟨li, upd_same⟩, ⟨vs, by rw [upd_ne n1]; exact hr, TdAll.tx (h2.tx k) _ _ hT⟩, by rw [upd_ne n2]; exact h2.l, by rw [upd_ne n3]; exact h2.n, h.n1, h.n2, h.n3, fun c hc => up (h.ca c hc), fun c hc => up (h.cm c hc), fun r hr c hc => up (h.cr r hr c hc), h.la, h.lm, h.lr⟩
/-- a row told -/
theorem Gs.putR {H : Hp} {g : Gh} (h : Gs K H g) {vs : List V} {v : V} {r : Rp} (hr : H g.rl = some (.lst vs)) (hT : TdAll H vs (g.R.map rpD)) (hv : Td H v (rpD r)) (hc : ∀ c ∈ reads r.1 ++ writes r.1, 0 ≤ c ∧ c < (g.nx : Int)) (hl : g.R.length < 500) :
    Gs K (upd H g.rl (.lst (vs ++ [v]))) { g with R := g.R ++ [r] } := by
  obtain ⟨li0, hd⟩ := h.dk
  obtain ⟨n1, n2, n3⟩ := h.sr
  have k : Kp [g.s, g.rl, g.ll] H (upd H g.rl (.lst (vs ++ [v]))) := .upd (by simp) hr
  have tx := h.tx k
  refine ⟨h.dcK k, ⟨li0, by rw [upd_ne n1.symm]; exact hd⟩, ⟨_, upd_same, ?_⟩, by rw [upd_ne h.n1.symm]; exact h.l, by rw [upd_ne h.n2.symm]; exact h.n, h.n1, h.n2, h.n3, h.ca, h.cm, fun x hx c hcx => ?_, h.la, h.lm, by show (g.R ++ [r]).length ≤ 500; rw [List.length_append]; show g.R.length + 1 ≤ 500; omega⟩
  · show TdAll _ _ ((g.R ++ [r]).map rpD)
    rw [List.map_append]
    exact (TdAll.tx tx _ _ hT).snoc (Td.tx tx _ _ hv)
  · rcases List.mem_append.mp hx with hx | hx
    · exact h.cr x hx c hcx
    · rw [List.mem_singleton.mp hx] at hcx
      exact hc c hcx
/-- a cell laid -/
theorem Gs.putL {H : Hp} {g : Gh} (h : Gs K H g) {c : Int} (hc : 0 ≤ c ∧ c < (g.nx : Int)) (hl : g.A.length < 500) : Gs K (upd H g.ll (.lst (g.A.map V.int ++ [.int c]))) { g with A := g.A ++ [c] } := by
  obtain ⟨li0, hd⟩ := h.dk
  obtain ⟨n1, n2, n3⟩ := h.sr
  obtain ⟨vs, hr, hT⟩ := h.r
  have k : Kp [g.s, g.rl, g.ll] H (upd H g.ll (.lst (g.A.map V.int ++ [.int c]))) := .upd (by simp) h.l
  have tx := h.tx k
  refine ⟨h.dcK k, ⟨li0, by rw [upd_ne n2.symm]; exact hd⟩, ⟨vs, by rw [upd_ne h.n1]; exact hr, TdAll.tx tx _ _ hT⟩, ?_, by rw [upd_ne h.n3.symm]; exact h.n, h.n1, h.n2, h.n3, fun x hx => ?_, h.cm, h.cr, by show (g.A ++ [c]).length ≤ 500; rw [List.length_append]; show g.A.length + 1 ≤ 500; omega, h.lm, h.lr⟩
  · show (upd H g.ll _) g.ll = some (.lst ((g.A ++ [c]).map V.int))
    rw [List.map_append]
    exact upd_same
  · rcases List.mem_append.mp hx with hx | hx
    · exact h.ca x hx
    · rw [List.mem_singleton.mp hx]
      exact hc
/-- s["key"] = a number -/
theorem q_sput {σ : L2.St} {H : Hp} {ta tv : TE} {tz : TS} {D : Ends} {g : Gh} {k : String} {i : Int} {rest : Int → List (Key × V)} (h : Gs K H g) (ha : Ev ta σ H (.ref g.s)) (hv : Ev tv σ H (.int i)) (hp : ∀ li, putK (sd g.rl li g.lb g.nx g.ll g.nl) (Sum.inr (Str.ofString k) : Key) (.int i) = rest li)
    (q : ∀ li H1, Ex H H1 → H1 g.s = some (.dK (sd g.rl li g.lb g.nx g.ll g.nl)) → tz D σ (upd H1 g.s (.dK (rest li)))) : tSeq (sDPut ta (tC (.str (Str.ofString k))) tv) tz D σ H := by
  obtain ⟨li, hd⟩ := h.dk
  refine hv H (Ex.refl H) _ fun H1 e1 => ha H1 e1 _ fun H2 e2 => ⟨g.s, _, rfl, DPut.k (k := (Sum.inr (Str.ofString k) : Key)) ((e1.trans e2) _ _ hd) (by show 6 < sizeLine; decide), ?_⟩
  rw [hp li]
  exact q li H2 (e1.trans e2) ((e1.trans e2) _ _ hd)
/-! ### _law_fresh -/
abbrev s__law_fresh : Stmt := topS 13
theorem sc__law_fresh : FnScope ["_law_row", "_law_s", "_law_way"] ["_law_row", "_law_s"] (fnScope s__law_fresh) := fnScope_by (by decide +kernel)
def spFresh (K : PySem.W.Frag) : Sp := fun vs H Q _ => ∃ g : Gh, vs = [.ref g.d, .ref g.s] ∧ Gs K H g ∧ ∀ (c : Int) (nx : Nat) H2, g.nx ≤ nx → nx ≤ g.nx + 1 → 0 ≤ c → c < (nx : Int) → Kp [g.s] H H2 → Gs K H2 { g with nx := nx } → Q (.int c) H2
theorem can_ints : ∀ xs : List Int, PyData.canLayAll0 (xs.map .int) = true
  | [] => rfl
  | x :: xs => by
    rw [List.map_cons]
    unfold PyData.canLayAll0
    rw [can_ints xs]
    rfl
theorem depth_ints : ∀ xs : List Int, PyData.depthAll (xs.map .int) ≤ 1
  | [] => by
    show PyData.depthAll [] ≤ 1
    unfold PyData.depthAll
    decide
  | x :: xs => by
    rw [List.map_cons]
    unfold PyData.depthAll
    have := depth_ints xs
    have : (PyData.int x).depth ≤ 1 := by unfold PyData.depth; omega
    omega
theorem shaped_ints (xs : List Int) : SeqAt.shaped (.list (xs.map .int)) = true := by
  unfold SeqAt.shaped PyData.canLay0 PyData.depth
  rw [can_ints]
  have := depth_ints xs
  exact decide_eq_true (by omega)
theorem dpa_ints {H : Hp} : ∀ xs : List Int, DpAll K H (xs.map V.int) (xs.map PyData.int)
  | [] => .nil
  | x :: xs => .cons (.int x) (dpa_ints xs)
/-- a list of numbers != [] -/
theorem ev_neNilI {σ : L2.St} {H : Hp} {ta : TE} {l : Addr} {xs : List Int} (ha : Ev ta σ H (.ref l)) (hl : H l = some (.lst (xs.map .int))) : Ev (tOp (rNeD K) ta (tLst tNil)) σ H (.bl (!decide (xs = []))) := ev_opL ha (el_lst ea_nil (Nat.zero_le _)) fun q H1 h2 e1 H2 e2 Q q2 => by
  refine ⟨.list (xs.map .int), .list [], .lst (sq_of ((e1.trans e2) _ _ hl)) (dpa_ints xs), .lst (sq_of (e2 q _ h2)) .nil, shaped_ints xs, by decide +kernel, ?_⟩
  have e : PyData.eqv (.list (xs.map PyData.int)) (.list []) = decide (xs = []) := by
    refine (eqvAll_nil _).trans ?_
    cases xs with
    | nil => rfl
    | cons x xs =>
      rw [decide_eq_false (List.cons_ne_nil _ _)]
      exact decide_eq_false (List.cons_ne_nil _ _)
  rw [e]
  exact q2 H2 (Ex.refl H2)
theorem ok_fresh (T : ModsL K mg) (c__law_taken : Cal P w K mg base 1 "_law_taken" (spNext K) []) {f : Addr} {fd : FuncData} (F : Def K mg "_law_fresh" s__law_fresh f fd) (b : Binds K fd ["_law_row", "_law_s"] []) : Cal P w K mg base 2 "_law_fresh" (spFresh K) [] := by
  refine cal0 F b .nil sc__law_fresh (fun vs H Q E h => ?_) (fun cdv A outer s H vs Q E hr h => ?_)
  · obtain ⟨_, rfl, _⟩ := h
    rfl
  · obtain ⟨g, rfl, hG, q⟩ := h
    have m_len := T.m_len
    have hu := hu_of hr
    have hu64 := hr.units
    refine ⟨_, (pss_cons (ps_set (i := 2) sc__law_fresh.nd rfl (.inl rfl) (C8.pe_c c__law_taken hr (by first | decide | exact Nat.le_refl _ | omega) (by rfl) (pa_cons (pv 0) (pa_cons pe_int pa_nil))))
      (pss_cons (ps_if (PW.pt (pw_and (pt_cmpR op_eq (pv 2) pe_int (nomark _)) (pw_and1 (pt_cmpR (op_neD hu64) (pe_dget hu (pv 1) pe_str (fun _ _ => rfl)) (pe_lst pa_nil) (nomark _))))) (pss_one (ps_ret (pe_ix ix_list (pe_dget hu (pv 1) pe_str (fun _ _ => rfl)) (C8.pe_c c__law_taken hr (by first | decide | exact Nat.le_refl _ | omega) (by rfl) (pa_cons (pv 0) (pa_cons (pe_callB call_len_seq (by rfl) m_len PySem.boot_len (pa_cons (pe_dget hu (pv 1) pe_str (fun _ _ => rfl)) pa_nil)) pa_nil))) (fun _ _ => rfl)))) pss_nil)
      (pss_cons (ps_if (PW.pt (pw_and (pt_cmpR op_eq (pv 2) pe_int (nomark _)) (pw_and1 (pt_cmpR (op_neD hu64) (pe_dget hu (pv 1) pe_str (fun _ _ => rfl)) (pe_lst pa_nil) (nomark _))))) (pss_one (ps_ret (pe_ix ix_list (pe_dget hu (pv 1) pe_str (fun _ _ => rfl)) (C8.pe_c c__law_taken hr (by first | decide | exact Nat.le_refl _ | omega) (by rfl) (pa_cons (pv 0) (pa_cons (pe_callB call_len_seq (by rfl) m_len PySem.boot_len (pa_cons (pe_dget hu (pv 1) pe_str (fun _ _ => rfl)) pa_nil)) pa_nil))) (fun _ _ => rfl)))) pss_nil)
      (pss_cons (ps_dput hu (pv 1) pe_str (pe_op op_add (pe_dget hu (pv 1) pe_str (fun _ _ => rfl)) pe_int) rfl)
      (pss_one (ps_ret (pe_op op_sub (pe_dget hu (pv 1) pe_str (fun _ _ => rfl)) pe_int))))))), ?_⟩
    refine qn_asg (en_next hG.dc (ev_var rfl) ev_c) fun v H1 hv e1 => ?_
    obtain ⟨z, rfl, _, _⟩ := hv
    have hG1 := hG.ex e1
    have evL : ∀ {H' : Hp} {σ : L2.St}, Gs K H' g → σ[1]? = some (some (.ref g.s)) → Ev (tDGet (tVar 1) (tC (.str (Str.ofString "laid")))) σ H' (.ref g.ll) := fun h e => ev_sd h (ev_var e) fun li => sd_L _ _ _ _ _ _
    have evN : ∀ {H' : Hp} {σ : L2.St}, Gs K H' g → σ[1]? = some (some (.ref g.s)) → Ev (tDGet (tVar 1) (tC (.str (Str.ofString "named")))) σ H' (.ref g.nl) := fun h e => ev_sd h (ev_var e) fun li => sd_N _ _ _ _ _ _
    have back : ∀ (c : Int) H2, 0 ≤ c ∧ c < (g.nx : Int) → Ex H H2 → Q (.int c) H2 := fun c H2 hc e => q c g.nx H2 (Nat.le_refl _) (by omega) hc.1 hc.2 (.of e) (hG.ex e)
    refine q_when (et_and (et_test (ev_op (ev_var rfl) ev_c (rv_eq rfl))) fun _ => et_test (ev_neNilI (evN hG1 rfl) hG1.n)) (fun hb H2 e2 => ?_) (fun _ H2 e2 => ?_)
    · have hG2 := hG1.ex e2
      have hne : g.M ≠ [] := by
        intro z
        rw [z] at hb
        simp at hb
      have hl0 : 0 < g.M.length := List.length_pos_iff.mpr hne
      have hlm := hG.lm
      refine sn_ret (en_ixI (evN hG2 rfl) hG2.n (en_next hG2.dc (ev_var rfl) (ev_is (ev_len (K := K) (evN hG2 rfl) (sq_of hG2.n)) (by rw [List.length_map])) (by omega) (by omega))) fun v H3 hv e3 => ?_
      obtain ⟨c, rfl, hc⟩ := hv
      exact back c H3 (hG.cm c hc) ((e1.trans e2).trans e3)
    · have hG2 := hG1.ex e2
      refine q_when (et_and (et_test (ev_op (ev_var rfl) ev_c (rv_eq rfl))) fun _ => et_test (ev_neNilI (evL hG2 rfl) hG2.l)) (fun hb H3 e3 => ?_) (fun _ H3 e3 => ?_)
      · have hG3 := hG2.ex e3
        have hne : g.A ≠ [] := by
          intro z
          rw [z] at hb
          simp at hb
        have hl0 : 0 < g.A.length := List.length_pos_iff.mpr hne
        have hla := hG.la
        refine sn_ret (en_ixI (evL hG3 rfl) hG3.l (en_next hG3.dc (ev_var rfl) (ev_is (ev_len (K := K) (evL hG3 rfl) (sq_of hG3.l)) (by rw [List.length_map])) (by omega) (by omega))) fun v H4 hv e4 => ?_
        obtain ⟨c, rfl, hc⟩ := hv
        exact back c H4 (hG.ca c hc) (((e1.trans e2).trans e3).trans e4)
      · have hG3 := hG2.ex e3
        have e13 := (e1.trans e2).trans e3
        refine q_sput hG3 (ev_var rfl) (ev_op (ev_sd hG3 (ev_var rfl) fun li => sd_X _ _ _ _ _ _) ev_c rv_I0) (fun li => (sd_put _ _ _ _ _ _).2.2.2.1 _) fun li H4 e4 hd4 => ?_
        have hG5 : Gs K (upd H4 g.s (.dK (sd g.rl li g.lb ((g.nx : Int) + 1) g.ll g.nl))) { g with nx := g.nx + 1 } := hG3.putS (lb := g.lb) (nx := g.nx + 1) e4 (by omega)
        have k5 : Kp [g.s] H (upd H4 g.s (.dK (sd g.rl li g.lb ((g.nx : Int) + 1) g.ll g.nl))) := (Kp.of (e13.trans e4)).trans (.upd (by simp) hd4)
        refine s_ret (ev_op (ev_sd hG5 (ev_var rfl) fun li => sd_X _ _ _ _ _ _) ev_c rv_I0) fun H6 e6 => ?_
        exact q _ (g.nx + 1) H6 (by omega) (by omega) (by show (0 : Int) ≤ ((g.nx + 1 : Nat) : Int) - 1; omega) (by show ((g.nx + 1 : Nat) : Int) - 1 < ((g.nx + 1 : Nat) : Int); omega) (k5.trans (.of e6)) (hG5.ex e6)
/-! ### _law_lays -/
abbrev s__law_lays : Stmt := topS 26
theorem sc__law_lays : FnScope ["_law_row", "_law_s", "_law_middle_here"] ["_law_row", "_law_s", "_law_middle_here"] (fnScope s__law_lays) := fnScope_by (by decide +kernel)
def oV : Option Int → V
  | none => .non
  | some c => .int c
/-- rows that may lay a cell -/
def layR : Rw → Bool
  | .put .. => true
  | .copy .. => true
  | .op .. => true
  | .fetch .. => true
  | .call .. => true
  | _ => false
def spLays (K : PySem.W.Frag) : Sp := fun vs H Q _ => ∃ (g : Gh) (v : V) (r : Rw), vs = [.ref g.d, .ref g.s, v] ∧ Gs K H g ∧ Td H v (.tuple (rwDs r)) ∧ layR r = true ∧ (∀ c ∈ reads r ++ writes r, 0 ≤ c ∧ c < (g.nx : Int)) ∧ g.R.length < 500 ∧ g.A.length < 500 ∧
  ∀ (p : Int × Int) H2, Kp [g.rl, g.ll] H H2 → Gs K H2 { g with R := g.R ++ [(r, p)], A := g.A ++ writes r } → Q .non H2
theorem lay_first {r : Rw} (h : layR r = true) : ∃ (oc : Option Int) (more : List PyData), rwA r = oD oc :: more ∧ writes r = oc.toList ∧ (decide (V.str (rwW r) = V.str (Str.ofString "call")) = false ∨ True) ∧ (oc = none → rwW r = Str.ofString "call") := by
  cases r with
  | put c n => exact ⟨some c, _, rfl, rfl, .inr trivial, fun z => by cases z⟩
  | copy c d => exact ⟨some c, _, rfl, rfl, .inr trivial, fun z => by cases z⟩
  | op o c d e => exact ⟨some c, _, rfl, rfl, .inr trivial, fun z => by cases z⟩
  | fetch c f n => exact ⟨some c, _, rfl, rfl, .inr trivial, fun z => by cases z⟩
  | call c f n cs =>
    cases c with
    | none => exact ⟨none, _, rfl, rfl, .inr trivial, fun _ => rfl⟩
    | some c => exact ⟨some c, _, rfl, rfl, .inr trivial, fun z => by cases z⟩
  | _ => cases h
theorem er_catA {σ : L2.St} {H : Hp} {ta tb : TE} {va : V} {ds1 : List PyData} {R : PyData → Prop} (ha : Ev ta σ H va) (hv : Td H va (.tuple ds1)) (h1 : ds1 ≠ []) (l1 : ds1.length ≤ 100) (hb : EvR tb σ H R) (hR : ∀ d, R d → ∃ es, d = .tuple es ∧ es ≠ [] ∧ es.length ≤ 100) :
    EvR (tOp (rCatA K) ta tb) σ H (fun d => ∃ es, R (.tuple es) ∧ d = .tuple (ds1 ++ es)) := fun H1 e Q q => ha H1 e _ fun H2 e2 => hb H2 (e.trans e2) _ fun v H3 d r e3 hw => by
  obtain ⟨es, rfl, hne, hl⟩ := hR d r
  have hv3 := Td.tx (Tx.of ((e.trans e2).trans e3)) _ _ hv
  cases hv3 with
  | @tup a xs _ hx1 hx2 =>
    cases hw with
    | @tup b ys _ hy1 hy2 =>
      have lx := hx2.len
      have ly := hy2.len
      have nx : xs ≠ [] := fun z => h1 (by rw [z] at hx2; cases hx2; rfl)
      have ny : ys ≠ [] := fun z => hne (by rw [z] at hy2; cases hy2; rfl)
      exact ⟨a, b, xs, ys, rfl, rfl, st_of hx1, st_of hy1, sz_of (by omega), fun z => absurd z nx, fun _ z => absurd z ny, fun _ _ p hp => q _ _ _ ⟨es, r, rfl⟩ ((e2.trans e3).trans (Ex.new hp)) (.tup upd_same (TdAll.tx (Tx.of (Ex.new hp)) _ _ (hx2.app hy2)))⟩
theorem q_appR {σ : L2.St} {H : Hp} {ta te : TE} {tz : TS} {D : Ends} {l : Addr} {xs : List V} {R : PyData → Prop} (hl : H l = some (.lst xs)) (ha : Ev ta σ H (.ref l)) (h : EvR te σ H R) (hz : xs.length < 100000) (k : ∀ v H1 d, R d → Ex H H1 → Td H1 v d → tz D σ (upd H1 l (.lst (xs ++ [v])))) :
    tSeq (tDrop (tBM K "list" rAppend ta (tCons te tNil))) tz D σ H := ha H (Ex.refl H) _ fun H1 e1 =>
  ⟨Or.inl ⟨rfl, xs, sq_of (e1 l _ hl)⟩, h H1 e1 _ fun v H2 d r e2 hv => ⟨l, xs, v, rfl, rfl, e2 l _ (e1 l _ hl), sz_lt hz, k v H2 d r (e1.trans e2) hv⟩⟩
theorem s_appR {σ : L2.St} {H : Hp} {ta te : TE} {D : Ends} {l : Addr} {xs : List V} {R : PyData → Prop} (hl : H l = some (.lst xs)) (ha : Ev ta σ H (.ref l)) (h : EvR te σ H R) (hz : xs.length < 100000) (k : ∀ v H1 d, R d → Ex H H1 → Td H1 v d → D.nx σ (upd H1 l (.lst (xs ++ [v])))) :
    tDrop (tBM K "list" rAppend ta (tCons te tNil)) D σ H := q_appR (D := D) (tz := tNext) hl ha h hz k
theorem ok_lays (T : ModsL K mg) (c__law_place : Cal P w K mg base 2 "_law_place" (spPlace K) []) {f : Addr} {fd : FuncData} (F : Def K mg "_law_lays" s__law_lays f fd) (b : Binds K fd ["_law_row", "_law_s", "_law_middle_here"] []) : Cal P w K mg base 3 "_law_lays" (spLays K) [] := by
  refine cal0 F b .nil sc__law_lays (fun vs H Q E h => ?_) (fun cdv A outer s H vs Q E hr h => ?_)
  · obtain ⟨_, _, _, rfl, _⟩ := h
    rfl
  · obtain ⟨g, v, r, rfl, hG, hv, hlay, hcc, hlr, hla, q⟩ := h

    have hu := hu_of hr
    have hu64 := hr.units
    refine ⟨_, (pss_cons (ps_expr (pe_bm PySem.F.plainAttrs_list PySem.F.slot_list_append PySem.F.type_list_append mt_append (pe_dget hu (pv 1) pe_str (fun _ _ => rfl)) (pa_cons (pe_op op_catA (pv 2) (pe_tup (pa_cons (C8.pe_c c__law_place hr (by first | decide | exact Nat.le_refl _ | omega) (by rfl) (pa_cons (pv 0) (pa_cons (pv 1) pa_nil))) pa_nil))) pa_nil)))
      (pss_one (ps_if (PW.pt (pw_or (pt_cmpR op_ne (pe_ix ix_tup (pv 2) pe_int (fun _ _ => rfl)) pe_str (nomark _)) (pw_or1 (pt_cmpR op_notN (pe_ix ix_tup (pv 2) pe_int (fun _ _ => rfl)) pe_non (nomark _))))) (pss_one (ps_expr (pe_bm PySem.F.plainAttrs_list PySem.F.slot_list_append PySem.F.type_list_append mt_append (pe_dget hu (pv 1) pe_str (fun _ _ => rfl)) (pa_cons (pe_ix ix_tup (pv 2) pe_int (fun _ _ => rfl)) pa_nil)))) pss_nil))), ?_⟩
    obtain ⟨oc, more, ea, ew, _, eo⟩ := lay_first hlay
    have eds : rwDs r = .str (rwW r) :: oD oc :: more := by
      unfold rwDs
      rw [ea]
    have rl5 : (rwDs r).length ≤ 5 := by cases r <;> (first | (cases hlay; done) | (show _ + 1 ≤ 5; simp [rwA]))
    obtain ⟨us, hr1, hr2⟩ := hG.r
    have hus := hr2.len
    rw [List.length_map] at hus
    refine q_appR hr1 (ev_sd hG (ev_var rfl) fun li => sd_R _ _ _ _ _ _) (er_catA (K := K) (ev_var rfl) hv (by rw [eds]; exact List.cons_ne_nil _ _) (by omega) (er_tup (ear_cons (er_place hG (ev_var rfl) (ev_var rfl)) ear_nil) ?_) ?_) (by omega) fun x H1 dx hx e1 hxT => ?_
    · rintro ds ⟨d, ds2, rfl, _, rfl⟩
      show 1 ≤ 100000
      decide
    · rintro d ⟨ds, ⟨d2, ds2, rfl, _, rfl⟩, rfl⟩
      exact ⟨_, rfl, List.cons_ne_nil _ _, by show 1 ≤ 100; decide⟩
    obtain ⟨es, ⟨ds, ⟨d2, ds2, rfl, ⟨pl, rfl⟩, rfl⟩, e9⟩, rfl⟩ := hx
    cases e9
    have hG1 := hG.ex e1
    have hr11 := e1 _ _ hr1
    have hG2 := hG1.putR (r := (r, pl)) hr11 (TdAll.tx (Tx.of e1) _ _ hr2) hxT hcc hlr
    have k2 : Kp [g.rl, g.ll] H (upd H1 g.rl (.lst (us ++ [x]))) := (Kp.of e1).trans (.upd (by simp) hr11)
    have tx2 : Tx H (upd H1 g.rl (.lst (us ++ [x]))) := hG.tx (k2.mono (by simp))
    generalize upd H1 g.rl (.lst (us ++ [x])) = H2 at hG2 k2 tx2 ⊢
    have hv2 := Td.tx tx2 _ _ hv
    rw [eds] at hv2
    have x0 : ∀ {H' : Hp} {σ : L2.St}, Td H' v (.tuple (.str (rwW r) :: oD oc :: more)) → σ[2]? = some (some v) → Ev (tOp (rIxT K) (tVar 2) (tC (.int 0))) σ H' (.str (rwW r)) := fun hv e => by
      obtain ⟨x, hx, h⟩ := ev_ixTd (K := K) (j := 0) (ev_var e) hv ev_c rfl
      cases hx
      exact h
    have x1 : ∀ {H' : Hp} {σ : L2.St}, Td H' v (.tuple (.str (rwW r) :: oD oc :: more)) → σ[2]? = some (some v) → Ev (tOp (rIxT K) (tVar 2) (tC (.int 1))) σ H' (oV oc) := fun hv e => by
      obtain ⟨x, hx, h⟩ := ev_ixTd (K := K) (j := 1) (ev_var e) hv ev_c rfl
      cases oc with
      | none => cases hx; exact h
      | some c => cases hx; exact h
    have notN : ∀ {H' : Hp} {σ : L2.St}, Td H' v (.tuple (.str (rwW r) :: oD oc :: more)) → σ[2]? = some (some v) → EvT (tTest (tOp (fun x y H Q => y = .non ∧ Q (.bl (!decide (x = .non))) H) (tOp (rIxT K) (tVar 2) (tC (.int 1))) (tC .non))) σ H' oc.isSome := fun hv e => et_test (ev_is (ev_op (x1 hv e) ev_c fun H1 _ Q q => ⟨rfl, q H1 (Ex.refl H1)⟩) (by cases oc <;> rfl))
    refine s_when (b := oc.isSome) (et_is (et_or (et_test (ev_op (x0 hv2 rfl) ev_c (rv_ne rfl))) fun _ => notN hv2 rfl) ?_) (fun hb H3 e3 => ?_) (fun hb H3 e3 => ?_)
    · cases oc with
      | none =>
        rw [eo rfl]
        simp
      | some c => simp
    · have hG3 := hG2.ex e3
      have hv3 := Td.tx (Tx.of e3) _ _ hv2
      cases oc with
      | none => cases hb
      | some c =>
        refine s_app hG3.l (ev_sd hG3 (ev_var rfl) fun li => sd_L _ _ _ _ _ _) (x1 hv3 rfl) (by show (g.A.map V.int).length < 100000; rw [List.length_map]; omega) fun H4 e4 => ?_
        have hG4 := hG3.ex e4
        have hcw : 0 ≤ c ∧ c < (g.nx : Int) := hcc c (List.mem_append_right _ (by rw [ew]; exact List.mem_singleton.mpr rfl))
        have hG5 := hG4.putL hcw hla
        refine q pl _ ((k2.trans (.of (e3.trans e4))).trans (.upd (by simp) hG4.l)) ?_
        rw [ew]
        exact hG5
    · cases oc with
      | some c => cases hb
      | none =>
        refine q pl H3 (k2.trans (.of e3)) ?_
        rw [ew]
        show Gs K H3 { g with R := g.R ++ [(r, pl)], A := g.A ++ [] }
        rw [List.append_nil]
        exact hG2.ex e3
end
end Wt

set_option Elab.async false
set_option linter.all false
set_option maxRecDepth 100000
set_option maxHeartbeats 4000000
namespace Wt
open PySem PySem.Spec PyProof.Rows L2 SX Evl
open C8 (Def Cal cal0 fnScope_by fnScope)
/-! A row that goes straight on. -/
section
variable {P : Program} {w : World} {K : PySem.W.Frag} {mg : Str → Option Value} {base : Heap}
/-- arguments, of which one may be a fresh cell -/
def EAF (K : PySem.W.Frag) (ta : TA) (σ : L2.St) (H : Hp) (g : Gh) (L : List PyData → Nat → Prop) : Prop := ∀ Q : List V → Hp → Prop, (∀ vs H2 ds nx, L ds nx → g.nx ≤ nx → nx ≤ g.nx + 1 → Kp [g.s] H H2 → Gs K H2 { g with nx := nx } → TdAll H2 vs ds → Q vs H2) → ta σ H Q
section
variable {σ : L2.St} {H H' : Hp} {ta tb te t0 t1 t2 : TE} {tr : TA} {g : Gh} {D : Ends} {tz : TS} {E : XK} {L0 : List PyData → Prop} {L : List PyData → Nat → Prop} {R : PyData → Prop}
theorem eaf_of (hG : Gs K H g) (h : EAR tr σ H L0) : EAF K tr σ H g (fun ds nx => nx = g.nx ∧ L0 ds) := fun Q q => h H (Ex.refl H) _ fun vs H2 ds l e hvs => q vs H2 ds g.nx ⟨rfl, l⟩ (Nat.le_refl _) (by omega) (.of e) (hG.ex e) hvs
theorem eaf_cons (hG : Gs K H g) (h : EvR te σ H R) (hr : ∀ H1, Ex H H1 → EAF K tr σ H1 g L) : EAF K (tCons te tr) σ H g (fun ds nx => ∃ d es, ds = d :: es ∧ R d ∧ L es nx) := fun Q q => h H (Ex.refl H) _ fun v H1 d r e1 hv => hr H1 e1 _ fun vs H2 ds nx l n1 n2 k hG2 hvs =>
  q (v :: vs) H2 (d :: ds) nx ⟨d, ds, rfl, r, l⟩ n1 n2 ((Kp.of e1).trans k) hG2 (.cons (Td.tx ((hG.ex e1).tx (k.mono (by simp))) _ _ hv) hvs)
theorem eaf_fresh (hG : Gs K H g) (ha : Ev ta σ H (.ref g.d)) (hb : Ev tb σ H (.ref g.s)) (hr : ∀ H1 nx, Kp [g.s] H H1 → Gs K H1 { g with nx := nx } → EAR tr σ H1 L0) :
    EAF K (tCons (tCall (spFresh K) [] E (tCons ta (tCons tb tNil))) tr) σ H g (fun ds nx => ∃ c es, ds = .int c :: es ∧ 0 ≤ c ∧ c < (nx : Int) ∧ L0 es) := fun Q q => ha H (Ex.refl H) _ fun H1 e1 => hb H1 e1 _ fun H2 e2 =>
  ⟨g, rfl, hG.ex (e1.trans e2), fun c nx H3 n1 n2 c0 c1 k hG3 => hr H3 nx ((Kp.of (e1.trans e2)).trans k) hG3 H3 (Ex.refl H3) _ fun vs H4 ds l e4 hvs =>
    q (.int c :: vs) H4 (.int c :: ds) nx ⟨c, ds, rfl, c0, c1, l⟩ n1 n2 ((Kp.of (e1.trans e2)).trans (k.trans (.of e4))) (hG3.ex e4) (.cons (.int c) hvs)⟩
/-- lays(row, s, (..)) -/
theorem s_lays {Pr : Rw → Nat → Prop} (hG : Gs K H g) (h0 : Ev t0 σ H (.ref g.d)) (h1 : Ev t1 σ H (.ref g.s)) (hF : ∀ H1, Ex H H1 → EAF K tr σ H1 g L) (hl : ∀ ds nx, L ds nx → ds.length ≤ 100) (lr : g.R.length < 500) (la : g.A.length < 500)
    (hL : ∀ ds nx, L ds nx → g.nx ≤ nx → ∃ r, ds = rwDs r ∧ layR r = true ∧ (∀ c ∈ reads r ++ writes r, 0 ≤ c ∧ c < (nx : Int)) ∧ Pr r nx)
    (k : ∀ r p nx H2, Pr r nx → layR r = true → g.nx ≤ nx → nx ≤ g.nx + 1 → Kp [g.s, g.rl, g.ll] H H2 → Gs K H2 { g with R := g.R ++ [(r, p)], A := g.A ++ writes r, nx := nx } → D.nx σ H2) :
    tDrop (tCall (spLays K) [] E (tCons t0 (tCons t1 (tCons (tTup tr) tNil)))) D σ H := h0 H (Ex.refl H) _ fun H1 e1 => h1 H1 e1 _ fun H2 e2 => hF H2 (e1.trans e2) _ fun vs H3 ds nx l n1 n2 k3 hG3 hvs => by
  have lds := hl ds nx l
  refine ⟨sz_of (by rw [hvs.len]; omega), fun p hp => ?_⟩
  obtain ⟨r, rfl, hlay, hc, hp2⟩ := hL ds nx l n1
  have e4 := Ex.new (o := HO.tup vs) hp
  refine ⟨{ g with nx := nx }, .ref p, r, rfl, hG3.ex e4, .tup upd_same (TdAll.tx (Tx.of e4) _ _ hvs), hlay, hc, lr, la, fun pl H5 k5 hG5 => ?_⟩
  refine k r pl nx H5 hp2 hlay n1 n2 ?_ hG5
  exact ((Kp.of (e1.trans e2)).trans (k3.mono (by simp))).trans ((Kp.of e4).trans (k5.mono (by simp)))
/-- a, b = e, a new list -/
theorem q_parL {i j : Nat} {Pv : V → Prop} {xs : List V} (h1 : EvN t1 σ H Pv) (h2 : EvL t2 σ H xs) (k : ∀ v p H1, Pv v → H p = none → Ex H H1 → H1 p = some (.lst xs) → tz D ((σ.set i (some v)).set j (some (.ref p))) H1) : tSeq (tPar i j (tCons t1 (tCons t2 tNil))) tz D σ H :=
  h1 H (Ex.refl H) _ fun v H1 pv e1 => h2 H1 e1 _ fun p H2 hp e2 hpl => ⟨_, _, rfl, k v p H2 pv (fresh_back e1 hp) (e1.trans e2) hpl⟩
/-- xs[e], xs a list that stands, e a number below its length -/
theorem en_ixV {l : Addr} {xs : List V} (ha : Ev ta σ H (.ref l)) (hl : H l = some (.lst xs)) (hb : EvN tb σ H (fun v => ∃ z : Int, v = .int z ∧ 0 ≤ z ∧ z < (xs.length : Int))) : EvN (tOp (rIxL K) ta tb) σ H (fun v => v ∈ xs) := by
  refine en_opV (EvN.of ha) (fun _ _ => hb) ?_
  rintro x y rfl ⟨z, rfl, z0, z1⟩
  obtain ⟨k, rfl⟩ : ∃ k : Nat, z = (k : Int) := ⟨z.toNat, by omega⟩
  have hlt : k < xs.length := by omega
  exact ⟨xs[k], List.getElem_mem hlt, rv_ixL (sq_of hl) (atI_nat (List.getElem?_eq_getElem hlt))⟩
/-- [a, b, ..][e] -/
theorem en_ixW {xs : List V} (ha : EvL ta σ H xs) (hb : EvN tb σ H (fun v => ∃ z : Int, v = .int z ∧ 0 ≤ z ∧ z < (xs.length : Int))) : EvN (tOp (rIxL K) ta tb) σ H (fun v => v ∈ xs) :=
  en_ixNL (n := xs.length) (EvNL.of ha) hb (fun l h => by rw [h]; exact ⟨rfl, fun v h => h⟩)
theorem qn_drop {Pv : V → Prop} (h : EvN te σ H Pv) (k : ∀ H1, Ex H H1 → tz D σ H1) : tSeq (tDrop te) tz D σ H := h H (Ex.refl H) _ fun v H1 _ e => k H1 e
theorem q_asgFresh {i : Nat} {t : TT} (hG : Gs K H g) (h : EvT t σ H false) (h0 : Ev t0 σ H (.ref g.d)) (h1 : Ev t1 σ H (.ref g.s)) (k : ∀ c nx H1, g.nx ≤ nx → nx ≤ g.nx + 1 → 0 ≤ c → c < (nx : Int) → Kp [g.s] H H1 → Gs K H1 { g with nx := nx } → tz D (σ.set i (some (.int c))) H1) :
    tSeq (tAsg (tIf t ta (tCall (spFresh K) [] E (tCons t0 (tCons t1 tNil)))) (gName i)) tz D σ H := h H (Ex.refl H) _ fun H1 e1 => h0 H1 e1 _ fun H2 e2 => h1 H2 (e1.trans e2) _ fun H3 e3 => by
  have e13 := (e1.trans e2).trans e3
  exact ⟨g, rfl, hG.ex e13, fun c nx H4 n1 n2 c0 c1 k4 hG4 => k c nx H4 n1 n2 c0 c1 ((Kp.of e13).trans k4) hG4⟩
theorem sn_par {i j : Nat} {L : List V → Prop} (h : EAN tr σ H L) (k : ∀ vs H1, L vs → Ex H H1 → ∃ v w, vs = [v, w] ∧ D.nx ((σ.set i (some v)).set j (some w)) H1) : tPar i j tr D σ H := h H (Ex.refl H) _ k
end
def allOps : List Op := [.add, .take, .times, .over, .rest, .less, .same]
theorem bool_mem {f : Bool → Str} {v : V} (h : v ∈ [V.str (f false), V.str (f true)]) : ∃ b, v = .str (f b) := by
  simp only [List.mem_cons, List.not_mem_nil, or_false] at h
  rcases h with rfl | rfl
  · exact ⟨false, rfl⟩
  · exact ⟨true, rfl⟩
/-- ints among which all are -/
theorem ints_of {A : List Int} : ∀ xs : List V, (∀ x ∈ xs, ∃ c, x = .int c ∧ c ∈ A) → ∃ cs : List Int, xs = cs.map .int ∧ ∀ c ∈ cs, c ∈ A
  | [], _ => ⟨[], rfl, fun _ h => by cases h⟩
  | x :: xs, h => by
    obtain ⟨cs, h1, h2⟩ := ints_of xs fun y hy => h y (List.mem_cons_of_mem _ hy)
    obtain ⟨c, rfl, hc⟩ := h x (List.mem_cons_self ..)
    exact ⟨c :: cs, by rw [h1] <;> rfl, fun d hd => by
      rcases List.mem_cons.mp hd with rfl | hd
      · exact hc
      · exact h2 d hd⟩
theorem td_ints {H : Hp} : ∀ cs : List Int, TdAll H (cs.map V.int) (cs.map PyData.int)
  | [] => .nil
  | c :: cs => .cons (.int c) (td_ints cs)
/-! ### _law_straight -/
abbrev s__law_straight : Stmt := topS 15
theorem sc__law_straight : FnScope ["_law_row", "_law_s", "_law_way", "_law_ops", "_law_one", "_law_other_here", "_law_number", "_law_keep", "_law_cells", "_law_cell", "_law_k"] ["_law_row", "_law_s"] (fnScope s__law_straight) := fnScope_by (by decide +kernel)
def spStraight (K : PySem.W.Frag) : Sp := fun vs H Q _ => ∃ g : Gh, vs = [.ref g.d, .ref g.s] ∧ Gs K H g ∧ g.A ≠ [] ∧ g.R.length < 490 ∧ g.A.length < 490 ∧
  ∀ (r : Rw) (p : Int × Int) (nx : Nat) H2, plain r = true → fewC r = true → (∀ c ∈ reads r, c ∈ g.A) → g.nx ≤ nx → nx ≤ g.nx + 1 → Kp [g.s, g.rl, g.ll] H H2 → Gs K H2 { g with R := g.R ++ [(r, p)], A := g.A ++ writes r, nx := nx } → Q .non H2
theorem lay_plain {r : Rw} (h : layR r = true) : plain r = true := by cases r <;> first | rfl | cases h
theorem ok_straight (T : ModsL K mg) (c__law_taken : Cal P w K mg base 1 "_law_taken" (spNext K) []) (c__law_operand : Cal P w K mg base 2 "_law_operand" (spOperand K) []) (c__law_fresh : Cal P w K mg base 2 "_law_fresh" (spFresh K) []) (c__law_place : Cal P w K mg base 2 "_law_place" (spPlace K) [])
    (c__law_lays : Cal P w K mg base 3 "_law_lays" (spLays K) []) {f : Addr} {fd : FuncData} (F : Def K mg "_law_straight" s__law_straight f fd) (b : Binds K fd ["_law_row", "_law_s"] []) : Cal P w K mg base 4 "_law_straight" (spStraight K) [] := by
  refine cal0 F b .nil sc__law_straight (fun vs H Q E h => ?_) (fun cdv A outer s H vs Q E hr h => ?_)
  · obtain ⟨_, rfl, _⟩ := h
    rfl
  · obtain ⟨g, rfl, hG, hne, lr, la, q⟩ := h
    have m_tuple := T.m_tuple
    have m_range := T.m_range
    have m_int := T.m_int
    have hu := hu_of hr
    have hu64 := hr.units
    refine ⟨_, (pss_cons (ps_par (i := 2) (j := 3) rfl sc__law_straight.nd rfl rfl (by decide) (by rfl) (by rfl) (pa_cons (C8.pe_c c__law_taken hr (by first | decide | exact Nat.le_refl _ | omega) (by rfl) (pa_cons (pv 0) (pa_cons pe_int pa_nil))) (pa_cons (pe_lst (pa_cons pe_str (pa_cons pe_str (pa_cons pe_str (pa_cons pe_str (pa_cons pe_str (pa_cons pe_str (pa_cons pe_str pa_nil)))))))) pa_nil)) (by rfl))
      (pss_one (ps_if (pt_cmpR op_lt (pv 2) pe_int (nomark _)) (pss_cons (ps_par (i := 4) (j := 5) rfl sc__law_straight.nd rfl rfl (by decide) (by rfl) (by rfl) (pa_cons (C8.pe_c c__law_operand hr (by first | decide | exact Nat.le_refl _ | omega) (by rfl) (pa_cons (pv 0) (pa_cons (pv 1) pa_nil))) (pa_cons (C8.pe_c c__law_operand hr (by first | decide | exact Nat.le_refl _ | omega) (by rfl) (pa_cons (pv 0) (pa_cons (pv 1) pa_nil))) pa_nil)) (by rfl))
      (pss_one (ps_expr (C8.pe_c c__law_lays hr (by first | decide | exact Nat.le_refl _ | omega) (by rfl) (pa_cons (pv 0) (pa_cons (pv 1) (pa_cons (pe_tup (pa_cons (pe_ix ix_list (pv 3) (C8.pe_c c__law_taken hr (by first | decide | exact Nat.le_refl _ | omega) (by rfl) (pa_cons (pv 0) (pa_cons pe_int pa_nil))) (fun _ _ => rfl)) (pa_cons (C8.pe_c c__law_fresh hr (by first | decide | exact Nat.le_refl _ | omega) (by rfl) (pa_cons (pv 0) (pa_cons (pv 1) pa_nil))) (pa_cons (pv 4) (pa_cons (pv 5) pa_nil))))) pa_nil))))))) (pss_one (ps_if (pt_cmpR op_eq (pv 2) pe_int (nomark _)) (pss_cons (ps_set (i := 6) sc__law_straight.nd rfl (.inl rfl) (pe_ix ix_list (pe_lst (pa_cons (C8.pe_c c__law_taken hr (by first | decide | exact Nat.le_refl _ | omega) (by rfl) (pa_cons (pv 0) (pa_cons pe_int pa_nil))) (pa_cons (C8.pe_c c__law_taken hr (by first | decide | exact Nat.le_refl _ | omega) (by rfl) (pa_cons (pv 0) (pa_cons (pe_op op_pow pe_int pe_int) pa_nil))) (pa_cons (pe_op op_sub pe_int (C8.pe_c c__law_taken hr (by first | decide | exact Nat.le_refl _ | omega) (by rfl) (pa_cons (pv 0) (pa_cons pe_int pa_nil)))) pa_nil)))) (C8.pe_c c__law_taken hr (by first | decide | exact Nat.le_refl _ | omega) (by rfl) (pa_cons (pv 0) (pa_cons pe_int pa_nil))) (fun _ _ => rfl)))
      (pss_one (ps_expr (C8.pe_c c__law_lays hr (by first | decide | exact Nat.le_refl _ | omega) (by rfl) (pa_cons (pv 0) (pa_cons (pv 1) (pa_cons (pe_tup (pa_cons pe_str (pa_cons (C8.pe_c c__law_fresh hr (by first | decide | exact Nat.le_refl _ | omega) (by rfl) (pa_cons (pv 0) (pa_cons (pv 1) pa_nil))) (pa_cons (pv 6) pa_nil)))) pa_nil))))))) (pss_one (ps_if (pt_cmpR op_eq (pv 2) pe_int (nomark _)) (pss_cons (ps_set (i := 4) sc__law_straight.nd rfl (.inl rfl) (C8.pe_c c__law_operand hr (by first | decide | exact Nat.le_refl _ | omega) (by rfl) (pa_cons (pv 0) (pa_cons (pv 1) pa_nil))))
      (pss_one (ps_expr (C8.pe_c c__law_lays hr (by first | decide | exact Nat.le_refl _ | omega) (by rfl) (pa_cons (pv 0) (pa_cons (pv 1) (pa_cons (pe_tup (pa_cons pe_str (pa_cons (C8.pe_c c__law_fresh hr (by first | decide | exact Nat.le_refl _ | omega) (by rfl) (pa_cons (pv 0) (pa_cons (pv 1) pa_nil))) (pa_cons (pv 4) pa_nil)))) pa_nil))))))) (pss_one (ps_if (pt_cmpR op_eq (pv 2) pe_int (nomark _)) (pss_cons (ps_set (i := 7) sc__law_straight.nd rfl (.inl rfl) (pe_ix ix_list (pe_lst (pa_cons pe_str (pa_cons pe_str pa_nil))) (C8.pe_c c__law_taken hr (by first | decide | exact Nat.le_refl _ | omega) (by rfl) (pa_cons (pv 0) (pa_cons pe_int pa_nil))) (fun _ _ => rfl)))
      (pss_one (ps_if (pt_cmpR op_eq (C8.pe_c c__law_taken hr (by first | decide | exact Nat.le_refl _ | omega) (by rfl) (pa_cons (pv 0) (pa_cons pe_int pa_nil))) pe_int (nomark _)) (pss_one (ps_expr (C8.pe_c c__law_lays hr (by first | decide | exact Nat.le_refl _ | omega) (by rfl) (pa_cons (pv 0) (pa_cons (pv 1) (pa_cons (pe_tup (pa_cons pe_str (pa_cons (C8.pe_c c__law_fresh hr (by first | decide | exact Nat.le_refl _ | omega) (by rfl) (pa_cons (pv 0) (pa_cons (pv 1) pa_nil))) (pa_cons (pe_ix ix_list (pe_lst (pa_cons pe_str (pa_cons pe_str pa_nil))) (C8.pe_c c__law_taken hr (by first | decide | exact Nat.le_refl _ | omega) (by rfl) (pa_cons (pv 0) (pa_cons pe_int pa_nil))) (fun _ _ => rfl)) (pa_cons (pv 7) pa_nil))))) pa_nil)))))) (pss_one (ps_expr (pe_bm PySem.F.plainAttrs_list PySem.F.slot_list_append PySem.F.type_list_append mt_append (pe_dget hu (pv 1) pe_str (fun _ _ => rfl)) (pa_cons (pe_tup (pa_cons pe_str (pa_cons (pv 7) (pa_cons (C8.pe_c c__law_operand hr (by first | decide | exact Nat.le_refl _ | omega) (by rfl) (pa_cons (pv 0) (pa_cons (pv 1) pa_nil))) (pa_cons (C8.pe_c c__law_place hr (by first | decide | exact Nat.le_refl _ | omega) (by rfl) (pa_cons (pv 0) (pa_cons (pv 1) pa_nil))) pa_nil))))) pa_nil))))))) (pss_one (ps_if (pt_cmpR op_eq (pv 2) pe_int (nomark _)) (pss_one (ps_expr (pe_bm PySem.F.plainAttrs_list PySem.F.slot_list_append PySem.F.type_list_append mt_append (pe_dget hu (pv 1) pe_str (fun _ _ => rfl)) (pa_cons (pe_tup (pa_cons pe_str (pa_cons (pe_ix ix_list (pe_lst (pa_cons pe_str (pa_cons pe_str pa_nil))) (C8.pe_c c__law_taken hr (by first | decide | exact Nat.le_refl _ | omega) (by rfl) (pa_cons (pv 0) (pa_cons pe_int pa_nil))) (fun _ _ => rfl)) (pa_cons (C8.pe_c c__law_operand hr (by first | decide | exact Nat.le_refl _ | omega) (by rfl) (pa_cons (pv 0) (pa_cons (pv 1) pa_nil))) (pa_cons (C8.pe_c c__law_place hr (by first | decide | exact Nat.le_refl _ | omega) (by rfl) (pa_cons (pv 0) (pa_cons (pv 1) pa_nil))) pa_nil))))) pa_nil)))) (pss_cons (ps_set (i := 8) sc__law_straight.nd rfl (.inl rfl) (pe_callTy call_tuple_of (by rfl) m_tuple Wt.bt_tuple (pa_cons (pe_lc (own := [("_law_k", 10)]) (g := (gName 10)) (tt := tYes) rfl sc__law_straight.nd (pi_range1 (by rfl) m_range (pa_cons (C8.pe_c c__law_taken hr (by first | decide | exact Nat.le_refl _ | omega) (by rfl) (pa_cons (pv 0) (pa_cons pe_int pa_nil))) pa_nil)) (blkOk_by (N := ["_law_row", "_law_s", "_law_way", "_law_ops", "_law_one", "_law_other_here", "_law_number", "_law_keep", "_law_cells", "_law_cell", "_law_k"]) (sc := C8.fnScope s__law_straight) (by decide +kernel)) (fun _ _ _ _ _ => pg_name (i := 10) sc__law_straight.nd rfl (Or.inl rfl)) (fun _ _ _ _ _ => pts_nil) (fun _ _ _ _ _ => (C8.pe_c c__law_operand hr (by first | decide | exact Nat.le_refl _ | omega) (by rfl) (pa_cons (pv 0) (pa_cons (pv 1) pa_nil))))) pa_nil)))
      (pss_cons (ps_set (i := 9) sc__law_straight.nd rfl (.inl rfl) (pe_ix ix_list (pe_lst (pa_cons pe_non (pa_cons pe_int pa_nil))) (pe_callTy call_int1 (by rfl) m_int Wt.bt_int (pa_cons (pe_cmpR op_gt (C8.pe_c c__law_taken hr (by first | decide | exact Nat.le_refl _ | omega) (by rfl) (pa_cons (pv 0) (pa_cons pe_int pa_nil))) pe_int (nomark _)) pa_nil)) (fun _ _ => rfl)))
      (pss_cons (ps_set (i := 9) sc__law_straight.nd rfl (.inl rfl) (pe_ifExp (pt_cmpR op_isN (pv 9) pe_non (nomark _)) (pv 9) (C8.pe_c c__law_fresh hr (by first | decide | exact Nat.le_refl _ | omega) (by rfl) (pa_cons (pv 0) (pa_cons (pv 1) pa_nil)))))
      (pss_one (ps_expr (C8.pe_c c__law_lays hr (by first | decide | exact Nat.le_refl _ | omega) (by rfl) (pa_cons (pv 0) (pa_cons (pv 1) (pa_cons (pe_tup (pa_cons pe_str (pa_cons (pv 9) (pa_cons (pe_ix ix_list (pe_lst (pa_cons pe_str (pa_cons pe_str pa_nil))) (C8.pe_c c__law_taken hr (by first | decide | exact Nat.le_refl _ | omega) (by rfl) (pa_cons (pv 0) (pa_cons pe_int pa_nil))) (fun _ _ => rfl)) (pa_cons (pe_ix ix_list (pe_lst (pa_cons pe_str (pa_cons pe_str pa_nil))) (C8.pe_c c__law_taken hr (by first | decide | exact Nat.le_refl _ | omega) (by rfl) (pa_cons (pv 0) (pa_cons pe_int pa_nil))) (fun _ _ => rfl)) (pa_cons (pv 8) pa_nil)))))) pa_nil)))))))))))))))))))), ?_⟩
    have cellsA : ∀ c ∈ g.A, ∀ nx : Nat, g.nx ≤ nx → 0 ≤ c ∧ c < (nx : Int) := fun c hc nx hn => ⟨(hG.ca c hc).1, by have := (hG.ca c hc).2; omega⟩
    refine q_parL (Pv := fun v => ∃ z : Int, v = .int z ∧ 0 ≤ z ∧ z < 10) (xs := allOps.map fun o => V.str (opS o)) (en_next hG.dc (ev_var rfl) ev_c) (el_lst (ea_cons ev_c (ea_cons ev_c (ea_cons ev_c (ea_cons ev_c (ea_cons ev_c (ea_cons ev_c (ea_cons ev_c ea_nil))))))) (by decide)) fun v po H1 hv hpo e1 hops => ?_
    obtain ⟨way, rfl, _, _⟩ := hv
    have hG1 := hG.ex e1
    -- the last step of most ways
    have fin : ∀ {σ : L2.St} {H0 : Hp}, Kp [g.s, g.rl, g.ll] H H0 → ∀ r p nx H2, (fewC r = true ∧ ∀ c ∈ reads r, c ∈ g.A) → layR r = true → g.nx ≤ nx → nx ≤ g.nx + 1 → Kp [g.s, g.rl, g.ll] H0 H2 → Gs K H2 { g with R := g.R ++ [(r, p)], A := g.A ++ writes r, nx := nx } → Q .non H2 :=
      fun k0 r p nx H2 hr hl n1 n2 k hG2 => q r p nx H2 (lay_plain hl) hr.1 hr.2 n1 n2 (k0.trans k) hG2
    refine s_if (et_test (ev_op (ev_var rfl) ev_c rv_I0)) (fun _ H2 e2 => ?_) (fun _ H2 e2 => ?_)
    · -- an operation
      have hG2 := hG1.ex e2
      refine qn_par (ean_cons (en_operand hG2 hne (ev_var rfl) (ev_var rfl)) (ean_cons (en_operand hG2 hne (ev_var rfl) (ev_var rfl)) ean_nil)) fun vs H3 hvs e3 => ?_
      obtain ⟨_, _, rfl, ⟨c1, rfl, hc1⟩, _, _, rfl, ⟨c2, rfl, hc2⟩, rfl⟩ := hvs
      refine ⟨_, _, rfl, ?_⟩
      have hG3 := hG2.ex e3
      have hops3 := (e2.trans e3) _ _ hops
      refine s_lays (Pr := fun r _ => fewC r = true ∧ ∀ c ∈ reads r, c ∈ g.A) hG3 (ev_var rfl) (ev_var rfl) (fun H4 e4 => eaf_cons (hG3.ex e4) (R := fun d => ∃ o, d = .str (opS o)) (er_N (en_ixV (ev_var rfl) (e4 _ _ hops3) (en_next (many := 7) (hG3.ex e4).dc (ev_var rfl) ev_c)) ?_) fun H5 e5 => eaf_fresh ((hG3.ex e4).ex e5) (ev_var rfl) (ev_var rfl) fun H6 nx k6 hG6 => ear_cons (er_of (ed_int (ev_var rfl))) (ear_cons (er_of (ed_int (ev_var rfl))) ear_nil)) ?_ (by omega) (by omega) ?_ (fin (σ := []) (.of ((e1.trans e2).trans e3)))
      · intro v hv
        obtain ⟨o, _, rfl⟩ := List.mem_map.mp hv
        exact ⟨_, ⟨o, rfl⟩, fun _ => .str _⟩
      · rintro ds nx ⟨_, _, rfl, _, c, _, rfl, _, _, _, _, rfl, rfl, _, _, rfl, rfl, rfl⟩
        show 4 ≤ 100
        decide
      · rintro ds nx ⟨_, _, rfl, ⟨o, rfl⟩, c, _, rfl, c0, c9, _, _, rfl, rfl, _, _, rfl, rfl, rfl⟩ hn
        refine ⟨.op o c c1 c2, rfl, rfl, fun x hx => ?_, rfl, fun x hx => ?_⟩
        · simp only [reads, writes, List.mem_append, List.mem_cons, List.not_mem_nil, or_false] at hx
          rcases hx with (rfl | rfl) | rfl
          · exact cellsA _ hc1 nx hn
          · exact cellsA _ hc2 nx hn
          · exact ⟨c0, c9⟩
        · simp only [reads, List.mem_cons, List.not_mem_nil, or_false] at hx
          rcases hx with rfl | rfl
          · exact hc1
          · exact hc2
    · have hG2 := hG1.ex e2
      refine s_if (et_test (ev_op (ev_var rfl) ev_c (rv_eq rfl))) (fun _ H3 e3 => ?_) (fun _ H3 e3 => ?_)
      · -- a number
        have hG3 := hG2.ex e3
        have tk : ∀ {H' : Hp} {σ : L2.St} {t : TE} {m : Int}, Gs K H' g → σ[0]? = some (some (.ref g.d)) → Ev t σ H' (.int m) → 0 < m → m ≤ 1000000 → EvN (tCall (spNext K) [] C8.E0 (tCons (tVar 0) (tCons t tNil))) σ H' (fun v => ∃ n : Int, v = .int n ∧ n.natAbs ≤ 1000000) := fun h e et m0 m1 => (en_next h.dc (ev_var e) et m0 (by omega)).imp fun v ⟨z, hz, z0, z1⟩ => ⟨z, hz, by omega⟩
        refine qn_asg (P := fun v => ∃ n : Int, v = .int n ∧ n.natAbs ≤ 1000000) (en_ixNL (K := K) (n := 3) (enl_lst (ean_cons (tk hG3 rfl ev_c (by decide) (by decide)) (ean_cons (tk hG3 rfl (ev_op ev_c ev_c (rv_I ⟨by decide, by decide, by decide⟩)) (by decide) (by decide)) (ean_cons (P := fun v => ∃ n : Int, v = .int n ∧ n.natAbs ≤ 1000000) (en_opV (EvN.of ev_c) (fun _ _ => tk hG3 rfl ev_c (by decide) (by decide)) ?_) ean_nil))) ?_) (en_next hG3.dc (ev_var rfl) ev_c) ?_) fun v H4 hv e4 => ?_
        · rintro x y rfl ⟨z, rfl, hz⟩
          exact ⟨_, ⟨_, rfl, by omega⟩, rv_I0⟩
        · rintro l ⟨_, _, rfl, _, _, _, rfl, _, _, _, rfl, _, rfl⟩
          show 3 ≤ 100000
          decide
        · rintro l ⟨v1, _, rfl, h1, v2, _, rfl, h2, v3, _, rfl, h3, rfl⟩
          refine ⟨rfl, fun v hv => ?_⟩
          simp only [List.mem_cons, List.not_mem_nil, or_false] at hv
          rcases hv with rfl | rfl | rfl
          · exact h1
          · exact h2
          · exact h3
        obtain ⟨n, rfl, hnn⟩ := hv
        have hG4 := hG3.ex e4
        refine s_lays (Pr := fun r _ => fewC r = true ∧ ∀ c ∈ reads r, c ∈ g.A) hG4 (ev_var rfl) (ev_var rfl) (fun H5 e5 => eaf_cons (hG4.ex e5) (er_of (ed_str ev_c)) fun H6 e6 => eaf_fresh ((hG4.ex e5).ex e6) (ev_var rfl) (ev_var rfl) fun H7 nx k7 hG7 => ear_cons (er_of (ed_int (ev_var rfl))) ear_nil) ?_ (by omega) (by omega) ?_ (fin (σ := []) (.of (((e1.trans e2).trans e3).trans e4)))
        · rintro ds nx ⟨_, _, rfl, _, c, _, rfl, _, _, _, _, rfl, rfl, rfl⟩
          show 3 ≤ 100
          decide
        · rintro ds nx ⟨_, _, rfl, rfl, c, _, rfl, c0, c9, _, _, rfl, rfl, rfl⟩ hn
          refine ⟨.put c n, rfl, rfl, fun x hx => ?_, decide_eq_true hnn, fun x hx => by cases hx⟩
          simp only [reads, writes, List.mem_append, List.mem_cons, List.not_mem_nil, or_false, false_or] at hx
          rw [hx]
          exact ⟨c0, c9⟩
      · have hG3 := hG2.ex e3
        refine s_if (et_test (ev_op (ev_var rfl) ev_c (rv_eq rfl))) (fun _ H4 e4 => ?_) (fun _ H4 e4 => ?_)
        · -- a copy
          have hG4 := hG3.ex e4
          refine qn_asg (en_operand hG4 hne (ev_var rfl) (ev_var rfl)) fun v H5 hv e5 => ?_
          obtain ⟨c1, rfl, hc1⟩ := hv
          have hG5 := hG4.ex e5
          refine s_lays (Pr := fun r _ => fewC r = true ∧ ∀ c ∈ reads r, c ∈ g.A) hG5 (ev_var rfl) (ev_var rfl) (fun H6 e6 => eaf_cons (hG5.ex e6) (er_of (ed_str ev_c)) fun H7 e7 => eaf_fresh ((hG5.ex e6).ex e7) (ev_var rfl) (ev_var rfl) fun H8 nx k8 hG8 => ear_cons (er_of (ed_int (ev_var rfl))) ear_nil) ?_ (by omega) (by omega) ?_ (fin (σ := []) (.of ((((e1.trans e2).trans e3).trans e4).trans e5)))
          · rintro ds nx ⟨_, _, rfl, _, c, _, rfl, _, _, _, _, rfl, rfl, rfl⟩
            show 3 ≤ 100
            decide
          · rintro ds nx ⟨_, _, rfl, rfl, c, _, rfl, c0, c9, _, _, rfl, rfl, rfl⟩ hn
            refine ⟨.copy c c1, rfl, rfl, fun x hx => ?_, rfl, fun x hx => ?_⟩
            · simp only [reads, writes, List.mem_append, List.mem_cons, List.not_mem_nil, or_false] at hx
              rcases hx with rfl | rfl
              · exact cellsA _ hc1 nx hn
              · exact ⟨c0, c9⟩
            · simp only [reads, List.mem_cons, List.not_mem_nil, or_false] at hx
              rw [hx]
              exact hc1
        · have hG4 := hG3.ex e4
          have e14 := ((e1.trans e2).trans e3).trans e4
          refine s_if (et_test (ev_op (ev_var rfl) ev_c (rv_eq rfl))) (fun _ H5 e5 => ?_) (fun _ H5 e5 => ?_)
          · -- a keep
            have hG5 := hG4.ex e5
            refine qn_asg (en_ixW (K := K) (xs := [V.str (keepS false), V.str (keepS true)]) (el_lst (ea_cons ev_c (ea_cons ev_c ea_nil)) (by decide)) (en_next (many := 2) hG5.dc (ev_var rfl) ev_c)) fun v H6 hv e6 => ?_
            obtain ⟨kb, rfl⟩ := bool_mem hv
            have hG6 := hG5.ex e6
            refine sn_if (B := fun _ => True) (etn_test (P := fun v => ∃ b : Bool, v = .bl b) (en_opV (en_next hG6.dc (ev_var rfl) ev_c) (fun _ _ => EvN.of ev_c) ?_) fun v ⟨b, hb⟩ => ⟨b, hb, trivial⟩) (fun _ H7 e7 => ?_) (fun _ H7 e7 => ?_)
            · rintro x y ⟨z, rfl, _, _⟩ rfl
              exact ⟨_, ⟨_, rfl⟩, rv_eq rfl⟩
            · have hG7 := hG6.ex e7
              refine s_lays (Pr := fun r _ => fewC r = true ∧ ∀ c ∈ reads r, c ∈ g.A) hG7 (ev_var rfl) (ev_var rfl) (fun H8 e8 => eaf_cons (hG7.ex e8) (er_of (ed_str ev_c)) fun H9 e9 => eaf_fresh ((hG7.ex e8).ex e9) (ev_var rfl) (ev_var rfl) fun H10 nx k10 hG10 => ear_cons (R := fun d => ∃ fb, d = .str (fS fb)) (er_N (en_ixW (K := K) (xs := [V.str (fS false), V.str (fS true)]) (el_lst (ea_cons ev_c (ea_cons ev_c ea_nil)) (by decide)) (en_next (many := 2) hG10.dc (ev_var rfl) ev_c)) ?_) (ear_cons (er_of (ed_str (ev_var rfl))) ear_nil)) ?_ (by omega) (by omega) ?_ (fin (σ := []) (.of (((e14.trans e5).trans e6).trans e7)))
              · intro v hv
                obtain ⟨fb, rfl⟩ := bool_mem hv
                exact ⟨_, ⟨fb, rfl⟩, fun _ => .str _⟩
              · rintro ds nx ⟨_, _, rfl, _, c, _, rfl, _, _, _, _, rfl, ⟨fb, rfl⟩, _, _, rfl, rfl, rfl⟩
                show 4 ≤ 100
                decide
              · rintro ds nx ⟨_, _, rfl, rfl, c, _, rfl, c0, c9, _, _, rfl, ⟨fb, rfl⟩, _, _, rfl, rfl, rfl⟩ hn
                refine ⟨.fetch c fb kb, rfl, rfl, fun x hx => ?_, rfl, fun x hx => by cases hx⟩
                simp only [reads, writes, List.mem_append, List.mem_cons, List.not_mem_nil, or_false, false_or] at hx
                rw [hx]
                exact ⟨c0, c9⟩
            · have hG7 := hG6.ex e7
              have e17 := ((e14.trans e5).trans e6).trans e7
              obtain ⟨us, hr1, hr2⟩ := hG7.r
              have hus := hr2.len
              rw [List.length_map] at hus
              refine s_appR hr1 (ev_sd hG7 (ev_var rfl) fun li => sd_R _ _ _ _ _ _) (er_tup (ear_cons (er_of (ed_str ev_c)) (ear_cons (er_of (ed_str (ev_var rfl))) (ear_cons (R := fun d => ∃ c, d = .int c ∧ c ∈ g.A) (er_N (en_operand hG7 hne (ev_var rfl) (ev_var rfl)) ?_) (ear_cons (er_place hG7 (ev_var rfl) (ev_var rfl)) ear_nil)))) ?_) (by omega) fun v H8 d hd e8 hv => ?_
              · rintro v ⟨c, rfl, hc⟩
                exact ⟨_, ⟨c, rfl, hc⟩, fun _ => .int c⟩
              · rintro ds ⟨_, _, rfl, _, _, _, rfl, _, _, _, rfl, _, _, _, rfl, _, rfl⟩
                show 4 ≤ 100000
                decide
              obtain ⟨ds, ⟨_, _, rfl, rfl, _, _, rfl, rfl, _, _, rfl, ⟨c, rfl, hc⟩, _, _, rfl, ⟨pl, rfl⟩, rfl⟩, rfl⟩ := hd
              have hG8 := hG7.ex e8
              have hr8 := e8 _ _ hr1
              have hG9 := hG8.putR (r := (.lay kb c, pl)) hr8 (TdAll.tx (Tx.of e8) _ _ hr2) hv (fun x hx => by
                simp only [reads, writes, List.mem_append, List.mem_cons, List.not_mem_nil, or_false] at hx
                rw [hx]
                exact hG.ca c hc) (by omega)
              refine q (.lay kb c) pl g.nx _ rfl rfl (fun x hx => ?_) (Nat.le_refl _) (by omega) ((Kp.of (e17.trans e8)).trans (.upd (by simp) hr8)) ?_
              · simp only [reads, List.mem_cons, List.not_mem_nil, or_false] at hx
                rw [hx]
                exact hc
              · show Gs K _ { g with R := g.R ++ [(.lay kb c, pl)], A := g.A ++ [] }
                rw [List.append_nil]
                exact hG9
          · have hG5 := hG4.ex e5
            refine s_if (et_test (ev_op (ev_var rfl) ev_c (rv_eq rfl))) (fun _ H6 e6 => ?_) (fun _ H6 e6 => ?_)
            · -- say
              have hG6 := hG5.ex e6
              obtain ⟨us, hr1, hr2⟩ := hG6.r
              have hus := hr2.len
              rw [List.length_map] at hus
              refine s_appR hr1 (ev_sd hG6 (ev_var rfl) fun li => sd_R _ _ _ _ _ _) (er_tup (ear_cons (er_of (ed_str ev_c)) (ear_cons (R := fun d => ∃ b, d = .str (kindS b)) (er_N (en_ixW (K := K) (xs := [V.str (kindS false), V.str (kindS true)]) (el_lst (ea_cons ev_c (ea_cons ev_c ea_nil)) (by decide)) (en_next (many := 2) hG6.dc (ev_var rfl) ev_c)) ?_) (ear_cons (R := fun d => ∃ c, d = .int c ∧ c ∈ g.A) (er_N (en_operand hG6 hne (ev_var rfl) (ev_var rfl)) ?_) (ear_cons (er_place hG6 (ev_var rfl) (ev_var rfl)) ear_nil)))) ?_) (by omega) fun v H8 d hd e8 hv => ?_
              · intro v hv
                obtain ⟨b, rfl⟩ := bool_mem hv
                exact ⟨_, ⟨b, rfl⟩, fun _ => .str _⟩
              · rintro v ⟨c, rfl, hc⟩
                exact ⟨_, ⟨c, rfl, hc⟩, fun _ => .int c⟩
              · rintro ds ⟨_, _, rfl, _, _, _, rfl, _, _, _, rfl, _, _, _, rfl, _, rfl⟩
                show 4 ≤ 100000
                decide
              obtain ⟨ds, ⟨_, _, rfl, rfl, _, _, rfl, ⟨kb, rfl⟩, _, _, rfl, ⟨c, rfl, hc⟩, _, _, rfl, ⟨pl, rfl⟩, rfl⟩, rfl⟩ := hd
              have hG8 := hG6.ex e8
              have hr8 := e8 _ _ hr1
              have hG9 := hG8.putR (r := (.say kb c, pl)) hr8 (TdAll.tx (Tx.of e8) _ _ hr2) hv (fun x hx => by
                simp only [reads, writes, List.mem_append, List.mem_cons, List.not_mem_nil, or_false] at hx
                rw [hx]
                exact hG.ca c hc) (by omega)
              refine q (.say kb c) pl g.nx _ rfl rfl (fun x hx => ?_) (Nat.le_refl _) (by omega) ((Kp.of (((e14.trans e5).trans e6).trans e8)).trans (.upd (by simp) hr8)) ?_
              · simp only [reads, List.mem_cons, List.not_mem_nil, or_false] at hx
                rw [hx]
                exact hc
              · show Gs K _ { g with R := g.R ++ [(.say kb c, pl)], A := g.A ++ [] }
                rw [List.append_nil]
                exact hG9
            · -- a call
              have hG6 := hG5.ex e6
              have e16 := (e14.trans e5).trans e6
              refine q_asgR (R := fun d => ∃ cs : List Int, d = .tuple (cs.map .int) ∧ cs.length ≤ 3 ∧ ∀ c ∈ cs, c ∈ g.A) ?_ fun vc H7 d hd e7 hvc => ?_
              · refine (er_tupleOf (L := fun ds => ∃ cs : List Int, ds = cs.map .int ∧ cs.length ≤ 3 ∧ ∀ c ∈ cs, c ∈ g.A) ?_).imp ?_
                · intro H8 e8 Q8 q8
                  refine en_lcR (N := 3) ((en_next (many := 4) hG6.dc (ev_var rfl) ev_c).imp fun v ⟨z, h1, h2, h3⟩ => ⟨z, h1, h2, by omega⟩) (by decide) (fun _ => rfl) (fun i H9 e9 => en_operand (hG6.ex e9) hne (ev_var rfl) (ev_var rfl)) H8 e8 _ fun p H9 xs hxs hp e9 hpl => ?_
                  obtain ⟨hxl, hxa⟩ := hxs
                  obtain ⟨cs, rfl, hcs⟩ := ints_of xs hxa
                  rw [List.length_map] at hxl
                  exact q8 p H9 _ _ ⟨cs, rfl, hxl, hcs⟩ hp e9 hpl (td_ints cs)
                · rintro d ⟨ds, ⟨cs, rfl, h1, h2⟩, rfl⟩
                  exact ⟨cs, rfl, h1, h2⟩
              obtain ⟨cs, rfl, hcl, hcs⟩ := hd
              have hG7 := hG6.ex e7
              -- cell
              refine qn_asg (en_ixW (K := K) (xs := [V.non, V.int 0]) (el_lst (ea_cons ev_c (ea_cons ev_c ea_nil)) (by decide)) ?_) fun v H8 hv e8 => ?_
              · intro H8 e8 Q8 q8
                refine en_opV (P3 := fun v => ∃ b : Bool, v = .bl b) (en_next (many := 3) hG7.dc (ev_var rfl) ev_c) (fun _ _ => EvN.of ev_c) ?_ H8 e8 _ fun v H9 hv e9 => ?_
                · rintro x y ⟨z, rfl, _, _⟩ rfl
                  exact ⟨_, ⟨_, rfl⟩, rv_I0⟩
                · obtain ⟨b, rfl⟩ := hv
                  refine .inr ⟨b, rfl, ?_⟩
                  exact q8 _ H9 ⟨_, rfl, by cases b <;> decide, by cases b <;> decide⟩ e9
              have hG8 := hG7.ex e8
              have e18 := (e16.trans e7).trans e8
              have hvc8 := Td.tx (Tx.of e8) _ _ hvc
              have last : ∀ {σ : L2.St} {H0 : Hp} {nx : Nat} {oc : Option Int}, Gs K H0 { g with nx := nx } → g.nx ≤ nx → nx ≤ g.nx + 1 → Kp [g.s, g.rl, g.ll] H H0 → (∀ c, oc = some c → 0 ≤ c ∧ c < (nx : Int)) → σ[0]? = some (some (.ref g.d)) → σ[1]? = some (some (.ref g.s)) → σ[9]? = some (some (oV oc)) → σ[8]? = some (some vc) → Td H0 vc (.tuple (cs.map .int)) →
                  (tDrop (tCall (spLays K) [] C8.E0 (tCons (tVar 0) (tCons (tVar 1) (tCons (tTup (tCons (tC (.str (Str.ofString "call"))) (tCons (tVar 9) (tCons (tOp (rIxL K) (tLst (tCons (tC (.str (Str.ofString "f"))) (tCons (tC (.str (Str.ofString "g"))) tNil))) (tCall (spNext K) [] C8.E0 (tCons (tVar 0) (tCons (tC (.int 2)) tNil))))
                    (tCons (tOp (rIxL K) (tLst (tCons (tC (.str (Str.ofString "da"))) (tCons (tC (.str (Str.ofString "db"))) tNil))) (tCall (spNext K) [] C8.E0 (tCons (tVar 0) (tCons (tC (.int 2)) tNil)))) (tCons (tVar 8) tNil)))))) tNil))))) { nx := fun _ H => Q .non H, rt := Q, bk := fun _ _ => False, ct := fun _ _ => False } σ H0 := by
                intro σ H0 nx oc hG0 n1 n2 k0 hoc s0 s1 s9 s8 hvc0
                have hof : ∀ H', Ev (tVar 9) σ H' (oV oc) := fun _ => ev_var s9
                refine s_lays (g := { g with nx := nx }) (L := fun ds nx2 => nx2 = nx ∧ ∃ fb nb, ds = [.str (Str.ofString "call"), oD oc, .str (fS fb), .str (nS nb), .tuple (cs.map .int)]) (Pr := fun r nx2 => (fewC r = true ∧ ∀ c ∈ reads r, c ∈ g.A) ∧ nx2 = nx) hG0 (ev_var s0) (ev_var s1) (fun H4 e4 => ?_) ?_ (by show g.R.length < 500; omega) (by show g.A.length < 500; omega) ?_ ?_
                · have hG4 := hG0.ex e4
                  intro Q4 q4
                  refine eaf_of hG4 (ear_cons (er_of (ed_str ev_c)) (ear_cons (R := (· = oD oc)) ?_ (ear_cons (R := fun d => ∃ fb, d = .str (fS fb)) (er_N (en_ixW (K := K) (xs := [V.str (fS false), V.str (fS true)]) (el_lst (ea_cons ev_c (ea_cons ev_c ea_nil)) (by decide)) (en_next (many := 2) hG4.dc (ev_var s0) ev_c)) ?_) (ear_cons (R := fun d => ∃ nb, d = .str (nS nb)) (er_N (en_ixW (K := K) (xs := [V.str (nS false), V.str (nS true)]) (el_lst (ea_cons ev_c (ea_cons ev_c ea_nil)) (by decide)) (en_next (many := 2) hG4.dc (ev_var s0) ev_c)) ?_) (ear_cons (er_of (ed_of (ev_var s8) (Td.tx (Tx.of e4) _ _ hvc0))) ear_nil))))) Q4 fun vs H2 ds nx2 hl n1 n2 k hG2 hvs => q4 vs H2 ds nx2 ?_ n1 n2 k hG2 hvs
                  · refine er_N (P := (· = oV oc)) (EvN.of (hof _)) ?_
                    rintro v rfl
                    cases oc with
                    | none => exact ⟨_, rfl, fun _ => .non⟩
                    | some c => exact ⟨_, rfl, fun _ => .int c⟩
                  · intro v hv
                    obtain ⟨fb, rfl⟩ := bool_mem hv
                    exact ⟨_, ⟨fb, rfl⟩, fun _ => .str _⟩
                  · intro v hv
                    obtain ⟨fb, rfl⟩ := bool_mem hv
                    exact ⟨_, ⟨fb, rfl⟩, fun _ => .str _⟩
                  · obtain ⟨h1, _, _, rfl, rfl, _, _, rfl, rfl, _, _, rfl, ⟨fb, rfl⟩, _, _, rfl, ⟨nb, rfl⟩, _, _, rfl, rfl, rfl⟩ := hl
                    exact ⟨h1, fb, nb, rfl⟩
                · rintro ds nx2 ⟨_, fb, nb, rfl⟩
                  show 5 ≤ 100
                  decide
                · rintro ds nx2 ⟨rfl, fb, nb, rfl⟩ _
                  refine ⟨.call oc fb nb cs, rfl, rfl, fun x hx => ?_, ⟨decide_eq_true hcl, hcs⟩, rfl⟩
                  rcases List.mem_append.mp hx with hx | hx
                  · exact cellsA x (hcs x hx) nx2 n1
                  · cases oc with
                    | none => cases hx
                    | some c =>
                      rw [List.mem_singleton.mp hx]
                      exact hoc c rfl
                · rintro r p nx2 H2 ⟨hr, rfl⟩ hl m1 m2 k hG2
                  exact q r p nx2 H2 (lay_plain hl) hr.1 hr.2 n1 n2 (k0.trans k) hG2
              simp only [List.mem_cons, List.not_mem_nil, or_false] at hv
              rcases hv with rfl | rfl
              · refine q_asg (ev_if (b := true) (et_test (ev_is (ev_op (ev_var rfl) ev_c fun H9 _ Q9 q9 => ⟨rfl, q9 H9 (Ex.refl H9)⟩) rfl)) (fun _ => ev_var rfl) (fun z => by cases z)) fun H9 e9 => ?_
                exact last (nx := g.nx) (oc := none) (hG8.ex e9) (Nat.le_refl _) (by omega) (.of (e18.trans e9)) (fun c hc => by cases hc) rfl rfl rfl rfl (Td.tx (Tx.of e9) _ _ hvc8)
              · refine q_asgFresh hG8 (et_test (ev_is (ev_op (ev_var rfl) ev_c fun H9 _ Q9 q9 => ⟨rfl, q9 H9 (Ex.refl H9)⟩) rfl)) (ev_var rfl) (ev_var rfl) fun c nx H9 n1 n2 c0 c1 k9 hG9 => ?_
                have k9' : Kp [g.s, g.rl, g.ll] H8 H9 := k9.mono (by simp)
                exact last (nx := nx) (oc := some c) hG9 n1 n2 ((Kp.of e18).trans k9') (fun c2 hc => by cases hc; exact ⟨c0, c1⟩) rfl rfl rfl rfl (Td.tx (hG8.tx k9') _ _ hvc8)
end
end Wt

set_option Elab.async false
set_option linter.all false
set_option maxRecDepth 100000
set_option maxHeartbeats 4000000
namespace Wt
open PySem PySem.Spec PyProof.Rows L2 SX Evl
open C8 (Def Cal cal0 fnScope_by fnScope)
/-! Blocks, ways apart, rounds. -/
/-- from g to g2, as far as addresses go -/
structure Gp (H H2 : Hp) (g g2 : Gh) : Prop where
  d : g2.d = g.d
  a : g2.a = g.a
  ns : g2.ns = g.ns
  s : g2.s = g.s
  nl : g2.nl = g.nl
  M : g2.M = g.M
  kp : Kp [g.s, g.rl, g.ll] H H2
  rl : g2.rl = g.rl ∨ H g2.rl = none
  ll : g2.ll = g.ll ∨ H g2.ll = none
theorem Gp.ex {H H2 : Hp} {g : Gh} (e : Ex H H2) : Gp H H2 g g := ⟨rfl, rfl, rfl, rfl, rfl, rfl, .of e, .inl rfl, .inl rfl⟩
theorem Gp.kp' {H H2 : Hp} {g g2 : Gh} (k : Kp [g.s, g.rl, g.ll] H H2) (d : g2.d = g.d) (a : g2.a = g.a) (ns : g2.ns = g.ns) (s : g2.s = g.s) (nl : g2.nl = g.nl) (M : g2.M = g.M) (rl : g2.rl = g.rl) (ll : g2.ll = g.ll) : Gp H H2 g g2 := ⟨d, a, ns, s, nl, M, k, .inl rl, .inl ll⟩
theorem Gp.trans {H H1 H2 : Hp} {g g1 g2 : Gh} (x : Gp H H1 g g1) (y : Gp H1 H2 g1 g2) : Gp H H2 g g2 where
  d := y.d.trans x.d
  a := y.a.trans x.a
  ns := y.ns.trans x.ns
  s := y.s.trans x.s
  nl := y.nl.trans x.nl
  M := y.M.trans x.M
  kp := ⟨(fun b o n h => by
    simp only [List.mem_cons, List.not_mem_nil, or_false, not_or] at n
    refine y.kp.keep b o (fun z => ?_) (x.kp.keep b o (by simp only [List.mem_cons, List.not_mem_nil, or_false, not_or]; exact n) h)
    simp only [List.mem_cons, List.not_mem_nil, or_false] at z
    rcases z with z | z | z
    · exact n.1 (z.trans x.s)
    · rcases x.rl with e | e
      · exact n.2.1 (z.trans e)
      · rw [← z, h] at e; cases e
    · rcases x.ll with e | e
      · exact n.2.2 (z.trans e)
      · rw [← z, h] at e; cases e), fun b h => x.kp.there b (y.kp.there b h)⟩
  rl := by
    rcases y.rl with e | e
    · rw [e]; exact x.rl
    · exact .inr (x.kp.there _ e)
  ll := by
    rcases y.ll with e | e
    · rw [e]; exact x.ll
    · exact .inr (x.kp.there _ e)
/-- a list of cells kept aside -/
structure Ah (H : Hp) (g : Gh) (p : Addr) (A : List Int) : Prop where
  o : H p = some (.lst (A.map .int))
  s : p ≠ g.s
  rl : p ≠ g.rl
  ll : p ≠ g.ll
theorem Ah.go {H H2 : Hp} {g g2 : Gh} {p : Addr} {A : List Int} (h : Ah H g p A) (x : Gp H H2 g g2) : Ah H2 g2 p A := by
  have hp := h.o
  refine ⟨x.kp.keep _ _ (by simp only [List.mem_cons, List.not_mem_nil, or_false, not_or]; exact ⟨h.s, h.rl, h.ll⟩) hp, by rw [x.s]; exact h.s, ?_, ?_⟩
  · rcases x.rl with e | e
    · rw [e]; exact h.rl
    · intro z
      rw [← z, hp] at e
      cases e
  · rcases x.ll with e | e
    · rw [e]; exact h.ll
    · intro z
      rw [← z, hp] at e
      cases e
section
variable {P : Program} {w : World} {K : PySem.W.Frag} {mg : Str → Option Value} {base : Heap}
section
variable {σ : L2.St} {H H' : Hp} {ta tb te t0 t1 t2 tv : TE} {tr : TA} {g : Gh} {D : Ends} {tz : TS} {E : XK} {R : PyData → Prop}
theorem q_forRN2 {j N : Nat} {tu : TS} (h : EvN te σ H (fun v => ∃ z : Int, v = .int z ∧ 0 ≤ z ∧ z < (N : Int))) (hN : N ≤ 10000) (Pv : Nat → L2.St → Hp → Prop) (h0 : ∀ H1, Ex H H1 → Pv 0 σ H1)
    (hs : ∀ (i : Nat) σ' H', i + 1 < N → Pv i σ' H' → tu { D with nx := Pv (i + 1), ct := Pv (i + 1), bk := tz D } (σ'.set j (some (.int (i : Int)))) H') (hd : ∀ n σ' H', n < N → Pv n σ' H' → tz D σ' H') :
    tSeq (tFor (iRng1 (tCons te tNil)) (gName j) tu) tz D σ H := h H (Ex.refl H) _ fun v H1 hv e1 => by
  obtain ⟨z, rfl, z0, z1⟩ := hv
  refine ⟨z, rfl, by omega, by omega, for_range (D := { D with nx := tz D }) (lo := 0) (n := z.toNat) Pv (h0 H1 e1) (fun i σ' H' hi p => ?_) fun σ' H' p => hd z.toNat σ' H' (by omega) p⟩
  have e0 : (0 : Int) + (i : Int) = (i : Int) := Int.zero_add _
  show tu { D with nx := Pv (i + 1), ct := Pv (i + 1), bk := tz D } (σ'.set j (some (.int ((0 : Int) + (i : Int))))) H'
  rw [e0]
  exact hs i σ' H' (by omega) p
theorem s_forRN2 {j N : Nat} {tu : TS} (h : EvN te σ H (fun v => ∃ z : Int, v = .int z ∧ 0 ≤ z ∧ z < (N : Int))) (hN : N ≤ 10000) (Pv : Nat → L2.St → Hp → Prop) (h0 : ∀ H1, Ex H H1 → Pv 0 σ H1)
    (hs : ∀ (i : Nat) σ' H', i + 1 < N → Pv i σ' H' → tu { D with nx := Pv (i + 1), ct := Pv (i + 1), bk := D.nx } (σ'.set j (some (.int (i : Int)))) H') (hd : ∀ n σ' H', n < N → Pv n σ' H' → D.nx σ' H') :
    tFor (iRng1 (tCons te tNil)) (gName j) tu D σ H := q_forRN2 (D := D) (tz := tNext) h hN Pv h0 hs hd
theorem s_callA {sp : Sp} {vs : List V} (h : EvA tr σ H vs) (k : ∀ H1, Ex H H1 → sp vs H1 (fun _ H2 => D.nx σ H2) E) : tDrop (tCall sp [] E tr) D σ H := h H (Ex.refl H) _ fun H1 e => by
  rw [List.append_nil]
  exact k H1 e
theorem q_callA {sp : Sp} {vs : List V} (h : EvA tr σ H vs) (k : ∀ H1, Ex H H1 → sp vs H1 (fun _ H2 => tz D σ H2) E) : tSeq (tDrop (tCall sp [] E tr)) tz D σ H := s_callA (D := { D with nx := tz D }) h k
/-- rows.append(..) -/
theorem q_row {r : Rw} (hG : Gs K H g) (ha : Ev ta σ H (.ref g.s)) (h : EvR te σ H (fun d => ∃ p, d = rpD (r, p))) (hc : ∀ c ∈ reads r ++ writes r, 0 ≤ c ∧ c < (g.nx : Int)) (hl : g.R.length < 500)
    (k : ∀ p H1, Gp H H1 g { g with R := g.R ++ [(r, p)] } → Gs K H1 { g with R := g.R ++ [(r, p)] } → tz D σ H1) : tSeq (tDrop (tBM K "list" rAppend (tDGet ta (tC (.str (Str.ofString "rows")))) (tCons te tNil))) tz D σ H := by
  obtain ⟨us, hr1, hr2⟩ := hG.r
  have hus := hr2.len
  rw [List.length_map] at hus
  refine q_appR hr1 (ev_sd hG ha fun li => sd_R _ _ _ _ _ _) h (by omega) fun v H1 d hd e1 hv => ?_
  obtain ⟨p, rfl⟩ := hd
  have hG1 := hG.ex e1
  have hr11 := e1 _ _ hr1
  exact k p _ (.kp' ((Kp.of e1).trans (.upd (by simp) hr11)) rfl rfl rfl rfl rfl rfl rfl rfl) (hG1.putR (r := (r, p)) hr11 (TdAll.tx (Tx.of e1) _ _ hr2) hv hc hl)
theorem s_row {r : Rw} (hG : Gs K H g) (ha : Ev ta σ H (.ref g.s)) (h : EvR te σ H (fun d => ∃ p, d = rpD (r, p))) (hc : ∀ c ∈ reads r ++ writes r, 0 ≤ c ∧ c < (g.nx : Int)) (hl : g.R.length < 500)
    (k : ∀ p H1, Gp H H1 g { g with R := g.R ++ [(r, p)] } → Gs K H1 { g with R := g.R ++ [(r, p)] } → D.nx σ H1) : tDrop (tBM K "list" rAppend (tDGet ta (tC (.str (Str.ofString "rows")))) (tCons te tNil)) D σ H := q_row (D := D) (tz := tNext) hG ha h hc hl k
/-- (word, .., place) -/
theorem er_row {wd : Str} {r : Rw} (hG : Gs K H g) (h0 : Ev t0 σ H (.ref g.d)) (h1 : Ev t1 σ H (.ref g.s)) (hw : Ev te σ H (.str wd)) (e : rwDs r = [.str wd]) : EvR (tTup (tCons te (tCons (tCall (spPlace K) [] E (tCons t0 (tCons t1 tNil))) tNil))) σ H (fun d => ∃ p, d = rpD (r, p)) :=
  (er_tup (ear_cons (er_of (ed_str hw)) (ear_cons (er_place hG h0 h1) ear_nil)) (by rintro ds ⟨_, _, rfl, _, _, _, rfl, _, rfl⟩; show 2 ≤ 100000; decide)).imp (by
    rintro d ⟨ds, ⟨_, _, rfl, rfl, _, _, rfl, ⟨p, rfl⟩, rfl⟩, rfl⟩
    exact ⟨p, by unfold rpD rpDs; rw [e] <;> rfl⟩)
theorem er_row1 {wd : Str} {r : Rw} {d1 : PyData} (hG : Gs K H g) (h0 : Ev t0 σ H (.ref g.d)) (h1 : Ev t1 σ H (.ref g.s)) (hw : Ev te σ H (.str wd)) (ha : EvD ta σ H d1) (e : rwDs r = [.str wd, d1]) : EvR (tTup (tCons te (tCons ta (tCons (tCall (spPlace K) [] E (tCons t0 (tCons t1 tNil))) tNil)))) σ H (fun d => ∃ p, d = rpD (r, p)) :=
  (er_tup (ear_cons (er_of (ed_str hw)) (ear_cons (er_of ha) (ear_cons (er_place hG h0 h1) ear_nil))) (by rintro ds ⟨_, _, rfl, _, _, _, rfl, _, _, _, rfl, _, rfl⟩; show 3 ≤ 100000; decide)).imp (by
    rintro d ⟨ds, ⟨_, _, rfl, rfl, _, _, rfl, rfl, _, _, rfl, ⟨p, rfl⟩, rfl⟩, rfl⟩
    exact ⟨p, by unfold rpD rpDs; rw [e] <;> rfl⟩)
theorem er_row2 {wd : Str} {r : Rw} {d1 d2 : PyData} (hG : Gs K H g) (h0 : Ev t0 σ H (.ref g.d)) (h1 : Ev t1 σ H (.ref g.s)) (hw : Ev te σ H (.str wd)) (ha : EvD ta σ H d1) (hb : EvD tb σ H d2) (e : rwDs r = [.str wd, d1, d2]) : EvR (tTup (tCons te (tCons ta (tCons tb (tCons (tCall (spPlace K) [] E (tCons t0 (tCons t1 tNil))) tNil))))) σ H (fun d => ∃ p, d = rpD (r, p)) :=
  (er_tup (ear_cons (er_of (ed_str hw)) (ear_cons (er_of ha) (ear_cons (er_of hb) (ear_cons (er_place hG h0 h1) ear_nil)))) (by rintro ds ⟨_, _, rfl, _, _, _, rfl, _, _, _, rfl, _, _, _, rfl, _, rfl⟩; show 4 ≤ 100000; decide)).imp (by
    rintro d ⟨ds, ⟨_, _, rfl, rfl, _, _, rfl, rfl, _, _, rfl, rfl, _, _, rfl, ⟨p, rfl⟩, rfl⟩, rfl⟩
    exact ⟨p, by unfold rpD rpDs; rw [e] <;> rfl⟩)
theorem er_row3 {wd : Str} {r : Rw} {d1 d2 d3 : PyData} (hG : Gs K H g) (h0 : Ev t0 σ H (.ref g.d)) (h1 : Ev t1 σ H (.ref g.s)) (hw : Ev te σ H (.str wd)) (ha : EvD ta σ H d1) (hb : EvD tb σ H d2) (hc : EvD t2 σ H d3) (e : rwDs r = [.str wd, d1, d2, d3]) : EvR (tTup (tCons te (tCons ta (tCons tb (tCons t2 (tCons (tCall (spPlace K) [] E (tCons t0 (tCons t1 tNil))) tNil)))))) σ H (fun d => ∃ p, d = rpD (r, p)) :=
  (er_tup (ear_cons (er_of (ed_str hw)) (ear_cons (er_of ha) (ear_cons (er_of hb) (ear_cons (er_of hc) (ear_cons (er_place hG h0 h1) ear_nil))))) (by rintro ds ⟨_, _, rfl, _, _, _, rfl, _, _, _, rfl, _, _, _, rfl, _, _, _, rfl, _, rfl⟩; show 5 ≤ 100000; decide)).imp (by
    rintro d ⟨ds, ⟨_, _, rfl, rfl, _, _, rfl, rfl, _, _, rfl, rfl, _, _, rfl, rfl, _, _, rfl, ⟨p, rfl⟩, rfl⟩, rfl⟩
    exact ⟨p, by unfold rpD rpDs; rw [e] <;> rfl⟩)
/-- s["line"] = s["line"] + 1 -/
theorem q_line (hG : Gs K H g) (ha : Ev ta σ H (.ref g.s)) (hb : ∀ H1, Ex H H1 → Ev tb σ H1 (.ref g.s)) (k : ∀ H1, Gp H H1 g g → Gs K H1 g → tz D σ H1) :
    tSeq (sDPut ta (tC (.str (Str.ofString "line"))) (tOp (rI0 fun i j => .int (i + j)) (tDGet tb (tC (.str (Str.ofString "line")))) (tC (.int 1)))) tz D σ H := by
  obtain ⟨li, hd⟩ := hG.dk
  refine q_sput hG ha (ev_op (ev_dget (hb H (Ex.refl H)) ev_c hd (sd_I _ _ _ _ _ _)) ev_c rv_I0) (fun l2 => (sd_put _ _ _ _ _ _).2.1 _) fun l2 H1 e1 hd1 => ?_
  exact k _ (.kp' ((Kp.of e1).trans (.upd (by simp) hd1)) rfl rfl rfl rfl rfl rfl rfl rfl) (hG.putS (lb := g.lb) (nx := g.nx) e1 (Nat.le_refl _))
/-- rows.append(("begin", (s["line"], 3))) -/
theorem q_beg (hG : Gs K H g) (ha : Ev ta σ H (.ref g.s)) (hb : ∀ H1, Ex H H1 → Ev tb σ H1 (.ref g.s)) (hl : g.R.length < 500) (k : ∀ p H1, Gp H H1 g { g with R := g.R ++ [(.begin_, p)] } → Gs K H1 { g with R := g.R ++ [(.begin_, p)] } → tz D σ H1) :
    tSeq (tDrop (tBM K "list" rAppend (tDGet ta (tC (.str (Str.ofString "rows")))) (tCons (tTup (tCons (tC (.str (Str.ofString "begin"))) (tCons (tTup (tCons (tDGet tb (tC (.str (Str.ofString "line")))) (tCons (tC (.int 3)) tNil))) tNil))) tNil))) tz D σ H := by
  obtain ⟨li, hd⟩ := hG.dk
  refine q_row (r := .begin_) hG ha ((er_tup (ear_cons (er_of (ed_str ev_c)) (ear_cons (er_of (ed_tup (ead_cons (ed_int (ev_dget (hb H (Ex.refl H)) ev_c hd (sd_I _ _ _ _ _ _))) (ead_cons (ed_int ev_c) ead_nil)) (by show 2 ≤ 100000; decide))) ear_nil)) (by rintro ds ⟨_, _, rfl, _, _, _, rfl, _, rfl⟩; show 2 ≤ 100000; decide)).imp ?_) (fun c hc => by cases hc) hl k
  rintro d ⟨ds, ⟨_, _, rfl, rfl, _, _, rfl, rfl, rfl⟩, rfl⟩
  exact ⟨(li, 3), rfl⟩
/-- s["labels"] = s["labels"] + 2 -/
theorem q_labels (hG : Gs K H g) (ha : Ev ta σ H (.ref g.s)) (hb : Ev tb σ H (.ref g.s)) (k : ∀ H1, Gp H H1 g { g with lb := g.lb + 2 } → Gs K H1 { g with lb := g.lb + 2 } → tz D σ H1) :
    tSeq (sDPut ta (tC (.str (Str.ofString "labels"))) (tOp (rI0 fun i j => .int (i + j)) (tDGet tb (tC (.str (Str.ofString "labels")))) (tC (.int 2)))) tz D σ H := by
  refine q_sput hG ha (ev_op (ev_sd hG hb fun li => sd_B _ _ _ _ _ _) ev_c rv_I0) (fun l2 => (sd_put _ _ _ _ _ _).2.2.1 _) fun l2 H1 e1 hd1 => ?_
  have hG2 := hG.putS (li := l2) (lb := g.lb + 2) (nx := g.nx) e1 (Nat.le_refl _)
  rw [show ((g.lb + 2 : Nat) : Int) = (g.lb : Int) + 2 by omega] at hG2
  exact k _ (.kp' ((Kp.of e1).trans (.upd (by simp) hd1)) rfl rfl rfl rfl rfl rfl rfl rfl) hG2
/-- s["laid"] = list(ahead) -/
theorem q_laid {pa : Addr} {A : List Int} (hG : Gs K H g) (ha : Ev ta σ H (.ref g.s)) (hb : Ev tb σ H (.ref pa)) (hA : Ah H g pa A) (hc : ∀ c ∈ A, 0 ≤ c ∧ c < (g.nx : Int)) (hl : A.length ≤ 500)
    (k : ∀ p H1, Gp H H1 g { g with ll := p, A := A } → Gs K H1 { g with ll := p, A := A } → tz D σ H1) : tSeq (sDPut ta (tC (.str (Str.ofString "laid"))) (tCB (rListS K) (tCons tb tNil))) tz D σ H := by
  obtain ⟨li, hd⟩ := hG.dk
  obtain ⟨us, hr1, hr2⟩ := hG.r
  refine el_list (K := K) hb (sq_of hA.o) H (Ex.refl H) _ fun p H1 hp e1 hp1 => ha H1 e1 _ fun H2 e2 => ⟨g.s, _, rfl, DPut.k (k := (Sum.inr (Str.ofString "laid") : Key)) ((e1.trans e2) _ _ hd) (by show 6 < sizeLine; decide), ?_⟩
  have e12 := e1.trans e2
  have hp2 := e2 _ _ hp1
  have hG2 := hG.ex e12
  have hd2 := e12 _ _ hd
  obtain ⟨n1, n2, n3⟩ := hG.sr
  have ep : putK (sd g.rl li g.lb g.nx g.ll g.nl) (Sum.inr (Str.ofString "laid") : Key) (.ref p) = sd g.rl li g.lb g.nx p g.nl := (sd_put _ _ _ _ _ _).2.2.2.2 p
  rw [ep]
  have nps : p ≠ g.s := (ne_of_none hd hp).symm
  have npr : p ≠ g.rl := (ne_of_none hr1 hp).symm
  have npn : p ≠ g.nl := (ne_of_none hG.n hp).symm
  have k3 : Kp [g.s, g.rl, g.ll] H (upd H2 g.s (.dK (sd g.rl li g.lb g.nx p g.nl))) := (Kp.of e12).trans (.upd (by simp) hd2)
  have k4 : Kp [g.s, g.rl, g.ll] H2 (upd H2 g.s (.dK (sd g.rl li g.lb g.nx p g.nl))) := .upd (by simp) hd2
  refine k p _ ⟨rfl, rfl, rfl, rfl, rfl, rfl, k3, .inl rfl, .inr hp⟩ ⟨hG2.dcK k4, ⟨li, upd_same⟩, ⟨us, by show (upd H2 g.s _) g.rl = _; rw [upd_ne n1]; exact e12 _ _ hr1, TdAll.tx ((Tx.of e12).trans (hG2.tx k4)) _ _ hr2⟩, by show (upd H2 g.s _) p = _; rw [upd_ne nps]; exact hp2, by show (upd H2 g.s _) g.nl = _; rw [upd_ne n3]; exact hG2.n, npr.symm, hG.n2, npn, hc, hG.cm, hG.cr, hl, hG.lm, hG.lr⟩
/-- s["rows"] = s["rows"] + [a, b] -/
theorem q_rows2 {r1 r2 : Rw} (hG : Gs K H g) (ha : Ev ta σ H (.ref g.s)) (hb : Ev tb σ H (.ref g.s)) (h1 : EvR t1 σ H (fun d => ∃ p, d = rpD (r1, p))) (h2 : EvR t2 σ H (fun d => ∃ p, d = rpD (r2, p))) (hc : reads r1 ++ writes r1 ++ (reads r2 ++ writes r2) = []) (hl : g.R.length < 490)
    (k : ∀ p q pr H1, Gp H H1 g { g with rl := pr, R := g.R ++ [(r1, p), (r2, q)] } → Gs K H1 { g with rl := pr, R := g.R ++ [(r1, p), (r2, q)] } → tz D σ H1) :
    tSeq (sDPut ta (tC (.str (Str.ofString "rows"))) (tOp rCat (tDGet tb (tC (.str (Str.ofString "rows")))) (tLst (tCons t1 (tCons t2 tNil))))) tz D σ H := by
  obtain ⟨li, hd⟩ := hG.dk
  obtain ⟨us, hr1, hr2⟩ := hG.r
  have hus := hr2.len
  rw [List.length_map] at hus
  refine ev_sd hG hb (fun li => sd_R _ _ _ _ _ _) H (Ex.refl H) _ fun H1 e1 => erl_lst (ear_cons h1 (ear_cons h2 ear_nil)) ?_ H1 e1 _ fun pl H2 vs ds hds hpl e2 hpl2 hvs => ?_
  · rintro ds ⟨_, _, rfl, _, _, _, rfl, _, rfl⟩
    show 2 ≤ 100000
    decide
  · obtain ⟨_, _, rfl, ⟨p, rfl⟩, _, _, rfl, ⟨q, rfl⟩, rfl⟩ := hds
    have lvs := hvs.len
    have e12 := e1.trans e2
    refine ⟨g.rl, pl, us, vs, rfl, rfl, e12 _ _ hr1, hpl2, sz_of (by rw [lvs]; show us.length + 2 ≤ 100000; omega), fun pr hpr => ?_⟩
    have e3 := Ex.new (o := HO.lst (us ++ vs)) hpr
    have e13 := e12.trans e3
    have hpr0 : H pr = none := fresh_back e12 hpr
    refine ha _ e13 _ fun H4 e4 => ⟨g.s, _, rfl, DPut.k (k := (Sum.inr (Str.ofString "rows") : Key)) ((e13.trans e4) _ _ hd) (by show 6 < sizeLine; decide), ?_⟩
    have e14 := e13.trans e4
    have ep : putK (sd g.rl li g.lb g.nx g.ll g.nl) (Sum.inr (Str.ofString "rows") : Key) (.ref pr) = sd pr li g.lb g.nx g.ll g.nl := (sd_put _ _ _ _ _ _).1 pr
    rw [ep]
    have hpr4 : H4 pr = some (.lst (us ++ vs)) := e4 _ _ upd_same
    have hG4 := hG.ex e14
    have hd4 := e14 _ _ hd
    obtain ⟨n1, n2, n3⟩ := hG.sr
    have nps : pr ≠ g.s := (ne_of_none hd hpr0).symm
    have npl : pr ≠ g.ll := (ne_of_none hG.l hpr0).symm
    have npn : pr ≠ g.nl := (ne_of_none hG.n hpr0).symm
    have k4 : Kp [g.s, g.rl, g.ll] H4 (upd H4 g.s (.dK (sd pr li g.lb g.nx g.ll g.nl))) := .upd (by simp) hd4
    have k3 : Kp [g.s, g.rl, g.ll] H (upd H4 g.s (.dK (sd pr li g.lb g.nx g.ll g.nl))) := (Kp.of e14).trans k4
    have tx := (Tx.of e14).trans (hG4.tx k4)
    have tx2 := (Tx.of (e3.trans e4)).trans (hG4.tx k4)
    refine k p q pr _ ⟨rfl, rfl, rfl, rfl, rfl, rfl, k3, .inr hpr0, .inl rfl⟩ ⟨hG4.dcK k4, ⟨li, upd_same⟩, ⟨us ++ vs, by show (upd H4 g.s _) pr = _; rw [upd_ne nps]; exact hpr4, ?_⟩, by show (upd H4 g.s _) g.ll = _; rw [upd_ne n2]; exact hG4.l, by show (upd H4 g.s _) g.nl = _; rw [upd_ne n3]; exact hG4.n, npl, npn, hG.n3, hG.ca, hG.cm, ?_, hG.la, hG.lm, by show (g.R ++ [(r1, p), (r2, q)]).length ≤ 500; rw [List.length_append]; show g.R.length + 2 ≤ 500; omega⟩
    · show TdAll _ _ ((g.R ++ [(r1, p), (r2, q)]).map rpD)
      rw [List.map_append]
      exact (TdAll.tx tx _ _ hr2).app (TdAll.tx tx2 _ _ hvs)
    · intro x hx c hcx
      rcases List.mem_append.mp hx with hx | hx
      · exact hG.cr x hx c hcx
      · exfalso
        simp only [List.mem_cons, List.not_mem_nil, or_false] at hx
        have : c ∈ reads r1 ++ writes r1 ++ (reads r2 ++ writes r2) := by
          rcases hx with rfl | rfl
          · exact List.mem_append_left _ hcx
          · exact List.mem_append_right _ hcx
        rw [hc] at this
        cases this
end
/-! ### block, choice, round -/
abbrev s__law_block : Stmt := topS 16
theorem sc__law_block : FnScope ["_law_row", "_law_s", "_law_deep", "_law_again", "_law_more", "_law_way"] ["_law_row", "_law_s", "_law_deep"] (fnScope s__law_block) := fnScope_by (by decide +kernel)
abbrev s__law_choice : Stmt := topS 17
theorem sc__law_choice : FnScope ["_law_row", "_law_s", "_law_deep", "_law_other_here", "_law_end", "_law_ahead"] ["_law_row", "_law_s", "_law_deep"] (fnScope s__law_choice) := fnScope_by (by decide +kernel)
abbrev s__law_round : Stmt := topS 18
theorem sc__law_round : FnScope ["_law_row", "_law_s", "_law_deep", "_law_head", "_law_end", "_law_count", "_law_ahead"] ["_law_row", "_law_s", "_law_deep"] (fnScope s__law_round) := fnScope_by (by decide +kernel)
def cap : Nat → Nat
  | 0 => 0
  | 1 => 95
  | _ => 118
def ccap : Nat → Nat
  | 0 => 0
  | 1 => 87
  | _ => 110
/-- a block told behind what was -/
structure Grow (H H2 : Hp) (g g2 : Gh) : Prop where
  p : Gp H H2 g g2
  rows : ∃ rp, g2.R = g.R ++ rp ∧ Blk g.A g.lb (rp.map Prod.fst) g2.A g2.lb
  nx : g.nx ≤ g2.nx
  nxl : g2.nx + g.R.length ≤ g.nx + g2.R.length
  al : g2.A.length + g.R.length ≤ g.A.length + g2.R.length
  sub : ∀ c ∈ g.A, c ∈ g2.A
theorem Grow.refl {H H2 : Hp} {g : Gh} (e : Gp H H2 g g) : Grow H H2 g g := ⟨e, ⟨[], (List.append_nil _).symm, .nil _ _⟩, Nat.le_refl _, Nat.le_refl _, Nat.le_refl _, fun _ h => h⟩
theorem Grow.trans {H H1 H2 : Hp} {g g1 g2 : Gh} (x : Grow H H1 g g1) (y : Grow H1 H2 g1 g2) : Grow H H2 g g2 := by
  obtain ⟨r1, e1, b1⟩ := x.rows
  obtain ⟨r2, e2, b2⟩ := y.rows
  have := x.nx
  have := y.nx
  have := x.nxl
  have := y.nxl
  have := x.al
  have := y.al
  exact ⟨x.p.trans y.p, ⟨r1 ++ r2, by rw [e2, e1, List.append_assoc], by rw [List.map_append]; exact b1.app b2⟩, by omega, by omega, by omega, fun c hc => y.sub c (x.sub c hc)⟩
theorem Grow.len {H H2 : Hp} {g g2 : Gh} (x : Grow H H2 g g2) : g.R.length ≤ g2.R.length := by
  obtain ⟨rp, e, _⟩ := x.rows
  rw [e, List.length_append]
  omega
/-- a block may begin -/
structure Gb (g : Gh) : Prop where
  ne : g.A ≠ []
  r : g.R.length ≤ 130
  al : g.A.length ≤ g.R.length + 10
theorem Gb.grow {H H2 : Hp} {g g2 : Gh} (b : Gb g) (x : Grow H H2 g g2) (h : g2.R.length ≤ 130) : Gb g2 := by
  refine ⟨fun z => ?_, h, by have := x.al; have := b.al; omega⟩
  obtain ⟨c, hc⟩ := List.exists_mem_of_ne_nil _ b.ne
  have := x.sub c hc
  rw [z] at this
  cases this
def spBlock (K : PySem.W.Frag) (n : Nat) : Sp := fun vs H Q _ => ∃ g : Gh, vs = [.ref g.d, .ref g.s, .int (n : Int)] ∧ Gs K H g ∧ Gb g ∧ g.R.length ≤ 110 ∧ ∀ g2 H2, Grow H H2 g g2 → g2.R.length ≤ max (g.R.length + 12) (cap n) → Gs K H2 g2 → Q .non H2
def spNest (K : PySem.W.Frag) (n : Nat) : Sp := fun vs H Q _ => ∃ g : Gh, vs = [.ref g.d, .ref g.s, .int (n : Int)] ∧ 0 < n ∧ Gs K H g ∧ Gb g ∧ g.R.length < 60 ∧ ∀ g2 H2, Grow H H2 g g2 → g2.R.length ≤ ccap n → Gs K H2 g2 → Q .non H2
theorem cap_ccap (n : Nat) (h : 0 < n) : ccap n + 8 = cap n := by
  match n, h with
  | 1, _ => rfl
  | n + 2, _ => rfl
theorem grow_plain {H H2 : Hp} {g : Gh} {r : Rw} {p : Int × Int} {nx : Nat} (k : Gp H H2 g { g with R := g.R ++ [(r, p)], A := g.A ++ writes r, nx := nx }) (h1 : plain r = true) (h2 : fewC r = true) (h3 : ∀ c ∈ reads r, c ∈ g.A) (n1 : g.nx ≤ nx) (n2 : nx ≤ g.nx + 1) : Grow H H2 g { g with R := g.R ++ [(r, p)], A := g.A ++ writes r, nx := nx } := by
  have lw : (writes r).length ≤ 1 := by cases r with
    | call c f n cs => cases c <;> simp [writes]
    | _ => simp [writes]
  refine ⟨k, ⟨[(r, p)], rfl, .plain (.nil _ _) h1 h2 h3⟩, n1, ?_, ?_, fun c hc => List.mem_append_left _ hc⟩
  · show nx + g.R.length ≤ g.nx + (g.R ++ [(r, p)]).length
    rw [List.length_append]
    show nx + g.R.length ≤ g.nx + (g.R.length + 1)
    omega
  · show (g.A ++ writes r).length + g.R.length ≤ g.A.length + (g.R ++ [(r, p)]).length
    rw [List.length_append, List.length_append]
    show g.A.length + (writes r).length + g.R.length ≤ g.A.length + (g.R.length + 1)
    omega
theorem grow_begin {H H2 : Hp} {g : Gh} {p : Int × Int} (k : Gp H H2 g { g with R := g.R ++ [(.begin_, p)] }) : Grow H H2 g { g with R := g.R ++ [(.begin_, p)] } := by
  refine ⟨k, ⟨[(.begin_, p)], rfl, .begin_ (.nil _ _)⟩, Nat.le_refl _, ?_, ?_, fun c hc => hc⟩
  · show g.nx + g.R.length ≤ g.nx + (g.R ++ [(Rw.begin_, p)]).length
    rw [List.length_append]
    omega
  · show g.A.length + g.R.length ≤ g.A.length + (g.R ++ [(Rw.begin_, p)]).length
    rw [List.length_append]
    omega
theorem ok_block (T : ModsL K mg) {k n : Nat} (hk : 4 ≤ k) (c__law_taken : Cal P w K mg base 1 "_law_taken" (spNext K) []) (c__law_straight : Cal P w K mg base 4 "_law_straight" (spStraight K) []) (c__law_choice : Cal P w K mg base k "_law_choice" (spNest K n) []) (c__law_round : Cal P w K mg base k "_law_round" (spNest K n) [])
    {f : Addr} {fd : FuncData} (F : Def K mg "_law_block" s__law_block f fd) (b : Binds K fd ["_law_row", "_law_s", "_law_deep"] []) : Cal P w K mg base (k + 1) "_law_block" (spBlock K n) [] := by
  refine cal0 F b .nil sc__law_block (fun vs H Q E h => ?_) (fun cdv A outer s H vs Q E hr h => ?_)
  · obtain ⟨_, rfl, _⟩ := h
    rfl
  · obtain ⟨g, rfl, hG, hb, hr110, q⟩ := h
    have m_range := T.m_range
    have m_len := T.m_len
    have hu := hu_of hr
    have hu64 := hr.units
    refine ⟨_, (pss_one (ps_for PassesOwn.never rfl (pi_range1 (by rfl) m_range (pa_cons (pe_op op_add pe_int (C8.pe_c c__law_taken hr (by first | decide | exact Nat.le_refl _ | omega) (by rfl) (pa_cons (pv 0) (pa_cons pe_int pa_nil)))) pa_nil)) (pg_name (i := 3) sc__law_block.nd rfl (.inl rfl)) (pss_cons (ps_dput hu (pv 1) pe_str (pe_op op_add (pe_dget hu (pv 1) pe_str (fun _ _ => rfl)) pe_int) rfl)
      (pss_cons (ps_expr (pe_bm PySem.F.plainAttrs_list PySem.F.slot_list_append PySem.F.type_list_append mt_append (pe_dget hu (pv 1) pe_str (fun _ _ => rfl)) (pa_cons (pe_tup (pa_cons pe_str (pa_cons (pe_tup (pa_cons (pe_dget hu (pv 1) pe_str (fun _ _ => rfl)) (pa_cons pe_int pa_nil))) pa_nil))) pa_nil)))
      (pss_cons (ps_for PassesOwn.never rfl (pi_range1 (by rfl) m_range (pa_cons (pe_op op_add pe_int (C8.pe_c c__law_taken hr (by first | decide | exact Nat.le_refl _ | omega) (by rfl) (pa_cons (pv 0) (pa_cons pe_int pa_nil)))) pa_nil)) (pg_name (i := 4) sc__law_block.nd rfl (.inl rfl)) (pss_one (ps_expr (C8.pe_c c__law_straight hr (by first | decide | exact Nat.le_refl _ | omega) (by rfl) (pa_cons (pv 0) (pa_cons (pv 1) pa_nil))))))
      (pss_cons (ps_set (i := 5) sc__law_block.nd rfl (.inl rfl) (pe_ifExp (PW.pt (pw_and (pt_cmpR op_gt (pv 2) pe_int (nomark _)) (pw_and1 (pt_cmpR op_lt (pe_callB call_len_seq (by rfl) m_len PySem.boot_len (pa_cons (pe_dget hu (pv 1) pe_str (fun _ _ => rfl)) pa_nil)) pe_int (nomark _))))) (C8.pe_c c__law_taken hr (by first | decide | exact Nat.le_refl _ | omega) (by rfl) (pa_cons (pv 0) (pa_cons pe_int pa_nil))) pe_int))
      (Evl.pss_cut (ps_if (pt_cmpR op_eq (pv 5) pe_int (nomark _)) (pss_one (ps_expr (C8.pe_c c__law_choice hr (by first | decide | exact Nat.le_refl _ | omega) (by rfl) (pa_cons (pv 0) (pa_cons (pv 1) (pa_cons (pv 2) pa_nil)))))) pss_nil)
      (pss_one (ps_if (pt_cmpR op_eq (pv 5) pe_int (nomark _)) (pss_one (ps_expr (C8.pe_c c__law_round hr (by first | decide | exact Nat.le_refl _ | omega) (by rfl) (pa_cons (pv 0) (pa_cons (pv 1) (pa_cons (pv 2) pa_nil)))))) pss_nil))))))))), ?_⟩
    have rng : ∀ {σ : L2.St} {H' : Hp} {g' : Gh}, Gs K H' g' → σ[0]? = some (some (.ref g'.d)) → EvN (tOp (rI0 fun i j => .int (i + j)) (tC (.int 1)) (tCall (spNext K) [] C8.E0 (tCons (tVar 0) (tCons (tC (.int 3)) tNil)))) σ H' (fun v => ∃ z : Int, v = .int z ∧ 0 ≤ z ∧ z < ((4 : Nat) : Int)) := fun h e => en_opV (EvN.of ev_c) (fun _ _ => en_next h.dc (ev_var e) ev_c) (by
      rintro x y rfl ⟨z, rfl, z0, z1⟩
      exact ⟨_, ⟨_, rfl, by omega, by omega⟩, rv_I0⟩)
    have s1 : ∀ {g' : Gh} {σ : L2.St} {H' : Hp}, g'.s = g.s → σ[1]? = some (some (.ref g.s)) → Ev (tVar 1) σ H' (.ref g'.s) := fun e h => by rw [e]; exact ev_var h
    have s0 : ∀ {g' : Gh} {σ : L2.St}, g'.d = g.d → σ[0]? = some (some (.ref g.d)) → σ[0]? = some (some (.ref g'.d)) := fun e h => by rw [e]; exact h
    refine s_forRN2 (N := 4) (rng hG rfl) (by decide) (fun i σ' H' => ∃ g' y3 y4 y5, σ' = [some (.ref g.d), some (.ref g.s), some (.int (n : Int)), y3, y4, y5] ∧ Grow H H' g g' ∧ Gs K H' g' ∧ g'.R.length + 4 * (3 - i) ≤ max (g.R.length + 12) (cap n))
      (fun H1 e1 => ⟨g, none, none, none, rfl, .refl (.ex e1), hG.ex e1, by omega⟩) ?_ ?_
    · rintro i σ' H1 hi ⟨g1, y3, y4, y5, rfl, x1, hG1, l1⟩
      have cap118 : cap n ≤ 118 := by
        unfold cap
        split <;> omega
      have r1 : g1.R.length ≤ 122 := by omega
      refine q_line hG1 (s1 x1.p.s rfl) (fun _ _ => s1 x1.p.s rfl) fun H2 p2 hG2 => ?_
      refine q_beg hG2 (s1 x1.p.s rfl) (fun _ _ => s1 x1.p.s rfl) (by omega) fun pb H3 p3 hG3 => ?_
      have x3 : Grow H H3 g { g1 with R := g1.R ++ [(.begin_, pb)] } := x1.trans (grow_begin (p2.trans p3))
      have l3 : (g1.R ++ [(Rw.begin_, pb)]).length = g1.R.length + 1 := by rw [List.length_append] <;> rfl
      refine q_forRN2 (N := 4) (rng hG3 (s0 x3.p.d rfl)) (by decide) (fun j σ' H' => ∃ g' y4, σ' = [some (.ref g.d), some (.ref g.s), some (.int (n : Int)), some (.int (i : Int)), y4, y5] ∧ Grow H H' g g' ∧ Gs K H' g' ∧ g'.R.length ≤ g1.R.length + 1 + j)
        (fun H4 e4 => ⟨_, y4, rfl, x3.trans (.refl (.ex e4)), hG3.ex e4, Nat.le_of_eq l3⟩) ?_ ?_
      · rintro j σ' H4 hj ⟨g4, z4, rfl, x4, hG4, l4⟩
        have hb4 := hb.grow x4 (by omega)
        have al4 := hb4.al
        refine s_callA (ea_cons (ev_var rfl) (ea_cons (ev_var rfl) ea_nil)) fun H6 e6 => ?_
        have hG6 := hG4.ex e6
        refine ⟨g4, by rw [x4.p.d, x4.p.s] <;> rfl, hG6, hb4.ne, by omega, by omega, fun r p nx H7 h1 h2 h3 n1 n2 k7 hG7 => ?_⟩
        refine ⟨_, some (.int (j : Int)), rfl, x4.trans (grow_plain (.kp' ((Kp.of e6).trans k7) rfl rfl rfl rfl rfl rfl rfl rfl) h1 h2 h3 n1 n2), hG7, ?_⟩
        show (g4.R ++ [(r, p)]).length ≤ _
        rw [List.length_append]
        show g4.R.length + 1 ≤ _
        omega
      · rintro j σ' H4 hj ⟨g4, z4, rfl, x4, hG4, l4⟩
        have l5 : g4.R.length ≤ g1.R.length + 4 := by omega
        have hb4 := hb.grow x4 (by omega)
        obtain ⟨us, hr1, hr2⟩ := hG4.r
        have hus := hr2.len
        rw [List.length_map] at hus
        refine qn_asg (P := fun v => ∃ z : Int, v = .int z ∧ (z = 2 ∨ z = 3 → 0 < n ∧ g4.R.length < 60)) (en_if (et_and (et_test (ev_op (ev_var rfl) ev_c rv_I0)) fun _ => et_test (ev_op (ev_len (K := K) (ev_sd hG4 (s1 x4.p.s rfl) fun li => sd_R _ _ _ _ _ _) (sq_of hr1)) ev_c rv_I0)) (fun hc => ?_) (fun _ => ?_)) fun v H5 hv e5 => ?_
        · rw [Bool.and_eq_true, decide_eq_true_eq, decide_eq_true_eq] at hc
          exact (en_next (many := 4) hG4.dc (ev_var (s0 x4.p.d rfl)) ev_c).imp fun v ⟨z, hz, _⟩ => ⟨z, hz, fun _ => ⟨by omega, by omega⟩⟩
        · exact (EvN.of ev_c).imp fun v hv => ⟨0, hv, fun z => by omega⟩
        obtain ⟨z, rfl, hz⟩ := hv
        have hG5 := hG4.ex e5
        have x5 : Grow H H5 g g4 := x4.trans (.refl (.ex e5))
        refine q_cut (M := fun σ' H' => ∃ g', σ' = [some (.ref g.d), some (.ref g.s), some (.int (n : Int)), some (.int (i : Int)), z4, some (.int z)] ∧ Grow H H' g g' ∧ Gs K H' g' ∧ (g'.R.length ≤ g1.R.length + 4 ∨ (0 < n ∧ g'.R.length ≤ ccap n)) ∧ (z = 3 → 0 < n ∧ g'.R.length < 60)) ?_ ?_
        · refine s_when (et_test (ev_op (ev_var rfl) ev_c (rv_eq rfl))) (fun hb2 H6 e6 => ?_) (fun _ H6 e6 => ?_)
          · have hz2 : z = 2 := by
              have := of_decide_eq_true hb2
              injection this
            obtain ⟨h0n, h60⟩ := hz (.inl hz2)
            refine s_callA (ea_cons (ev_var rfl) (ea_cons (ev_var rfl) (ea_cons (ev_var rfl) ea_nil))) fun H9 e9 => ?_
            have e69 := e6.trans e9
            refine ⟨g4, by rw [x4.p.d, x4.p.s] <;> rfl, h0n, hG5.ex e69, hb4, h60, fun g2 H10 x10 l10 hG10 => ?_⟩
            exact ⟨g2, rfl, x5.trans (.trans (.refl (.ex e69)) x10), hG10, .inr ⟨h0n, l10⟩, fun z3 => by omega⟩
          · exact ⟨g4, rfl, x5.trans (.refl (.ex e6)), hG5.ex e6, .inl l5, fun z3 => hz (.inr z3)⟩
        · rintro σ' H6 ⟨g6, rfl, x6, hG6, l6, hz6⟩
          have fin : ∀ g7 H7, Grow H H7 g g7 → Gs K H7 g7 → (g7.R.length ≤ g1.R.length + 4 ∨ (0 < n ∧ g7.R.length ≤ ccap n)) → ∃ g' y3 y4 y5, [some (V.ref g.d), some (.ref g.s), some (.int (n : Int)), some (.int (i : Int)), z4, some (.int z)] = [some (.ref g.d), some (.ref g.s), some (.int (n : Int)), y3, y4, y5] ∧ Grow H H7 g g' ∧ Gs K H7 g' ∧ g'.R.length + 4 * (3 - (i + 1)) ≤ max (g.R.length + 12) (cap n) := fun g7 H7 x7 hG7 l7 => by
            refine ⟨g7, _, _, _, rfl, x7, hG7, ?_⟩
            rcases l7 with l7 | ⟨h0, l7⟩
            · omega
            · have := cap_ccap n h0
              omega
          refine s_when (et_test (ev_op (ev_var rfl) ev_c (rv_eq rfl))) (fun hb2 H7 e7 => ?_) (fun _ H7 e7 => ?_)
          · have hz3 : z = 3 := by
              have := of_decide_eq_true hb2
              injection this
            obtain ⟨h0n, h60⟩ := hz6 hz3
            refine s_callA (ea_cons (ev_var rfl) (ea_cons (ev_var rfl) (ea_cons (ev_var rfl) ea_nil))) fun H10 e10 => ?_
            have e710 := e7.trans e10
            refine ⟨g6, by rw [x6.p.d, x6.p.s] <;> rfl, h0n, hG6.ex e710, hb.grow x6 (by omega), h60, fun g2 H11 x11 l11 hG11 => ?_⟩
            exact fin g2 H11 (x6.trans (.trans (.refl (.ex e710)) x11)) hG11 (.inr ⟨h0n, l11⟩)
          · exact fin g6 H7 (x6.trans (.refl (.ex e7))) (hG6.ex e7) l6
    · rintro i σ' H1 hi ⟨g1, y3, y4, y5, rfl, x1, hG1, l1⟩
      exact q g1 H1 x1 (by omega) hG1
end
end Wt

set_option Elab.async false
set_option linter.all false
set_option maxRecDepth 100000
set_option maxHeartbeats 4000000
namespace Wt
open PySem PySem.Spec PyProof.Rows L2 SX Evl
open C8 (Def Cal cal0 fnScope_by fnScope)
/-! Ways apart, rounds. -/
section
variable {P : Program} {w : World} {K : PySem.W.Frag} {mg : Str → Option Value} {base : Heap}
section
variable {σ : L2.St} {H H' : Hp} {ta tb te t0 t1 t2 tv : TE} {tr : TA} {g : Gh} {D : Ends} {tz : TS} {E : XK} {R : PyData → Prop}
/-- rows.append(..), of a row of which something is true -/
theorem q_rowR {Pr : Rw → Prop} (hG : Gs K H g) (ha : Ev ta σ H (.ref g.s)) (h : EvR te σ H (fun d => ∃ r p, Pr r ∧ d = rpD (r, p))) (hc : ∀ r, Pr r → ∀ c ∈ reads r ++ writes r, 0 ≤ c ∧ c < (g.nx : Int)) (hl : g.R.length < 500)
    (k : ∀ r p H1, Pr r → Gp H H1 g { g with R := g.R ++ [(r, p)] } → Gs K H1 { g with R := g.R ++ [(r, p)] } → tz D σ H1) : tSeq (tDrop (tBM K "list" rAppend (tDGet ta (tC (.str (Str.ofString "rows")))) (tCons te tNil))) tz D σ H := by
  obtain ⟨us, hr1, hr2⟩ := hG.r
  have hus := hr2.len
  rw [List.length_map] at hus
  refine q_appR hr1 (ev_sd hG ha fun li => sd_R _ _ _ _ _ _) h (by omega) fun v H1 d hd e1 hv => ?_
  obtain ⟨r, p, hp, rfl⟩ := hd
  have hG1 := hG.ex e1
  have hr11 := e1 _ _ hr1
  exact k r p _ hp (.kp' ((Kp.of e1).trans (.upd (by simp) hr11)) rfl rfl rfl rfl rfl rfl rfl rfl) (hG1.putR (r := (r, p)) hr11 (TdAll.tx (Tx.of e1) _ _ hr2) hv (hc r hp) hl)
theorem s_rows2 {r1 r2 : Rw} (hG : Gs K H g) (ha : Ev ta σ H (.ref g.s)) (hb : Ev tb σ H (.ref g.s)) (h1 : EvR t1 σ H (fun d => ∃ p, d = rpD (r1, p))) (h2 : EvR t2 σ H (fun d => ∃ p, d = rpD (r2, p))) (hc : reads r1 ++ writes r1 ++ (reads r2 ++ writes r2) = []) (hl : g.R.length < 490)
    (k : ∀ p q pr H1, Gp H H1 g { g with rl := pr, R := g.R ++ [(r1, p), (r2, q)] } → Gs K H1 { g with rl := pr, R := g.R ++ [(r1, p), (r2, q)] } → D.nx σ H1) :
    sDPut ta (tC (.str (Str.ofString "rows"))) (tOp rCat (tDGet tb (tC (.str (Str.ofString "rows")))) (tLst (tCons t1 (tCons t2 tNil)))) D σ H := q_rows2 (D := D) (tz := tNext) hG ha hb h1 h2 hc hl k
theorem q_lays {L : List PyData → Nat → Prop} {Pr : Rw → Nat → Prop} (hG : Gs K H g) (h0 : Ev t0 σ H (.ref g.d)) (h1 : Ev t1 σ H (.ref g.s)) (hF : ∀ H1, Ex H H1 → EAF K tr σ H1 g L) (hl : ∀ ds nx, L ds nx → ds.length ≤ 100) (lr : g.R.length < 500) (la : g.A.length < 500)
    (hL : ∀ ds nx, L ds nx → g.nx ≤ nx → ∃ r, ds = rwDs r ∧ layR r = true ∧ (∀ c ∈ reads r ++ writes r, 0 ≤ c ∧ c < (nx : Int)) ∧ Pr r nx)
    (k : ∀ r p nx H2, Pr r nx → layR r = true → g.nx ≤ nx → nx ≤ g.nx + 1 → Kp [g.s, g.rl, g.ll] H H2 → Gs K H2 { g with R := g.R ++ [(r, p)], A := g.A ++ writes r, nx := nx } → tz D σ H2) :
    tSeq (tDrop (tCall (spLays K) [] E (tCons t0 (tCons t1 (tCons (tTup tr) tNil))))) tz D σ H := s_lays (D := { D with nx := tz D }) hG h0 h1 hF hl lr la hL k
/-- ahead = list(s["laid"]) -/
theorem q_ahead {i : Nat} (hG : Gs K H g) (ha : Ev ta σ H (.ref g.s)) (k : ∀ p H1, Ex H H1 → Ah H1 g p g.A → tz D (σ.set i (some (.ref p))) H1) : tSeq (tAsg (tCB (rListS K) (tCons (tDGet ta (tC (.str (Str.ofString "laid")))) tNil)) (gName i)) tz D σ H := by
  obtain ⟨li, hd⟩ := hG.dk
  obtain ⟨us, hr1, hr2⟩ := hG.r
  refine q_asgL (el_list (K := K) (ev_sd hG ha fun li => sd_L _ _ _ _ _ _) (sq_of hG.l)) fun p H1 hp e1 h1 => ?_
  exact k p H1 e1 ⟨h1, (ne_of_none hd hp).symm, (ne_of_none hr1 hp).symm, (ne_of_none hG.l hp).symm⟩
theorem q_par3 {i j l : Nat} {a b c : V} (h : EvA tr σ H [a, b, c]) (k : ∀ H1, Ex H H1 → tz D (((σ.set i (some a)).set j (some b)).set l (some c)) H1) : tSeq (tPar3 i j l tr) tz D σ H := h H (Ex.refl H) _ fun H1 e1 => ⟨_, _, _, rfl, k H1 e1⟩
end
theorem caps {n : Nat} (hn : n ≤ 1) : (n = 0 ∧ cap n = 0 ∧ ccap (n + 1) = 87) ∨ (n = 1 ∧ cap n = 95 ∧ ccap (n + 1) = 110) := by
  have : n = 0 ∨ n = 1 := by omega
  rcases this with rfl | rfl
  · exact .inl ⟨rfl, rfl, rfl⟩
  · exact .inr ⟨rfl, rfl, rfl⟩
theorem ok_choice (T : ModsL K mg) {k n : Nat} (hk : 4 ≤ k) (hn : n ≤ 1) (c__law_taken : Cal P w K mg base 1 "_law_taken" (spNext K) []) (c__law_operand : Cal P w K mg base 2 "_law_operand" (spOperand K) []) (c__law_place : Cal P w K mg base 2 "_law_place" (spPlace K) []) (c__law_block : Cal P w K mg base k "_law_block" (spBlock K n) [])
    {f : Addr} {fd : FuncData} (F : Def K mg "_law_choice" s__law_choice f fd) (b : Binds K fd ["_law_row", "_law_s", "_law_deep"] []) : Cal P w K mg base (k + 1) "_law_choice" (spNest K (n + 1)) [] := by
  refine cal0 F b .nil sc__law_choice (fun vs H Q E h => ?_) (fun cdv A outer s H vs Q E hr h => ?_)
  · obtain ⟨_, rfl, _⟩ := h
    rfl
  · obtain ⟨g, rfl, _, hG, hb, h60, q⟩ := h
    have m_list := T.m_list
    have hu := hu_of hr
    have hu64 := hr.units
    refine ⟨_, (pss_cons (ps_dput hu (pv 1) pe_str (pe_op op_add (pe_dget hu (pv 1) pe_str (fun _ _ => rfl)) pe_int) rfl)
      (pss_cons (ps_par (i := 3) (j := 4) rfl sc__law_choice.nd rfl rfl (by decide) (by rfl) (by rfl) (pa_cons (pe_op op_sub (pe_dget hu (pv 1) pe_str (fun _ _ => rfl)) pe_int) (pa_cons (pe_op op_sub (pe_dget hu (pv 1) pe_str (fun _ _ => rfl)) pe_int) pa_nil)) (by rfl))
      (pss_cons (ps_expr (pe_bm PySem.F.plainAttrs_list PySem.F.slot_list_append PySem.F.type_list_append mt_append (pe_dget hu (pv 1) pe_str (fun _ _ => rfl)) (pa_cons (pe_tup (pa_cons pe_str (pa_cons (C8.pe_c c__law_operand hr (by first | decide | exact Nat.le_refl _ | omega) (by rfl) (pa_cons (pv 0) (pa_cons (pv 1) pa_nil))) (pa_cons (pv 3) (pa_cons (C8.pe_c c__law_place hr (by first | decide | exact Nat.le_refl _ | omega) (by rfl) (pa_cons (pv 0) (pa_cons (pv 1) pa_nil))) pa_nil))))) pa_nil)))
      (pss_cons (ps_set (i := 5) sc__law_choice.nd rfl (.inl rfl) (pe_callTy call_list_of (by rfl) m_list Wt.bt_list (pa_cons (pe_dget hu (pv 1) pe_str (fun _ _ => rfl)) pa_nil)))
      (pss_cons (ps_expr (C8.pe_c c__law_block hr (by first | decide | exact Nat.le_refl _ | omega) (by rfl) (pa_cons (pv 0) (pa_cons (pv 1) (pa_cons (pe_op op_sub (pv 2) pe_int) pa_nil)))))
      (pss_cons (ps_dput hu (pv 1) pe_str (pe_callTy call_list_of (by rfl) m_list Wt.bt_list (pa_cons (pv 5) pa_nil)) rfl)
      (pss_cons (ps_dput hu (pv 1) pe_str (pe_op op_cat (pe_dget hu (pv 1) pe_str (fun _ _ => rfl)) (pe_lst (pa_cons (pe_tup (pa_cons pe_str (pa_cons (pv 4) (pa_cons (C8.pe_c c__law_place hr (by first | decide | exact Nat.le_refl _ | omega) (by rfl) (pa_cons (pv 0) (pa_cons (pv 1) pa_nil))) pa_nil)))) (pa_cons (pe_tup (pa_cons pe_str (pa_cons (pv 3) (pa_cons (C8.pe_c c__law_place hr (by first | decide | exact Nat.le_refl _ | omega) (by rfl) (pa_cons (pv 0) (pa_cons (pv 1) pa_nil))) pa_nil)))) pa_nil)))) rfl)
      (Evl.pss_cut (ps_if (pt_cmpR op_eq (C8.pe_c c__law_taken hr (by first | decide | exact Nat.le_refl _ | omega) (by rfl) (pa_cons (pv 0) (pa_cons pe_int pa_nil))) pe_int (nomark _)) (pss_one (ps_expr (C8.pe_c c__law_block hr (by first | decide | exact Nat.le_refl _ | omega) (by rfl) (pa_cons (pv 0) (pa_cons (pv 1) (pa_cons (pe_op op_sub (pv 2) pe_int) pa_nil)))))) pss_nil)
      (pss_cons (ps_dput hu (pv 1) pe_str (pe_callTy call_list_of (by rfl) m_list Wt.bt_list (pa_cons (pv 5) pa_nil)) rfl)
      (pss_one (ps_expr (pe_bm PySem.F.plainAttrs_list PySem.F.slot_list_append PySem.F.type_list_append mt_append (pe_dget hu (pv 1) pe_str (fun _ _ => rfl)) (pa_cons (pe_tup (pa_cons pe_str (pa_cons (pv 4) (pa_cons (C8.pe_c c__law_place hr (by first | decide | exact Nat.le_refl _ | omega) (by rfl) (pa_cons (pv 0) (pa_cons (pv 1) pa_nil))) pa_nil)))) pa_nil))))))))))))), ?_⟩
    have s1 : ∀ {g' : Gh} {σ : L2.St} {H' : Hp}, g'.s = g.s → σ[1]? = some (some (.ref g.s)) → Ev (tVar 1) σ H' (.ref g'.s) := fun e h => by rw [e]; exact ev_var h
    have s0 : ∀ {g' : Gh} {σ : L2.St} {H' : Hp}, g'.d = g.d → σ[0]? = some (some (.ref g.d)) → Ev (tVar 0) σ H' (.ref g'.d) := fun e h => by rw [e]; exact ev_var h
    have cp := caps hn
    have hal := hb.al
    refine q_labels hG (ev_var rfl) (ev_var rfl) fun H1 p1 hG1 => ?_
    refine q_par (a := .int (g.lb : Int)) (b := .int ((g.lb : Int) + 1)) (ea_cons (ev_is (ev_op (ev_sd hG1 (ev_var rfl) fun li => sd_B _ _ _ _ _ _) ev_c rv_I0) (congrArg V.int (by show ((g.lb + 2 : Nat) : Int) - 2 = _; omega))) (ea_cons (ev_is (ev_op (ev_sd hG1 (ev_var rfl) fun li => sd_B _ _ _ _ _ _) ev_c rv_I0) (congrArg V.int (by show ((g.lb + 2 : Nat) : Int) - 1 = _; omega))) ea_nil)) fun H2 e2 => ?_
    have hG2 := hG1.ex e2
    -- unless
    refine q_rowR (Pr := fun r => ∃ c ∈ g.A, r = .unless_ c (g.lb : Int)) hG2 (ev_var rfl) ((er_tup (ear_cons (er_of (ed_str ev_c)) (ear_cons (R := fun d => ∃ c, d = .int c ∧ c ∈ g.A) (er_N (en_operand hG2 hb.ne (ev_var rfl) (ev_var rfl)) ?_) (ear_cons (er_of (ed_int (ev_var rfl))) (ear_cons (er_place hG2 (ev_var rfl) (ev_var rfl)) ear_nil)))) ?_).imp ?_) ?_ (by show g.R.length < 500; omega) fun r pu H3 hr3 p3 hG3 => ?_
    · rintro v ⟨c, rfl, hc⟩
      exact ⟨_, ⟨c, rfl, hc⟩, fun _ => .int c⟩
    · rintro ds ⟨_, _, rfl, _, _, _, rfl, _, _, _, rfl, _, _, _, rfl, _, rfl⟩
      show 4 ≤ 100000
      decide
    · rintro d ⟨ds, ⟨_, _, rfl, rfl, _, _, rfl, ⟨c, rfl, hc⟩, _, _, rfl, rfl, _, _, rfl, ⟨pl, rfl⟩, rfl⟩, rfl⟩
      exact ⟨.unless_ c (g.lb : Int), pl, ⟨c, hc, rfl⟩, rfl⟩
    · rintro r ⟨c, hc, rfl⟩ x hx
      simp only [reads, writes, List.mem_append, List.mem_cons, List.not_mem_nil, or_false] at hx
      rw [hx]
      exact hG.ca c hc
    obtain ⟨cu, hcu, rfl⟩ := hr3
    have P3 : Gp H H3 g { g with lb := g.lb + 2, R := g.R ++ [(.unless_ cu (g.lb : Int), pu)] } := p1.trans (.trans (.ex e2) p3)
    have l3 : (g.R ++ [(Rw.unless_ cu (g.lb : Int), pu)]).length = g.R.length + 1 := by rw [List.length_append] <;> rfl
    -- ahead
    refine q_ahead hG3 (ev_var rfl) fun pa H4 e4 hA4 => ?_
    have hG4 := hG3.ex e4
    -- the first block
    refine q_callA (vs := [.ref g.d, .ref g.s, .int (n : Int)]) (ea_cons (ev_var rfl) (ea_cons (ev_var rfl) (ea_cons (ev_is (ev_op (ev_var rfl) ev_c rv_I0) (congrArg V.int (by show ((n + 1 : Nat) : Int) - 1 = _; omega))) ea_nil))) fun H5 e5 => ?_
    have hG5 := hG4.ex e5
    have hA5 := hA4.go (.ex e5)
    refine ⟨{ g with lb := g.lb + 2, R := g.R ++ [(.unless_ cu (g.lb : Int), pu)] }, rfl, hG5, ⟨hb.ne, by show (g.R ++ _).length ≤ 130; rw [l3]; omega, by show g.A.length ≤ (g.R ++ _).length + 10; rw [l3]; omega⟩, by show (g.R ++ _).length ≤ 110; rw [l3]; omega, fun g6 H6 x6 l6 hG6 => ?_⟩
    have l6' : g6.R.length ≤ max (g.R.length + 1 + 12) (cap n) := by
      have z : (g.R ++ [(Rw.unless_ cu (g.lb : Int), pu)]).length = g.R.length + 1 := l3
      exact z ▸ l6
    have hA6 := hA5.go x6.p
    have P6 : Gp H H6 g g6 := P3.trans (.trans (.ex (e4.trans e5)) x6.p)
    have n6 : g.nx ≤ g6.nx := x6.nx
    have up : ∀ {nx : Nat}, g.nx ≤ nx → ∀ c ∈ g.A, 0 ≤ c ∧ c < (nx : Int) := fun h c hc => ⟨(hG.ca c hc).1, by have := (hG.ca c hc).2; omega⟩
    refine q_laid (pa := pa) (A := g.A) hG6 (s1 P6.s rfl) (ev_var rfl) hA6 (up n6) hG.la fun p7 H7 p7' hG7 => ?_
    have P7 := P6.trans p7'
    have hA7 := hA6.go p7'
    refine q_rows2 (r1 := .go ((g.lb : Int) + 1)) (r2 := .label (g.lb : Int)) hG7 (s1 P6.s rfl) (s1 P6.s rfl) (er_row1 hG7 (s0 P6.d rfl) (s1 P6.s rfl) ev_c (ed_int (ev_var rfl)) rfl) (er_row1 hG7 (s0 P6.d rfl) (s1 P6.s rfl) ev_c (ed_int (ev_var rfl)) rfl) rfl (by show g6.R.length < 490; omega) fun pg pl p8 H8 p8' hG8 => ?_
    have P8 := P7.trans p8'
    have hA8 := hA7.go p8'
    have l8 : (g6.R ++ [(Rw.go ((g.lb : Int) + 1), pg), (Rw.label (g.lb : Int), pl)]).length = g6.R.length + 2 := by rw [List.length_append] <;> rfl
    have x6l := x6.len
    rw [show ({ g with lb := g.lb + 2, R := g.R ++ [(Rw.unless_ cu (g.lb : Int), pu)] } : Gh).R.length = g.R.length + 1 from l3] at x6l
    have x6n : g6.nx + (g.R.length + 1) ≤ g.nx + g6.R.length := by
      have := x6.nxl
      rw [show ({ g with lb := g.lb + 2, R := g.R ++ [(Rw.unless_ cu (g.lb : Int), pu)] } : Gh).R.length = g.R.length + 1 from l3] at this
      exact this
    obtain ⟨rp1, e1, b1⟩ := x6.rows
    -- the second block, or none
    refine q_cut (M := fun σ' H' => ∃ g9 rp2 B2, σ' = [some (.ref g.d), some (.ref g.s), some (.int ((n + 1 : Nat) : Int)), some (.int (g.lb : Int)), some (.int ((g.lb : Int) + 1)), some (.ref pa)] ∧ Gp H H' g g9 ∧ Gs K H' g9 ∧ Ah H' g9 pa g.A ∧ g9.R = g6.R ++ [(Rw.go ((g.lb : Int) + 1), pg), (Rw.label (g.lb : Int), pl)] ++ rp2 ∧ Blk g.A g6.lb (rp2.map Prod.fst) B2 g9.lb ∧
      g9.R.length ≤ max (g6.R.length + 14) (cap n) ∧ g6.nx ≤ g9.nx ∧ g9.nx + (g6.R.length + 2) ≤ g6.nx + g9.R.length) ?_ ?_
    · refine sn_if (B := fun _ => True) (etn_test (P := fun v => ∃ b : Bool, v = .bl b) (en_opV (en_next (many := 2) hG8.dc (s0 P6.d rfl) ev_c) (fun _ _ => EvN.of ev_c) ?_) fun v ⟨b, hb⟩ => ⟨b, hb, trivial⟩) (fun _ H9 e9 => ?_) (fun _ H9 e9 => ?_)
      · rintro x y ⟨z, rfl, _, _⟩ rfl
        exact ⟨_, ⟨_, rfl⟩, rv_eq rfl⟩
      · refine s_callA (vs := [.ref g6.d, .ref g6.s, .int (n : Int)]) (ea_cons (s0 P6.d rfl) (ea_cons (s1 P6.s rfl) (ea_cons (ev_is (ev_op (ev_var rfl) ev_c rv_I0) (congrArg V.int (by show ((n + 1 : Nat) : Int) - 1 = _; omega))) ea_nil))) fun H10 e10 => ?_
        have e90 := e9.trans e10
        refine ⟨{ g6 with ll := p7, A := g.A, rl := p8, R := g6.R ++ [(Rw.go ((g.lb : Int) + 1), pg), (Rw.label (g.lb : Int), pl)] }, rfl, hG8.ex e90, ⟨hb.ne, by show (g6.R ++ _).length ≤ 130; rw [l8]; omega, by show g.A.length ≤ (g6.R ++ _).length + 10; rw [l8]; omega⟩, by show (g6.R ++ _).length ≤ 110; rw [l8]; omega, fun g11 H11 x11 l11 hG11 => ?_⟩
        obtain ⟨rp2, er2, b2⟩ := x11.rows
        have l11' : g11.R.length ≤ max (g6.R.length + 2 + 12) (cap n) := by
          have z : (g6.R ++ [(Rw.go ((g.lb : Int) + 1), pg), (Rw.label (g.lb : Int), pl)]).length = g6.R.length + 2 := l8
          exact z ▸ l11
        have n11 : g11.nx + (g6.R.length + 2) ≤ g6.nx + g11.R.length := by
          have z : (g6.R ++ [(Rw.go ((g.lb : Int) + 1), pg), (Rw.label (g.lb : Int), pl)]).length = g6.R.length + 2 := l8
          exact z ▸ x11.nxl
        exact ⟨g11, rp2, g11.A, rfl, P8.trans (.trans (.ex e90) x11.p), hG11, (hA8.go (.ex e90)).go x11.p, er2, b2, by omega, x11.nx, n11⟩
      · refine ⟨_, [], g.A, rfl, P8.trans (.ex e9), hG8.ex e9, hA8.go (.ex e9), (List.append_nil _).symm, .nil _ _, ?_, Nat.le_refl _, ?_⟩
        · show (g6.R ++ _).length ≤ _
          rw [l8]
          omega
        · show g6.nx + (g6.R.length + 2) ≤ g6.nx + (g6.R ++ _).length
          rw [l8]
          omega
    · rintro σ' H9 ⟨g9, rp2, B2, rfl, P9, hG9, hA9, e9, b2, l9, n9, n9l⟩
      refine q_laid (pa := pa) (A := g.A) hG9 (s1 P9.s rfl) (ev_var rfl) hA9 (up (by omega)) hG.la fun p10 H10 p10' hG10 => ?_
      refine s_row (r := .label ((g.lb : Int) + 1)) hG10 (s1 P9.s rfl) (er_row1 hG10 (s0 P9.d rfl) (s1 P9.s rfl) ev_c (ed_int (ev_var rfl)) rfl) (fun c hc => by cases hc) (by show g9.R.length < 500; omega) fun pz H11 p11' hG11 => ?_
      have l10 : (g9.R ++ [(Rw.label ((g.lb : Int) + 1), pz)]).length = g9.R.length + 1 := by rw [List.length_append] <;> rfl
      have eR : g9.R ++ [(Rw.label ((g.lb : Int) + 1), pz)] = g.R ++ ([(Rw.unless_ cu (g.lb : Int), pu)] ++ rp1 ++ [(Rw.go ((g.lb : Int) + 1), pg), (Rw.label (g.lb : Int), pl)] ++ rp2 ++ [(Rw.label ((g.lb : Int) + 1), pz)]) := by
        rw [e9, e1]
        simp only [List.append_assoc]
      refine q _ H11 ⟨P9.trans (p10'.trans p11'), ⟨_, eR, ?_⟩, ?_, ?_, ?_, fun c hc => hc⟩ ?_ hG11
      · have B := Blk.choice2 (.nil g.A g.lb) hcu b1 b2
        rw [List.nil_append] at B
        show Blk g.A g.lb _ g.A g9.lb
        simp only [List.map_append, List.map_cons, List.map_nil]
        exact B
      · show g.nx ≤ g9.nx
        omega
      · show g9.nx + g.R.length ≤ g.nx + (g9.R ++ _).length
        rw [l10]
        omega
      · show g.A.length + g.R.length ≤ g.A.length + (g9.R ++ _).length
        rw [l10, e9]
        simp only [List.length_append, List.length_cons, List.length_nil]
        omega
      · show (g9.R ++ _).length ≤ _
        rw [l10]
        omega
theorem q_next2 {σ : L2.St} {H : Hp} {ta tv : TE} {tz : TS} {D : Ends} {g : Gh} (hG : Gs K H g) (ha : Ev ta σ H (.ref g.s)) (hv : Ev tv σ H (.int ((g.nx : Int) + 2))) (k : ∀ H1, Gp H H1 g { g with nx := g.nx + 2 } → Gs K H1 { g with nx := g.nx + 2 } → tz D σ H1) :
    tSeq (sDPut ta (tC (.str (Str.ofString "next"))) tv) tz D σ H := by
  refine q_sput hG ha hv (fun li => (sd_put _ _ _ _ _ _).2.2.2.1 _) fun l2 H1 e1 hd1 => ?_
  have hG2 := hG.putS (li := l2) (lb := g.lb) (nx := g.nx + 2) e1 (by omega)
  rw [show ((g.nx + 2 : Nat) : Int) = (g.nx : Int) + 2 by omega] at hG2
  exact k _ (.kp' ((Kp.of e1).trans (.upd (by simp) hd1)) rfl rfl rfl rfl rfl rfl rfl rfl) hG2
theorem grow_lay {g : Gh} {r : Rw} {p : Int × Int} : (g.R ++ [(r, p)]).length = g.R.length + 1 := by rw [List.length_append] <;> rfl
theorem ok_round (T : ModsL K mg) {k n : Nat} (hk : 4 ≤ k) (hn : n ≤ 1) (c__law_taken : Cal P w K mg base 1 "_law_taken" (spNext K) []) (c__law_lays : Cal P w K mg base 3 "_law_lays" (spLays K) []) (c__law_place : Cal P w K mg base 2 "_law_place" (spPlace K) []) (c__law_block : Cal P w K mg base k "_law_block" (spBlock K n) [])
    {f : Addr} {fd : FuncData} (F : Def K mg "_law_round" s__law_round f fd) (b : Binds K fd ["_law_row", "_law_s", "_law_deep"] []) : Cal P w K mg base (k + 1) "_law_round" (spNest K (n + 1)) [] := by
  refine cal0 F b .nil sc__law_round (fun vs H Q E h => ?_) (fun cdv A outer s H vs Q E hr h => ?_)
  · obtain ⟨_, rfl, _⟩ := h
    rfl
  · obtain ⟨g, rfl, _, hG, hb, h60, q⟩ := h
    have m_list := T.m_list
    have hu := hu_of hr
    have hu64 := hr.units
    refine ⟨_, (pss_cons (ps_dput hu (pv 1) pe_str (pe_op op_add (pe_dget hu (pv 1) pe_str (fun _ _ => rfl)) pe_int) rfl)
      (pss_cons (ps_par3 (i := 3) (j := 4) (l := 5) rfl sc__law_round.nd rfl rfl rfl (by decide) (by decide) (by decide) (by rfl) (by rfl) (by rfl) (pa_cons (pe_op op_sub (pe_dget hu (pv 1) pe_str (fun _ _ => rfl)) pe_int) (pa_cons (pe_op op_sub (pe_dget hu (pv 1) pe_str (fun _ _ => rfl)) pe_int) (pa_cons (pe_dget hu (pv 1) pe_str (fun _ _ => rfl)) pa_nil))) (by rfl))
      (pss_cons (ps_dput hu (pv 1) pe_str (pe_op op_add (pv 5) pe_int) rfl)
      (pss_cons (ps_expr (C8.pe_c c__law_lays hr (by first | decide | exact Nat.le_refl _ | omega) (by rfl) (pa_cons (pv 0) (pa_cons (pv 1) (pa_cons (pe_tup (pa_cons pe_str (pa_cons (pv 5) (pa_cons (C8.pe_c c__law_taken hr (by first | decide | exact Nat.le_refl _ | omega) (by rfl) (pa_cons (pv 0) (pa_cons pe_int pa_nil))) pa_nil)))) pa_nil)))))
      (pss_cons (ps_expr (C8.pe_c c__law_lays hr (by first | decide | exact Nat.le_refl _ | omega) (by rfl) (pa_cons (pv 0) (pa_cons (pv 1) (pa_cons (pe_tup (pa_cons pe_str (pa_cons (pe_op op_add (pv 5) pe_int) (pa_cons pe_int pa_nil)))) pa_nil)))))
      (pss_cons (ps_expr (pe_bm PySem.F.plainAttrs_list PySem.F.slot_list_append PySem.F.type_list_append mt_append (pe_dget hu (pv 1) pe_str (fun _ _ => rfl)) (pa_cons (pe_tup (pa_cons pe_str (pa_cons (pv 3) (pa_cons (C8.pe_c c__law_place hr (by first | decide | exact Nat.le_refl _ | omega) (by rfl) (pa_cons (pv 0) (pa_cons (pv 1) pa_nil))) pa_nil)))) pa_nil)))
      (pss_cons (ps_dput hu (pv 1) pe_str (pe_op op_add (pe_dget hu (pv 1) pe_str (fun _ _ => rfl)) pe_int) rfl)
      (pss_cons (ps_expr (pe_bm PySem.F.plainAttrs_list PySem.F.slot_list_append PySem.F.type_list_append mt_append (pe_dget hu (pv 1) pe_str (fun _ _ => rfl)) (pa_cons (pe_tup (pa_cons pe_str (pa_cons (pe_tup (pa_cons (pe_dget hu (pv 1) pe_str (fun _ _ => rfl)) (pa_cons pe_int pa_nil))) pa_nil))) pa_nil)))
      (pss_cons (ps_expr (pe_bm PySem.F.plainAttrs_list PySem.F.slot_list_append PySem.F.type_list_append mt_append (pe_dget hu (pv 1) pe_str (fun _ _ => rfl)) (pa_cons (pe_tup (pa_cons pe_str (pa_cons (pv 5) (pa_cons (pv 4) (pa_cons (C8.pe_c c__law_place hr (by first | decide | exact Nat.le_refl _ | omega) (by rfl) (pa_cons (pv 0) (pa_cons (pv 1) pa_nil))) pa_nil))))) pa_nil)))
      (pss_cons (ps_set (i := 6) sc__law_round.nd rfl (.inl rfl) (pe_callTy call_list_of (by rfl) m_list Wt.bt_list (pa_cons (pe_dget hu (pv 1) pe_str (fun _ _ => rfl)) pa_nil)))
      (pss_cons (ps_expr (C8.pe_c c__law_block hr (by first | decide | exact Nat.le_refl _ | omega) (by rfl) (pa_cons (pv 0) (pa_cons (pv 1) (pa_cons (pe_op op_sub (pv 2) pe_int) pa_nil)))))
      (pss_cons (ps_dput hu (pv 1) pe_str (pe_callTy call_list_of (by rfl) m_list Wt.bt_list (pa_cons (pv 6) pa_nil)) rfl)
      (pss_cons (ps_expr (pe_bm PySem.F.plainAttrs_list PySem.F.slot_list_append PySem.F.type_list_append mt_append (pe_dget hu (pv 1) pe_str (fun _ _ => rfl)) (pa_cons (pe_tup (pa_cons pe_str (pa_cons (pv 5) (pa_cons (pv 5) (pa_cons (pe_op op_add (pv 5) pe_int) (pa_cons (C8.pe_c c__law_place hr (by first | decide | exact Nat.le_refl _ | omega) (by rfl) (pa_cons (pv 0) (pa_cons (pv 1) pa_nil))) pa_nil)))))) pa_nil)))
      (pss_one (ps_dput hu (pv 1) pe_str (pe_op op_cat (pe_dget hu (pv 1) pe_str (fun _ _ => rfl)) (pe_lst (pa_cons (pe_tup (pa_cons pe_str (pa_cons (pv 3) (pa_cons (C8.pe_c c__law_place hr (by first | decide | exact Nat.le_refl _ | omega) (by rfl) (pa_cons (pv 0) (pa_cons (pv 1) pa_nil))) pa_nil)))) (pa_cons (pe_tup (pa_cons pe_str (pa_cons (pv 4) (pa_cons (C8.pe_c c__law_place hr (by first | decide | exact Nat.le_refl _ | omega) (by rfl) (pa_cons (pv 0) (pa_cons (pv 1) pa_nil))) pa_nil)))) pa_nil)))) rfl))))))))))))))), ?_⟩
    have s1 : ∀ {g' : Gh} {σ : L2.St} {H' : Hp}, g'.s = g.s → σ[1]? = some (some (.ref g.s)) → Ev (tVar 1) σ H' (.ref g'.s) := fun e h => by rw [e]; exact ev_var h
    have s0 : ∀ {g' : Gh} {σ : L2.St} {H' : Hp}, g'.d = g.d → σ[0]? = some (some (.ref g.d)) → Ev (tVar 0) σ H' (.ref g'.d) := fun e h => by rw [e]; exact ev_var h
    have cp := caps hn
    have hal := hb.al
    refine q_labels hG (ev_var rfl) (ev_var rfl) fun H1 p1 hG1 => ?_
    refine q_par3 (a := .int (g.lb : Int)) (b := .int ((g.lb : Int) + 1)) (c := .int (g.nx : Int)) (ea_cons (ev_is (ev_op (ev_sd hG1 (ev_var rfl) fun li => sd_B _ _ _ _ _ _) ev_c rv_I0) (congrArg V.int (by show ((g.lb + 2 : Nat) : Int) - 2 = _; omega))) (ea_cons (ev_is (ev_op (ev_sd hG1 (ev_var rfl) fun li => sd_B _ _ _ _ _ _) ev_c rv_I0) (congrArg V.int (by show ((g.lb + 2 : Nat) : Int) - 1 = _; omega))) (ea_cons (ev_sd hG1 (ev_var rfl) fun li => sd_X _ _ _ _ _ _) ea_nil))) fun H2 e2 => ?_
    have hG2 := hG1.ex e2
    -- next
    refine q_next2 hG2 (ev_var rfl) (ev_op (ev_var rfl) ev_c rv_I0) fun H4 p4 hG4 => ?_
    have P4 : Gp H H4 g { g with lb := g.lb + 2, nx := g.nx + 2 } := p1.trans (.trans (.ex e2) p4)
    -- put count, put count + 1
    refine q_lays (L := fun ds nx => nx = g.nx + 2 ∧ ∃ x : Int, x.natAbs ≤ 1000000 ∧ ds = [.str (Str.ofString "put"), .int (g.nx : Int), .int x]) (Pr := fun r nx => nx = g.nx + 2 ∧ ∃ x : Int, x.natAbs ≤ 1000000 ∧ r = .put (g.nx : Int) x) hG4 (ev_var rfl) (ev_var rfl) (fun H5 e5 => ?_) ?_ (by show g.R.length < 500; omega) (by show g.A.length < 500; omega) ?_ fun r pa nx5 H5 hr5 _ n5 n5' k5 hG5 => ?_
    · intro Q5 q5
      refine eaf_of (hG4.ex e5) (ear_cons (er_of (ed_str ev_c)) (ear_cons (er_of (ed_int (ev_var rfl))) (ear_cons (R := fun d => ∃ x : Int, x.natAbs ≤ 1000000 ∧ d = .int x) (er_N (en_next (many := 4) (hG4.ex e5).dc (ev_var rfl) ev_c) ?_) ear_nil))) Q5 fun vs H2 ds nx hl n1 n2 k hG2 hvs => q5 vs H2 ds nx ?_ n1 n2 k hG2 hvs
      · rintro v ⟨z, rfl, z0, z1⟩
        exact ⟨_, ⟨z, by omega, rfl⟩, fun _ => .int z⟩
      · obtain ⟨h1, _, _, rfl, rfl, _, _, rfl, rfl, _, _, rfl, ⟨x, hx, rfl⟩, rfl⟩ := hl
        exact ⟨h1, x, hx, rfl⟩
    · rintro ds nx ⟨_, x, _, rfl⟩
      show 3 ≤ 100
      decide
    · rintro ds nx ⟨rfl, x, hx, rfl⟩ _
      refine ⟨.put (g.nx : Int) x, rfl, rfl, fun c hc => ?_, rfl, x, hx, rfl⟩
      simp only [reads, writes, List.mem_append, List.mem_cons, List.not_mem_nil, or_false, false_or] at hc
      omega
    obtain ⟨rfl, x, hxb, rfl⟩ := hr5
    have P5 : Gp H H5 g { g with lb := g.lb + 2, nx := g.nx + 2, R := g.R ++ [(.put (g.nx : Int) x, pa)], A := g.A ++ [(g.nx : Int)] } := P4.trans (.kp' k5 rfl rfl rfl rfl rfl rfl rfl rfl)
    refine q_lays (L := fun ds nx => nx = g.nx + 2 ∧ ds = [.str (Str.ofString "put"), .int ((g.nx : Int) + 1), .int 1]) (Pr := fun r nx => nx = g.nx + 2 ∧ r = .put ((g.nx : Int) + 1) 1) hG5 (ev_var rfl) (ev_var rfl) (fun H6 e6 => ?_) ?_ (by show (g.R ++ _).length < 500; rw [grow_lay]; omega) (by show (g.A ++ [_]).length < 500; rw [List.length_append]; show g.A.length + 1 < 500; omega) ?_ fun r pb nx6 H6 hr6 _ n6 n6' k6 hG6 => ?_
    · intro Q5 q5
      refine eaf_of (hG5.ex e6) (ear_cons (er_of (ed_str ev_c)) (ear_cons (er_of (ed_int (ev_op (ev_var rfl) ev_c rv_I0))) (ear_cons (er_of (ed_int ev_c)) ear_nil))) Q5 fun vs H2 ds nx hl n1 n2 k hG2 hvs => q5 vs H2 ds nx ?_ n1 n2 k hG2 hvs
      obtain ⟨h1, _, _, rfl, rfl, _, _, rfl, rfl, _, _, rfl, rfl, rfl⟩ := hl
      exact ⟨h1, rfl⟩
    · rintro ds nx ⟨_, rfl⟩
      show 3 ≤ 100
      decide
    · rintro ds nx ⟨rfl, rfl⟩ _
      refine ⟨.put ((g.nx : Int) + 1) 1, rfl, rfl, fun c hc => ?_, rfl, rfl⟩
      simp only [reads, writes, List.mem_append, List.mem_cons, List.not_mem_nil, or_false, false_or] at hc
      omega
    obtain ⟨rfl, rfl⟩ := hr6
    have P6 : Gp H H6 g { g with lb := g.lb + 2, nx := g.nx + 2, R := g.R ++ [(Rw.put (g.nx : Int) x, pa)] ++ [(Rw.put ((g.nx : Int) + 1) 1, pb)], A := g.A ++ [(g.nx : Int)] ++ [(g.nx : Int) + 1] } := P5.trans (.kp' k6 rfl rfl rfl rfl rfl rfl rfl rfl)
    -- the state then, told anew
    have eA6 : g.A ++ [(g.nx : Int)] ++ [(g.nx : Int) + 1] = g.A ++ [(g.nx : Int), (g.nx : Int) + 1] := by rw [List.append_assoc] <;> rfl
    have eR6 : g.R ++ [(Rw.put (g.nx : Int) x, pa)] ++ [(Rw.put ((g.nx : Int) + 1) 1, pb)] = g.R ++ [(Rw.put (g.nx : Int) x, pa), (Rw.put ((g.nx : Int) + 1) 1, pb)] := by rw [List.append_assoc] <;> rfl
    have hG6' : Gs K H6 { g with lb := g.lb + 2, nx := g.nx + 2, R := g.R ++ [(Rw.put (g.nx : Int) x, pa), (Rw.put ((g.nx : Int) + 1) 1, pb)], A := g.A ++ [(g.nx : Int), (g.nx : Int) + 1] } := by
      rw [← eA6, ← eR6]
      exact hG6
    have P6' : Gp H H6 g { g with lb := g.lb + 2, nx := g.nx + 2, R := g.R ++ [(Rw.put (g.nx : Int) x, pa), (Rw.put ((g.nx : Int) + 1) 1, pb)], A := g.A ++ [(g.nx : Int), (g.nx : Int) + 1] } := by
      rw [← eA6, ← eR6]
      exact P6
    obtain ⟨g6, e6⟩ : ∃ g6 : Gh, g6 = { g with lb := g.lb + 2, nx := g.nx + 2, R := g.R ++ [(Rw.put (g.nx : Int) x, pa), (Rw.put ((g.nx : Int) + 1) 1, pb)], A := g.A ++ [(g.nx : Int), (g.nx : Int) + 1] } := ⟨_, rfl⟩
    rw [← e6] at hG6' P6'
    have g6R : g6.R = g.R ++ [(Rw.put (g.nx : Int) x, pa), (Rw.put ((g.nx : Int) + 1) 1, pb)] := by rw [e6]
    have g6A : g6.A = g.A ++ [(g.nx : Int), (g.nx : Int) + 1] := by rw [e6]
    have g6l : g6.lb = g.lb + 2 := by rw [e6]
    have g6n : g6.nx = g.nx + 2 := by rw [e6]
    have l6 : g6.R.length = g.R.length + 2 := by rw [g6R, List.length_append] <;> rfl
    have la6 : g6.A.length = g.A.length + 2 := by rw [g6A, List.length_append] <;> rfl
    clear hG6 P6 hG5 P5 k5 k6 hG4 P4 hG2 hG1 eA6 eR6
    refine q_row (r := .label (g.lb : Int)) hG6' (s1 P6'.s rfl) (er_row1 hG6' (s0 P6'.d rfl) (s1 P6'.s rfl) ev_c (ed_int (ev_var rfl)) rfl) (fun c hc => by cases hc) (by omega) fun p7 H7 x7 hG7 => ?_
    have P7 := P6'.trans x7
    refine q_line hG7 (s1 P6'.s rfl) (fun _ _ => s1 P6'.s rfl) fun H8 x8 hG8 => ?_
    have P8 := P7.trans x8
    refine q_beg hG8 (s1 P6'.s rfl) (fun _ _ => s1 P6'.s rfl) (by show (g6.R ++ _).length < 500; rw [grow_lay]; omega) fun p9 H9 x9 hG9 => ?_
    have P9 := P8.trans x9
    refine q_row (r := .unless_ (g.nx : Int) ((g.lb : Int) + 1)) hG9 (s1 P6'.s rfl) (er_row2 hG9 (s0 P6'.d rfl) (s1 P6'.s rfl) ev_c (ed_int (ev_var rfl)) (ed_int (ev_var rfl)) rfl) (fun c hc => ?_) (by show (g6.R ++ _ ++ _).length < 500; rw [List.length_append, grow_lay]; show g6.R.length + 1 + 1 < 500; omega) fun p10 H10 x10 hG10 => ?_
    · simp only [reads, writes, List.mem_append, List.mem_cons, List.not_mem_nil, or_false] at hc
      show 0 ≤ c ∧ c < (g6.nx : Int)
      rw [g6n, hc]
      omega
    have P10 := P9.trans x10
    have eR10 : g6.R ++ [(Rw.label (g.lb : Int), p7)] ++ [(Rw.begin_, p9)] ++ [(Rw.unless_ (g.nx : Int) ((g.lb : Int) + 1), p10)] = g6.R ++ [(Rw.label (g.lb : Int), p7), (Rw.begin_, p9), (Rw.unless_ (g.nx : Int) ((g.lb : Int) + 1), p10)] := by simp only [List.append_assoc, List.cons_append, List.nil_append]
    have hG10' : Gs K H10 { g6 with R := g6.R ++ [(Rw.label (g.lb : Int), p7), (Rw.begin_, p9), (Rw.unless_ (g.nx : Int) ((g.lb : Int) + 1), p10)] } := by
      rw [← eR10]
      exact hG10
    have P10' : Gp H H10 g { g6 with R := g6.R ++ [(Rw.label (g.lb : Int), p7), (Rw.begin_, p9), (Rw.unless_ (g.nx : Int) ((g.lb : Int) + 1), p10)] } := by
      rw [← eR10]
      exact P10
    obtain ⟨ga, ea⟩ : ∃ ga : Gh, ga = { g6 with R := g6.R ++ [(Rw.label (g.lb : Int), p7), (Rw.begin_, p9), (Rw.unless_ (g.nx : Int) ((g.lb : Int) + 1), p10)] } := ⟨_, rfl⟩
    rw [← ea] at hG10' P10'
    have gaR : ga.R = g6.R ++ [(Rw.label (g.lb : Int), p7), (Rw.begin_, p9), (Rw.unless_ (g.nx : Int) ((g.lb : Int) + 1), p10)] := by rw [ea]
    have gaA : ga.A = g.A ++ [(g.nx : Int), (g.nx : Int) + 1] := by rw [ea]; exact g6A
    have gal : ga.lb = g.lb + 2 := by rw [ea]; exact g6l
    have gan : ga.nx = g.nx + 2 := by rw [ea]; exact g6n
    have lga : ga.R.length = g.R.length + 5 := by rw [gaR, List.length_append, l6] <;> rfl
    have laa : ga.A.length = g.A.length + 2 := by rw [gaA, List.length_append] <;> rfl
    clear hG10 P10 hG9 P9 hG8 P8 hG7 P7 x7 x8 x9 x10 eR10
    -- ahead
    refine q_ahead hG10' (s1 P10'.s rfl) fun ph H11 e11 hA11 => ?_
    have hG11 := hG10'.ex e11
    -- the block
    refine q_callA (vs := [.ref ga.d, .ref ga.s, .int (n : Int)]) (ea_cons (s0 P10'.d rfl) (ea_cons (s1 P10'.s rfl) (ea_cons (ev_is (ev_op (ev_var rfl) ev_c rv_I0) (congrArg V.int (by show ((n + 1 : Nat) : Int) - 1 = _; omega))) ea_nil))) fun H12 e12 => ?_
    have hG12 := hG11.ex e12
    have hA12 := hA11.go (.ex e12)
    refine ⟨ga, rfl, hG12, ⟨fun z => ?_, by omega, by omega⟩, by omega, fun g13 H13 x13 l13 hG13 => ?_⟩
    · rw [z] at laa
      cases laa
    have hA13 := hA12.go x13.p
    have P13 : Gp H H13 g g13 := P10'.trans (.trans (.ex (e11.trans e12)) x13.p)
    have n13 : g.nx + 2 ≤ g13.nx := by
      have := x13.nx
      omega
    have x13l := x13.len
    have x13n := x13.nxl
    obtain ⟨rp1, e1, b1⟩ := x13.rows
    have up : ∀ c ∈ ga.A, 0 ≤ c ∧ c < (g13.nx : Int) := fun c hc => ⟨(hG10'.ca c hc).1, by have := (hG10'.ca c hc).2; have := x13.nx; omega⟩
    refine q_laid (pa := ph) (A := ga.A) hG13 (s1 P13.s rfl) (ev_var rfl) hA13 up hG10'.la fun p14 H14 x14 hG14 => ?_
    have P14 := P13.trans x14
    refine q_row (r := .op .take (g.nx : Int) (g.nx : Int) ((g.nx : Int) + 1)) hG14 (s1 P13.s rfl) (er_row3 hG14 (s0 P13.d rfl) (s1 P13.s rfl) ev_c (ed_int (ev_var rfl)) (ed_int (ev_var rfl)) (ed_int (ev_op (ev_var rfl) ev_c rv_I0)) rfl) (fun c hc => ?_) (by show g13.R.length < 500; omega) fun p15 H15 x15 hG15 => ?_
    · simp only [reads, writes, List.mem_append, List.mem_cons, List.not_mem_nil, or_false] at hc
      show 0 ≤ c ∧ c < (g13.nx : Int)
      omega
    have P15 := P14.trans x15
    have l15 : (g13.R ++ [(Rw.op .take (g.nx : Int) (g.nx : Int) ((g.nx : Int) + 1), p15)]).length = g13.R.length + 1 := by rw [List.length_append] <;> rfl
    refine s_rows2 (r1 := .go (g.lb : Int)) (r2 := .label ((g.lb : Int) + 1)) hG15 (s1 P13.s rfl) (s1 P13.s rfl) (er_row1 hG15 (s0 P13.d rfl) (s1 P13.s rfl) ev_c (ed_int (ev_var rfl)) rfl) (er_row1 hG15 (s0 P13.d rfl) (s1 P13.s rfl) ev_c (ed_int (ev_var rfl)) rfl) rfl (by show (g13.R ++ _).length < 490; rw [l15]; omega) fun p16 p17 pr H16 x16 hG16 => ?_
    have eR : g13.R ++ [(Rw.op .take (g.nx : Int) (g.nx : Int) ((g.nx : Int) + 1), p15)] ++ [(Rw.go (g.lb : Int), p16), (Rw.label ((g.lb : Int) + 1), p17)] = g.R ++ ([(Rw.put (g.nx : Int) x, pa), (Rw.put ((g.nx : Int) + 1) 1, pb), (Rw.label (g.lb : Int), p7), (Rw.begin_, p9), (Rw.unless_ (g.nx : Int) ((g.lb : Int) + 1), p10)] ++ rp1 ++ [(Rw.op .take (g.nx : Int) (g.nx : Int) ((g.nx : Int) + 1), p15), (Rw.go (g.lb : Int), p16), (Rw.label ((g.lb : Int) + 1), p17)]) := by
      rw [e1, gaR, g6R]
      simp only [List.append_assoc, List.cons_append, List.nil_append]
    have l16 : (g13.R ++ [(Rw.op .take (g.nx : Int) (g.nx : Int) ((g.nx : Int) + 1), p15)] ++ [(Rw.go (g.lb : Int), p16), (Rw.label ((g.lb : Int) + 1), p17)]).length = g13.R.length + 3 := by
      rw [List.length_append, l15] <;> rfl
    refine q _ H16 ⟨P15.trans x16, ⟨_, eR, ?_⟩, ?_, ?_, ?_, fun c hc => ?_⟩ ?_ hG16
    · have B := Blk.round (x := x) (c := (g.nx : Int)) (.nil g.A g.lb) hxb (by rw [← gaA, ← gal]; exact b1)
      rw [List.nil_append] at B
      show Blk g.A g.lb _ ga.A g13.lb
      rw [gaA]
      simp only [List.map_append, List.map_cons, List.map_nil]
      exact B
    · show g.nx ≤ g13.nx
      omega
    · show g13.nx + g.R.length ≤ g.nx + (g13.R ++ _ ++ _).length
      rw [l16]
      omega
    · show ga.A.length + g.R.length ≤ g.A.length + (g13.R ++ _ ++ _).length
      rw [l16]
      omega
    · show c ∈ ga.A
      rw [gaA]
      exact List.mem_append_left _ hc
    · show (g13.R ++ _ ++ _).length ≤ _
      rw [l16]
      omega
end
end Wt

set_option Elab.async false
set_option linter.all false
set_option maxRecDepth 100000
set_option maxHeartbeats 4000000
namespace Wt
open PySem PySem.Spec PyProof.Rows L2 SX Evl
open C8 (Def Cal cal0 fnScope_by fnScope)
/-! A whole def of rows. -/
/-- what is told of a def -/
structure One where
  kinds : List Bool
  kind : Str
  rows : List Rp
  many : Nat
def letter (k : Nat) : Str := S [97 + k]
def nameD (parts k : Nat) : PyData := .tuple [.str (letter k), .str (Str.ofString "num"), .int ((parts + k : Nat) : Int), .int 1, .int 90]
def oneDs (o : One) : List PyData := [.str (Str.ofString "da"), .tuple (o.kinds.map fun b => .str (kindS b)), .str o.kind, .bool true, .tuple (o.rows.map rpD), .tuple ((List.range o.many).map (nameD o.kinds.length))]
def oneD (o : One) : PyData := .tuple (oneDs o)
def nats (n : Nat) : List Int := (List.range n).map fun i : Nat => (i : Int)
def lastOk (A : List Int) : Rw → Prop
  | .nothing => True
  | .give none => True
  | .give (some c) => c ∈ A
  | _ => False
structure OneOk (o : One) : Prop where
  parts : o.kinds.length ≤ 3
  many : 1 ≤ o.many ∧ o.many ≤ 3
  rows : ∃ body A lb last, o.rows.map Prod.fst = body ++ [last] ∧ Blk (nats o.kinds.length) 0 body A lb ∧ lastOk A last
  few : o.rows.length ≤ 130
  cells : ∀ r ∈ o.rows, ∀ c ∈ reads r.1 ++ writes r.1, 0 ≤ c ∧ c < 130
section
variable {P : Program} {w : World} {K : PySem.W.Frag} {mg : Str → Option Value} {base : Heap}
section
variable {σ : L2.St} {H H' : Hp} {ta tb te t0 t1 t2 tv : TE} {tr : TA} {g : Gh} {D : Ends} {tz : TS} {E : XK} {R : PyData → Prop}
theorem q_tup2 {i j : Nat} {L : List V → Prop} (h : EAN (tCons t1 (tCons t2 tNil)) σ H L) (k : ∀ vs H1, L vs → Ex H H1 → ∃ v w, vs = [v, w] ∧ tz D ((σ.set i (some v)).set j (some w)) H1) :
    tSeq (tAsg (tTup (tCons t1 (tCons t2 tNil))) (gTup K 2 (gCons (gName i) (gCons (gName j) gNil)))) tz D σ H := by
  show (tCons t1 (tCons t2 tNil)) σ H (fun xs H1 => xs.length ≤ sizeLine ∧ ∀ p, H1 p = none → gTup K 2 (gCons (gName i) (gCons (gName j) gNil)) (.ref p) σ (upd H1 p (.tup xs)) (fun σ' H' => tz D σ' H'))
  refine h H (Ex.refl H) _ fun vs H1 l e1 => ?_
  refine ⟨?_, fun c hc => ?_⟩
  · obtain ⟨v, w, rfl, _⟩ := k vs H1 l e1
    show 2 ≤ sizeLine
    decide
  · obtain ⟨v, w, rfl, q⟩ := k vs (upd H1 c (.tup vs)) l (e1.trans (Ex.new hc))
    exact ⟨c, [v, w], rfl, st_of upd_same, rfl, v, [w], rfl, w, [], rfl, rfl, q⟩
theorem edl_lcRn {j : Nat} {vs : List Nat} {n : Nat} {f : Nat → PyData} (h : Ev ta σ H (.int (n : Int))) (hN : n ≤ 10000) (hw : ∀ x, wipe ((wipe σ vs).set j (some x)) vs = wipe σ vs)
    (he : ∀ (i : Nat) H1, Ex H H1 → i < n → EvD te ((wipe σ vs).set j (some (.int (i : Int)))) H1 (f i)) : EvDL (tLc (iRng1 (tCons ta tNil)) (gName j) tYes te vs) σ H ((List.range n).map f) := fun H0 e Q q =>
  h H0 e _ fun H1 e1 => by
    refine ⟨(n : Int), rfl, by omega, by omega, fun Dl hD => ?_⟩
    refine lc_range (lo := 0) (n := (n : Int).toNat) (fun i H2 => ∃ xs, Ex H1 H2 ∧ H2 Dl = some (.lst xs) ∧ TdAll H2 xs ((List.range i).map f)) ⟨[], Ex.new hD, upd_same, .nil⟩ ?_ ?_
    · rintro i H2 hi ⟨xs, e2, h2, hT⟩
      have hl := hT.len
      rw [List.length_map, List.length_range] at hl
      have e0 : (0 : Int) + (i : Int) = (i : Int) := Int.zero_add _
      show wipe ((wipe σ vs).set j (some (.int ((0 : Int) + (i : Int))))) vs = wipe σ vs ∧ tYes ((wipe σ vs).set j (some (.int ((0 : Int) + (i : Int))))) H2 _
      rw [e0]
      refine ⟨hw _, ?_⟩
      show te ((wipe σ vs).set j (some (.int (i : Int)))) H2 _
      refine he i H2 ((e.trans e1).trans e2) (by omega) H2 (Ex.refl H2) _ fun y H3 e3 hy => ⟨xs, e3 Dl _ h2, sz_lt (by omega), xs ++ [y], Ex.mut (e2.trans e3) hD, upd_same, ?_⟩
      have tx : Tx H3 (upd H3 Dl (.lst (xs ++ [y]))) := Tx.lst (e3 _ _ h2)
      rw [List.range_succ, List.map_append]
      exact (TdAll.tx ((Tx.of e3).trans tx) _ _ hT).snoc (Td.tx tx _ _ hy)
    · rintro H2 ⟨xs, e2, h2, hT⟩
      rw [Int.toNat_natCast] at hT
      exact q Dl H2 xs (fresh_back e1 hD) (e1.trans e2) h2 hT
theorem er_ifN {t : TT} {B : Bool → Prop} (h : EvTN t σ H B) (h1 : B true → EvR ta σ H R) (h2 : B false → EvR tb σ H R) : EvR (tIf t ta tb) σ H R := fun H1 e Q q => h H1 e _ fun b H2 pb e2 => by
  cases b with
  | true =>
    show ta σ H2 Q
    exact h1 pb H2 (e.trans e2) Q fun v H3 d r e3 => q v H3 d r (e2.trans e3)
  | false =>
    show tb σ H2 Q
    exact h2 pb H2 (e.trans e2) Q fun v H3 d r e3 => q v H3 d r (e2.trans e3)
theorem etn_and {t u : TT} {a : Bool} {B : Bool → Prop} (h : EvT t σ H a) (h2 : a = true → EvTN u σ H B) : EvTN (tAnd t u) σ H (fun b => (b = true → a = true) ∧ (a = true → B b)) := fun H1 e Q q => h H1 e _ fun H2 e2 => by
  cases a with
  | true =>
    show u σ H2 _
    exact h2 rfl H2 (e.trans e2) _ fun b H3 pb e3 => q b H3 ⟨fun _ => rfl, fun _ => pb⟩ (e2.trans e3)
  | false =>
    show Q false H2
    exact q false H2 ⟨fun z => (by cases z), fun z => (by cases z)⟩ e2
theorem ed_tupleOfL {l : Addr} {vs : List V} {ds : List PyData} (h : Ev te σ H (.ref l)) (hl : H l = some (.lst vs)) (hT : TdAll H vs ds) : EvD (tCB (fun xs H Q => ∃ p ys, xs = [.ref p] ∧ ((SqL K H p ys ∧ ∀ l, H l = none → Q (.ref l) (upd H l (.tup ys))) ∨ (SqT K H p ys ∧ Q (.ref p) H))) (tCons te tNil)) σ H (.tuple ds) := fun H1 e Q q =>
  h H1 e _ fun H2 e2 => ⟨l, vs, rfl, .inl ⟨sq_of ((e.trans e2) _ _ hl), fun c hc => q _ _ (e2.trans (Ex.new hc)) (.tup upd_same (TdAll.tx (Tx.of ((e.trans e2).trans (Ex.new hc))) _ _ hT))⟩⟩
theorem rgV_nat (a b : Nat) : rgV (a : Int) (b : Int) = ((List.range (b - a)).map fun i : Nat => ((a + i : Nat) : Int)).map V.int := by
  unfold rgV
  rw [List.map_map]
  have : ((b : Int) - (a : Int)).toNat = b - a := by omega
  rw [this]
  refine List.map_congr_left fun i _ => ?_
  show V.int ((a : Int) + (i : Int)) = V.int ((a + i : Nat) : Int)
  exact congrArg V.int (by omega)
theorem sd5_made (rl ll : Addr) (nx : Int) : mergeK [] [(qR, V.ref rl), (qI, .int 1), (qB, .int 0), (qX, .int nx), (qL, .ref ll)] = [(qR, V.ref rl), (qI, .int 1), (qB, .int 0), (qX, .int nx), (qL, .ref ll)] := by
  obtain ⟨h1, h2, h3, h4, h5, h6, h7, h8, h9, h10, h11, h12, h13, h14, h15⟩ := q_ne
  unfold mergeK
  simp only [List.foldl_cons, List.foldl_nil, putK, List.any_nil, List.any_cons, Bool.or_false, Bool.false_eq_true, if_false, List.nil_append, decide_eq_true_eq, h1, h2, h3, h4, h6, h7, h8, h10, h11, h13, List.cons_append, Bool.or_self, decide_false]
theorem sd6_put (rl ll nl : Addr) (nx : Int) : putK [(qR, V.ref rl), (qI, .int 1), (qB, .int 0), (qX, .int nx), (qL, .ref ll)] qN (.ref nl) = sd rl 1 0 nx ll nl := by
  obtain ⟨h1, h2, h3, h4, h5, h6, h7, h8, h9, h10, h11, h12, h13, h14, h15⟩ := q_ne
  unfold sd putK
  simp only [List.any_cons, List.any_nil, Bool.or_false, decide_eq_true_eq, h5, h9, h12, h14, h15, decide_false, Bool.or_self, Bool.false_eq_true, if_false, List.cons_append, List.nil_append]
/-- the state made anew -/
theorem q_newS {i ip im : Nat} {parts many : Nat} (h1 : ∀ H', Ev t1 σ H' (.int (parts : Int))) (h2 : ∀ H', Ev t2 σ H' (.int (many : Int))) (hp : parts ≤ 1000)
    (k : ∀ p rl ll H1, H p = none → H rl = none → H ll = none → rl ≠ ll → p ≠ rl → p ≠ ll → Ex H H1 → H1 p = some (.dK [(qR, V.ref rl), (qI, .int 1), (qB, .int 0), (qX, .int ((parts : Int) + (many : Int))), (qL, .ref ll)]) → H1 rl = some (.lst []) → H1 ll = some (.lst ((nats parts).map .int)) → tz D (σ.set i (some (.ref p))) H1) :
    tSeq (tAsg (tDisp [(tC (.str (Str.ofString "rows")), tLst tNil), (tC (.str (Str.ofString "line")), tC (.int 1)), (tC (.str (Str.ofString "labels")), tC (.int 0)), (tC (.str (Str.ofString "next")), tOp (rI0 fun i j => .int (i + j)) t1 t2), (tC (.str (Str.ofString "laid")), tLstRg (tRg1 t1))]) (gName i)) tz D σ H := by
  intro p hp0
  have e1 := Ex.new (o := HO.dK []) hp0
  refine ⟨Nat.zero_le _, fun rl hrl => ?_⟩
  have e2 := Ex.new (o := HO.lst []) hrl
  have hrl0 : H rl = none := fresh_back e1 hrl
  have npr : p ≠ rl := ne_of_none upd_same hrl
  refine ev_op (h1 _) (h2 _) rv_I0 _ (Ex.refl _) _ fun H3 e3 => ?_
  refine h1 _ _ (Ex.refl _) _ fun H4 e4 => ⟨_, rfl, RgOk.of_le (by omega) (by omega) (by omega) (by omega), fun ll hll => ?_⟩
  have e14 := (e1.trans e2).trans (e3.trans e4)
  have hll0 : H ll = none := fresh_back e14 hll
  have hp4 := (e2.trans (e3.trans e4)) p _ upd_same
  have hr4 := (e3.trans e4) rl _ upd_same
  have npl : p ≠ ll := ne_of_none hp4 hll
  have nrl : rl ≠ ll := ne_of_none hr4 hll
  have e5 := Ex.new (o := HO.lst (rgV 0 (parts : Int))) hll
  refine ⟨e5 _ _ hp4, [(qR, V.ref rl), (qI, .int 1), (qB, .int 0), (qX, .int ((parts : Int) + (many : Int))), (qL, .ref ll)], rfl, by show 5 ≤ 15; decide, ?_⟩
  rw [sd5_made]
  refine k p rl ll _ hp0 hrl0 hll0 nrl npr npl (Ex.mut (e14.trans e5) hp0) upd_same (by rw [upd_ne npr.symm]; exact e5 _ _ hr4) ?_
  rw [upd_ne npl.symm, upd_same]
  have := rgV_nat 0 parts
  rw [show ((0 : Nat) : Int) = 0 from rfl] at this
  rw [this]
  unfold nats
  simp only [Nat.zero_add, Nat.sub_zero]
/-- s["named"] = list(range(a, b)) -/
theorem q_named {p rl ll : Addr} {parts many : Nat} {nx : Int} (ha : ∀ H', Ev ta σ H' (.ref p)) (h1 : ∀ H', Ev t1 σ H' (.int (parts : Int))) (h2 : ∀ H', Ev t2 σ H' (.int ((parts : Int) + (many : Int)))) (hp : parts ≤ 1000) (hm : many ≤ 1000) (hd : H p = some (.dK [(qR, V.ref rl), (qI, .int 1), (qB, .int 0), (qX, .int nx), (qL, .ref ll)]))
    (k : ∀ nl H1, H nl = none → Ex H H1 → H1 nl = some (.lst (((List.range many).map fun i : Nat => ((parts + i : Nat) : Int)).map .int)) → tz D σ (upd H1 p (.dK (sd rl 1 0 nx ll nl)))) :
    tSeq (sDPut ta (tC (.str (Str.ofString "named"))) (tLstRg (tRg2 t1 t2))) tz D σ H := by
  refine h1 _ _ (Ex.refl _) _ fun H2 e2 => h2 _ _ (Ex.refl _) _ fun H3 e3 => ⟨_, _, rfl, rfl, RgOk.of_le (by omega) (by omega) (by omega) (by omega), fun nl hnl => ?_⟩
  have e4 := Ex.new (o := HO.lst (rgV (parts : Int) ((parts : Int) + (many : Int)))) hnl
  have e14 := (e2.trans e3).trans e4
  refine ha _ _ (Ex.refl _) _ fun H5 e5 => ⟨p, _, rfl, DPut.k (k := (Sum.inr (Str.ofString "named") : Key)) ((e14.trans e5) _ _ hd) (by show 5 < sizeLine; decide), ?_⟩
  have ep : putK [(qR, V.ref rl), (qI, .int 1), (qB, .int 0), (qX, .int nx), (qL, .ref ll)] (Sum.inr (Str.ofString "named") : Key) (.ref nl) = sd rl 1 0 nx ll nl := sd6_put rl ll nl nx
  rw [ep]
  refine k nl H5 (fresh_back (e2.trans e3) hnl) (e14.trans e5) ?_
  rw [e5 _ _ upd_same]
  have := rgV_nat parts (parts + many)
  rw [show ((parts + many : Nat) : Int) = (parts : Int) + (many : Int) by omega] at this
  rw [this, show parts + many - parts = many by omega]
end
theorem Ean.imp2 {σ : L2.St} {H : Hp} {tr : TA} {L L2 : List V → Prop} (h : EAN tr σ H L) (i : ∀ vs, L vs → L2 vs) : EAN tr σ H L2 := fun H1 e Q q => h H1 e Q fun vs H2 l => q vs H2 (i vs l)
/-! ### _law_made -/
abbrev s__law_made : Stmt := topS 19
theorem sc__law_made : FnScope ["_law_row", "_law_deep", "_law_parts", "_law_many", "_law_s", "_law_cell", "_law_kind", "_law_last", "_law_kinds", "_law_names", "_law_k"] ["_law_row", "_law_deep"] (fnScope s__law_made) := fnScope_by (by decide +kernel)
def spMade (K : PySem.W.Frag) : Sp := fun vs H Q _ => ∃ (d a : Addr) (ns : List Int), vs = [.ref d, .int 2] ∧ Dc K H d a ns ∧ ∀ v H2 o, Ex H H2 → Td H2 v (oneD o) → OneOk o → Q v H2
theorem ok_made (T : ModsL K mg) {k : Nat} (hk : 4 ≤ k) (c__law_taken : Cal P w K mg base 1 "_law_taken" (spNext K) []) (c__law_operand : Cal P w K mg base 2 "_law_operand" (spOperand K) []) (c__law_lays : Cal P w K mg base 3 "_law_lays" (spLays K) []) (c__law_place : Cal P w K mg base 2 "_law_place" (spPlace K) []) (c__law_block : Cal P w K mg base k "_law_block" (spBlock K 2) [])
    {f : Addr} {fd : FuncData} (F : Def K mg "_law_made" s__law_made f fd) (b : Binds K fd ["_law_row", "_law_deep"] []) : Cal P w K mg base (k + 1) "_law_made" (spMade K) [] := by
  refine cal0 F b .nil sc__law_made (fun vs H Q E h => ?_) (fun cdv A outer s H vs Q E hr h => ?_)
  · obtain ⟨_, _, _, rfl, _⟩ := h
    rfl
  · obtain ⟨d, a, ns, rfl, hD, q⟩ := h
    have m_list := T.m_list
    have m_range := T.m_range
    have m_tuple := T.m_tuple
    have hu := hu_of hr
    have hu64 := hr.units
    refine ⟨_, (pss_cons (ps_asg (pe_tup (pa_cons (C8.pe_c c__law_taken hr (by first | decide | exact Nat.le_refl _ | omega) (by rfl) (pa_cons (pv 0) (pa_cons pe_int pa_nil))) (pa_cons (pe_op op_add pe_int (C8.pe_c c__law_taken hr (by first | decide | exact Nat.le_refl _ | omega) (by rfl) (pa_cons (pv 0) (pa_cons pe_int pa_nil)))) pa_nil))) (pg_tup rfl (pgs_cons (pg_name (i := 2) sc__law_made.nd rfl (.inr rfl)) (pgs_cons (pg_name (i := 3) sc__law_made.nd rfl (.inl rfl)) pgs_nil))))
      (pss_cons (ps_set (i := 4) sc__law_made.nd rfl (.inl rfl) (pe_disp (pps_cons pe_str (pe_lst pa_nil) (pps_cons pe_str pe_int (pps_cons pe_str pe_int (pps_cons pe_str (pe_op op_add (pv 2) (pv 3)) (pps_cons pe_str (pe_listRg rfl (by rfl) m_list (prg_1 (by rfl) m_range (pv 2))) pps_nil))))) (by rfl) (by rfl) (by simp) (by decide)))
      (pss_cons (ps_dput hu (pv 4) pe_str (pe_listRg rfl (by rfl) m_list (prg_2 (by rfl) m_range (pv 2) (pe_op op_add (pv 2) (pv 3)))) rfl)
      (pss_cons (ps_expr (pe_bm PySem.F.plainAttrs_list PySem.F.slot_list_append PySem.F.type_list_append mt_append (pe_dget hu (pv 4) pe_str (fun _ _ => rfl)) (pa_cons (pe_tup (pa_cons pe_str (pa_cons (pe_tup (pa_cons pe_int (pa_cons pe_int pa_nil))) pa_nil))) pa_nil)))
      (pss_cons (ps_for PassesOwn.never rfl (pi_list (pe_dget hu (pv 4) pe_str (fun _ _ => rfl))) (pg_name (i := 5) sc__law_made.nd rfl (.inl rfl)) (pss_one (ps_expr (C8.pe_c c__law_lays hr (by first | decide | exact Nat.le_refl _ | omega) (by rfl) (pa_cons (pv 0) (pa_cons (pv 4) (pa_cons (pe_tup (pa_cons pe_str (pa_cons (pv 5) (pa_cons (C8.pe_c c__law_taken hr (by first | decide | exact Nat.le_refl _ | omega) (by rfl) (pa_cons (pv 0) (pa_cons pe_int pa_nil))) pa_nil)))) pa_nil)))))))
      (pss_cons (ps_expr (C8.pe_c c__law_block hr (by first | decide | exact Nat.le_refl _ | omega) (by rfl) (pa_cons (pv 0) (pa_cons (pv 4) (pa_cons (pv 1) pa_nil)))))
      (pss_cons (ps_set (i := 6) sc__law_made.nd rfl (.inl rfl) (pe_ix ix_list (pe_lst (pa_cons pe_str (pa_cons pe_str (pa_cons pe_str pa_nil)))) (C8.pe_c c__law_taken hr (by first | decide | exact Nat.le_refl _ | omega) (by rfl) (pa_cons (pv 0) (pa_cons pe_int pa_nil))) (fun _ _ => rfl)))
      (pss_cons (ps_set (i := 7) sc__law_made.nd rfl (.inl rfl) (pe_ifExp (PW.pt (pw_and (pt_cmpR op_ne (pv 6) pe_str (nomark _)) (pw_and1 (pt_cmpR op_eq (C8.pe_c c__law_taken hr (by first | decide | exact Nat.le_refl _ | omega) (by rfl) (pa_cons (pv 0) (pa_cons pe_int pa_nil))) pe_int (nomark _))))) (pe_tup (pa_cons pe_str pa_nil)) (pe_tup (pa_cons pe_str (pa_cons pe_non pa_nil)))))
      (pss_cons (ps_set (i := 7) sc__law_made.nd rfl (.inl rfl) (pe_ifExp (PW.pt (pw_and (pt_cmpR op_ne (pv 6) pe_str (nomark _)) (pw_and1 (pt_cmpR op_eq (pe_ix ix_tup (pv 7) pe_int (fun _ _ => rfl)) pe_str (nomark _))))) (pe_tup (pa_cons pe_str (pa_cons (C8.pe_c c__law_operand hr (by first | decide | exact Nat.le_refl _ | omega) (by rfl) (pa_cons (pv 0) (pa_cons (pv 4) pa_nil))) pa_nil))) (pv 7)))
      (pss_cons (ps_expr (pe_bm PySem.F.plainAttrs_list PySem.F.slot_list_append PySem.F.type_list_append mt_append (pe_dget hu (pv 4) pe_str (fun _ _ => rfl)) (pa_cons (pe_op op_catA (pv 7) (pe_tup (pa_cons (C8.pe_c c__law_place hr (by first | decide | exact Nat.le_refl _ | omega) (by rfl) (pa_cons (pv 0) (pa_cons (pv 4) pa_nil))) pa_nil))) pa_nil)))
      (pss_cons (ps_set (i := 8) sc__law_made.nd rfl (.inl rfl) (pe_callTy call_tuple_of (by rfl) m_tuple Wt.bt_tuple (pa_cons (pe_lc (own := [("_law_k", 10)]) (g := (gName 10)) (tt := tYes) rfl sc__law_made.nd (pi_range1 (by rfl) m_range (pa_cons (pv 2) pa_nil)) (blkOk_by (N := ["_law_row", "_law_deep", "_law_parts", "_law_many", "_law_s", "_law_cell", "_law_kind", "_law_last", "_law_kinds", "_law_names", "_law_k"]) (sc := C8.fnScope s__law_made) (by decide +kernel)) (fun _ _ _ _ _ => pg_name (i := 10) sc__law_made.nd rfl (Or.inl rfl)) (fun _ _ _ _ _ => pts_nil) (fun _ _ _ _ _ => (pe_ix (show IxR _ (rIxL K) from ix_list) (pe_lst (pa_cons pe_str (pa_cons pe_str pa_nil))) (C8.pe_c c__law_taken hr (by first | decide | exact Nat.le_refl _ | omega) (by rfl) (pa_cons (pv 0) (pa_cons pe_int pa_nil))) (fun _ _ => rfl)))) pa_nil)))
      (pss_cons (ps_setLc (i := 9) (own := [("_law_k", 10)]) (g := (gName 10)) (tt := tYes) rfl sc__law_made.nd rfl rfl (sw_true rfl rfl rfl (by decide +kernel)) (pi_range1 (by rfl) m_range (pa_cons (pv 3) pa_nil)) (blkOk_by (N := ["_law_row", "_law_deep", "_law_parts", "_law_many", "_law_s", "_law_cell", "_law_kind", "_law_last", "_law_kinds", "_law_names", "_law_k"]) (sc := C8.fnScope s__law_made) (by decide +kernel)) (fun _ _ _ _ _ => pg_name (i := 10) sc__law_made.nd rfl (Or.inl rfl)) (fun _ _ _ _ _ => pts_nil) (fun _ _ _ _ _ => (pe_tup (pa_cons (pe_ix ix_str pe_str (pv 10) (fun _ _ => rfl)) (pa_cons pe_str (pa_cons (pe_op op_add (pv 2) (pv 10)) (pa_cons pe_int (pa_cons pe_int pa_nil))))))))
      (pss_one (ps_ret (pe_tup (pa_cons pe_str (pa_cons (pv 8) (pa_cons (pv 6) (pa_cons pe_bl (pa_cons (pe_callTy call_tuple_of (by rfl) m_tuple Wt.bt_tuple (pa_cons (pe_dget hu (pv 4) pe_str (fun _ _ => rfl)) pa_nil)) (pa_cons (pe_callTy call_tuple_of (by rfl) m_tuple Wt.bt_tuple (pa_cons (pv 9) pa_nil)) pa_nil))))))))))))))))))))), ?_⟩
    refine q_tup2 (K := K) (L := fun vs => ∃ p m : Nat, vs = [.int (p : Int), .int (m : Int)] ∧ p ≤ 3 ∧ 1 ≤ m ∧ m ≤ 3) (Ean.imp2 (ean_cons (en_next hD (ev_var rfl) ev_c) (ean_cons (P := fun v => ∃ z : Int, v = .int (1 + z) ∧ 0 ≤ z ∧ z < 3) (en_opV (EvN.of ev_c) (fun _ _ => en_next (many := 3) hD (ev_var rfl) ev_c) ?_) ean_nil)) ?_) fun vs H1 hvs e1 => ?_
    · rintro x y rfl ⟨z, rfl, z0, z1⟩
      exact ⟨_, ⟨z, rfl, z0, z1⟩, rv_I0⟩
    · rintro vs ⟨_, _, rfl, ⟨z, rfl, z0, z1⟩, _, _, rfl, ⟨y, rfl, y0, y1⟩, rfl⟩
      exact ⟨z.toNat, (1 + y).toNat, by rw [show ((z.toNat : Nat) : Int) = z by omega, show (((1 + y).toNat : Nat) : Int) = 1 + y by omega], by omega, by omega, by omega⟩
    obtain ⟨parts, many, rfl, hp3, hm1, hm3⟩ := hvs
    refine ⟨_, _, rfl, ?_⟩
    have hD1 := hD.ex e1
    refine q_newS (ip := 0) (im := 0) (parts := parts) (many := many) (fun _ => ev_var rfl) (fun _ => ev_var rfl) (by omega) fun s rl ll H2 hs0 hrl0 hll0 nrl nsr nsl e2 hs2 hrl2 hll2 => ?_
    have hD2 := hD1.ex e2
    refine q_named (p := s) (rl := rl) (ll := ll) (parts := parts) (many := many) (fun _ => ev_var rfl) (fun _ => ev_var rfl) (fun _ => ev_op (ev_var rfl) (ev_var rfl) rv_I0) (by omega) (by omega) hs2 fun nl H3 hnl0 e3 hnl3 => ?_
    have hs3 := e3 _ _ hs2
    have hrl3 := e3 _ _ hrl2
    have hll3 := e3 _ _ hll2
    have nns : nl ≠ s := (ne_of_none hs2 hnl0).symm
    have nnr : nl ≠ rl := (ne_of_none hrl2 hnl0).symm
    have nnl : nl ≠ ll := (ne_of_none hll2 hnl0).symm
    have e4 : Ex H (upd H3 s (.dK (sd rl 1 0 ((parts : Int) + (many : Int)) ll nl))) := Ex.mut ((e1.trans e2).trans e3) (fresh_back e1 hs0)
    have e4' : Kp [s, rl, ll] H3 (upd H3 s (.dK (sd rl 1 0 ((parts : Int) + (many : Int)) ll nl))) := .upd (by simp) hs3
    have hcells : ∀ c ∈ nats parts, 0 ≤ c ∧ c < ((parts + many : Nat) : Int) := fun c hc => by
      obtain ⟨i, hi, rfl⟩ := List.mem_map.mp hc
      have := List.mem_range.mp hi
      omega
    have hcellsM : ∀ c ∈ (List.range many).map (fun i : Nat => ((parts + i : Nat) : Int)), 0 ≤ c ∧ c < ((parts + many : Nat) : Int) := fun c hc => by
      obtain ⟨i, hi, rfl⟩ := List.mem_map.mp hc
      have := List.mem_range.mp hi
      omega
    have lnats : (nats parts).length = parts := by unfold nats; rw [List.length_map, List.length_range]
    have hG4 : Gs K (upd H3 s (.dK (sd rl 1 0 ((parts : Int) + (many : Int)) ll nl))) ⟨d, a, s, rl, ll, nl, ns, [], 0, parts + many, nats parts, (List.range many).map fun i : Nat => ((parts + i : Nat) : Int)⟩ := by
      refine ⟨hD.ex e4, ⟨1, ?_⟩, ⟨[], by show (upd H3 s _) rl = _; rw [upd_ne nsr.symm]; exact hrl3, .nil⟩, by show (upd H3 s _) ll = _; rw [upd_ne nsl.symm]; exact hll3, by show (upd H3 s _) nl = _; rw [upd_ne nns]; exact hnl3, nrl, nnr.symm, nnl.symm, hcells, hcellsM, (fun r hr => by cases hr), by show (nats parts).length ≤ 500; omega, by show (List.map _ _).length ≤ 500; rw [List.length_map, List.length_range]; omega, Nat.zero_le _⟩
      show (upd H3 s _) s = _
      rw [upd_same, show ((parts + many : Nat) : Int) = (parts : Int) + (many : Int) by omega] <;> rfl
    have n4 : H s = none ∧ H rl = none ∧ H ll = none := ⟨fresh_back e1 hs0, fresh_back e1 hrl0, fresh_back e1 hll0⟩
    generalize upd H3 s (.dK (sd rl 1 0 ((parts : Int) + (many : Int)) ll nl)) = H4 at e4 e4' hG4 ⊢
    obtain ⟨g0, eg0⟩ : ∃ g0 : Gh, g0 = ⟨d, a, s, rl, ll, nl, ns, [], 0, parts + many, nats parts, (List.range many).map fun i : Nat => ((parts + i : Nat) : Int)⟩ := ⟨_, rfl⟩
    rw [← eg0] at hG4
    have gd : g0.d = d := by rw [eg0]
    have gs : g0.s = s := by rw [eg0]
    have gR : g0.R = [] := by rw [eg0]
    have gA : g0.A = nats parts := by rw [eg0]
    have glb : g0.lb = 0 := by rw [eg0]
    have gnx : g0.nx = parts + many := by rw [eg0]
    have gM : g0.M = (List.range many).map fun i : Nat => ((parts + i : Nat) : Int) := by rw [eg0]
    have grl : g0.rl = rl := by rw [eg0]
    have gll : g0.ll = ll := by rw [eg0]
    have gnl : g0.nl = nl := by rw [eg0]
    have s1 : ∀ {g' : Gh} {σ : L2.St} {H' : Hp}, g'.s = g0.s → σ[4]? = some (some (.ref s)) → Ev (tVar 4) σ H' (.ref g'.s) := fun e h => by rw [e, gs]; exact ev_var h
    have s0 : ∀ {g' : Gh} {σ : L2.St} {H' : Hp}, g'.d = g0.d → σ[0]? = some (some (.ref d)) → Ev (tVar 0) σ H' (.ref g'.d) := fun e h => by rw [e, gd]; exact ev_var h
    -- the first row
    refine q_row (r := .begin_) hG4 (s1 rfl rfl) ((er_tup (ear_cons (er_of (ed_str ev_c)) (ear_cons (er_of (ed_tup (ead_cons (ed_int ev_c) (ead_cons (ed_int ev_c) ead_nil)) (by show 2 ≤ 100000; decide))) ear_nil)) (by rintro ds ⟨_, _, rfl, _, _, _, rfl, _, rfl⟩; show 2 ≤ 100000; decide)).imp ?_) (fun c hc => by cases hc) (by rw [gR]; decide) fun p5 H5 x5 hG5 => ?_
    · rintro d ⟨ds, ⟨_, _, rfl, rfl, _, _, rfl, rfl, rfl⟩, rfl⟩
      exact ⟨(1, 3), rfl⟩
    have X5 : Grow H4 H5 g0 { g0 with R := g0.R ++ [(.begin_, p5)] } := grow_begin x5
    have l5 : ({ g0 with R := g0.R ++ [(Rw.begin_, p5)] } : Gh).R.length = 1 := by show (g0.R ++ [_]).length = 1; rw [gR] <;> rfl
    -- the named cells laid
    refine q_forLn (K := K) (xs := g0.M.map .int) (a := g0.nl) (ev_is (ev_sd hG5 (s1 rfl rfl) fun li => sd_N _ _ _ _ _ _) rfl) (sq_of hG5.n) (fun i σ' H' => ∃ g' y5, σ' = [some (.ref d), some (.int 2), some (.int (parts : Int)), some (.int (many : Int)), some (.ref s), y5, none, none, none, none, none] ∧ Grow H4 H' g0 g' ∧ Gs K H' g' ∧ g'.R.length = 1 + i ∧ i ≤ g'.A.length)
      (fun H6 e6 => ⟨_, none, rfl, X5.trans (.refl (.ex e6)), hG5.ex e6, l5, Nat.zero_le _⟩) (fun i σ' H' _ ⟨g', _, _, x, hG', _⟩ => ?_) ?_ ?_
    · have := hG'.n
      rw [x.p.nl, x.p.M] at this
      exact sq_of this
    · rintro i x σ' H6 hx ⟨g6, y5, rfl, x6, hG6, l6, la6⟩
      have hi : i < many := by
        have := (List.getElem?_eq_some_iff.mp hx).1
        rw [List.length_map, gM, List.length_map, List.length_range] at this
        exact this
      obtain ⟨c, rfl, hc⟩ : ∃ c, x = .int c ∧ c ∈ g0.M := by
        have := List.mem_of_getElem? hx
        obtain ⟨c, hc, rfl⟩ := List.mem_map.mp this
        exact ⟨c, rfl, hc⟩
      have hc6 : 0 ≤ c ∧ c < (g6.nx : Int) := by
        have := hG4.cm c hc
        have := x6.nx
        omega
      have al6 := x6.al
      rw [gR, gA, lnats] at al6
      refine s_lays (L := fun ds nx => nx = g6.nx ∧ ∃ x : Int, x.natAbs ≤ 1000000 ∧ ds = [.str (Str.ofString "put"), .int c, .int x]) (Pr := fun r nx => nx = g6.nx ∧ ∃ x : Int, x.natAbs ≤ 1000000 ∧ r = .put c x) hG6 (s0 x6.p.d rfl) (s1 x6.p.s rfl) (fun H7 e7 => ?_) ?_ (by omega) (by simp only [List.length_nil] at al6; omega) ?_ fun r pp nx7 H7 hr7 hl7 n7 n7' k7 hG7 => ?_
      · intro Q5 q5
        refine eaf_of (hG6.ex e7) (ear_cons (er_of (ed_str ev_c)) (ear_cons (er_of (ed_int (ev_var rfl))) (ear_cons (R := fun d => ∃ x : Int, x.natAbs ≤ 1000000 ∧ d = .int x) (er_N (en_next (many := 9) (hG6.ex e7).dc (s0 x6.p.d rfl) ev_c) ?_) ear_nil))) Q5 fun vs H2 ds nx hl n1 n2 k hG2 hvs => q5 vs H2 ds nx ?_ n1 n2 k hG2 hvs
        · rintro v ⟨z, rfl, z0, z1⟩
          exact ⟨_, ⟨z, by omega, rfl⟩, fun _ => .int z⟩
        · obtain ⟨h1, _, _, rfl, rfl, _, _, rfl, rfl, _, _, rfl, ⟨x, hx, rfl⟩, rfl⟩ := hl
          exact ⟨h1, x, hx, rfl⟩
      · rintro ds nx ⟨_, x, _, rfl⟩
        show 3 ≤ 100
        decide
      · rintro ds nx ⟨rfl, x, hx, rfl⟩ _
        refine ⟨.put c x, rfl, rfl, fun z hz => ?_, rfl, x, hx, rfl⟩
        simp only [reads, writes, List.mem_append, List.mem_cons, List.not_mem_nil, or_false, false_or] at hz
        rw [hz]
        exact hc6
      · obtain ⟨rfl, x, hxb, rfl⟩ := hr7
        refine ⟨_, _, rfl, x6.trans (grow_plain (r := .put c x) (.kp' k7 rfl rfl rfl rfl rfl rfl rfl rfl) rfl (decide_eq_true hxb) (fun z hz => by cases hz) (Nat.le_refl _) (by omega)), hG7, ?_, ?_⟩
        · show (g6.R ++ [_]).length = _
          rw [grow_lay]
          omega
        · show i + 1 ≤ (g6.A ++ [c]).length
          rw [List.length_append]
          show i + 1 ≤ g6.A.length + 1
          omega
    · rintro σ' H6 ⟨g6, y5, rfl, x6, hG6, l6, la6⟩
      rw [List.length_map, gM, List.length_map, List.length_range] at l6 la6
      have al6 := x6.al
      rw [gR, gA, lnats] at al6
      simp only [List.length_nil] at al6
      have ne6 : g6.A ≠ [] := fun z => by
        rw [z] at la6
        simp only [List.length_nil] at la6
        omega
      -- the block
      refine q_callA (vs := [.ref g6.d, .ref g6.s, .int 2]) (ea_cons (s0 x6.p.d rfl) (ea_cons (s1 x6.p.s rfl) (ea_cons (ev_var rfl) ea_nil))) fun H7 e7 => ?_
      refine ⟨g6, rfl, hG6.ex e7, ⟨ne6, by omega, by omega⟩, by omega, fun g8 H8 x8 l8 hG8 => ?_⟩
      have X8 : Grow H4 H8 g0 g8 := x6.trans (.trans (.refl (.ex e7)) x8)
      have l8' : g8.R.length ≤ 118 := by
        have : cap 2 = 118 := rfl
        omega
      have n8 : g8.nx ≤ 124 := by
        have := X8.nxl
        rw [gR, gnx] at this
        simp only [List.length_nil] at this
        omega
      have ne8 : g8.A ≠ [] := by
        obtain ⟨c, hc⟩ := List.exists_mem_of_ne_nil _ ne6
        intro z
        have := x8.sub c hc
        rw [z] at this
        cases this
      -- kind
      refine qn_asg (P := fun v => ∃ kd : Str, v = .str kd ∧ (kd = Str.ofString "" ∨ kd = Str.ofString "num" ∨ kd = Str.ofString "yes")) ((en_ixW (K := K) (xs := [V.str (Str.ofString ""), V.str (Str.ofString "num"), V.str (Str.ofString "yes")]) (el_lst (ea_cons ev_c (ea_cons ev_c (ea_cons ev_c ea_nil))) (by decide)) (en_next (many := 3) hG8.dc (s0 X8.p.d rfl) ev_c)).imp ?_) fun v H9 hv e9 => ?_
      · intro v hv
        simp only [List.mem_cons, List.not_mem_nil, or_false] at hv
        rcases hv with rfl | rfl | rfl
        · exact ⟨_, rfl, .inl rfl⟩
        · exact ⟨_, rfl, .inr (.inl rfl)⟩
        · exact ⟨_, rfl, .inr (.inr rfl)⟩
      obtain ⟨kd, rfl, hkd⟩ := hv
      have hG9 := hG8.ex e9
      -- last
      refine q_asgR (R := fun d => d = .tuple [.str (Str.ofString "nothing")] ∨ d = .tuple [.str (Str.ofString "give"), .none]) (er_ifN (B := fun _ => True) (by
          intro H10 e10 Q10 q10
          exact etn_and (et_test (ev_op (ev_var rfl) ev_c (rv_ne rfl))) (fun _ => etn_test (P := fun v => ∃ b : Bool, v = .bl b) (B := fun _ => True) (en_opV (en_next (many := 4) hG9.dc (s0 X8.p.d rfl) ev_c) (fun _ _ => EvN.of ev_c) (by
            rintro x y ⟨z, rfl, _, _⟩ rfl
            exact ⟨_, ⟨_, rfl⟩, rv_eq rfl⟩)) fun v ⟨b, hb⟩ => ⟨b, hb, trivial⟩) H10 e10 Q10 fun b H11 _ e11 => q10 b H11 trivial e11)
        (fun _ => (er_of (ed_tup (ead_cons (ed_str ev_c) ead_nil) (by show 1 ≤ 100000; decide))).imp fun d hd => .inl hd) (fun _ => (er_of (ed_tup (ead_cons (ed_str ev_c) (ead_cons (ed_non ev_c) ead_nil)) (by show 2 ≤ 100000; decide))).imp fun d hd => .inr hd)) fun vl H10 dl hdl e10 hvl => ?_
      have hG10 := hG9.ex e10
      have first : ∀ {σ : L2.St} {H' : Hp}, Td H' vl dl → σ[7]? = some (some vl) → ∃ w : Str, (dl = .tuple [.str (Str.ofString "nothing")] → w = Str.ofString "nothing") ∧ Ev (tOp (rIxT K) (tVar 7) (tC (.int 0))) σ H' (.str w) := fun h e => by
        rcases hdl with rfl | rfl
        · obtain ⟨x, hx, h2⟩ := ev_ixTd (K := K) (j := 0) (ev_var e) h ev_c rfl
          cases hx
          exact ⟨_, fun _ => rfl, h2⟩
        · obtain ⟨x, hx, h2⟩ := ev_ixTd (K := K) (j := 0) (ev_var e) h ev_c rfl
          cases hx
          exact ⟨_, (fun z => by cases z), h2⟩
      obtain ⟨w0, hw0, ew0⟩ := first (σ := [some (.ref d), some (.int 2), some (.int (parts : Int)), some (.int (many : Int)), some (.ref s), y5, some (.str kd), some vl, none, none, none]) hvl rfl
      refine q_asgR (R := fun d => ∃ r, d = .tuple (rwDs r) ∧ lastOk g8.A r) (er_if (et_and (et_test (ev_op (ev_var rfl) ev_c (rv_ne rfl))) fun _ => et_test (ev_op ew0 ev_c (rv_eq rfl))) (fun hc => ?_) (fun hc => ?_)) fun vr H11 dr hdr e11 hvr => ?_
      · refine (er_tup (ear_cons (er_of (ed_str ev_c)) (ear_cons (R := fun d => ∃ c, d = .int c ∧ c ∈ g8.A) (er_N (en_operand hG10 ne8 (s0 X8.p.d rfl) (s1 X8.p.s rfl)) ?_) ear_nil)) ?_).imp ?_
        · rintro v ⟨c, rfl, hc⟩
          exact ⟨_, ⟨c, rfl, hc⟩, fun _ => .int c⟩
        · rintro ds ⟨_, _, rfl, _, _, _, rfl, _, rfl⟩
          show 2 ≤ 100000
          decide
        · rintro d ⟨ds, ⟨_, _, rfl, rfl, _, _, rfl, ⟨c, rfl, hc⟩, rfl⟩, rfl⟩
          exact ⟨.give (some c), rfl, hc⟩
      · refine (er_of (ed_of (ev_var rfl) hvl)).imp ?_
        rintro d rfl
        rcases hdl with rfl | rfl
        · exact ⟨.nothing, rfl, trivial⟩
        · exact ⟨.give none, rfl, trivial⟩
      obtain ⟨r, rfl, hlast⟩ := hdr
      have hG11 := hG10.ex e11
      have rl2 : 1 ≤ (rwDs r).length ∧ (rwDs r).length ≤ 100 := by
        cases r with
        | give c => exact ⟨by show 1 ≤ 2; decide, by show 2 ≤ 100; decide⟩
        | nothing => exact ⟨by show 1 ≤ 1; decide, by show 1 ≤ 100; decide⟩
        | _ => cases hlast
      refine q_rowR (Pr := (· = r)) hG11 (s1 X8.p.s rfl) ((er_catA (K := K) (ev_var rfl) hvr (fun z => by rw [z] at rl2; exact absurd rl2.1 (by decide)) rl2.2 (er_tup (ear_cons (er_place hG11 (s0 X8.p.d rfl) (s1 X8.p.s rfl)) ear_nil) ?_) ?_).imp ?_) ?_ (by omega) fun r' pz H12 hr' x12 hG12 => ?_
      · rintro ds ⟨_, _, rfl, _, rfl⟩
        show 1 ≤ 100000
        decide
      · rintro d ⟨ds, ⟨_, _, rfl, _, rfl⟩, rfl⟩
        exact ⟨_, rfl, List.cons_ne_nil _ _, by show 1 ≤ 100; decide⟩
      · rintro d ⟨es, ⟨ds, ⟨_, _, rfl, ⟨pl, rfl⟩, rfl⟩, e9⟩, rfl⟩
        cases e9
        exact ⟨r, pl, rfl, rfl⟩
      · rintro r' rfl c hc
        cases r' with
        | give oc =>
          cases oc with
          | none => cases hc
          | some c2 =>
            have e : c = c2 := by simpa [reads, writes] using hc
            rw [e]
            exact hG8.ca c2 hlast
        | nothing => cases hc
        | _ => cases hlast
      subst hr'
      -- kinds
      have hD12 : Dc K H12 g8.d g8.a g8.ns := hG12.dc
      refine q_asgR (R := fun d => ∃ ks : List Bool, ks.length = parts ∧ d = .tuple (ks.map fun b => .str (kindS b))) ((er_tupleOf (L := fun ds => ∃ ks : List Bool, ks.length = parts ∧ ds = ks.map fun b => .str (kindS b)) ?_).imp ?_) fun vk H13 dk hdk e13 hvk => ?_
      · intro H13 e13 Q13 q13
        refine en_lcRn (n := parts) (P := fun v => ∃ b, v = .str (kindS b)) (ev_var rfl) (by omega) (fun _ => rfl) (fun i H14 e14 => (en_ixW (K := K) (xs := [V.str (kindS false), V.str (kindS true)]) (el_lst (ea_cons ev_c (ea_cons ev_c ea_nil)) (by decide)) (en_next (many := 2) (hD12.ex e14) (s0 X8.p.d rfl) ev_c)).imp fun v hv => bool_mem hv) H13 e13 _ fun p H14 xs hxs hp e14 hpl => ?_
        obtain ⟨hxl, hxa⟩ := hxs
        obtain ⟨ks, rfl, hks⟩ : ∃ ks : List Bool, xs = ks.map (fun b => V.str (kindS b)) ∧ True := by
          clear hpl hxl
          induction xs with
          | nil => exact ⟨[], rfl, trivial⟩
          | cons x xs ih =>
            obtain ⟨ks, rfl, _⟩ := ih fun y hy => hxa y (List.mem_cons_of_mem _ hy)
            obtain ⟨b, rfl⟩ := hxa x (List.mem_cons_self ..)
            exact ⟨b :: ks, rfl, trivial⟩
        rw [List.length_map] at hxl
        have hT : ∀ ks : List Bool, TdAll H14 (ks.map fun b => V.str (kindS b)) (ks.map fun b => PyData.str (kindS b)) := fun ks => by
          induction ks with
          | nil => exact .nil
          | cons b ks ih => exact .cons (.str _) ih
        exact q13 p H14 _ _ ⟨ks, hxl, rfl⟩ hp e14 hpl (hT ks)
      · rintro d ⟨ds, ⟨ks, h1, rfl⟩, rfl⟩
        exact ⟨ks, h1, rfl⟩
      obtain ⟨ks, hkl, rfl⟩ := hdk
      have hG13 := hG12.ex e13
      -- names
      refine q_asgDL (ds := (List.range many).map (nameD parts)) (edl_lcRn (n := many) (ev_var rfl) (by omega) (fun _ => rfl) fun i H14 e14 hi => ?_) fun pn H14 vn hpn0 e14 hpn hvn => ?_
      · have lit : Str.ofString "abcdefg" = S [97, 98, 99, 100, 101, 102, 103] := by decide +kernel
        have at7 : ([97, 98, 99, 100, 101, 102, 103] : List Nat)[i]? = some (97 + i) := by
          have : i = 0 ∨ i = 1 ∨ i = 2 := by omega
          rcases this with rfl | rfl | rfl <;> rfl
        exact ed_tup (ead_cons (ed_str (ev_op (ev_is ev_c (congrArg V.str lit)) (ev_var rfl) (rv_at (i := i) (by decide) at7))) (ead_cons (ed_str ev_c) (ead_cons (ed_is (ed_int (ev_op (ev_var rfl) (ev_var rfl) rv_I0)) (congrArg PyData.int (by show (parts : Int) + (i : Int) = ((parts + i : Nat) : Int); omega))) (ead_cons (ed_int ev_c) (ead_cons (ed_int ev_c) ead_nil))))) (by show 5 ≤ 100000; decide)
      have hG14 := hG13.ex e14
      obtain ⟨us, hus, husT⟩ := hG14.r
      have hvk14 := Td.tx (Tx.of e14) _ _ hvk
      refine s_retR (er_of (ed_tup (ead_cons (ed_str ev_c) (ead_cons (ed_of (ev_var rfl) hvk14) (ead_cons (ed_str (ev_var rfl)) (ead_cons (ed_bl ev_c) (ead_cons (ed_tupleOfL (ev_sd hG14 (s1 X8.p.s rfl) fun li => sd_R _ _ _ _ _ _) hus husT) (ead_cons (ed_tupleOfL (ev_var rfl) hpn hvn) ead_nil)))))) (by show 6 ≤ 100000; decide))) fun v H15 dv hdv e15 hv => ?_
      subst hdv
      have K12 : Kp [g0.s, g0.rl, g0.ll] H4 H12 := (X8.p.trans (.trans (.ex ((e9.trans e10).trans e11)) x12)).kp
      have E15 : Ex H H15 := fun b o hb => by
        refine e15 _ _ (e14 _ _ (e13 _ _ (K12.keep b o (fun z => ?_) (e4 _ _ hb))))
        rw [gs, grl, gll] at z
        simp only [List.mem_cons, List.not_mem_nil, or_false] at z
        rcases z with rfl | rfl | rfl
        · rw [n4.1] at hb; cases hb
        · rw [n4.2.1] at hb; cases hb
        · rw [n4.2.2] at hb; cases hb
      obtain ⟨rp, erp, bl⟩ := X8.rows
      rw [gR, List.nil_append] at erp
      rw [gA, glb] at bl
      refine q v H15 ⟨ks, kd, g8.R ++ [(r', pz)], many⟩ E15 ?_ ⟨by show ks.length ≤ 3; omega, ⟨hm1, hm3⟩, ⟨rp.map Prod.fst, g8.A, g8.lb, r', by show (g8.R ++ [(r', pz)]).map Prod.fst = _; rw [List.map_append, erp] <;> rfl, by show Blk (nats ks.length) 0 _ _ _; rw [hkl]; exact bl, hlast⟩, by show (g8.R ++ [(r', pz)]).length ≤ 130; rw [grow_lay]; omega, fun x hx c hc => ?_⟩
      · show Td H15 v (.tuple [.str (Str.ofString "da"), .tuple (ks.map fun b => .str (kindS b)), .str kd, .bool true, .tuple ((g8.R ++ [(r', pz)]).map rpD), .tuple ((List.range many).map (nameD ks.length))])
        rw [hkl]
        exact hv
      · have := hG12.cr x hx c hc
        have h2 : c < (g8.nx : Int) := this.2
        exact ⟨this.1, by omega⟩
end
end Wt

set_option Elab.async false
set_option linter.all false
set_option maxRecDepth 100000
set_option maxHeartbeats 4000000
namespace Wt
open PySem PySem.Spec PyProof.Rows L2 SX Evl
/-! What is drawn is as machine_of wants it. -/
theorem Blk.few {A n rs B m} (h : Blk A n rs B m) : ∀ r ∈ rs, fewC r = true := by
  induction h with
  | nil => intro r hr; cases hr
  | begin_ _ ih =>
    intro r hr
    rcases List.mem_append.mp hr with hr | hr
    · exact ih r hr
    · rw [List.mem_singleton.mp hr] <;> rfl
  | plain _ _ hf _ ih =>
    intro r hr
    rcases List.mem_append.mp hr with hr | hr
    · exact ih r hr
    · rw [List.mem_singleton.mp hr]
      exact hf
  | choice1 _ _ _ ih ih1 =>
    intro r hr
    simp only [List.mem_append, List.mem_cons, List.not_mem_nil, or_false] at hr
    rcases hr with hr | (rfl | hr) | rfl | rfl | rfl
    · exact ih r hr
    · rfl
    · exact ih1 r hr
    · rfl
    · rfl
    · rfl
  | choice2 _ _ _ _ ih ih1 ih2 =>
    intro r hr
    simp only [List.mem_append, List.mem_cons, List.not_mem_nil, or_false] at hr
    rcases hr with hr | (((rfl | hr) | rfl | rfl) | hr) | rfl
    · exact ih r hr
    · rfl
    · exact ih1 r hr
    · rfl
    · rfl
    · exact ih2 r hr
    · rfl
  | round _ hx _ ih ih1 =>
    intro r hr
    simp only [List.mem_append, List.mem_cons, List.not_mem_nil, or_false] at hr
    rcases hr with hr | ((rfl | rfl | rfl | rfl | rfl) | hr) | rfl | rfl | rfl
    · exact ih r hr
    · exact decide_eq_true hx
    · rfl
    · rfl
    · rfl
    · rfl
    · exact ih1 r hr
    · rfl
    · rfl
    · rfl
theorem last_few {A : List Int} {r : Rw} (h : lastOk A r) : fewC r = true ∧ labs [r] = [] ∧ jumps [r] = [] ∧ 1 ≤ (rowsFor r).length := by
  cases r with
  | nothing => exact ⟨rfl, rfl, rfl, Nat.le_refl _⟩
  | give c => cases c <;> refine ⟨rfl, rfl, rfl, ?_⟩ <;> (unfold rowsFor; simp)
  | _ => exact False.elim h
theorem OneOk.rowsOk {o : One} (h : OneOk o) : RowsOk (o.rows.map Prod.fst) := by
  obtain ⟨body, A, lb, last, e, hb, hl⟩ := h.rows
  obtain ⟨l1, l2, l3, l4⟩ := last_few hl
  have hL := hb.lab
  refine ⟨?_, ?_, by rw [List.length_map]; have := h.few; omega, ?_⟩
  · rw [e, labs_app, l2, List.append_nil]
    exact hL.nd
  · intro k hk
    rw [e, jumps_app, l3, List.append_nil] at hk
    rw [e, labs_app, l2, List.append_nil]
    exact (hL.is k).mpr (hL.js k hk)
  · intro r hr
    rw [e] at hr
    rcases List.mem_append.mp hr with hr | hr
    · exact hb.few r hr
    · rw [List.mem_singleton.mp hr]
      exact l1
theorem first_last {body : List Rw} {last : Rw} {i : Nat} {k : Int} (h1 : 1 ≤ (rowsFor last).length) (h2 : labs [last] = []) (h : (body ++ [last])[i]? = some (.label k)) : first (body ++ [last]) i < ((body ++ [last]).flatMap rowsFor).length := by
  have hi := (List.getElem?_eq_some_iff.mp h).1
  rw [List.length_append, List.length_singleton] at hi
  have hi2 : i < body.length := by
    rcases Nat.lt_or_ge i body.length with z | z
    · exact z
    · exfalso
      have e : i = body.length := by omega
      rw [List.getElem?_append_right z, e, Nat.sub_self] at h
      have e2 : last = .label k := Option.some.inj h
      rw [e2] at h2
      cases h2
  unfold first
  rw [List.take_append_of_le_length (by omega), List.flatMap_append, List.length_append]
  have e3 : body.flatMap rowsFor = (body.take i).flatMap rowsFor ++ (body.drop i).flatMap rowsFor := by
    rw [← List.flatMap_append, List.take_append_drop]
  rw [e3, List.length_append]
  have e4 : [last].flatMap rowsFor = rowsFor last := by rw [List.flatMap_cons, List.flatMap_nil, List.append_nil]
  rw [e4]
  omega
theorem goal_in {rs : List Rw} {k : Int} {n : Nat} (hk : k ∈ labs rs) (h : ∀ i : Nat, rs[i]? = some (.label k) → first rs i < n) : 0 ≤ goal rs k ∧ goal rs k < (n : Int) := by
  rw [← labAt_fst 0 rs] at hk
  obtain ⟨i, hi, hm⟩ := lookup_mem hk
  obtain ⟨j, e1, e2⟩ := labAt_at hm
  have e3 : i = j := by
    have : (k, i).2 = 0 + j := e1
    show i = j
    omega
  subst e3
  unfold goal
  rw [hi]
  have := h i e2
  exact ⟨Int.natCast_nonneg _, by show ((first rs i : Nat) : Int) < (n : Int); omega⟩
theorem machine_len (rs : List Rw) : (machine rs).length = (rs.flatMap rowsFor).length := by
  unfold machine
  rw [List.length_map, madeFrom_len]
theorem madeFrom_rise : ∀ (i : Nat) (rs : List Rw), (madeFrom i rs).Pairwise fun a b => a.2 ≤ b.2
  | _, [] => .nil
  | i, r :: rs => by
    unfold madeFrom
    refine List.pairwise_append.mpr ⟨?_, madeFrom_rise (i + 1) rs, fun a ha b hb => ?_⟩
    · refine List.pairwise_map.mpr (List.pairwise_of_forall fun a b => Nat.le_refl i)
    · obtain ⟨x, _, rfl⟩ := List.mem_map.mp ha
      obtain ⟨j, _, _, e, _⟩ := madeFrom_mem hb
      show i ≤ b.2
      omega
theorem machine_rise {rs : List Rw} {i : Nat} {a b : Mr × Nat} (ha : (machine rs)[i]? = some a) (hb : (machine rs)[i + 1]? = some b) : a.2 ≤ b.2 := by
  have h : (machine rs).Pairwise fun a b => a.2 ≤ b.2 := by
    unfold machine
    exact List.pairwise_map.mpr ((madeFrom_rise 0 rs).imp fun h => h)
  obtain ⟨h1, e1⟩ := List.getElem?_eq_some_iff.mp ha
  obtain ⟨h2, e2⟩ := List.getElem?_eq_some_iff.mp hb
  have := List.pairwise_iff_getElem.mp h i (i + 1) h1 h2 (by omega)
  rw [e1, e2] at this
  exact this
end Wt

set_option Elab.async false
set_option linter.all false
set_option maxRecDepth 100000
set_option maxHeartbeats 4000000
namespace Wt
open PySem PySem.Spec PyProof.Rows L2 SX Evl
/-! Rows over cells as they are done; that they come to an end. -/
section
variable {κ : Type} [DecidableEq κ]
def aput (l : List (κ × Int)) (k : κ) (v : Int) : List (κ × Int) := if (l.any fun p => decide (p.1 = k)) = true then l.map (fun p => if p.1 = k then (p.1, v) else p) else l ++ [(k, v)]
def aval (l : List (κ × Int)) (k : κ) : Option Int := (l.find? fun p => decide (p.1 = k)).map (·.2)
theorem aval_nil {k : κ} : aval ([] : List (κ × Int)) k = none := rfl
theorem aval_cons {p : κ × Int} {l : List (κ × Int)} {k : κ} : aval (p :: l) k = if p.1 = k then some p.2 else aval l k := by
  unfold aval
  rw [List.find?_cons]
  by_cases e : p.1 = k
  · simp [e]
  · simp [e]
theorem aval_map {l : List (κ × Int)} {k j : κ} {v : Int} : aval (l.map fun p => if p.1 = k then (p.1, v) else p) j = if j = k then (if (l.any fun p => decide (p.1 = k)) = true then some v else none) else aval l j := by
  induction l with
  | nil => simp [aval_nil]
  | cons p l ih =>
    rw [List.map_cons, List.any_cons]
    by_cases e : p.1 = k
    · by_cases f : j = k
      · subst f; simp [e, aval_cons]
      · have : ¬ k = j := fun z => f z.symm
        simp [e, f, this, aval_cons, ih]
    · by_cases f : j = k
      · subst f
        have e2 : decide (p.1 = j) = false := decide_eq_false e
        rw [if_neg e, aval_cons, if_neg e, ih, if_pos rfl, if_pos rfl, e2, Bool.false_or]
      · simp [e, f, aval_cons, ih]
theorem aval_app {l : List (κ × Int)} {k j : κ} {v : Int} : aval (l ++ [(k, v)]) j = match aval l j with | some x => some x | none => if k = j then some v else none := by
  induction l with
  | nil => rw [List.nil_append, aval_cons, aval_nil]
  | cons p l ih =>
    rw [List.cons_append, aval_cons, aval_cons, ih]
    by_cases e : p.1 = j
    · simp [e]
    · simp [e]
theorem aval_none {l : List (κ × Int)} {k : κ} (h : (l.any fun p => decide (p.1 = k)) = false) : aval l k = none := by
  induction l with
  | nil => rfl
  | cons p l ih =>
    rw [List.any_cons, Bool.or_eq_false_iff] at h
    rw [aval_cons, if_neg (of_decide_eq_false h.1)]
    exact ih h.2
theorem aval_put {l : List (κ × Int)} {k j : κ} {v : Int} : aval (aput l k v) j = if j = k then some v else aval l j := by
  unfold aput
  by_cases h : (l.any fun p => decide (p.1 = k)) = true
  · rw [if_pos h, aval_map, if_pos h]
  · rw [if_neg h, aval_app]
    have h2 := aval_none (Bool.eq_false_iff.mpr h)
    by_cases f : j = k
    · subst f
      rw [h2]
    · have : ¬ k = j := fun z => f z.symm
      simp only [f, this, if_false]
      cases aval l j <;> rfl
end
def inB (x : Int) : Bool := decide (x.natAbs ≤ 1000000000000)
abbrev Cs := List (Int × Int)
abbrev Ks := List (Bool × Int)
/-- a cell's worth, not too great -/
def val (c : Cs) (k : Int) : Option Int := match aval c k with
  | some x => if inB x = true then some x else none
  | none => none
def kget (k : Ks) (f n : Bool) : Int := match (if f then none else aval k n) with
  | some x => x
  | none => 33
def came (vs : List Int) : Int := vs.foldl (fun a w => (a * 31 + w) % 1009) (21 + (vs.length : Int)) - 500
def lim (x : Int) : Int ⊕ Bool := if -1000000000000 ≤ x ∧ x ≤ 1000000000000 then .inl x else .inr false
/-- false: too great; true: nought -/
def reckon : Op → Int → Int → Int ⊕ Bool
  | .add, a, b => lim (a + b)
  | .take, a, b => lim (a - b)
  | .times, a, b => lim (a * b)
  | .over, a, b => if b = 0 then .inr true else .inl (a.fdiv b)
  | .rest, a, b => if b = 0 then .inr true else .inl (a - a.fdiv b * b)
  | .less, a, b => .inl (if a < b then 1 else 0)
  | .same, a, b => .inl (if a = b then 1 else 0)
def badS (b : Bool) : Str := if b then Str.ofString "nought" else Str.ofString "great"
structure Sx where
  c : Cs
  k : Ks
inductive Rest
  | snap (c : Cs)
  | flat (vs : List V)
  | call (f n : Bool) (xs : List Int)
/-- what is told: a row's word, its number, the rest -/
structure Fd where
  w : Str
  at_ : Nat
  rest : Rest
inductive Out
  | on (s : Sx) (t : Option Rest)
  | to (k : Int)
  | stop (t : Rest)
def vals (c : Cs) : List Int → Option (List Int)
  | [] => some []
  | k :: ks => match val c k, vals c ks with
    | some x, some xs => some (x :: xs)
    | _, _ => none
def callPut (c : Cs) (oc : Option Int) (x : Int) : Cs := match oc with
  | some k => aput c k x
  | none => c
def opOut (o : Op) (c : Int) (s : Sx) : Int ⊕ Bool → Out
  | .inl v => .on ⟨aput s.c c v, s.k⟩ none
  | .inr b => .stop (.flat [.str (badS b)])
def eff (s : Sx) : Rw → Option Out
  | .begin_ => some (.on s (some (.snap s.c)))
  | .nothing => some (.stop (.snap s.c))
  | .put c n => some (.on ⟨aput s.c c n, s.k⟩ none)
  | .copy c d => (val s.c d).map fun x => .on ⟨aput s.c c x, s.k⟩ none
  | .op o c d e => match val s.c d, val s.c e with
    | some x, some y => some (opOut o c s (reckon o x y))
    | _, _ => none
  | .fetch c f n => some (.on ⟨aput s.c c (kget s.k f n), s.k⟩ (some (.flat [.str (fS f), .str (keepS n)])))
  | .lay n c => (val s.c c).map fun x => .on ⟨s.c, aput s.k n x⟩ (some (.flat [.str (keepS n), .int x]))
  | .label _ => some (.on s none)
  | .go k => some (.to k)
  | .unless_ c k => (val s.c c).map fun x => if x = 0 then .to k else .on s none
  | .call oc f n cs => (vals s.c cs).map fun xs => .on ⟨callPut s.c oc (came xs), s.k⟩ (some (.call f n xs))
  | .say k c => (val s.c c).map fun x => .on s (some (.flat [.str (kindS k), .int x]))
  | .give none => some (.stop (.flat [.non]))
  | .give (some c) => (val s.c c).map fun x => .stop (.flat [.int x])
section
variable {s : Sx} {x y : Int} {xs : List Int}
theorem eff_copy {c d : Int} (h : val s.c d = some x) : eff s (.copy c d) = some (.on ⟨aput s.c c x, s.k⟩ none) := by
  show (val s.c d).map _ = _
  rw [h] <;> rfl
theorem eff_op {o : Op} {c d e : Int} (h : val s.c d = some x) (g : val s.c e = some y) : eff s (.op o c d e) = some (opOut o c s (reckon o x y)) := by
  show (match val s.c d, val s.c e with | some x, some y => some (opOut o c s (reckon o x y)) | _, _ => none) = _
  rw [h, g]
theorem eff_lay {n : Bool} {c : Int} (h : val s.c c = some x) : eff s (.lay n c) = some (.on ⟨s.c, aput s.k n x⟩ (some (.flat [.str (keepS n), .int x]))) := by
  show (val s.c c).map _ = _
  rw [h] <;> rfl
theorem eff_unless {c k : Int} (h : val s.c c = some x) : eff s (.unless_ c k) = some (if x = 0 then .to k else .on s none) := by
  show (val s.c c).map _ = _
  rw [h] <;> rfl
theorem eff_call {oc : Option Int} {f n : Bool} {cs : List Int} (h : vals s.c cs = some xs) : eff s (.call oc f n cs) = some (.on ⟨callPut s.c oc (came xs), s.k⟩ (some (.call f n xs))) := by
  show (vals s.c cs).map _ = _
  rw [h] <;> rfl
theorem eff_say {k : Bool} {c : Int} (h : val s.c c = some x) : eff s (.say k c) = some (.on s (some (.flat [.str (kindS k), .int x]))) := by
  show (val s.c c).map _ = _
  rw [h] <;> rfl
theorem eff_give {c : Int} (h : val s.c c = some x) : eff s (.give (some c)) = some (.stop (.flat [.int x])) := by
  show (val s.c c).map _ = _
  rw [h] <;> rfl
end
def tell (w : Str) (i : Nat) : Option Rest → List Fd
  | none => []
  | some r => [⟨w, i, r⟩]
def after (r : Rw) (most : Int) : Int := if r = .begin_ then most - 1 else most
def runM (rs : List Rw) : Nat → Int → Nat → Sx → List Fd → Option (List Fd)
  | 0, _, _, _, _ => none
  | n + 1, most, i, s, f =>
    if most < 0 then some f else match rs[i]? with
      | none => none
      | some r => match eff s r with
        | none => none
        | some (.on s' t) => runM rs n (after r most) (i + 1) s' (f ++ tell (rwW r) i t)
        | some (.to k) => match (labAt 0 rs).lookup k with
          | some j => runM rs n most j s f
          | none => none
        | some (.stop t) => some (f ++ [⟨rwW r, i, t⟩])
theorem runM_on {rs : List Rw} {n : Nat} {most : Int} {i : Nat} {s s' : Sx} {f : List Fd} {r : Rw} {t : Option Rest} (hm : 0 ≤ most) (h : rs[i]? = some r) (he : eff s r = some (.on s' t)) : runM rs (n + 1) most i s f = runM rs n (after r most) (i + 1) s' (f ++ tell (rwW r) i t) := by
  conv => lhs; unfold runM
  rw [if_neg (by omega), h]
  show (match eff s r with | none => none | some (.on s' t) => runM rs n (after r most) (i + 1) s' (f ++ tell (rwW r) i t) | some (.to k) => _ | some (.stop t) => _) = _
  rw [he]
theorem runM_to {rs : List Rw} {n : Nat} {most : Int} {i j : Nat} {s : Sx} {f : List Fd} {r : Rw} {k : Int} (hm : 0 ≤ most) (h : rs[i]? = some r) (he : eff s r = some (.to k)) (hl : (labAt 0 rs).lookup k = some j) : runM rs (n + 1) most i s f = runM rs n most j s f := by
  conv => lhs; unfold runM
  rw [if_neg (by omega), h]
  show (match eff s r with | none => none | some (.on s' t) => _ | some (.to k) => (match (labAt 0 rs).lookup k with | some j => runM rs n most j s f | none => none) | some (.stop t) => _) = _
  rw [he]
  show (match (labAt 0 rs).lookup k with | some j => runM rs n most j s f | none => none) = _
  rw [hl]
theorem runM_stop {rs : List Rw} {n : Nat} {most : Int} {i : Nat} {s : Sx} {f : List Fd} {r : Rw} {t : Rest} (hm : 0 ≤ most) (h : rs[i]? = some r) (he : eff s r = some (.stop t)) : runM rs (n + 1) most i s f = some (f ++ [⟨rwW r, i, t⟩]) := by
  conv => lhs; unfold runM
  rw [if_neg (by omega), h]
  show (match eff s r with | none => none | some (.on s' t) => _ | some (.to k) => _ | some (.stop t) => some (f ++ [(⟨rwW r, i, t⟩ : Fd)])) = _
  rw [he]
/-! ### where cells are laid -/
theorem Blk.grow {A n rs B m} (h : Blk A n rs B m) : ∀ c ∈ A, c ∈ B := by
  induction h with
  | nil => exact fun _ z => z
  | begin_ _ ih => exact ih
  | plain _ _ _ _ ih => exact fun c z => List.mem_append_left _ (ih c z)
  | choice1 _ _ _ ih _ => exact ih
  | choice2 _ _ _ _ ih _ _ => exact ih
  | round _ _ _ ih _ => exact fun c z => List.mem_append_left _ (ih c z)
def further : Rw → Bool
  | .go _ => false
  | .label _ => false
  | _ => true
inductive Flow (lab : Int → List Int) : List Int → List Rw → List Int → Prop
  | nil {A B : List Int} : (∀ c ∈ B, c ∈ A) → Flow lab A [] B
  | row {A : List Int} {r : Rw} {rs : List Rw} {B : List Int} : further r = true → (∀ c ∈ reads r, c ∈ A) → (∀ k ∈ jump1 r, ∀ c ∈ lab k, c ∈ A) → Flow lab (A ++ writes r) rs B → Flow lab A (r :: rs) B
  | go {A A' : List Int} {k : Int} {rs : List Rw} {B : List Int} : (∀ c ∈ lab k, c ∈ A) → Flow lab A' rs B → Flow lab A (.go k :: rs) B
  | label {A : List Int} {k : Int} {rs : List Rw} {B : List Int} : (∀ c ∈ lab k, c ∈ A) → Flow lab (lab k) rs B → Flow lab A (.label k :: rs) B
theorem Flow.mono {lab : Int → List Int} {rs : List Rw} {A B : List Int} (h : Flow lab A rs B) : ∀ {A' B' : List Int}, (∀ c ∈ A, c ∈ A') → (∀ c ∈ B', c ∈ B) → Flow lab A' rs B' := by
  induction h with
  | nil h => exact fun ha hb => .nil fun c hc => ha c (h c (hb c hc))
  | row h1 h2 h3 _ ih =>
    refine fun {A' B'} ha hb => .row h1 (fun c hc => ha c (h2 c hc)) (fun k hk c hc => ha c (h3 k hk c hc)) (ih (fun c hc => ?_) hb)
    rcases List.mem_append.mp hc with z | z
    · exact List.mem_append_left _ (ha c z)
    · exact List.mem_append_right _ z
  | go h1 _ ih => exact fun ha hb => .go (fun c hc => ha c (h1 c hc)) (ih (fun _ z => z) hb)
  | label h1 _ ih => exact fun ha hb => .label (fun c hc => ha c (h1 c hc)) (ih (fun _ z => z) hb)
theorem Flow.app {lab : Int → List Int} {rs : List Rw} {A B : List Int} (h : Flow lab A rs B) : ∀ {ss : List Rw} {C : List Int}, Flow lab B ss C → Flow lab A (rs ++ ss) C := by
  induction h with
  | nil h => exact fun g => g.mono h fun _ z => z
  | row h1 h2 h3 _ ih => exact fun g => .row h1 h2 h3 (ih g)
  | go h1 _ ih => exact fun g => .go h1 (ih g)
  | label h1 _ ih => exact fun g => .label h1 (ih g)
theorem Flow.row1 {lab : Int → List Int} {A : List Int} {r : Rw} (h : plain r = true) (hr : ∀ c ∈ reads r, c ∈ A) : Flow lab A [r] (A ++ writes r) := by
  refine .row ?_ hr ?_ (.nil fun _ z => z)
  · cases r <;> first | rfl | cases h
  · cases r <;> first | (intro k hk; cases hk; done) | cases h
theorem Flow.ofBlk {A : List Int} {n : Nat} {rs : List Rw} {B : List Int} {m : Nat} (h : Blk A n rs B m) : ∃ lab : Int → List Int, ∀ lab', (∀ k : Int, (n : Int) ≤ k → k < (m : Int) → lab' k = lab k) → Flow lab' A rs B := by
  induction h with
  | nil A n => exact ⟨fun _ => [], fun _ _ => .nil fun _ z => z⟩
  | @begin_ A n rs B m h ih =>
    obtain ⟨lab, h1⟩ := ih
    exact ⟨lab, fun lab' e => (h1 lab' e).app (.row rfl (fun c hc => (by cases hc)) (fun k hk => (by cases hk)) (.nil fun c hc => List.mem_append_left _ hc))⟩
  | @plain A n rs B m r h hp hf hr ih =>
    obtain ⟨lab, h1⟩ := ih
    exact ⟨lab, fun lab' e => (h1 lab' e).app (Flow.row1 hp hr)⟩
  | @choice1 A n rs B m r1 B1 m1 c h hc h1 ih ih1 =>
    obtain ⟨lab, g⟩ := ih
    obtain ⟨lab1, g1⟩ := ih1
    have u0 := h.up
    have u1 := h1.up
    have gr := h1.grow
    refine ⟨fun k => if k < (m : Int) then lab k else if k < (m : Int) + 2 then B else lab1 k, fun lab' e => ?_⟩
    have em : lab' (m : Int) = B := (e _ (by omega) (by omega)).trans (by show (if _ then _ else _) = _; rw [if_neg (by omega), if_pos (by omega)])
    have em1 : lab' ((m : Int) + 1) = B := (e _ (by omega) (by omega)).trans (by show (if _ then _ else _) = _; rw [if_neg (by omega), if_pos (by omega)])
    have f0 := g lab' fun k k0 k1 => (e k k0 (by omega)).trans (by show (if _ then _ else _) = _; rw [if_pos k1])
    have f1 := g1 lab' fun k k0 k1 => (e k (by omega) (by omega)).trans (by show (if _ then _ else _) = _; rw [if_neg (by omega), if_neg (by omega)])
    refine f0.app ((Flow.app (.row (A := B) rfl (fun x hx => ?_) (fun k hk => ?_) (.nil fun x hx => List.mem_append_left _ hx)) f1).app (.go (A' := B) ?_ (.label ?_ (.label ?_ (.nil ?_)))))
    · rw [List.mem_singleton.mp hx]; exact hc
    · rw [List.mem_singleton.mp hk, em]; exact fun _ z => z
    · rw [em1]; exact gr
    · rw [em]; exact fun _ z => z
    · rw [em, em1]; exact fun _ z => z
    · rw [em1]; exact fun _ z => z
  | @choice2 A n rs B m r1 B1 m1 r2 B2 m2 c h hc h1 h2 ih ih1 ih2 =>
    obtain ⟨lab, g⟩ := ih
    obtain ⟨lab1, g1⟩ := ih1
    obtain ⟨lab2, g2⟩ := ih2
    have u0 := h.up
    have u1 := h1.up
    have u2 := h2.up
    have gr := h1.grow
    have gr2 := h2.grow
    refine ⟨fun k => if k < (m : Int) then lab k else if k < (m : Int) + 2 then B else if k < (m1 : Int) then lab1 k else lab2 k, fun lab' e => ?_⟩
    have em : lab' (m : Int) = B := (e _ (by omega) (by omega)).trans (by show (if _ then _ else _) = _; rw [if_neg (by omega), if_pos (by omega)])
    have em1 : lab' ((m : Int) + 1) = B := (e _ (by omega) (by omega)).trans (by show (if _ then _ else _) = _; rw [if_neg (by omega), if_pos (by omega)])
    have f0 := g lab' fun k k0 k1 => (e k k0 (by omega)).trans (by show (if _ then _ else _) = _; rw [if_pos k1])
    have f1 := g1 lab' fun k k0 k1 => (e k (by omega) (by omega)).trans (by show (if _ then _ else _) = _; rw [if_neg (by omega), if_neg (by omega), if_pos (by omega)])
    have f2 := g2 lab' fun k k0 k1 => (e k (by omega) (by omega)).trans (by show (if _ then _ else _) = _; rw [if_neg (by omega), if_neg (by omega), if_neg (by omega)])
    refine f0.app ((((Flow.app (.row (A := B) rfl (fun x hx => ?_) (fun k hk => ?_) (.nil fun x hx => List.mem_append_left _ hx)) f1).app (.go (A' := B) ?_ (.label (B := B) ?_ (.nil ?_)))).app f2).app (.label ?_ (.nil ?_)))
    · rw [List.mem_singleton.mp hx]; exact hc
    · rw [List.mem_singleton.mp hk, em]; exact fun _ z => z
    · rw [em1]; exact gr
    · rw [em]; exact fun _ z => z
    · rw [em]; exact fun _ z => z
    · rw [em1]; exact gr2
    · rw [em1]; exact fun _ z => z
  | @round A n rs B m r1 B1 m1 c x h hx h1 ih ih1 =>
    obtain ⟨lab, g⟩ := ih
    obtain ⟨lab1, g1⟩ := ih1
    have u0 := h.up
    have u1 := h1.up
    have gr := h1.grow
    refine ⟨fun k => if k < (m : Int) then lab k else if k < (m : Int) + 2 then B ++ [c, c + 1] else lab1 k, fun lab' e => ?_⟩
    have em : lab' (m : Int) = B ++ [c, c + 1] := (e _ (by omega) (by omega)).trans (by show (if _ then _ else _) = _; rw [if_neg (by omega), if_pos (by omega)])
    have em1 : lab' ((m : Int) + 1) = B ++ [c, c + 1] := (e _ (by omega) (by omega)).trans (by show (if _ then _ else _) = _; rw [if_neg (by omega), if_pos (by omega)])
    have f0 := g lab' fun k k0 k1 => (e k k0 (by omega)).trans (by show (if _ then _ else _) = _; rw [if_pos k1])
    have f1 := g1 lab' fun k k0 k1 => (e k (by omega) (by omega)).trans (by show (if _ then _ else _) = _; rw [if_neg (by omega), if_neg (by omega)])
    have cin : c ∈ B ++ [c, c + 1] := List.mem_append_right _ (List.mem_cons_self ..)
    have cin1 : c + 1 ∈ B ++ [c, c + 1] := List.mem_append_right _ (List.mem_cons_of_mem _ (List.mem_cons_self ..))
    refine f0.app ((Flow.app (B := B ++ [c, c + 1]) (.row rfl (fun y hy => by cases hy) (fun k hk => by cases hk) (.row rfl (fun y hy => by cases hy) (fun k hk => by cases hk) (.label ?_ (.row rfl (fun y hy => by cases hy) (fun k hk => by cases hk) (.row rfl (fun y hy => ?_) (fun k hk => ?_) (.nil ?_)))))) f1).app (.row rfl (fun y hy => ?_) (fun k hk => by cases hk) (.go (A' := B ++ [c, c + 1]) ?_ (.label ?_ (.nil ?_)))))
    · rw [em, List.append_assoc]; exact fun _ z => z
    · rw [em, List.mem_singleton.mp hy]; exact List.mem_append_left _ cin
    · rw [em, List.mem_singleton.mp hk, em1]; exact fun _ z => List.mem_append_left _ z
    · rw [em]; exact fun _ z => List.mem_append_left _ (List.mem_append_left _ z)
    · have hy' : y ∈ [c, c + 1] := hy
      exact gr y (List.mem_append_right _ hy')
    · rw [em]; exact fun y z => List.mem_append_left _ (gr y z)
    · rw [em1]; exact fun _ z => z
    · rw [em1]; exact fun _ z => z
theorem Flow.at_label {lab : Int → List Int} {rs : List Rw} {A B : List Int} (h : Flow lab A rs B) : ∀ {j : Nat} {k : Int}, rs[j]? = some (.label k) → Flow lab (lab k) (rs.drop j) B := by
  induction h with
  | nil _ => intro j k hj; simp at hj
  | @row A r rs B h1 _ _ _ ih =>
    intro j k hj
    cases j with
    | zero =>
      have e : r = .label k := Option.some.inj hj
      rw [e] at h1
      cases h1
    | succ j => exact ih hj
  | @go A A' k2 rs B _ _ ih =>
    intro j k hj
    cases j with
    | zero => cases Option.some.inj hj
    | succ j => exact ih hj
  | @label A k2 rs B h1 h2 ih =>
    intro j k hj
    cases j with
    | zero =>
      have e : k2 = k := by cases Option.some.inj hj; rfl
      subst e
      exact .label (fun _ z => z) h2
    | succ j => exact ih hj
/-! ### ways lead further, or to a label ahead of a begin -/
def JOk (rs : List Rw) : Prop := ∀ (i : Nat) (r : Rw) (k : Int), rs[i]? = some r → k ∈ jump1 r → ∃ p, rs[p]? = some (.label k) ∧ (i < p ∨ rs[p + 1]? = some .begin_)
theorem get_app_r {α : Type} {xs ys : List α} {i : Nat} {a : α} (h : ys[i]? = some a) : (xs ++ ys)[xs.length + i]? = some a := by
  rw [List.getElem?_append_right (by omega), Nat.add_sub_cancel_left]
  exact h
theorem get_app_l {α : Type} {xs ys : List α} {i : Nat} {a : α} (h : xs[i]? = some a) : (xs ++ ys)[i]? = some a := by
  have hi := (List.getElem?_eq_some_iff.mp h).1
  rw [List.getElem?_append_left hi]
  exact h
theorem JOk.app {rs ss : List Rw} (h : JOk rs) (g : JOk ss) : JOk (rs ++ ss) := by
  intro i r k hi hk
  rcases Nat.lt_or_ge i rs.length with z | z
  · rw [List.getElem?_append_left z] at hi
    obtain ⟨p, h1, h2⟩ := h i r k hi hk
    refine ⟨p, get_app_l h1, ?_⟩
    rcases h2 with h2 | h2
    · exact .inl h2
    · exact .inr (get_app_l h2)
  · rw [List.getElem?_append_right z] at hi
    obtain ⟨p, h1, h2⟩ := g _ r k hi hk
    refine ⟨rs.length + p, get_app_r h1, ?_⟩
    rcases h2 with h2 | h2
    · exact .inl (by omega)
    · exact .inr (by rw [Nat.add_assoc]; exact get_app_r h2)
/-- rows within others: their own ways, and the others' -/
theorem JOk.mid {pre mid post : List Rw} (h : JOk mid) (g1 : ∀ (i : Nat) (r : Rw) (k : Int), pre[i]? = some r → k ∈ jump1 r → ∃ p : Nat, post[p]? = some (Rw.label k)) (g2 : ∀ (i : Nat) (r : Rw) (k : Int), post[i]? = some r → k ∈ jump1 r → (∃ p : Nat, i < p ∧ post[p]? = some (Rw.label k)) ∨ ∃ p : Nat, pre[p]? = some (Rw.label k) ∧ pre[p + 1]? = some Rw.begin_) : JOk (pre ++ mid ++ post) := by
  intro i r k hi hk
  rcases Nat.lt_or_ge i (pre ++ mid).length with z | z
  · rw [List.getElem?_append_left z] at hi
    rcases Nat.lt_or_ge i pre.length with y | y
    · rw [List.getElem?_append_left y] at hi
      obtain ⟨p, h1⟩ := g1 i r k hi hk
      exact ⟨(pre ++ mid).length + p, get_app_r h1, .inl (by omega)⟩
    · rw [List.getElem?_append_right y] at hi
      obtain ⟨p, h1, h2⟩ := h _ r k hi hk
      refine ⟨pre.length + p, get_app_l (get_app_r h1), ?_⟩
      rcases h2 with h2 | h2
      · exact .inl (by omega)
      · exact .inr (by rw [Nat.add_assoc]; exact get_app_l (get_app_r h2))
  · rw [List.getElem?_append_right z] at hi
    rcases g2 _ r k hi hk with ⟨p, h1, h2⟩ | ⟨p, h1, h2⟩
    · exact ⟨(pre ++ mid).length + p, get_app_r h2, .inl (by omega)⟩
    · exact ⟨p, get_app_l (get_app_l h1), .inr (get_app_l (get_app_l h2))⟩
theorem JOk.none {rs : List Rw} (h : ∀ r ∈ rs, jump1 r = []) : JOk rs := fun i r k hi hk => by
  rw [h r (List.mem_of_getElem? hi)] at hk
  cases hk
theorem JOk.ofBlk {A n rs B m} (h : Blk A n rs B m) : JOk rs := by
  induction h with
  | nil => exact .none fun r hr => (by cases hr)
  | begin_ _ ih => exact ih.app (.none fun r hr => by rw [List.mem_singleton.mp hr] <;> rfl)
  | @plain A n rs B m r _ hp _ _ ih => exact ih.app (.none fun x hr => by rw [List.mem_singleton.mp hr]; cases r <;> first | rfl | cases hp)
  | @choice1 A n rs B m r1 B1 m1 c _ _ _ ih ih1 =>
    refine ih.app (JOk.mid ih1 (fun i r k hi hk => ?_) fun i r k hi hk => ?_)
    · match i, hi with
      | 0, hi =>
        cases hi
        exact ⟨1, by rw [List.mem_singleton.mp hk] <;> rfl⟩
      | i + 1, hi => simp at hi
    · match i, hi with
      | 0, hi =>
        cases hi
        exact .inl ⟨2, by omega, by rw [List.mem_singleton.mp hk] <;> rfl⟩
      | 1, hi => cases hi; cases hk
      | 2, hi => cases hi; cases hk
      | i + 3, hi => simp at hi
  | @choice2 A n rs B m r1 B1 m1 r2 B2 m2 c _ _ _ _ ih ih1 ih2 =>
    refine ih.app ?_
    have e : [Rw.unless_ c (m : Int)] ++ r1 ++ [.go ((m : Int) + 1), .label (m : Int)] ++ r2 ++ [.label ((m : Int) + 1)] = [Rw.unless_ c (m : Int)] ++ r1 ++ ([.go ((m : Int) + 1), .label (m : Int)] ++ r2 ++ [.label ((m : Int) + 1)]) := by simp only [List.append_assoc]
    rw [e]
    intro i r k hi hk
    have l2 : JOk ([Rw.go ((m : Int) + 1), .label (m : Int)] ++ r2 ++ [.label ((m : Int) + 1)]) := JOk.mid ih2 (fun i r k hi hk => by
      match i, hi with
      | 0, hi =>
        cases hi
        exact ⟨0, by rw [List.mem_singleton.mp hk] <;> rfl⟩
      | 1, hi => cases hi; cases hk
      | i + 2, hi => simp at hi) fun i r k hi hk => by
      match i, hi with
      | 0, hi => cases hi; cases hk
      | i + 1, hi => simp at hi
    rcases Nat.lt_or_ge i 1 with z | z
    · have e0 : i = 0 := by omega
      subst e0
      have er : r = .unless_ c (m : Int) := (Option.some.inj hi).symm
      subst er
      rw [List.mem_singleton.mp hk]
      refine ⟨([Rw.unless_ c (m : Int)] ++ r1).length + 1, get_app_r rfl, .inl (by omega)⟩
    · have h12 := ih1.app l2
      have hi2 : (r1 ++ ([Rw.go ((m : Int) + 1), .label (m : Int)] ++ r2 ++ [.label ((m : Int) + 1)]))[i - 1]? = some r := by
        obtain ⟨j, rfl⟩ : ∃ j, i = j + 1 := ⟨i - 1, by omega⟩
        exact hi
      obtain ⟨p, h1, h2⟩ := h12 _ r k hi2 hk
      exact ⟨p + 1, h1, h2.elim (fun z => .inl (by omega)) fun z => .inr z⟩
  | @round A n rs B m r1 B1 m1 c x _ _ _ ih ih1 =>
    refine ih.app (JOk.mid ih1 (fun i r k hi hk => ?_) fun i r k hi hk => ?_)
    · match i, hi with
      | 0, hi => cases hi; cases hk
      | 1, hi => cases hi; cases hk
      | 2, hi => cases hi; cases hk
      | 3, hi => cases hi; cases hk
      | 4, hi =>
        cases hi
        exact ⟨2, by rw [List.mem_singleton.mp hk] <;> rfl⟩
      | i + 5, hi => simp at hi
    · match i, hi with
      | 0, hi => cases hi; cases hk
      | 1, hi =>
        cases hi
        exact .inr ⟨2, by rw [List.mem_singleton.mp hk] <;> rfl, rfl⟩
      | 2, hi => cases hi; cases hk
      | i + 3, hi => simp at hi
end Wt

set_option Elab.async false
set_option linter.all false
set_option maxRecDepth 100000
set_option maxHeartbeats 4000000
namespace Wt
open PySem PySem.Spec PyProof.Rows L2 SX Evl
/-! Rows over cells come to an end. -/
theorem inB_iff {x : Int} : inB x = true ↔ x.natAbs ≤ 1000000000000 := decide_eq_true_iff
theorem lim_in {x v : Int} (h : lim x = .inl v) : inB v = true := by
  unfold lim at h
  split at h
  · cases h
    exact inB_iff.mpr (by omega)
  · cases h
theorem reckon_in {o : Op} {a b v : Int} (ha : inB a = true) (hb : inB b = true) (h : reckon o a b = .inl v) : inB v = true := by
  rw [inB_iff] at ha hb
  cases o with
  | add => exact lim_in h
  | take => exact lim_in h
  | times => exact lim_in h
  | over =>
    have h' : (if b = 0 then Sum.inr true else Sum.inl (a.fdiv b)) = (Sum.inl v : Int ⊕ Bool) := h
    split at h'
    · cases h'
    · cases h'
      exact inB_iff.mpr (Nat.le_trans (Int.natAbs_fdiv_le_natAbs a b) ha)
  | rest =>
    have h' : (if b = 0 then Sum.inr true else Sum.inl (a - a.fdiv b * b)) = (Sum.inl v : Int ⊕ Bool) := h
    split at h'
    · cases h'
    · rename_i hb0
      cases h'
      have e : a - a.fdiv b * b = a.fmod b := by rw [Int.fmod_def, Int.mul_comm]
      have h1 := Int.emod_nonneg a hb0
      have h2 := Int.emod_lt a hb0
      rw [e, Int.fmod_eq_emod, inB_iff]
      split <;> omega
  | less =>
    have h' : (Sum.inl (if a < b then 1 else 0) : Int ⊕ Bool) = Sum.inl v := h
    cases h'
    split <;> decide
  | same =>
    have h' : (Sum.inl (if a = b then 1 else 0) : Int ⊕ Bool) = Sum.inl v := h
    cases h'
    split <;> decide
theorem fold_in : ∀ (vs : List Int) (a : Int), 0 ≤ a → a ≤ 1000000 → 0 ≤ vs.foldl (fun a w => (a * 31 + w) % 1009) a ∧ vs.foldl (fun a w => (a * 31 + w) % 1009) a ≤ 1000000
  | [], a, h0, h1 => ⟨h0, h1⟩
  | v :: vs, a, h0, h1 => fold_in vs ((a * 31 + v) % 1009) (Int.emod_nonneg _ (by decide)) (by have := Int.emod_lt_of_pos (a * 31 + v) (show (0 : Int) < 1009 by decide); omega)
theorem came_in {vs : List Int} (h : vs.length ≤ 3) : inB (came vs) = true := by
  have := fold_in vs (21 + (vs.length : Int)) (by omega) (by omega)
  unfold came
  exact inB_iff.mpr (by omega)
/-- all worths are not too great -/
structure Bd (s : Sx) : Prop where
  c : ∀ k x, aval s.c k = some x → inB x = true
  k : ∀ n x, aval s.k n = some x → inB x = true
def Hd (A : List Int) (s : Sx) : Prop := ∀ c ∈ A, ∃ x, aval s.c c = some x
theorem Bd.put {s : Sx} (h : Bd s) (c : Int) {v : Int} (hv : inB v = true) : Bd ⟨aput s.c c v, s.k⟩ := ⟨fun k x hx => by
  have hx' : aval (aput s.c c v) k = some x := hx
  rw [aval_put] at hx'
  split at hx'
  · cases hx'; exact hv
  · exact h.c k x hx', h.k⟩
theorem Bd.lay {s : Sx} (h : Bd s) (n : Bool) {v : Int} (hv : inB v = true) : Bd ⟨s.c, aput s.k n v⟩ := ⟨h.c, fun k x hx => by
  have hx' : aval (aput s.k n v) k = some x := hx
  rw [aval_put] at hx'
  split at hx'
  · cases hx'; exact hv
  · exact h.k k x hx'⟩
theorem Hd.put {A : List Int} {s : Sx} (h : Hd A s) (c v : Int) : Hd (A ++ [c]) ⟨aput s.c c v, s.k⟩ := fun k hk => by
  show ∃ x, aval (aput s.c c v) k = some x
  rw [aval_put]
  rcases List.mem_append.mp hk with z | z
  · split
    · exact ⟨_, rfl⟩
    · exact h k z
  · rw [if_pos (List.mem_singleton.mp z)]
    exact ⟨_, rfl⟩
theorem Hd.nil {A : List Int} {s : Sx} (h : Hd A s) : Hd (A ++ []) s := by rw [List.append_nil]; exact h
theorem val_of {s : Sx} (h : Bd s) {A : List Int} (g : Hd A s) {c : Int} (hc : c ∈ A) : ∃ x, val s.c c = some x ∧ inB x = true := by
  obtain ⟨x, hx⟩ := g c hc
  have hb := h.c c x hx
  refine ⟨x, ?_, hb⟩
  unfold val
  rw [hx]
  show (if inB x = true then some x else none) = _
  rw [if_pos hb]
theorem vals_of {s : Sx} (h : Bd s) {A : List Int} (g : Hd A s) : ∀ {cs : List Int}, (∀ c ∈ cs, c ∈ A) → ∃ xs, vals s.c cs = some xs ∧ xs.length = cs.length
  | [], _ => ⟨[], rfl, rfl⟩
  | c :: cs, hc => by
    obtain ⟨x, hx, _⟩ := val_of h g (hc c (List.mem_cons_self ..))
    obtain ⟨xs, hxs, hl⟩ := vals_of h g (cs := cs) fun c hc2 => hc c (List.mem_cons_of_mem _ hc2)
    refine ⟨x :: xs, ?_, by rw [List.length_cons, List.length_cons, hl]⟩
    unfold vals
    rw [hx, hxs] <;> rfl
theorem kget_in {s : Sx} (h : Bd s) (f n : Bool) : inB (kget s.k f n) = true := by
  unfold kget
  cases f with
  | true => exact (by decide : inB 33 = true)
  | false =>
    show inB (match aval s.k n with | some x => x | none => 33) = true
    cases e : aval s.k n with
    | none => decide
    | some x => exact h.k n x e
def stops : Rw → Bool
  | .nothing => true
  | .give _ => true
  | _ => false
/-- what a row does, where what it reads is laid -/
theorem eff_of {s : Sx} {A : List Int} {r : Rw} (h : Bd s) (g : Hd A s) (hr : ∀ c ∈ reads r, c ∈ A) (hf : fewC r = true) :
    (∃ s' t, eff s r = some (.on s' t) ∧ Bd s' ∧ Hd (A ++ writes r) s' ∧ stops r = false ∧ ∀ k, r ≠ .go k) ∨ (∃ k, eff s r = some (.to k) ∧ k ∈ jump1 r) ∨ ∃ t, eff s r = some (.stop t) := by
  cases r with
  | begin_ => exact .inl ⟨_, _, rfl, h, g.nil, rfl, fun k z => by cases z⟩
  | nothing => exact .inr (.inr ⟨_, rfl⟩)
  | put c n => exact .inl ⟨_, _, rfl, h.put c (inB_iff.mpr (by have : n.natAbs ≤ 1000000 := of_decide_eq_true hf; omega)), g.put c n, rfl, fun k z => by cases z⟩
  | copy c d =>
    obtain ⟨x, hx, hb⟩ := val_of h g (hr d (List.mem_singleton.mpr rfl))
    exact .inl ⟨⟨aput s.c c x, s.k⟩, none, eff_copy hx, h.put c hb, g.put c x, rfl, fun k z => by cases z⟩
  | op o c d e =>
    obtain ⟨x, hx, hb⟩ := val_of h g (hr d (List.mem_cons_self ..))
    obtain ⟨y, hy, hb2⟩ := val_of h g (hr e (List.mem_cons_of_mem _ (List.mem_cons_self ..)))
    have e1 : eff s (.op o c d e) = some (opOut o c s (reckon o x y)) := eff_op hx hy
    cases e2 : reckon o x y with
    | inl v =>
      rw [e2] at e1
      exact .inl ⟨_, _, e1, h.put c (reckon_in hb hb2 e2), g.put c v, rfl, fun k z => by cases z⟩
    | inr b =>
      rw [e2] at e1
      exact .inr (.inr ⟨_, e1⟩)
  | fetch c f n => exact .inl ⟨_, _, rfl, h.put c (kget_in h f n), g.put c _, rfl, fun k z => by cases z⟩
  | lay n c =>
    obtain ⟨x, hx, hb⟩ := val_of h g (hr c (List.mem_singleton.mpr rfl))
    exact .inl ⟨⟨s.c, aput s.k n x⟩, _, eff_lay hx, h.lay n hb, g.nil, rfl, fun k z => by cases z⟩
  | label k => exact .inl ⟨_, _, rfl, h, g.nil, rfl, fun k z => by cases z⟩
  | go k => exact .inr (.inl ⟨k, rfl, List.mem_singleton.mpr rfl⟩)
  | unless_ c k =>
    obtain ⟨x, hx, hb⟩ := val_of h g (hr c (List.mem_singleton.mpr rfl))
    have e1 := eff_unless (k := k) hx
    by_cases hx0 : x = 0
    · rw [if_pos hx0] at e1
      exact .inr (.inl ⟨k, e1, List.mem_singleton.mpr rfl⟩)
    · rw [if_neg hx0] at e1
      exact .inl ⟨_, _, e1, h, g.nil, rfl, fun k z => by cases z⟩
  | call oc f n cs =>
    obtain ⟨xs, hxs, hl⟩ := vals_of h g (cs := cs) hr
    have hcs : cs.length ≤ 3 := of_decide_eq_true hf
    have hb := came_in (vs := xs) (by omega)
    have e1 := eff_call (oc := oc) (f := f) (n := n) hxs
    cases oc with
    | none => exact .inl ⟨_, _, e1, h, g.nil, rfl, fun k z => by cases z⟩
    | some c => exact .inl ⟨_, _, e1, h.put c hb, g.put c _, rfl, fun k z => by cases z⟩
  | say k c =>
    obtain ⟨x, hx, hb⟩ := val_of h g (hr c (List.mem_singleton.mpr rfl))
    exact .inl ⟨s, _, eff_say hx, h, g.nil, rfl, fun k z => by cases z⟩
  | give oc =>
    cases oc with
    | none => exact .inr (.inr ⟨_, rfl⟩)
    | some c =>
      obtain ⟨x, hx, hb⟩ := val_of h g (hr c (List.mem_singleton.mpr rfl))
      exact .inr (.inr ⟨.flat [.int x], eff_give hx⟩)
/-! ### the measure -/
def isLabO : Option Rw → Bool
  | some (.label _) => true
  | _ => false
def rank (rs : List Rw) (i : Nat) : Nat := if rs[i]? = some .begin_ then 0 else if isLabO rs[i]? = true ∧ rs[i + 1]? = some .begin_ then 1 else rs.length - i + 2
theorem rank_le (rs : List Rw) (i : Nat) : rank rs i ≤ rs.length - i + 2 := by
  unfold rank
  split
  · omega
  · split <;> omega
theorem rank_next {rs : List Rw} {i : Nat} {r : Rw} (h : rs[i]? = some r) (hb : r ≠ .begin_) : rank rs (i + 1) < rank rs i := by
  have hi := (List.getElem?_eq_some_iff.mp h).1
  have e1 : rs[i]? ≠ some .begin_ := by rw [h]; intro z; exact hb (Option.some.inj z)
  have e2 : rank rs i = if isLabO rs[i]? = true ∧ rs[i + 1]? = some .begin_ then 1 else rs.length - i + 2 := by
    conv => lhs; unfold rank
    rw [if_neg e1]
  rw [e2]
  split
  · rename_i hc
    unfold rank
    rw [if_pos hc.2]
    omega
  · have := rank_le rs (i + 1)
    omega
theorem rank_to {rs : List Rw} {i j : Nat} {r : Rw} {k : Int} (h : rs[i]? = some r) (hk : k ∈ jump1 r) (hj : rs[j]? = some (.label k)) (g : i < j ∨ rs[j + 1]? = some .begin_) : rank rs j < rank rs i := by
  have hi := (List.getElem?_eq_some_iff.mp h).1
  have e1 : rs[i]? ≠ some .begin_ := by
    rw [h]; intro z
    have := Option.some.inj z
    subst this
    cases hk
  have e3 : ¬ (isLabO rs[i]? = true ∧ rs[i + 1]? = some .begin_) := by
    rw [h]
    rintro ⟨z, _⟩
    cases r <;> first | (cases z; done) | (cases hk; done)
  have e2 : rank rs i = rs.length - i + 2 := by
    unfold rank
    rw [if_neg e1, if_neg e3]
  rw [e2]
  rcases g with g | g
  · have := rank_le rs j
    omega
  · unfold rank
    rw [if_neg (by rw [hj]; intro z; cases Option.some.inj z), if_pos ⟨by rw [hj] <;> rfl, g⟩]
    omega
theorem lookup_at : ∀ {i : Nat} {rs : List Rw} {j : Nat} {k : Int}, (labs rs).Nodup → rs[j]? = some (.label k) → (labAt i rs).lookup k = some (i + j)
  | i, [], j, k, _, h => by simp at h
  | i, r :: rs, 0, k, _, h => by
    have e : r = .label k := Option.some.inj h
    subst e
    show List.lookup k ((k, i) :: labAt (i + 1) rs) = some (i + 0)
    simp [List.lookup]
  | i, r :: rs, j + 1, k, nd, h => by
    have h2 : rs[j]? = some (.label k) := h
    have el : labs (r :: rs) = lab1 r ++ labs rs := List.flatMap_cons
    rw [el] at nd
    have ih := lookup_at (i := i + 1) (List.nodup_append.mp nd).2.1 h2
    have hk : k ∈ labs rs := List.mem_flatMap.mpr ⟨_, List.mem_of_getElem? h2, List.mem_singleton.mpr rfl⟩
    show List.lookup k ((lab1 r).map (fun k => (k, i)) ++ labAt (i + 1) rs) = _
    cases r with
    | label k2 =>
      have hne : k2 ≠ k := (List.nodup_append.mp nd).2.2 k2 (List.mem_singleton.mpr rfl) k hk
      have : (k == k2) = false := by simpa using fun z => hne z.symm
      show List.lookup k ((k2, i) :: labAt (i + 1) rs) = _
      simp only [List.lookup, this]
      rw [ih]
      congr 1
      omega
    | _ =>
      show List.lookup k (labAt (i + 1) rs) = _
      rw [ih]
      congr 1
      omega
/-- rows come to an end, whatever they begin with -/
theorem run_end {rs : List Rw} {lab : Int → List Int} {A0 B : List Int} (hf : Flow lab A0 rs B) (hj : JOk rs) (ok : RowsOk rs) (hs : ∀ (i : Nat) (r : Rw), rs[i]? = some r → stops r = false → i + 1 < rs.length) :
    ∀ (μ : Nat) (most : Int) (i : Nat) (s : Sx) (f : List Fd) (A : List Int), (most + 1).toNat * (rs.length + 3) + rank rs i ≤ μ → i < rs.length → Flow lab A (rs.drop i) B → Bd s → Hd A s → ∃ F res, F ≤ μ + 1 ∧ runM rs F most i s f = some res := by
  intro μ
  induction μ with
  | zero =>
    intro most i s f A hμ hi hfl hb hd
    refine ⟨1, f, by omega, ?_⟩
    have : most < 0 := by
      rcases (show most < 0 ∨ 0 ≤ most by omega) with z | z
      · exact z
      · exfalso
        have : 1 ≤ (most + 1).toNat := by omega
        have := Nat.mul_le_mul this (Nat.le_refl (rs.length + 3))
        omega
    unfold runM
    rw [if_pos this]
  | succ μ ih =>
    intro most i s f A hμ hi hfl hb hd
    rcases (show most < 0 ∨ 0 ≤ most by omega) with hm | hm
    · refine ⟨1, f, by omega, ?_⟩
      unfold runM
      rw [if_pos hm]
    obtain ⟨r, hr⟩ : ∃ r, rs[i]? = some r := ⟨_, List.getElem?_eq_getElem hi⟩
    have hfew := ok.cs r (List.mem_of_getElem? hr)
    have hdrop : rs.drop i = r :: rs.drop (i + 1) := by
      rw [List.drop_eq_getElem_cons hi]
      congr 1
      rw [List.getElem?_eq_getElem hi] at hr
      exact Option.some.inj hr
    rw [hdrop] at hfl
    -- what the flow says of this row
    have key : (∀ c ∈ reads r, c ∈ A) ∧ (∀ k ∈ jump1 r, ∀ c ∈ lab k, c ∈ A) ∧ ((∀ k, r ≠ .go k) → Flow lab (A ++ writes r) (rs.drop (i + 1)) B) := by
      cases hfl with
      | row h1 h2 h3 h4 => exact ⟨h2, h3, fun _ => h4⟩
      | go h1 h2 => exact ⟨fun c hc => (by cases hc), fun k hk => by rw [List.mem_singleton.mp hk]; exact h1, fun z => absurd rfl (z _)⟩
      | label h1 h2 => exact ⟨fun c hc => (by cases hc), fun k hk => (by cases hk), fun _ => h2.mono (fun c hc => List.mem_append_left _ (h1 c hc)) fun _ z => z⟩
    rcases eff_of hb hd key.1 hfew with ⟨s', t, he, hb', hd', hst, hng⟩ | ⟨k, he, hk⟩ | ⟨t, he⟩
    · have hmeas : (after r most + 1).toNat * (rs.length + 3) + rank rs (i + 1) ≤ μ := by
        unfold after
        by_cases hbg : r = .begin_
        · rw [if_pos hbg]
          have e1 : (most + 1).toNat = (most - 1 + 1).toNat + 1 := by omega
          rw [e1, Nat.add_mul, Nat.one_mul] at hμ
          have := rank_le rs (i + 1)
          omega
        · rw [if_neg hbg]
          have := rank_next hr hbg
          omega
      obtain ⟨F, res, hle, hF⟩ := ih (after r most) (i + 1) s' (f ++ tell (rwW r) i t) _ hmeas (hs i r hr hst) (key.2.2 hng) hb' hd'
      exact ⟨F + 1, res, by omega, (runM_on hm hr he).trans hF⟩
    · obtain ⟨p, hp, hor⟩ := hj i r k hr hk
      have hp2 := (List.getElem?_eq_some_iff.mp hp).1
      have hlk := lookup_at (i := 0) ok.nd hp
      rw [Nat.zero_add] at hlk
      have := rank_to hr hk hp hor
      obtain ⟨F, res, hle, hF⟩ := ih most p s f _ (by omega) hp2 (hf.at_label hp) hb fun c hc => hd c (key.2.1 k hk c hc)
      exact ⟨F + 1, res, by omega, (runM_to hm hr he hlk).trans hF⟩
    · exact ⟨1, _, by omega, runM_stop hm hr he⟩
/-- the cells of the parts -/
def partsC (ps : List Int) : Cs := (List.range ps.length).map fun i : Nat => ((i : Int), ps.getD i 0)
end Wt

set_option Elab.async false
set_option linter.all false
set_option maxRecDepth 100000
set_option maxHeartbeats 4000000
namespace Wt
open PySem PySem.Spec PyProof.Rows L2 SX Evl
/-! Rows of the machine as they are done; they do what the rows over cells do. -/
def pop (p : List Int) : Option (List Int × Int) := p.getLast?.map fun x => (p.dropLast, x)
theorem pop_app {q : List Int} {x : Int} : pop (q ++ [x]) = some (q, x) := by
  unfold pop
  rw [List.getLast?_concat, List.dropLast_concat] <;> rfl
theorem pop_app2 {q : List Int} {x y : Int} : pop (q ++ [x] ++ [y]) = some (q ++ [x], y) := pop_app
theorem pop_out {p q : List Int} {x : Int} (h : pop p = some (q, x)) : p = q ++ [x] := by
  unfold pop at h
  cases e : p.getLast? with
  | none => rw [e] at h; cases h
  | some y =>
    rw [e] at h
    have h2 : (p.dropLast, y) = (q, x) := Option.some.inj h
    obtain ⟨ys, rfl⟩ := List.getLast?_eq_some_iff.mp e
    rw [List.dropLast_concat] at h2
    cases h2
    rfl
inductive XOut
  | on (s : Sx) (p : List Int) (t : Option Rest)
  | to (p : List Int) (j : Int)
  | stop (t : Rest)
/-- does the row bring a worth -/
def brings (rs : List Rw) (i : Nat) : Bool := match rs[i]? with
  | some (.call (some _) _ _ _) => true
  | _ => false
def xOp (s : Sx) (q : List Int) : Int ⊕ Bool → XOut
  | .inl v => .on s (q ++ [v]) none
  | .inr b => .stop (.flat [.str (badS b)])
def effX (rs : List Rw) (s : Sx) (p : List Int) : Mr × Nat → Option XOut
  | (.row, _) => if p = [] then some (.on s p (some (.snap s.c))) else none
  | (.nothing, _) => if p = [] then some (.stop (.snap s.c)) else none
  | (.push n, _) => some (.on s (p ++ [n]) none)
  | (.load c, _) => (val s.c c).map fun x => .on s (p ++ [x]) none
  | (.store c, _) => (pop p).map fun q => .on ⟨aput s.c c q.2, s.k⟩ q.1 none
  | (.fetch f n, _) => some (.on s (p ++ [kget s.k f n]) (some (.flat [.str (fS f), .str (keepS n)])))
  | (.lay n, _) => (pop p).map fun q => .on ⟨s.c, aput s.k n q.2⟩ q.1 (some (.flat [.str (keepS n), .int q.2]))
  | (.op o, _) => match pop p with
    | some (q, y) => match pop q with
      | some (q2, x) => if inB x = true ∧ inB y = true then some (xOp s q2 (reckon o x y)) else none
      | none => none
    | none => none
  | (.jump k, _) => some (.to p k)
  | (.unless_ k, _) => (pop p).map fun q => if q.2 = 0 then .to q.1 k else .on s q.1 none
  | (.call f n many, i) => if many ≤ p.length then some (.on s (p.take (p.length - many) ++ (if brings rs i = true then [came (p.drop (p.length - many))] else [])) (some (.call f n (p.drop (p.length - many))))) else none
  | (.give true, _) => (pop p).map fun q => .stop (.flat [.int q.2])
  | (.give false, _) => some (.stop (.flat [.non]))
  | (.say k, _) => (pop p).map fun q => .on s q.1 (some (.flat [.str (kindS k), .int q.2]))
def mrT : Mr → Str
  | .row => Str.ofString "begin"
  | m => mrW m
def afterX (m : Mr) (most : Int) : Int := if m = .row then most - 1 else most
def runX (rs : List Rw) (ms : List (Mr × Nat)) : Nat → Int → Nat → List Int → Sx → List Fd → Option (List Fd)
  | 0, _, _, _, _, _ => none
  | n + 1, most, pc, p, s, f =>
    if most < 0 then some f else match ms[pc]? with
      | none => none
      | some m => match effX rs s p m with
        | none => none
        | some (.on s' p' t) => runX rs ms n (afterX m.1 most) (pc + 1) p' s' (f ++ tell (mrT m.1) m.2 t)
        | some (.to p' j) => runX rs ms n most j.toNat p' s f
        | some (.stop t) => some (f ++ [⟨mrT m.1, m.2, t⟩])
section
variable {rs : List Rw} {ms : List (Mr × Nat)} {n : Nat} {most : Int} {pc : Nat} {p p' : List Int} {s s' : Sx} {f : List Fd} {m : Mr × Nat}
theorem runX_on {t : Option Rest} (hm : 0 ≤ most) (h : ms[pc]? = some m) (he : effX rs s p m = some (.on s' p' t)) : runX rs ms (n + 1) most pc p s f = runX rs ms n (afterX m.1 most) (pc + 1) p' s' (f ++ tell (mrT m.1) m.2 t) := by
  conv => lhs; unfold runX
  rw [if_neg (by omega), h]
  show (match effX rs s p m with | none => none | some (.on s' p' t) => runX rs ms n (afterX m.1 most) (pc + 1) p' s' (f ++ tell (mrT m.1) m.2 t) | some (.to p' j) => _ | some (.stop t) => _) = _
  rw [he]
theorem runX_sil (hm : 0 ≤ most) (h : ms[pc]? = some m) (hr : m.1 ≠ .row) (he : effX rs s p m = some (.on s' p' none)) : runX rs ms (n + 1) most pc p s f = runX rs ms n most (pc + 1) p' s' f := by
  rw [runX_on hm h he]
  unfold afterX
  rw [if_neg hr]
  show runX rs ms n most (pc + 1) p' s' (f ++ []) = _
  rw [List.append_nil]
theorem runX_say {t : Rest} (hm : 0 ≤ most) (h : ms[pc]? = some m) (hr : m.1 ≠ .row) (he : effX rs s p m = some (.on s' p' (some t))) : runX rs ms (n + 1) most pc p s f = runX rs ms n most (pc + 1) p' s' (f ++ [⟨mrT m.1, m.2, t⟩]) := by
  rw [runX_on hm h he]
  unfold afterX
  rw [if_neg hr] <;> rfl
theorem runX_to {j : Int} (hm : 0 ≤ most) (h : ms[pc]? = some m) (he : effX rs s p m = some (.to p' j)) : runX rs ms (n + 1) most pc p s f = runX rs ms n most j.toNat p' s f := by
  conv => lhs; unfold runX
  rw [if_neg (by omega), h]
  show (match effX rs s p m with | none => none | some (.on s' p' t) => _ | some (.to p' j) => runX rs ms n most j.toNat p' s f | some (.stop t) => _) = _
  rw [he]
theorem runX_stop {t : Rest} (hm : 0 ≤ most) (h : ms[pc]? = some m) (he : effX rs s p m = some (.stop t)) : runX rs ms (n + 1) most pc p s f = some (f ++ [⟨mrT m.1, m.2, t⟩]) := by
  conv => lhs; unfold runX
  rw [if_neg (by omega), h]
  show (match effX rs s p m with | none => none | some (.on s' p' t) => _ | some (.to p' j) => _ | some (.stop t) => some (f ++ [(⟨mrT m.1, m.2, t⟩ : Fd)])) = _
  rw [he]
end
theorem first_succ {rs : List Rw} {i : Nat} {r : Rw} (h : rs[i]? = some r) : first rs (i + 1) = first rs i + (rowsFor r).length := by
  unfold first
  rw [List.take_succ, h, List.flatMap_append, List.length_append]
  show _ + ([r].flatMap rowsFor).length = _
  rw [List.flatMap_cons, List.flatMap_nil, List.append_nil]
theorem mach_at {rs : List Rw} {i j : Nat} {r : Rw} {m : Mr} (h : rs[i]? = some r) (hj : (rowsFor r)[j]? = some m) : (machine rs)[first rs i + j]? = some (withNum (goal rs) m, i) := by
  have hi := (List.getElem?_eq_some_iff.mp h).1
  have e : rs.drop i = r :: rs.drop (i + 1) := by
    rw [List.drop_eq_getElem_cons hi]
    congr 1
    rw [List.getElem?_eq_getElem hi] at h
    exact Option.some.inj h
  have e2 : madeFrom 0 rs = madeFrom 0 (rs.take i) ++ ((rowsFor r).map (fun m => (m, i)) ++ madeFrom (i + 1) (rs.drop (i + 1))) := by
    conv => lhs; rw [← List.take_append_drop i rs]
    rw [madeFrom_app, e, Nat.zero_add, List.length_take, Nat.min_eq_left (Nat.le_of_lt hi)] <;> rfl
  have l : (madeFrom 0 (rs.take i)).length = first rs i := madeFrom_len 0 (rs.take i)
  unfold machine
  rw [List.getElem?_map, e2, ← l]
  rw [get_app_r (get_app_l (a := (m, i)) (by rw [List.getElem?_map, hj] <;> rfl))] <;> rfl
theorem val_in {c : Cs} {k x : Int} (h : val c k = some x) : inB x = true := by
  unfold val at h
  cases e : aval c k with
  | none => rw [e] at h; cases h
  | some y =>
    rw [e] at h
    have h2 : (if inB y = true then some y else none) = some x := h
    split at h2
    · rename_i hb
      cases h2
      exact hb
    · cases h2
theorem vals_len {c : Cs} : ∀ {cs xs : List Int}, vals c cs = some xs → xs.length = cs.length
  | [], xs, h => by cases h; rfl
  | k :: cs, xs, h => by
    unfold vals at h
    cases e1 : val c k with
    | none => rw [e1] at h; cases h
    | some x =>
      cases e2 : vals c cs with
      | none => rw [e1, e2] at h; cases h
      | some ys =>
        rw [e1, e2] at h
        have h2 : x :: ys = xs := Option.some.inj h
        rw [← h2, List.length_cons, List.length_cons, vals_len e2]
theorem runX_loads {rs : List Rw} {ms : List (Mr × Nat)} {n : Nat} {most : Int} {s : Sx} {f : List Fd} {i : Nat} (hm : 0 ≤ most) : ∀ {cs xs : List Int} {pc : Nat} {p : List Int}, (∀ j c, cs[j]? = some c → ms[pc + j]? = some (.load c, i)) → vals s.c cs = some xs → runX rs ms (n + cs.length) most pc p s f = runX rs ms n most (pc + cs.length) (p ++ xs) s f
  | [], xs, pc, p, h, hv => by
    cases hv
    rw [List.append_nil] <;> rfl
  | c :: cs, xs, pc, p, h, hv => by
    unfold vals at hv
    cases e1 : val s.c c with
    | none => rw [e1] at hv; cases hv
    | some x =>
      cases e2 : vals s.c cs with
      | none => rw [e1, e2] at hv; cases hv
      | some ys =>
        rw [e1, e2] at hv
        have h2 : x :: ys = xs := Option.some.inj hv
        subst h2
        have h0 : ms[pc]? = some (.load c, i) := h 0 c rfl
        have st : effX rs s p (.load c, i) = some (.on s (p ++ [x]) none) := by
          show (val s.c c).map _ = _
          rw [e1] <;> rfl
        have ih := runX_loads (rs := rs) (n := n) (f := f) hm (p := p ++ [x]) (pc := pc + 1) (fun j c hc => by
          have := h (j + 1) c hc
          rw [show pc + 1 + j = pc + (j + 1) by omega]
          exact this) e2
        rw [List.length_cons, show n + (cs.length + 1) = (n + cs.length) + 1 by omega, runX_sil hm h0 (by intro z; cases z) st, ih, List.append_assoc, show pc + 1 + cs.length = pc + (cs.length + 1) by omega] <;> rfl
theorem goal_lookup {rs : List Rw} {k : Int} {j : Nat} (h : (labAt 0 rs).lookup k = some j) : (goal rs k).toNat = first rs j := by
  unfold goal
  rw [h] <;> rfl
/-- the machine's rows do what the rows over cells do -/
theorem runX_of {rs : List Rw} (ok : RowsOk rs) : ∀ (F : Nat) {most : Int} {i : Nat} {s : Sx} {f res : List Fd}, runM rs F most i s f = some res → ∃ F', F' ≤ 5 * F ∧ runX rs (machine rs) F' most (first rs i) [] s f = some res
  | 0, _, _, _, _, _, h => by cases h
  | F + 1, most, i, s, f, res, h => by
    rcases (show most < 0 ∨ 0 ≤ most by omega) with hm | hm
    · unfold runM at h
      rw [if_pos hm] at h
      refine ⟨1, by omega, ?_⟩
      unfold runX
      rw [if_pos hm]
      exact h
    cases hr : rs[i]? with
    | none =>
      unfold runM at h
      rw [if_neg (by omega), hr] at h
      cases h
    | some r =>
      have at_ : ∀ {j : Nat} {m : Mr}, (rowsFor r)[j]? = some m → (machine rs)[first rs i + j]? = some (withNum (goal rs) m, i) := fun hj => mach_at hr hj
      have at0 : ∀ {m : Mr}, (rowsFor r)[0]? = some m → (machine rs)[first rs i]? = some (withNum (goal rs) m, i) := fun hj => at_ hj
      have nx := first_succ hr
      have hfew := ok.cs r (List.mem_of_getElem? hr)
      have noE : eff s r = none → False := fun he => by
        unfold runM at h
        rw [if_neg (by omega), hr] at h
        have h2 : (match eff s r with | none => none | some (.on s' t) => runM rs F (after r most) (i + 1) s' (f ++ tell (rwW r) i t) | some (.to k) => (match (labAt 0 rs).lookup k with | some j => runM rs F most j s f | none => none) | some (.stop t) => some (f ++ [(⟨rwW r, i, t⟩ : Fd)])) = some res := h
        rw [he] at h2
        cases h2
      cases r with
      | begin_ =>
        rw [runM_on hm hr rfl] at h
        obtain ⟨F', hl, hF⟩ := runX_of ok F h
        rw [nx] at hF
        exact ⟨F' + 1, by omega, (runX_on hm (at0 rfl) (s' := s) (p' := []) (t := some (.snap s.c)) rfl).trans hF⟩
      | nothing =>
        rw [runM_stop hm hr rfl] at h
        exact ⟨1, by omega, (runX_stop hm (at0 rfl) (t := .snap s.c) rfl).trans h⟩
      | put c x =>
        rw [runM_on hm hr rfl] at h
        obtain ⟨F', hl, hF⟩ := runX_of ok F h
        rw [nx] at hF
        have hF2 : runX rs (machine rs) F' most (first rs i + 2) [] ⟨aput s.c c x, s.k⟩ f = some res := by
          have e : f ++ tell (rwW (.put c x)) i none = f := List.append_nil f
          rw [e] at hF
          exact hF
        exact ⟨F' + 2, by omega, (runX_sil hm (at0 rfl) (by intro z; cases z) (s' := s) (p' := [x]) rfl).trans ((runX_sil hm (at_ (j := 1) rfl) (by intro z; cases z) (s' := ⟨aput s.c c x, s.k⟩) (p' := []) rfl).trans hF2)⟩
      | copy c d =>
        cases hv : val s.c d with
        | none => exact (noE (by show (val s.c d).map _ = _; rw [hv] <;> rfl)).elim
        | some x =>
          rw [runM_on hm hr (eff_copy hv)] at h
          obtain ⟨F', hl, hF⟩ := runX_of ok F h
          rw [nx] at hF
          have hF2 : runX rs (machine rs) F' most (first rs i + 2) [] ⟨aput s.c c x, s.k⟩ f = some res := by
            have e : f ++ tell (rwW (.copy c d)) i none = f := List.append_nil f
            rw [e] at hF
            exact hF
          have ld : effX rs s [] (withNum (goal rs) (.load d), i) = some (.on s [x] none) := by
            show (val s.c d).map _ = _
            rw [hv] <;> rfl
          exact ⟨F' + 2, by omega, (runX_sil hm (at0 rfl) (by intro z; cases z) ld).trans ((runX_sil hm (at_ (j := 1) rfl) (by intro z; cases z) (s' := ⟨aput s.c c x, s.k⟩) (p' := []) rfl).trans hF2)⟩
      | op o c d e =>
        cases hv : val s.c d with
        | none => exact (noE (by show (match val s.c d, val s.c e with | some x, some y => some (opOut o c s (reckon o x y)) | _, _ => none) = _; rw [hv])).elim
        | some x =>
          cases hv2 : val s.c e with
          | none => exact (noE (by show (match val s.c d, val s.c e with | some x, some y => some (opOut o c s (reckon o x y)) | _, _ => none) = _; rw [hv, hv2])).elim
          | some y =>
            have ld : effX rs s [] (withNum (goal rs) (.load d), i) = some (.on s [x] none) := by
              show (val s.c d).map _ = _
              rw [hv] <;> rfl
            have ld2 : effX rs s [x] (withNum (goal rs) (.load e), i) = some (.on s ([x] ++ [y]) none) := by
              show (val s.c e).map _ = _
              rw [hv2] <;> rfl
            have op : effX rs s ([x] ++ [y]) (withNum (goal rs) (.op o), i) = some (xOp s [] (reckon o x y)) := by
              show (match pop ([x] ++ [y]) with | some (q, y) => (match pop q with | some (q2, x) => if inB x = true ∧ inB y = true then some (xOp s q2 (reckon o x y)) else none | none => none) | none => none) = _
              rw [pop_app]
              show (match pop ([] ++ [x]) with | some (q2, x) => if inB x = true ∧ inB y = true then some (xOp s q2 (reckon o x y)) else none | none => none) = _
              rw [pop_app]
              show (if inB x = true ∧ inB y = true then _ else none) = _
              rw [if_pos ⟨val_in hv, val_in hv2⟩]
            have eo := eff_op (o := o) (c := c) hv hv2
            cases e2 : reckon o x y with
            | inl v =>
              rw [e2] at eo op
              rw [runM_on hm hr eo] at h
              obtain ⟨F', hl, hF⟩ := runX_of ok F h
              rw [nx] at hF
              have hF2 : runX rs (machine rs) F' most (first rs i + 4) [] ⟨aput s.c c v, s.k⟩ f = some res := by
                have e : f ++ tell (rwW (.op o c d e)) i none = f := List.append_nil f
                rw [e] at hF
                exact hF
              exact ⟨F' + 4, by omega, (runX_sil hm (at0 rfl) (by intro z; cases z) ld).trans ((runX_sil hm (at_ (j := 1) rfl) (by intro z; cases z) ld2).trans ((runX_sil hm (at_ (j := 2) rfl) (by intro z; cases z) op).trans ((runX_sil hm (at_ (j := 3) rfl) (by intro z; cases z) (s' := ⟨aput s.c c v, s.k⟩) (p' := []) rfl).trans hF2)))⟩
            | inr b =>
              rw [e2] at eo op
              rw [runM_stop hm hr eo] at h
              exact ⟨3, by omega, (runX_sil hm (at0 rfl) (by intro z; cases z) ld).trans ((runX_sil hm (at_ (j := 1) rfl) (by intro z; cases z) ld2).trans ((runX_stop hm (at_ (j := 2) rfl) op).trans h))⟩
      | fetch c fb nb =>
        rw [runM_on hm hr rfl] at h
        obtain ⟨F', hl, hF⟩ := runX_of ok F h
        rw [nx] at hF
        exact ⟨F' + 2, by omega, (runX_say hm (at0 rfl) (by intro z; cases z) (s' := s) (p' := [kget s.k fb nb]) (t := .flat [.str (fS fb), .str (keepS nb)]) rfl).trans ((runX_sil hm (at_ (j := 1) rfl) (by intro z; cases z) (s' := ⟨aput s.c c (kget s.k fb nb), s.k⟩) (p' := []) rfl).trans hF)⟩
      | lay nb c =>
        cases hv : val s.c c with
        | none => exact (noE (by show (val s.c c).map _ = _; rw [hv] <;> rfl)).elim
        | some x =>
          rw [runM_on hm hr (eff_lay hv)] at h
          obtain ⟨F', hl, hF⟩ := runX_of ok F h
          rw [nx] at hF
          have ld : effX rs s [] (withNum (goal rs) (.load c), i) = some (.on s [x] none) := by
            show (val s.c c).map _ = _
            rw [hv] <;> rfl
          exact ⟨F' + 2, by omega, (runX_sil hm (at0 rfl) (by intro z; cases z) ld).trans ((runX_say hm (at_ (j := 1) rfl) (by intro z; cases z) (s' := ⟨s.c, aput s.k nb x⟩) (p' := []) (t := .flat [.str (keepS nb), .int x]) rfl).trans hF)⟩
      | label k =>
        rw [runM_on hm hr rfl] at h
        obtain ⟨F', hl, hF⟩ := runX_of ok F h
        rw [nx] at hF
        have e : f ++ tell (rwW (.label k)) i none = f := List.append_nil f
        rw [e] at hF
        exact ⟨F', by omega, hF⟩
      | go k =>
        have hk := ok.js k (jumps_mem hr rfl)
        rw [← labAt_fst 0 rs] at hk
        obtain ⟨j, hj, _⟩ := lookup_mem hk
        rw [runM_to hm hr rfl hj] at h
        obtain ⟨F', hl, hF⟩ := runX_of ok F h
        rw [← goal_lookup hj] at hF
        exact ⟨F' + 1, by omega, (runX_to hm (at0 rfl) (p' := []) (j := goal rs k) rfl).trans hF⟩
      | unless_ c k =>
        have hk := ok.js k (jumps_mem hr rfl)
        rw [← labAt_fst 0 rs] at hk
        obtain ⟨j, hj, _⟩ := lookup_mem hk
        cases hv : val s.c c with
        | none => exact (noE (by show (val s.c c).map _ = _; rw [hv] <;> rfl)).elim
        | some x =>
          have ld : effX rs s [] (withNum (goal rs) (.load c), i) = some (.on s ([] ++ [x]) none) := by
            show (val s.c c).map _ = _
            rw [hv] <;> rfl
          have un : effX rs s ([] ++ [x]) (withNum (goal rs) (.unless_ k), i) = some (if x = 0 then .to [] (goal rs k) else .on s [] none) := by
            show (pop ([] ++ [x])).map (fun q => if q.2 = 0 then XOut.to q.1 (goal rs k) else XOut.on s q.1 none) = _
            rw [pop_app] <;> rfl
          have eu := eff_unless (k := k) hv
          by_cases hx : x = 0
          · rw [if_pos hx] at eu un
            rw [runM_to hm hr eu hj] at h
            obtain ⟨F', hl, hF⟩ := runX_of ok F h
            rw [← goal_lookup hj] at hF
            exact ⟨F' + 2, by omega, (runX_sil hm (at0 rfl) (by intro z; cases z) ld).trans ((runX_to hm (at_ (j := 1) rfl) un).trans hF)⟩
          · rw [if_neg hx] at eu un
            rw [runM_on hm hr eu] at h
            obtain ⟨F', hl, hF⟩ := runX_of ok F h
            rw [nx] at hF
            have e : f ++ tell (rwW (.unless_ c k)) i none = f := List.append_nil f
            rw [e] at hF
            exact ⟨F' + 2, by omega, (runX_sil hm (at0 rfl) (by intro z; cases z) ld).trans ((runX_sil hm (at_ (j := 1) rfl) (by intro z; cases z) un).trans hF)⟩
      | call oc fb nb cs =>
        have hcs : cs.length ≤ 3 := of_decide_eq_true hfew
        cases hv : vals s.c cs with
        | none => exact (noE (by show (vals s.c cs).map _ = _; rw [hv] <;> rfl)).elim
        | some xs =>
          have lxs := vals_len hv
          rw [runM_on hm hr (eff_call hv)] at h
          obtain ⟨F', hl, hF⟩ := runX_of ok F h
          rw [nx] at hF
          have hb : brings rs i = oc.isSome := by
            unfold brings
            rw [hr]
            cases oc <;> rfl
          have lds : ∀ (j : Nat) (c : Int), cs[j]? = some c → (rowsFor (.call oc fb nb cs))[j]? = some (.load c) := fun j c hc => by
            have h1 : (cs.map Mr.load)[j]? = some (.load c) := by rw [List.getElem?_map, hc] <;> rfl
            cases oc with
            | none => exact get_app_l h1
            | some x => exact get_app_l (get_app_l h1)
          have hcall : (rowsFor (.call oc fb nb cs))[cs.length]? = some (.call fb nb cs.length) := by
            have e : (cs.map Mr.load).length = cs.length := List.length_map ..
            have h1 : (cs.map Mr.load ++ [Mr.call fb nb cs.length])[cs.length]? = some (.call fb nb cs.length) := by
              have := get_app_r (xs := cs.map Mr.load) (ys := [Mr.call fb nb cs.length]) (i := 0) (a := .call fb nb cs.length) rfl
              rw [e] at this
              exact this
            cases oc with
            | none => exact h1
            | some x => exact get_app_l h1
          have cl : effX rs s ([] ++ xs) (withNum (goal rs) (.call fb nb cs.length), i) = some (.on s (if oc.isSome = true then [came xs] else []) (some (.call fb nb xs))) := by
            show (if cs.length ≤ ([] ++ xs).length then some (XOut.on s (([] ++ xs).take (([] ++ xs).length - cs.length) ++ (if brings rs i = true then [came (([] ++ xs).drop (([] ++ xs).length - cs.length))] else [])) (some (.call fb nb (([] ++ xs).drop (([] ++ xs).length - cs.length))))) else none) = _
            rw [List.nil_append, lxs, Nat.sub_self, if_pos (Nat.le_refl _), hb] <;> rfl
          have ld := fun (n : Nat) => runX_loads (n := n) (rs := rs) (ms := machine rs) (s := s) (f := f) (most := most) (i := i) hm (pc := first rs i) (p := []) (fun j c hc => at_ (lds j c hc)) hv
          cases oc with
          | none =>
            have ln : (rowsFor (.call none fb nb cs)).length = cs.length + 1 := by
              show (cs.map Mr.load ++ [Mr.call fb nb cs.length]).length = _
              rw [List.length_append, List.length_map] <;> rfl
            rw [ln] at hF
            exact ⟨(F' + 1) + cs.length, by omega, (ld (F' + 1)).trans ((runX_say hm (at_ hcall) (by intro z; cases z) cl).trans hF)⟩
          | some c =>
            have ln : (rowsFor (.call (some c) fb nb cs)).length = cs.length + 1 + 1 := by
              show (cs.map Mr.load ++ [Mr.call fb nb cs.length] ++ [Mr.store c]).length = _
              rw [List.length_append, List.length_append, List.length_map] <;> rfl
            rw [ln] at hF
            have hst : (rowsFor (.call (some c) fb nb cs))[cs.length + 1]? = some (.store c) := by
              have := get_app_r (xs := cs.map Mr.load ++ [Mr.call fb nb cs.length]) (ys := [Mr.store c]) (i := 0) (a := .store c) rfl
              rw [List.length_append, List.length_map] at this
              exact this
            exact ⟨(F' + 1 + 1) + cs.length, by omega, (ld (F' + 1 + 1)).trans ((runX_say hm (at_ hcall) (by intro z; cases z) cl).trans ((runX_sil hm (at_ hst) (by intro z; cases z) (s' := ⟨aput s.c c (came xs), s.k⟩) (p' := []) rfl).trans hF))⟩
      | say k c =>
        cases hv : val s.c c with
        | none => exact (noE (by show (val s.c c).map _ = _; rw [hv] <;> rfl)).elim
        | some x =>
          rw [runM_on hm hr (eff_say hv)] at h
          obtain ⟨F', hl, hF⟩ := runX_of ok F h
          rw [nx] at hF
          have ld : effX rs s [] (withNum (goal rs) (.load c), i) = some (.on s [x] none) := by
            show (val s.c c).map _ = _
            rw [hv] <;> rfl
          exact ⟨F' + 2, by omega, (runX_sil hm (at0 rfl) (by intro z; cases z) ld).trans ((runX_say hm (at_ (j := 1) rfl) (by intro z; cases z) (s' := s) (p' := []) (t := .flat [.str (kindS k), .int x]) rfl).trans hF)⟩
      | give oc =>
        cases oc with
        | none =>
          rw [runM_stop hm hr rfl] at h
          exact ⟨1, by omega, (runX_stop hm (at0 rfl) (t := .flat [.non]) rfl).trans h⟩
        | some c =>
          cases hv : val s.c c with
          | none => exact (noE (by show (val s.c c).map _ = _; rw [hv] <;> rfl)).elim
          | some x =>
            rw [runM_stop hm hr (eff_give hv)] at h
            have ld : effX rs s [] (withNum (goal rs) (.load c), i) = some (.on s [x] none) := by
              show (val s.c c).map _ = _
              rw [hv] <;> rfl
            exact ⟨2, by omega, (runX_sil hm (at0 rfl) (by intro z; cases z) ld).trans ((runX_stop hm (at_ (j := 1) rfl) (t := .flat [.int x]) rfl).trans h)⟩
end Wt

set_option Elab.async false
set_option linter.all false
set_option maxRecDepth 100000
set_option maxHeartbeats 4000000
namespace Wt
open PySem PySem.Spec PyProof.Rows L2 SX Evl
/-! Rows with rows of no use put in. -/
/-- the n-th row of no use: it lays a cell that nobody reads, or is a label that nobody goes to -/
def isPad (c0 : Option Int) (n : Nat) (x : Rw) : Prop := x = .put (700 + (n : Int)) 7 ∨ x = .label (800 + (n : Int)) ∨ ∃ c, c0 = some c ∧ x = .copy (700 + (n : Int)) c
/-- rows, the padded ones, the new numbers; from the n-th pad, the off-th new row on -/
inductive Padded (c0 : Option Int) : Nat → Nat → List Rw → List Rw → List Nat → Prop
  | nil {n off : Nat} : Padded c0 n off [] [] []
  | keep {n off : Nat} {r : Rw} {rs qs : List Rw} {ns : List Nat} : Padded c0 n (off + 1) rs qs ns → Padded c0 n off (r :: rs) (r :: qs) (off :: ns)
  | pad {n off : Nat} {x r : Rw} {rs qs : List Rw} {ns : List Nat} : isPad c0 (n + 1) x → Padded c0 (n + 1) (off + 2) rs qs ns → Padded c0 n off (r :: rs) (x :: r :: qs) ((off + 1) :: ns)
theorem isPad.lab {c0 : Option Int} {n : Nat} {x : Rw} (h : isPad c0 n x) : labs [x] = [] ∨ labs [x] = [800 + (n : Int)] := by
  rcases h with rfl | rfl | ⟨c, _, rfl⟩
  · exact .inl rfl
  · exact .inr rfl
  · exact .inl rfl
theorem isPad.jump {c0 : Option Int} {n : Nat} {x : Rw} (h : isPad c0 n x) : jump1 x = [] := by
  rcases h with rfl | rfl | ⟨c, _, rfl⟩ <;> rfl
theorem isPad.few {c0 : Option Int} {n : Nat} {x : Rw} (h : isPad c0 n x) : fewC x = true := by
  rcases h with rfl | rfl | ⟨c, _, rfl⟩ <;> first | rfl | decide
theorem labs_cons (r : Rw) (rs : List Rw) : labs (r :: rs) = labs [r] ++ labs rs := by
  show labs ([r] ++ rs) = _
  rw [labs_app]
theorem jumps_cons (r : Rw) (rs : List Rw) : jumps (r :: rs) = jump1 r ++ jumps rs := List.flatMap_cons
/-- labels of padded rows: the rows' own, and new ones beyond n -/
theorem Padded.labs {c0 : Option Int} {n off : Nat} {rs qs : List Rw} {ns : List Nat} (h : Padded c0 n off rs qs ns) : (∀ k, k ∈ Wt.labs rs → k ∈ Wt.labs qs) ∧ (∀ k, k ∈ Wt.labs qs → k ∈ Wt.labs rs ∨ 800 + (n : Int) < k) ∧ jumps qs = jumps rs ∧ qs.length ≤ 2 * rs.length ∧ ((∀ r ∈ rs, fewC r = true) → ∀ r ∈ qs, fewC r = true) := by
  induction h with
  | nil => exact ⟨fun _ z => z, fun _ z => .inl z, rfl, Nat.le_refl _, fun _ _ z => by cases z⟩
  | @keep n off r rs qs ns _ ih =>
    obtain ⟨h1, h2, h3, h4, h5⟩ := ih
    refine ⟨fun k hk => ?_, fun k hk => ?_, by rw [jumps_cons, jumps_cons, h3], by rw [List.length_cons, List.length_cons]; omega, fun hf x hx => ?_⟩
    · rw [labs_cons r rs] at hk
      rw [labs_cons r qs]
      rcases List.mem_append.mp hk with z | z
      · exact List.mem_append_left _ z
      · exact List.mem_append_right _ (h1 k z)
    · rw [labs_cons r qs] at hk
      rw [labs_cons r rs]
      rcases List.mem_append.mp hk with z | z
      · exact .inl (List.mem_append_left _ z)
      · exact (h2 k z).imp (fun y => List.mem_append_right _ y) id
    · rcases List.mem_cons.mp hx with rfl | hx
      · exact hf _ (List.mem_cons_self ..)
      · exact h5 (fun y hy => hf y (List.mem_cons_of_mem _ hy)) x hx
  | @pad n off x r rs qs ns hp _ ih =>
    obtain ⟨h1, h2, h3, h4, h5⟩ := ih
    refine ⟨fun k hk => ?_, fun k hk => ?_, by rw [jumps_cons, jumps_cons, jumps_cons, h3, hp.jump] <;> rfl, by rw [List.length_cons, List.length_cons, List.length_cons]; omega, fun hf y hy => ?_⟩
    · rw [labs_cons r rs] at hk
      rw [labs_cons x (r :: qs), labs_cons r qs]
      refine List.mem_append_right _ ?_
      rcases List.mem_append.mp hk with z | z
      · exact List.mem_append_left _ z
      · exact List.mem_append_right _ (h1 k z)
    · rw [labs_cons x (r :: qs), labs_cons r qs] at hk
      rw [labs_cons r rs]
      rcases List.mem_append.mp hk with z | z
      · rcases hp.lab with e | e
        · rw [e] at z; cases z
        · rw [e] at z
          rw [List.mem_singleton.mp z]
          exact .inr (by omega)
      · rcases List.mem_append.mp z with z | z
        · exact .inl (List.mem_append_left _ z)
        · rcases h2 k z with y | y
          · exact .inl (List.mem_append_right _ y)
          · exact .inr (by omega)
    · rcases List.mem_cons.mp hy with rfl | hy
      · exact hp.few
      · rcases List.mem_cons.mp hy with rfl | hy
        · exact hf _ (List.mem_cons_self ..)
        · exact h5 (fun z hz => hf z (List.mem_cons_of_mem _ hz)) y hy
theorem Padded.nd {c0 : Option Int} {n off : Nat} {rs qs : List Rw} {ns : List Nat} (h : Padded c0 n off rs qs ns) : (Wt.labs rs).Nodup → (∀ k ∈ Wt.labs rs, k ≤ 800) → (Wt.labs qs).Nodup := by
  induction h with
  | nil => exact fun h _ => h
  | @keep n off r rs qs ns hh ih =>
    intro hn hb
    rw [labs_cons r rs] at hn hb
    rw [labs_cons r qs]
    have hn2 := List.nodup_append.mp hn
    refine nodup_app hn2.1 (ih hn2.2.1 fun k hk => hb k (List.mem_append_right _ hk)) fun k hk hq => ?_
    rcases hh.labs.2.1 k hq with z | z
    · exact hn2.2.2 k hk k z rfl
    · have := hb k (List.mem_append_left _ hk)
      omega
  | @pad n off x r rs qs ns hp hh ih =>
    intro hn hb
    rw [labs_cons r rs] at hn hb
    rw [labs_cons x (r :: qs), labs_cons r qs]
    have hn2 := List.nodup_append.mp hn
    have l2 : (Wt.labs [r] ++ Wt.labs qs).Nodup := by
      refine nodup_app hn2.1 (ih hn2.2.1 fun k hk => hb k (List.mem_append_right _ hk)) fun k hk hq => ?_
      rcases hh.labs.2.1 k hq with z | z
      · exact hn2.2.2 k hk k z rfl
      · have := hb k (List.mem_append_left _ hk)
        omega
    rcases hp.lab with e | e
    · rw [e]; exact l2
    · rw [e]
      refine nodup_app (by simp) l2 fun k hk hq => ?_
      rw [List.mem_singleton.mp hk] at hq
      rcases List.mem_append.mp hq with z | z
      · have := hb _ (List.mem_append_left _ z)
        omega
      · rcases hh.labs.2.1 _ z with y | y
        · have := hb _ (List.mem_append_right _ y)
          omega
        · omega
theorem Padded.ok {c0 : Option Int} {n off : Nat} {rs qs : List Rw} {ns : List Nat} (h : Padded c0 n off rs qs ns) (ok : RowsOk rs) (hb : ∀ k ∈ Wt.labs rs, k ≤ 800) (hl : rs.length ≤ 200) : RowsOk qs := by
  obtain ⟨h1, h2, h3, h4, h5⟩ := h.labs
  refine ⟨h.nd ok.nd hb, fun k hk => h1 k (ok.js k (by rw [← h3]; exact hk)), by omega, h5 ok.cs⟩
/-- where rows stand -/
theorem Padded.at {c0 : Option Int} {n off : Nat} {rs qs : List Rw} {ns : List Nat} (h : Padded c0 n off rs qs ns) : ∀ {i : Nat} {r : Rw}, rs[i]? = some r → ∃ p, ns[i]? = some (off + p) ∧ qs[p]? = some r ∧ (∀ r2, rs[i + 1]? = some r2 → (ns[i + 1]? = some (off + p + 1)) ∨ (ns[i + 1]? = some (off + p + 2) ∧ ∃ m x, n < m ∧ isPad c0 m x ∧ qs[p + 1]? = some x)) := by
  induction h with
  | nil => intro i r hi; simp at hi
  | @keep n off r0 rs qs ns hh ih =>
    intro i r hi
    cases i with
    | zero =>
      cases hi
      refine ⟨0, rfl, rfl, fun r2 h2 => ?_⟩
      have h2' : rs[0]? = some r2 := h2
      cases hh with
      | nil => simp at h2'
      | keep hh2 => exact .inl rfl
      | pad hp hh2 => exact .inr ⟨rfl, _, _, Nat.lt_succ_self _, hp, rfl⟩
    | succ i =>
      obtain ⟨p, h1, h2, h3⟩ := ih (i := i) hi
      refine ⟨p + 1, by show ns[i]? = _; rw [h1]; congr 1; omega, h2, fun r2 hr2 => ?_⟩
      rcases h3 r2 hr2 with z | ⟨z, m, x, hm, hx, hq⟩
      · exact .inl (by show ns[i + 1]? = _; rw [z]; congr 1; omega)
      · exact .inr ⟨by show ns[i + 1]? = _; rw [z]; congr 1; omega, m, x, hm, hx, hq⟩
  | @pad n off x0 r0 rs qs ns hp0 hh ih =>
    intro i r hi
    cases i with
    | zero =>
      cases hi
      refine ⟨1, rfl, rfl, fun r2 h2 => ?_⟩
      have h2' : rs[0]? = some r2 := h2
      cases hh with
      | nil => simp at h2'
      | keep hh2 => exact .inl rfl
      | pad hp hh2 => exact .inr ⟨rfl, _, _, by omega, hp, rfl⟩
    | succ i =>
      obtain ⟨p, h1, h2, h3⟩ := ih (i := i) hi
      refine ⟨p + 2, by show ns[i]? = _; rw [h1]; congr 1; omega, h2, fun r2 hr2 => ?_⟩
      rcases h3 r2 hr2 with z | ⟨z, m, x, hm, hx, hq⟩
      · exact .inl (by show ns[i + 1]? = _; rw [z]; congr 1; omega)
      · exact .inr ⟨by show ns[i + 1]? = _; rw [z]; congr 1; omega, m, x, by omega, hx, hq⟩
/-! ### the run -/
/-- the same but for cells from 700 on -/
structure Like7 (s s' : Sx) : Prop where
  c : ∀ k, k < 700 → aval s'.c k = aval s.c k
  k : s'.k = s.k
def restLike : Rest → Rest → Prop
  | .snap _, .snap _ => True
  | r, r' => r = r'
/-- what is told, by new numbers -/
structure FdLike (ns : List Nat) (e e' : Fd) : Prop where
  w : e'.w = e.w
  at_ : ns[e.at_]? = some e'.at_
  rest : restLike e.rest e'.rest
inductive FdsLike (ns : List Nat) : List Fd → List Fd → Prop
  | nil : FdsLike ns [] []
  | cons {e e' es es'} : FdLike ns e e' → FdsLike ns es es' → FdsLike ns (e :: es) (e' :: es')
theorem FdsLike.snoc {ns : List Nat} {es es' : List Fd} {e e' : Fd} (h : FdsLike ns es es') (g : FdLike ns e e') : FdsLike ns (es ++ [e]) (es' ++ [e']) := by
  induction h with
  | nil => exact .cons g .nil
  | cons h1 _ ih => exact .cons h1 ih
theorem restLike.refl (r : Rest) : restLike r r := by cases r <;> first | exact True.intro | rfl
theorem Like7.val {s s' : Sx} (h : Like7 s s') {k : Int} (hk : k < 700) : val s'.c k = val s.c k := by
  unfold Wt.val
  rw [h.c k hk]
theorem Like7.vals {s s' : Sx} (h : Like7 s s') : ∀ {cs : List Int}, (∀ k ∈ cs, k < 700) → vals s'.c cs = vals s.c cs
  | [], _ => rfl
  | k :: cs, hk => by
    unfold Wt.vals
    rw [h.val (hk k (List.mem_cons_self ..)), h.vals fun j hj => hk j (List.mem_cons_of_mem _ hj)]
theorem Like7.put {s s' : Sx} (h : Like7 s s') (k v : Int) : Like7 ⟨aput s.c k v, s.k⟩ ⟨aput s'.c k v, s'.k⟩ := ⟨fun j hj => by
  show aval (aput s'.c k v) j = aval (aput s.c k v) j
  rw [aval_put, aval_put, h.c j hj], h.k⟩
theorem Like7.far {s s' : Sx} (h : Like7 s s') {k : Int} (hk : 700 ≤ k) (v : Int) : Like7 s ⟨aput s'.c k v, s'.k⟩ := ⟨fun j hj => by
  show aval (aput s'.c k v) j = aval s.c j
  rw [aval_put, if_neg (by omega)]
  exact h.c j hj, h.k⟩
theorem Like7.lay {s s' : Sx} (h : Like7 s s') (n : Bool) (v : Int) : Like7 ⟨s.c, aput s.k n v⟩ ⟨s'.c, aput s'.k n v⟩ := ⟨h.c, by show aput s'.k n v = aput s.k n v; rw [h.k]⟩
def outLike : Option Out → Option Out → Prop
  | none, none => True
  | some (.on s t), some (.on s' t') => Like7 s s' ∧ (t = none ∧ t' = none ∨ ∃ r r', t = some r ∧ t' = some r' ∧ restLike r r')
  | some (.to k), some (.to k') => k = k'
  | some (.stop r), some (.stop r') => restLike r r'
  | _, _ => False
theorem eff_like {s s' : Sx} {r : Rw} (h : Like7 s s') (hc : ∀ c ∈ reads r ++ writes r, c < 700) : outLike (eff s r) (eff s' r) := by
  have rd : ∀ c ∈ reads r, val s'.c c = val s.c c := fun c hk => h.val (hc c (List.mem_append_left _ hk))
  cases r with
  | begin_ => exact ⟨h, .inr ⟨_, _, rfl, rfl, True.intro⟩⟩
  | nothing => exact True.intro
  | put c n => exact ⟨h.put c n, .inl ⟨rfl, rfl⟩⟩
  | copy c d =>
    have e := rd d (List.mem_singleton.mpr rfl)
    cases hv : val s.c d with
    | none =>
      have e1 : eff s (.copy c d) = none := by show (val s.c d).map _ = _; rw [hv] <;> rfl
      have e2 : eff s' (.copy c d) = none := by show (val s'.c d).map _ = _; rw [e, hv] <;> rfl
      rw [e1, e2]; exact True.intro
    | some x =>
      rw [eff_copy hv, eff_copy (e.trans hv)]
      exact ⟨h.put c x, .inl ⟨rfl, rfl⟩⟩
  | op o c d e =>
    have e1 := rd d (List.mem_cons_self ..)
    have e2 := rd e (List.mem_cons_of_mem _ (List.mem_cons_self ..))
    have en : ∀ t : Sx, eff t (.op o c d e) = match val t.c d, val t.c e with | some x, some y => some (opOut o c t (reckon o x y)) | _, _ => none := fun t => rfl
    cases hv : val s.c d with
    | none => rw [en s, en s', e1, hv]; exact True.intro
    | some x =>
      cases hv2 : val s.c e with
      | none => rw [en s, en s', e1, e2, hv, hv2]; exact True.intro
      | some y =>
        rw [eff_op hv hv2, eff_op (e1.trans hv) (e2.trans hv2)]
        cases reckon o x y with
        | inl v => exact ⟨h.put c v, .inl ⟨rfl, rfl⟩⟩
        | inr b => exact (show restLike (.flat [.str (badS b)]) (.flat [.str (badS b)]) from rfl)
  | fetch c f n =>
    refine ⟨?_, .inr ⟨_, _, rfl, rfl, restLike.refl _⟩⟩
    show Like7 ⟨aput s.c c (kget s.k f n), s.k⟩ ⟨aput s'.c c (kget s'.k f n), s'.k⟩
    rw [show kget s'.k f n = kget s.k f n by rw [h.k]]
    exact h.put c _
  | lay n c =>
    have e := rd c (List.mem_singleton.mpr rfl)
    cases hv : val s.c c with
    | none =>
      have e1 : eff s (.lay n c) = none := by show (val s.c c).map _ = _; rw [hv] <;> rfl
      have e2 : eff s' (.lay n c) = none := by show (val s'.c c).map _ = _; rw [e, hv] <;> rfl
      rw [e1, e2]; exact True.intro
    | some x =>
      rw [eff_lay hv, eff_lay (e.trans hv)]
      exact ⟨h.lay n x, .inr ⟨_, _, rfl, rfl, restLike.refl _⟩⟩
  | label k => exact ⟨h, .inl ⟨rfl, rfl⟩⟩
  | go k => rfl
  | unless_ c k =>
    have e := rd c (List.mem_singleton.mpr rfl)
    cases hv : val s.c c with
    | none =>
      have e1 : eff s (.unless_ c k) = none := by show (val s.c c).map _ = _; rw [hv] <;> rfl
      have e2 : eff s' (.unless_ c k) = none := by show (val s'.c c).map _ = _; rw [e, hv] <;> rfl
      rw [e1, e2]; exact True.intro
    | some x =>
      rw [eff_unless hv, eff_unless (e.trans hv)]
      by_cases hx : x = 0
      · rw [if_pos hx, if_pos hx]; rfl
      · rw [if_neg hx, if_neg hx]; exact ⟨h, .inl ⟨rfl, rfl⟩⟩
  | call oc f n cs =>
    have e : vals s'.c cs = vals s.c cs := h.vals fun k hk => hc k (List.mem_append_left _ hk)
    cases hv : vals s.c cs with
    | none =>
      have e1 : eff s (.call oc f n cs) = none := by show (vals s.c cs).map _ = _; rw [hv] <;> rfl
      have e2 : eff s' (.call oc f n cs) = none := by show (vals s'.c cs).map _ = _; rw [e, hv] <;> rfl
      rw [e1, e2]; exact True.intro
    | some x =>
      rw [eff_call hv, eff_call (e.trans hv)]
      refine ⟨?_, .inr ⟨_, _, rfl, rfl, restLike.refl _⟩⟩
      cases oc with
      | none => exact ⟨h.c, h.k⟩
      | some c => exact h.put c _
  | say k c =>
    have e := rd c (List.mem_singleton.mpr rfl)
    cases hv : val s.c c with
    | none =>
      have e1 : eff s (.say k c) = none := by show (val s.c c).map _ = _; rw [hv] <;> rfl
      have e2 : eff s' (.say k c) = none := by show (val s'.c c).map _ = _; rw [e, hv] <;> rfl
      rw [e1, e2]; exact True.intro
    | some x =>
      rw [eff_say hv, eff_say (e.trans hv)]
      exact ⟨h, .inr ⟨_, _, rfl, rfl, restLike.refl _⟩⟩
  | give oc =>
    cases oc with
    | none => exact (show restLike (.flat [.non]) (.flat [.non]) from rfl)
    | some c =>
      have e := rd c (List.mem_singleton.mpr rfl)
      cases hv : val s.c c with
      | none =>
        have e1 : eff s (.give (some c)) = none := by show (val s.c c).map _ = _; rw [hv] <;> rfl
        have e2 : eff s' (.give (some c)) = none := by show (val s'.c c).map _ = _; rw [e, hv] <;> rfl
        rw [e1, e2]; exact True.intro
      | some x =>
        rw [eff_give hv, eff_give (e.trans hv)]
        exact (show restLike (.flat [.int x]) (.flat [.int x]) from rfl)
end Wt

set_option Elab.async false
set_option linter.all false
set_option maxRecDepth 100000
set_option maxHeartbeats 4000000
namespace Wt
open PySem PySem.Spec PyProof.Rows L2 SX Evl
/-! Rows of no use change nothing of what is told. -/
theorem val_has {c : Cs} {k x : Int} (h : val c k = some x) : ∃ y, aval c k = some y := by
  unfold val at h
  cases e : aval c k with
  | none => rw [e] at h; cases h
  | some y => exact ⟨y, rfl⟩
theorem vals_has {c : Cs} : ∀ {cs xs : List Int}, vals c cs = some xs → ∀ k ∈ cs, ∃ y, aval c k = some y
  | [], _, _ => fun k hk => by cases hk
  | k :: cs, xs, h => by
    unfold vals at h
    cases e1 : val c k with
    | none => rw [e1] at h; cases h
    | some x =>
      cases e2 : vals c cs with
      | none => rw [e1, e2] at h; cases h
      | some ys =>
        intro j hj
        rcases List.mem_cons.mp hj with rfl | hj
        · exact val_has e1
        · exact vals_has e2 j hj
theorem eff_reads {s : Sx} {r : Rw} {out : Out} (h : eff s r = some out) : ∀ c ∈ reads r, ∃ y, aval s.c c = some y := by
  cases r with
  | copy c d =>
    have h' : (val s.c d).map (fun x => Out.on ⟨aput s.c c x, s.k⟩ none) = some out := h
    cases e : val s.c d with
    | none => rw [e] at h'; cases h'
    | some x => intro k hk; rw [List.mem_singleton.mp hk]; exact val_has e
  | op o c d e =>
    have h' : (match val s.c d, val s.c e with | some x, some y => some (opOut o c s (reckon o x y)) | _, _ => none) = some out := h
    cases e1 : val s.c d with
    | none => rw [e1] at h'; cases h'
    | some x =>
      cases e2 : val s.c e with
      | none => rw [e1, e2] at h'; cases h'
      | some y =>
        intro k hk
        rcases List.mem_cons.mp hk with rfl | hk
        · exact val_has e1
        · rw [List.mem_singleton.mp hk]; exact val_has e2
  | lay n c =>
    have h' : (val s.c c).map (fun x => Out.on ⟨s.c, aput s.k n x⟩ (some (.flat [.str (keepS n), .int x]))) = some out := h
    cases e : val s.c c with
    | none => rw [e] at h'; cases h'
    | some x => intro k hk; rw [List.mem_singleton.mp hk]; exact val_has e
  | unless_ c k =>
    have h' : (val s.c c).map (fun x => if x = 0 then Out.to k else Out.on s none) = some out := h
    cases e : val s.c c with
    | none => rw [e] at h'; cases h'
    | some x => intro k hk; rw [List.mem_singleton.mp hk]; exact val_has e
  | call oc f n cs =>
    have h' : (vals s.c cs).map (fun xs => Out.on ⟨callPut s.c oc (came xs), s.k⟩ (some (.call f n xs))) = some out := h
    cases e : vals s.c cs with
    | none => rw [e] at h'; cases h'
    | some x => exact vals_has e
  | say k c =>
    have h' : (val s.c c).map (fun x => Out.on s (some (.flat [.str (kindS k), .int x]))) = some out := h
    cases e : val s.c c with
    | none => rw [e] at h'; cases h'
    | some x => intro k hk; rw [List.mem_singleton.mp hk]; exact val_has e
  | give oc =>
    cases oc with
    | none => intro k hk; cases hk
    | some c =>
      have h' : (val s.c c).map (fun x => Out.stop (.flat [.int x])) = some out := h
      cases e : val s.c c with
      | none => rw [e] at h'; cases h'
      | some x => intro k hk; rw [List.mem_singleton.mp hk]; exact val_has e
  | begin_ => intro k hk; cases hk
  | nothing => intro k hk; cases hk
  | put c n => intro k hk; cases hk
  | fetch c f n => intro k hk; cases hk
  | label k => intro k hk; cases hk
  | go k => intro k hk; cases hk
/-- what stays of a state, whatever a row does -/
theorem eff_stays {s s' : Sx} {r : Rw} {t : Option Rest} (h : eff s r = some (.on s' t)) (hb : Bd s) (hf : fewC r = true) : Bd s' ∧ ∀ c, (∃ x, aval s.c c = some x) → ∃ x, aval s'.c c = some x := by
  refine ⟨?_, fun c hc => ?_⟩
  · have hd : Hd (reads r) s := eff_reads h
    rcases eff_of hb hd (fun _ z => z) hf with ⟨s1, t1, h1, hb1, _⟩ | ⟨k, h1, _⟩ | ⟨t1, h1⟩
    · rw [h] at h1; cases h1; exact hb1
    · rw [h] at h1; cases h1
    · rw [h] at h1; cases h1
  · have hd : Hd (reads r ++ [c]) s := fun k hk => by
      rcases List.mem_append.mp hk with z | z
      · exact eff_reads h k z
      · rw [List.mem_singleton.mp z]; exact hc
    rcases eff_of hb hd (fun _ z => List.mem_append_left _ z) hf with ⟨s1, t1, h1, _, hd1, _⟩ | ⟨k, h1, _⟩ | ⟨t1, h1⟩
    · rw [h] at h1; cases h1
      exact hd1 c (List.mem_append_left _ (List.mem_append_right _ (List.mem_singleton.mpr rfl)))
    · rw [h] at h1; cases h1
    · rw [h] at h1; cases h1
/-- a row of no use -/
theorem pad_eff {c0 : Option Int} {m : Nat} {x : Rw} (hx : isPad c0 m x) {s s' : Sx} (hl : Like7 s s') (hb : Bd s) (h7 : ∀ c, c0 = some c → c < 700) (h0 : ∀ c, c0 = some c → ∃ y, aval s.c c = some y) : x ≠ .begin_ ∧ ∃ s2, eff s' x = some (.on s2 none) ∧ Like7 s s2 := by
  rcases hx with rfl | rfl | ⟨c, hc, rfl⟩
  · exact ⟨fun z => (by cases z), _, rfl, hl.far (by omega) 7⟩
  · exact ⟨fun z => (by cases z), _, rfl, hl⟩
  · obtain ⟨y, hy⟩ := h0 c hc
    have hv : val s'.c c = some y := by
      rw [hl.val (h7 c hc)]
      unfold val
      rw [hy]
      show (if inB y = true then some y else none) = _
      rw [if_pos (hb.c c y hy)]
    exact ⟨fun z => (by cases z), _, eff_copy hv, hl.far (by omega) y⟩
theorem runM_neg {rs : List Rw} {n : Nat} {most : Int} {i : Nat} {s : Sx} {f : List Fd} (h : most < 0) : runM rs (n + 1) most i s f = some f := by
  unfold runM
  rw [if_pos h]
/-- one row of no use ahead -/
theorem pad_step {c0 : Option Int} {qs : List Rw} {m p n : Nat} {x : Rw} {most : Int} {s s' : Sx} {f : List Fd} (hx : isPad c0 m x) (hp : qs[p]? = some x) (hm : 0 ≤ most) (hl : Like7 s s') (hb : Bd s) (h7 : ∀ c, c0 = some c → c < 700) (h0 : ∀ c, c0 = some c → ∃ y, aval s.c c = some y) :
    ∃ s2, Like7 s s2 ∧ runM qs (n + 1) most p s' f = runM qs n most (p + 1) s2 f := by
  obtain ⟨hnb, s2, he, hl2⟩ := pad_eff hx hl hb h7 h0
  refine ⟨s2, hl2, ?_⟩
  rw [runM_on hm hp he]
  have e1 : after x most = most := if_neg hnb
  rw [e1]
  show runM qs n most (p + 1) s2 (f ++ []) = _
  rw [List.append_nil]
theorem pad_run {c0 : Option Int} {rs qs : List Rw} {ns : List Nat} (hP : Padded c0 0 0 rs qs ns) (ok : RowsOk rs) (okq : RowsOk qs) (hc : ∀ r ∈ rs, ∀ c ∈ reads r ++ writes r, c < 700) (h7 : ∀ c, c0 = some c → c < 700) :
    ∀ (n : Nat) {most : Int} {i p : Nat} {s s' : Sx} {f f' res : List Fd}, runM rs n most i s f = some res → ns[i]? = some p → Like7 s s' → Bd s → (∀ c, c0 = some c → ∃ x, aval s.c c = some x) → FdsLike ns f f' → ∃ F res', F ≤ 2 * n ∧ runM qs F most p s' f' = some res' ∧ FdsLike ns res res'
  | 0, _, _, _, _, _, _, _, _, h, _, _, _, _, _ => by cases h
  | n + 1, most, i, p, s, s', f, f', res, h, hp, hl, hb, h0, hf => by
    rcases (show most < 0 ∨ 0 ≤ most by omega) with hm | hm
    · rw [runM_neg hm] at h
      cases h
      exact ⟨1, f', by omega, runM_neg hm, hf⟩
    cases hr : rs[i]? with
    | none =>
      unfold runM at h
      rw [if_neg (by omega), hr] at h
      cases h
    | some r =>
      have hmem := List.mem_of_getElem? hr
      have hfew := ok.cs r hmem
      obtain ⟨p0, hp0, hq, hnext⟩ := hP.at hr
      have ep : p = p0 := by rw [hp] at hp0; have := Option.some.inj hp0; omega
      subst ep
      have hlike := eff_like (r := r) hl (hc r hmem)
      have h0' : (match eff s r with | none => none | some (.on s' t) => runM rs n (after r most) (i + 1) s' (f ++ tell (rwW r) i t) | some (.to k) => (match (labAt 0 rs).lookup k with | some j => runM rs n most j s f | none => none) | some (.stop t) => some (f ++ [(⟨rwW r, i, t⟩ : Fd)])) = some res := by
        unfold runM at h
        rw [if_neg (by omega), hr] at h
        exact h
      cases he : eff s r with
      | none => rw [he] at h0'; cases h0'
      | some out =>
        rw [he] at h0' hlike
        cases he' : eff s' r with
        | none => rw [he'] at hlike; cases out <;> exact False.elim hlike
        | some out' =>
          rw [he'] at hlike
          cases out with
          | on s1 t =>
            cases out' with
            | on s1' t' =>
              obtain ⟨hl1, ht⟩ := hlike
              obtain ⟨hb1, hk1⟩ := eff_stays he hb hfew
              have h01 : ∀ c, c0 = some c → ∃ x, aval s1.c c = some x := fun c hc => hk1 c (h0 c hc)
              have hrun : runM rs n (after r most) (i + 1) s1 (f ++ tell (rwW r) i t) = some res := h0'
              have hf1 : FdsLike ns (f ++ tell (rwW r) i t) (f' ++ tell (rwW r) p t') := by
                rcases ht with ⟨rfl, rfl⟩ | ⟨x, x', rfl, rfl, hx⟩
                · show FdsLike ns (f ++ []) (f' ++ [])
                  rw [List.append_nil, List.append_nil]
                  exact hf
                · exact hf.snoc ⟨rfl, hp, hx⟩
              have hstep : ∀ F, runM qs (F + 1) most p s' f' = runM qs F (after r most) (p + 1) s1' (f' ++ tell (rwW r) p t') := fun F => runM_on hm hq he'
              cases n with
              | zero => cases hrun
              | succ n =>
                rcases (show after r most < 0 ∨ 0 ≤ after r most by omega) with hm2 | hm2
                · rw [runM_neg hm2] at hrun
                  cases hrun
                  exact ⟨2, _, by omega, (hstep 1).trans (runM_neg hm2), hf1⟩
                cases hr2 : rs[i + 1]? with
                | none =>
                  unfold runM at hrun
                  rw [if_neg (by omega), hr2] at hrun
                  cases hrun
                | some r2 =>
                  rcases hnext r2 hr2 with hn | ⟨hn, m, x, _, hx, hqx⟩
                  · rw [Nat.zero_add] at hn
                    obtain ⟨F, res', hF, hrun', hres⟩ := pad_run hP ok okq hc h7 (n + 1) hrun hn hl1 hb1 h01 hf1
                    exact ⟨F + 1, res', by omega, (hstep F).trans hrun', hres⟩
                  · rw [Nat.zero_add] at hn
                    obtain ⟨s2, hl2, _⟩ := pad_step (n := 0) (f := []) hx hqx hm2 hl1 hb1 h7 h01
                    obtain ⟨hnb, s3, he3, hl3⟩ := pad_eff hx hl1 hb1 h7 h01
                    obtain ⟨F, res', hF, hrun', hres⟩ := pad_run hP ok okq hc h7 (n + 1) hrun hn hl3 hb1 h01 hf1
                    refine ⟨F + 1 + 1, res', by omega, (hstep (F + 1)).trans ?_, hres⟩
                    rw [runM_on hm2 hqx he3]
                    have e1 : after x (after r most) = after r most := if_neg hnb
                    rw [e1]
                    show runM qs F (after r most) (p + 1 + 1) s3 ((f' ++ tell (rwW r) p t') ++ []) = _
                    rw [List.append_nil]
                    exact hrun'
            | to k => exact False.elim hlike
            | stop t' => exact False.elim hlike
          | to k =>
            cases out' with
            | to k' =>
              have ek : k = k' := hlike
              subst ek
              have h3 : (match (labAt 0 rs).lookup k with | some j => runM rs n most j s f | none => none) = some res := h0'
              cases hlk : (labAt 0 rs).lookup k with
              | none => rw [hlk] at h3; cases h3
              | some j =>
                rw [hlk] at h3
                have hj : rs[j]? = some (.label k) := by
                  have hkm : k ∈ (labAt 0 rs).map Prod.fst := by
                    rcases List.lookup_eq_some_iff.mp hlk with ⟨l1, l2, e, _⟩
                    rw [e]
                    simp
                  obtain ⟨j2, h4, h5⟩ := lookup_mem hkm
                  rw [hlk] at h4
                  cases h4
                  obtain ⟨j3, e1, e2⟩ := labAt_at h5
                  have : j = 0 + j3 := e1
                  rw [show j = j3 by omega]
                  exact e2
                obtain ⟨pj, hpj, hqj, _⟩ := hP.at hj
                rw [Nat.zero_add] at hpj
                have hlq := lookup_at (i := 0) okq.nd hqj
                rw [Nat.zero_add] at hlq
                obtain ⟨F, res', hF, hrun', hres⟩ := pad_run hP ok okq hc h7 n h3 hpj hl hb h0 hf
                exact ⟨F + 1, res', by omega, (runM_to hm hq he' hlq).trans hrun', hres⟩
            | on s1' t' => exact False.elim hlike
            | stop t' => exact False.elim hlike
          | stop t =>
            cases out' with
            | stop t' =>
              have e2 : f ++ [(⟨rwW r, i, t⟩ : Fd)] = res := Option.some.inj h0'
              subst e2
              exact ⟨1, _, by omega, runM_stop hm hq he', hf.snoc ⟨rfl, hp, hlike⟩⟩
            | on s1' t' => exact False.elim hlike
            | to k => exact False.elim hlike
/-- .. from the first row on -/
theorem pad_start {c0 : Option Int} {rs qs : List Rw} {ns : List Nat} (hP : Padded c0 0 0 rs qs ns) (ok : RowsOk rs) (okq : RowsOk qs) (hc : ∀ r ∈ rs, ∀ c ∈ reads r ++ writes r, c < 700) (h7 : ∀ c, c0 = some c → c < 700) {n : Nat} {most : Int} {s : Sx} {res : List Fd} (h : runM rs n most 0 s [] = some res) (hb : Bd s) (h0 : ∀ c, c0 = some c → ∃ x, aval s.c c = some x) :
    ∃ F res', F ≤ 2 * n + 1 ∧ runM qs F most 0 s [] = some res' ∧ FdsLike ns res res' := by
  have hl : Like7 s s := ⟨fun _ _ => rfl, rfl⟩
  rcases (show most < 0 ∨ 0 ≤ most by omega) with hm | hm
  · cases n with
    | zero => cases h
    | succ n =>
      rw [runM_neg hm] at h
      cases h
      exact ⟨1, [], by omega, runM_neg hm, .nil⟩
  cases rs with
  | nil =>
    cases n with
    | zero => cases h
    | succ n =>
      unfold runM at h
      rw [if_neg (by omega)] at h
      cases h
  | cons r rs =>
    cases hP with
    | keep hP' =>
      obtain ⟨F, res', hF, hrun, hres⟩ := pad_run (.keep hP') ok okq hc h7 n (p := 0) h rfl hl hb h0 .nil
      exact ⟨F, res', by omega, hrun, hres⟩
    | pad hx hP' =>
      obtain ⟨hnb, s2, he, hl2⟩ := pad_eff hx hl hb h7 h0
      obtain ⟨F, res', hF, hrun, hres⟩ := pad_run (.pad hx hP') ok okq hc h7 n (p := 1) h rfl hl2 hb h0 .nil
      refine ⟨F + 1, res', by omega, ?_, hres⟩
      rw [runM_on hm (r := _) rfl he]
      have e1 : after _ most = most := if_neg hnb
      rw [e1]
      show runM _ F most 1 s2 ([] ++ []) = _
      exact hrun
end Wt

set_option Elab.async false
set_option linter.all false
set_option maxRecDepth 100000
set_option maxHeartbeats 4000000
namespace Wt
open PySem PySem.Spec PyProof.Rows L2 SX Evl
/-! Rows by other cells and labels. -/
def renR (ρ : Int → Int) (sh : Int) : Rw → Rw
  | .begin_ => .begin_
  | .nothing => .nothing
  | .put c n => .put (ρ c) n
  | .copy c d => .copy (ρ c) (ρ d)
  | .op o c d e => .op o (ρ c) (ρ d) (ρ e)
  | .fetch c f n => .fetch (ρ c) f n
  | .lay n c => .lay n (ρ c)
  | .label k => .label (sh - k)
  | .go k => .go (sh - k)
  | .unless_ c k => .unless_ (ρ c) (sh - k)
  | .call oc f n cs => .call (oc.map ρ) f n (cs.map ρ)
  | .say k c => .say k (ρ c)
  | .give oc => .give (oc.map ρ)
theorem ren_w (ρ : Int → Int) (sh : Int) (r : Rw) : rwW (renR ρ sh r) = rwW r := by cases r <;> rfl
theorem ren_few (ρ : Int → Int) (sh : Int) (r : Rw) : fewC (renR ρ sh r) = fewC r := by
  cases r with
  | call oc f n cs =>
    show decide ((cs.map ρ).length ≤ 3) = decide (cs.length ≤ 3)
    rw [List.length_map]
  | _ => rfl
theorem ren_lab1 (ρ : Int → Int) (sh : Int) (r : Rw) : lab1 (renR ρ sh r) = (lab1 r).map (sh - ·) := by cases r <;> rfl
theorem ren_jump1 (ρ : Int → Int) (sh : Int) (r : Rw) : jump1 (renR ρ sh r) = (jump1 r).map (sh - ·) := by cases r <;> rfl
theorem ren_labs (ρ : Int → Int) (sh : Int) : ∀ rs : List Rw, labs (rs.map (renR ρ sh)) = (labs rs).map (sh - ·)
  | [] => rfl
  | r :: rs => by
    show lab1 (renR ρ sh r) ++ labs (rs.map (renR ρ sh)) = _
    rw [ren_lab1, ren_labs ρ sh rs, ← List.map_append] <;> rfl
theorem ren_jumps (ρ : Int → Int) (sh : Int) : ∀ rs : List Rw, jumps (rs.map (renR ρ sh)) = (jumps rs).map (sh - ·)
  | [] => rfl
  | r :: rs => by
    show jump1 (renR ρ sh r) ++ jumps (rs.map (renR ρ sh)) = _
    rw [ren_jump1, ren_jumps ρ sh rs, ← List.map_append] <;> rfl
theorem ren_nodup (sh : Int) {xs : List Int} (h : xs.Nodup) : (xs.map (sh - ·)).Nodup := by
  refine List.Pairwise.map _ (fun a b hab => ?_) h
  intro z
  exact hab (by omega)
theorem ren_ok (ρ : Int → Int) (sh : Int) {rs : List Rw} (ok : RowsOk rs) : RowsOk (rs.map (renR ρ sh)) := by
  refine ⟨by rw [ren_labs]; exact ren_nodup sh ok.nd, fun k hk => ?_, by rw [List.length_map]; exact ok.few, fun r hr => ?_⟩
  · rw [ren_jumps] at hk
    obtain ⟨j, hj, rfl⟩ := List.mem_map.mp hk
    rw [ren_labs]
    exact List.mem_map_of_mem (ok.js j hj)
  · obtain ⟨r0, h0, rfl⟩ := List.mem_map.mp hr
    rw [ren_few]
    exact ok.cs r0 h0
theorem ren_labAt (ρ : Int → Int) (sh : Int) : ∀ (i : Nat) (rs : List Rw), labAt i (rs.map (renR ρ sh)) = (labAt i rs).map fun p => (sh - p.1, p.2)
  | _, [] => rfl
  | i, r :: rs => by
    have ih := ren_labAt ρ sh (i + 1) rs
    cases r with
    | label k =>
      show (sh - k, i) :: labAt (i + 1) (rs.map (renR ρ sh)) = _
      rw [ih] <;> rfl
    | _ => exact ih
theorem look_ren (sh k : Int) : ∀ l : List (Int × Nat), (l.map fun p => (sh - p.1, p.2)).lookup (sh - k) = l.lookup k
  | [] => rfl
  | (a, b) :: l => by
    rw [List.map_cons, List.lookup_cons, List.lookup_cons, look_ren sh k l]
    by_cases e : k = a
    · subst e; simp
    · have e2 : ¬ sh - k = sh - a := fun z => e (by omega)
      have h1 : (sh - k == sh - a) = false := beq_eq_false_iff_ne.mpr e2
      have h2 : (k == a) = false := beq_eq_false_iff_ne.mpr e
      show (match sh - k == sh - a with | true => some b | false => _) = _
      rw [h1, h2]
/-- the same by other cells -/
structure LikeR (A : Int → Prop) (ρ : Int → Int) (s s' : Sx) : Prop where
  c : ∀ k, A k → aval s'.c (ρ k) = aval s.c k
  k : s'.k = s.k
structure FdSame (e e' : Fd) : Prop where
  w : e'.w = e.w
  at_ : e'.at_ = e.at_
  rest : restLike e.rest e'.rest
inductive FdsSame : List Fd → List Fd → Prop
  | nil : FdsSame [] []
  | cons {e e' es es'} : FdSame e e' → FdsSame es es' → FdsSame (e :: es) (e' :: es')
theorem FdsSame.snoc {es es' : List Fd} {e e' : Fd} (h : FdsSame es es') (g : FdSame e e') : FdsSame (es ++ [e]) (es' ++ [e']) := by
  induction h with
  | nil => exact .cons g .nil
  | cons h1 _ ih => exact .cons h1 ih
theorem FdsSame.len {f f' : List Fd} (h : FdsSame f f') : f.length = f'.length := by
  induction h with
  | nil => rfl
  | cons _ _ ih => rw [List.length_cons, List.length_cons, ih]
section
variable {A : Int → Prop} {ρ : Int → Int} {sh : Int}
theorem LikeR.val {s s' : Sx} (h : LikeR A ρ s s') {k : Int} (hk : A k) : val s'.c (ρ k) = val s.c k := by
  unfold Wt.val
  rw [h.c k hk]
theorem LikeR.vals {s s' : Sx} (h : LikeR A ρ s s') : ∀ {cs : List Int}, (∀ k ∈ cs, A k) → vals s'.c (cs.map ρ) = vals s.c cs
  | [], _ => rfl
  | k :: cs, hk => by
    rw [List.map_cons]
    unfold Wt.vals
    rw [h.val (hk k (List.mem_cons_self ..)), h.vals fun j hj => hk j (List.mem_cons_of_mem _ hj)]
theorem LikeR.put (inj : ∀ a b, A a → A b → ρ a = ρ b → a = b) {s s' : Sx} (h : LikeR A ρ s s') {k : Int} (hk : A k) (v : Int) : LikeR A ρ ⟨aput s.c k v, s.k⟩ ⟨aput s'.c (ρ k) v, s'.k⟩ := ⟨fun j hj => by
  show aval (aput s'.c (ρ k) v) (ρ j) = aval (aput s.c k v) j
  rw [aval_put, aval_put]
  by_cases e : j = k
  · rw [if_pos e, if_pos (by rw [e])]
  · rw [if_neg e, if_neg (fun z => e (inj j k hj hk z)), h.c j hj], h.k⟩
theorem LikeR.lay {s s' : Sx} (h : LikeR A ρ s s') (n : Bool) (v : Int) : LikeR A ρ ⟨s.c, aput s.k n v⟩ ⟨s'.c, aput s'.k n v⟩ := ⟨h.c, by show aput s'.k n v = aput s.k n v; rw [h.k]⟩
def outR (A : Int → Prop) (ρ : Int → Int) (sh : Int) : Option Out → Option Out → Prop
  | none, none => True
  | some (.on s t), some (.on s' t') => LikeR A ρ s s' ∧ (t = none ∧ t' = none ∨ ∃ r r', t = some r ∧ t' = some r' ∧ restLike r r')
  | some (.to k), some (.to k') => k' = sh - k
  | some (.stop r), some (.stop r') => restLike r r'
  | _, _ => False
theorem eff_ren (inj : ∀ a b, A a → A b → ρ a = ρ b → a = b) {s s' : Sx} {r : Rw} (h : LikeR A ρ s s') (hc : ∀ c ∈ reads r ++ writes r, A c) : outR A ρ sh (eff s r) (eff s' (renR ρ sh r)) := by
  have rd : ∀ c ∈ reads r, val s'.c (ρ c) = val s.c c := fun c hk => h.val (hc c (List.mem_append_left _ hk))
  have wr : ∀ c ∈ writes r, A c := fun c hk => hc c (List.mem_append_right _ hk)
  cases r with
  | begin_ => exact ⟨h, .inr ⟨_, _, rfl, rfl, True.intro⟩⟩
  | nothing => exact True.intro
  | put c n => exact ⟨h.put inj (wr c (List.mem_singleton.mpr rfl)) n, .inl ⟨rfl, rfl⟩⟩
  | copy c d =>
    have e := rd d (List.mem_singleton.mpr rfl)
    cases hv : val s.c d with
    | none =>
      have e1 : eff s (.copy c d) = none := by show (val s.c d).map _ = _; rw [hv] <;> rfl
      have e2 : eff s' (.copy (ρ c) (ρ d)) = none := by show (val s'.c (ρ d)).map _ = _; rw [e, hv] <;> rfl
      show outR A ρ sh (eff s (.copy c d)) (eff s' (.copy (ρ c) (ρ d)))
      rw [e1, e2]; exact True.intro
    | some x =>
      show outR A ρ sh (eff s (.copy c d)) (eff s' (.copy (ρ c) (ρ d)))
      rw [eff_copy hv, eff_copy (e.trans hv)]
      exact ⟨h.put inj (wr c (List.mem_singleton.mpr rfl)) x, .inl ⟨rfl, rfl⟩⟩
  | op o c d e =>
    have e1 := rd d (List.mem_cons_self ..)
    have e2 := rd e (List.mem_cons_of_mem _ (List.mem_cons_self ..))
    show outR A ρ sh (eff s (.op o c d e)) (eff s' (.op o (ρ c) (ρ d) (ρ e)))
    have en : ∀ (t : Sx) (c d e : Int), eff t (.op o c d e) = match val t.c d, val t.c e with | some x, some y => some (opOut o c t (reckon o x y)) | _, _ => none := fun t _ _ _ => rfl
    cases hv : val s.c d with
    | none => rw [en s, en s', e1, hv]; exact True.intro
    | some x =>
      cases hv2 : val s.c e with
      | none => rw [en s, en s', e1, e2, hv, hv2]; exact True.intro
      | some y =>
        rw [eff_op hv hv2, eff_op (e1.trans hv) (e2.trans hv2)]
        cases reckon o x y with
        | inl v => exact ⟨h.put inj (wr c (List.mem_singleton.mpr rfl)) v, .inl ⟨rfl, rfl⟩⟩
        | inr b => exact (show restLike (.flat [.str (badS b)]) (.flat [.str (badS b)]) from rfl)
  | fetch c f n =>
    refine ⟨?_, .inr ⟨_, _, rfl, rfl, restLike.refl _⟩⟩
    show LikeR A ρ ⟨aput s.c c (kget s.k f n), s.k⟩ ⟨aput s'.c (ρ c) (kget s'.k f n), s'.k⟩
    rw [show kget s'.k f n = kget s.k f n by rw [h.k]]
    exact h.put inj (wr c (List.mem_singleton.mpr rfl)) _
  | lay n c =>
    have e := rd c (List.mem_singleton.mpr rfl)
    show outR A ρ sh (eff s (.lay n c)) (eff s' (.lay n (ρ c)))
    cases hv : val s.c c with
    | none =>
      have e1 : eff s (.lay n c) = none := by show (val s.c c).map _ = _; rw [hv] <;> rfl
      have e2 : eff s' (.lay n (ρ c)) = none := by show (val s'.c (ρ c)).map _ = _; rw [e, hv] <;> rfl
      rw [e1, e2]; exact True.intro
    | some x =>
      rw [eff_lay hv, eff_lay (e.trans hv)]
      exact ⟨h.lay n x, .inr ⟨_, _, rfl, rfl, restLike.refl _⟩⟩
  | label k => exact ⟨h, .inl ⟨rfl, rfl⟩⟩
  | go k => rfl
  | unless_ c k =>
    have e := rd c (List.mem_singleton.mpr rfl)
    show outR A ρ sh (eff s (.unless_ c k)) (eff s' (.unless_ (ρ c) (sh - k)))
    cases hv : val s.c c with
    | none =>
      have e1 : eff s (.unless_ c k) = none := by show (val s.c c).map _ = _; rw [hv] <;> rfl
      have e2 : eff s' (.unless_ (ρ c) (sh - k)) = none := by show (val s'.c (ρ c)).map _ = _; rw [e, hv] <;> rfl
      rw [e1, e2]; exact True.intro
    | some x =>
      rw [eff_unless hv, eff_unless (e.trans hv)]
      by_cases hx : x = 0
      · rw [if_pos hx, if_pos hx]; rfl
      · rw [if_neg hx, if_neg hx]; exact ⟨h, .inl ⟨rfl, rfl⟩⟩
  | call oc f n cs =>
    have e : vals s'.c (cs.map ρ) = vals s.c cs := h.vals fun k hk => hc k (List.mem_append_left _ hk)
    show outR A ρ sh (eff s (.call oc f n cs)) (eff s' (.call (oc.map ρ) f n (cs.map ρ)))
    cases hv : vals s.c cs with
    | none =>
      have e1 : eff s (.call oc f n cs) = none := by show (vals s.c cs).map _ = _; rw [hv] <;> rfl
      have e2 : eff s' (.call (oc.map ρ) f n (cs.map ρ)) = none := by show (vals s'.c (cs.map ρ)).map _ = _; rw [e, hv] <;> rfl
      rw [e1, e2]; exact True.intro
    | some x =>
      rw [eff_call hv, eff_call (e.trans hv)]
      refine ⟨?_, .inr ⟨_, _, rfl, rfl, restLike.refl _⟩⟩
      cases oc with
      | none => exact ⟨h.c, h.k⟩
      | some c => exact h.put inj (wr c (List.mem_singleton.mpr rfl)) _
  | say k c =>
    have e := rd c (List.mem_singleton.mpr rfl)
    show outR A ρ sh (eff s (.say k c)) (eff s' (.say k (ρ c)))
    cases hv : val s.c c with
    | none =>
      have e1 : eff s (.say k c) = none := by show (val s.c c).map _ = _; rw [hv] <;> rfl
      have e2 : eff s' (.say k (ρ c)) = none := by show (val s'.c (ρ c)).map _ = _; rw [e, hv] <;> rfl
      rw [e1, e2]; exact True.intro
    | some x =>
      rw [eff_say hv, eff_say (e.trans hv)]
      exact ⟨h, .inr ⟨_, _, rfl, rfl, restLike.refl _⟩⟩
  | give oc =>
    cases oc with
    | none => exact (show restLike (.flat [.non]) (.flat [.non]) from rfl)
    | some c =>
      have e := rd c (List.mem_singleton.mpr rfl)
      show outR A ρ sh (eff s (.give (some c))) (eff s' (.give (some (ρ c))))
      cases hv : val s.c c with
      | none =>
        have e1 : eff s (.give (some c)) = none := by show (val s.c c).map _ = _; rw [hv] <;> rfl
        have e2 : eff s' (.give (some (ρ c))) = none := by show (val s'.c (ρ c)).map _ = _; rw [e, hv] <;> rfl
        rw [e1, e2]; exact True.intro
      | some x =>
        rw [eff_give hv, eff_give (e.trans hv)]
        exact (show restLike (.flat [.int x]) (.flat [.int x]) from rfl)
theorem after_ren (r : Rw) (most : Int) : after (renR ρ sh r) most = after r most := by
  unfold after
  cases r <;> simp [renR]
theorem ren_run (inj : ∀ a b, A a → A b → ρ a = ρ b → a = b) {rs : List Rw} (hc : ∀ r ∈ rs, ∀ c ∈ reads r ++ writes r, A c) : ∀ (n : Nat) {most : Int} {i : Nat} {s s' : Sx} {f f' res : List Fd}, runM rs n most i s f = some res → LikeR A ρ s s' → FdsSame f f' →
    ∃ res', runM (rs.map (renR ρ sh)) n most i s' f' = some res' ∧ FdsSame res res'
  | 0, _, _, _, _, _, _, _, h, _, _ => by cases h
  | n + 1, most, i, s, s', f, f', res, h, hl, hf => by
    rcases (show most < 0 ∨ 0 ≤ most by omega) with hm | hm
    · rw [runM_neg hm] at h
      cases h
      exact ⟨f', runM_neg hm, hf⟩
    cases hr : rs[i]? with
    | none =>
      unfold runM at h
      rw [if_neg (by omega), hr] at h
      cases h
    | some r =>
      have hmem := List.mem_of_getElem? hr
      have hq : (rs.map (renR ρ sh))[i]? = some (renR ρ sh r) := by rw [List.getElem?_map, hr] <;> rfl
      have hlike := eff_ren (sh := sh) inj hl (hc r hmem)
      have h0' : (match eff s r with | none => none | some (.on s' t) => runM rs n (after r most) (i + 1) s' (f ++ tell (rwW r) i t) | some (.to k) => (match (labAt 0 rs).lookup k with | some j => runM rs n most j s f | none => none) | some (.stop t) => some (f ++ [(⟨rwW r, i, t⟩ : Fd)])) = some res := by
        unfold runM at h
        rw [if_neg (by omega), hr] at h
        exact h
      cases he : eff s r with
      | none => rw [he] at h0'; cases h0'
      | some out =>
        rw [he] at h0' hlike
        cases he' : eff s' (renR ρ sh r) with
        | none => rw [he'] at hlike; cases out <;> exact False.elim hlike
        | some out' =>
          rw [he'] at hlike
          cases out with
          | on s1 t =>
            cases out' with
            | on s1' t' =>
              obtain ⟨hl1, ht⟩ := hlike
              have hrun : runM rs n (after r most) (i + 1) s1 (f ++ tell (rwW r) i t) = some res := h0'
              have hf1 : FdsSame (f ++ tell (rwW r) i t) (f' ++ tell (rwW (renR ρ sh r)) i t') := by
                rw [ren_w]
                rcases ht with ⟨rfl, rfl⟩ | ⟨x, x', rfl, rfl, hx⟩
                · show FdsSame (f ++ []) (f' ++ [])
                  rw [List.append_nil, List.append_nil]
                  exact hf
                · exact hf.snoc ⟨rfl, rfl, hx⟩
              rw [runM_on hm hq he', after_ren]
              exact ren_run inj hc n hrun hl1 hf1
            | to k => exact False.elim hlike
            | stop t' => exact False.elim hlike
          | to k =>
            cases out' with
            | to k' =>
              have ek : k' = sh - k := hlike
              subst ek
              have h3 : (match (labAt 0 rs).lookup k with | some j => runM rs n most j s f | none => none) = some res := h0'
              cases hlk : (labAt 0 rs).lookup k with
              | none => rw [hlk] at h3; cases h3
              | some j =>
                rw [hlk] at h3
                have hlq : (labAt 0 (rs.map (renR ρ sh))).lookup (sh - k) = some j := by rw [ren_labAt, look_ren, hlk]
                rw [runM_to hm hq he' hlq]
                exact ren_run inj hc n h3 hl hf
            | on s1' t' => exact False.elim hlike
            | stop t' => exact False.elim hlike
          | stop t =>
            cases out' with
            | stop t' =>
              have e2 : f ++ [(⟨rwW r, i, t⟩ : Fd)] = res := Option.some.inj h0'
              subst e2
              refine ⟨_, runM_stop hm hq he', hf.snoc ⟨ren_w ρ sh r, rfl, hlike⟩⟩
            | on s1' t' => exact False.elim hlike
            | to k => exact False.elim hlike
end
end Wt

set_option Elab.async false
set_option linter.all false
set_option maxRecDepth 100000
set_option maxHeartbeats 4000000
namespace Wt
open PySem PySem.Spec PyProof.Rows L2 SX Evl
open C8 (Def Cal cal0 fnScope_by fnScope)
/-! What the laws' own interpreters stand on: dicts of cells and of keeps; _law_reckon, _law_came. -/
theorem bt_dict : bootBuiltins "dict" = some (.type "dict") := by decide +kernel
structure ModsI (K : PySem.W.Frag) (mg : Str → Option Value) : Prop extends ModsL K mg where
  m_dict : mg "dict" = none
def cV (c : Cs) : List (Key × V) := c.map fun p => ((Sum.inl p.1 : Key), V.int p.2)
def ksV (k : Ks) : List (List Key × V) := k.map fun p => ([(Sum.inr (fS false) : Key), (Sum.inr (keepS p.1) : Key)], V.int p.2)
theorem cV_val (k : Int) : ∀ c : Cs, valV (cV c) (Sum.inl k : Key) = (aval c k).map V.int
  | [] => rfl
  | (a, b) :: c => by
    have ih := cV_val k c
    show valV (((Sum.inl a : Key), V.int b) :: cV c) (Sum.inl k) = _
    rw [aval_cons]
    by_cases e : a = k
    · subst e
      rw [valV_pos rfl, if_pos rfl] <;> rfl
    · rw [valV_neg (fun z => e (Sum.inl.inj z)), if_neg e]
      exact ih
theorem cV_put (c : Cs) (k v : Int) : putK (cV c) (Sum.inl k : Key) (.int v) = cV (aput c k v) := by
  have e1 : ((cV c).any fun kv => decide (kv.1 = (Sum.inl k : Key))) = c.any fun p => decide (p.1 = k) := by
    unfold cV
    rw [List.any_map]
    congr 1
    funext p
    show decide ((Sum.inl p.1 : Key) = Sum.inl k) = decide (p.1 = k)
    by_cases e : p.1 = k
    · rw [decide_eq_true e, decide_eq_true (congrArg Sum.inl e)]
    · rw [decide_eq_false e, decide_eq_false (fun z => e (Sum.inl.inj z))]
  unfold putK aput
  rw [e1]
  by_cases h : (c.any fun p => decide (p.1 = k)) = true
  · rw [if_pos h, if_pos h]
    unfold cV
    rw [List.map_map, List.map_map]
    refine List.map_congr_left fun p _ => ?_
    show (if (Sum.inl p.1 : Key) = Sum.inl k then ((Sum.inl p.1 : Key), V.int v) else ((Sum.inl p.1 : Key), V.int p.2)) = _
    show _ = ((Sum.inl (if p.1 = k then (p.1, v) else p).1 : Key), V.int (if p.1 = k then (p.1, v) else p).2)
    by_cases e : p.1 = k
    · rw [if_pos (congrArg Sum.inl e), if_pos e]
    · rw [if_neg (fun z => e (Sum.inl.inj z)), if_neg e]
  · rw [if_neg h, if_neg h]
    unfold cV
    rw [List.map_append] <;> rfl
theorem keepS_inj {a b : Bool} (h : keepS a = keepS b) : a = b := by
  cases a <;> cases b <;> first | rfl | exact absurd h (by decide +kernel)
theorem ksK_inj {a b : Bool} (h : [(Sum.inr (fS false) : Key), (Sum.inr (keepS a) : Key)] = [(Sum.inr (fS false) : Key), (Sum.inr (keepS b) : Key)]) : a = b := by
  injection h with _ h
  injection h with h _
  exact keepS_inj (Sum.inr.inj h)
theorem ksV_val (f n : Bool) : ∀ k : Ks, valV (ksV k) [(Sum.inr (fS f) : Key), (Sum.inr (keepS n) : Key)] = (if f then none else aval k n).map V.int
  | [] => by cases f <;> rfl
  | (a, b) :: k => by
    have ih := ksV_val f n k
    show valV (([(Sum.inr (fS false) : Key), (Sum.inr (keepS a) : Key)], V.int b) :: ksV k) _ = _
    cases f with
    | true =>
      rw [valV_neg (fun z => by
        injection z with z _
        exact absurd (Sum.inr.inj z) (by decide +kernel))]
      exact ih
    | false =>
      show _ = (aval ((a, b) :: k) n).map V.int
      rw [aval_cons]
      by_cases e : a = n
      · subst e
        rw [valV_pos rfl, if_pos rfl] <;> rfl
      · rw [valV_neg (fun z => e (ksK_inj z)), if_neg e]
        exact ih
theorem ksV_put (k : Ks) (n : Bool) (v : Int) : putK (ksV k) [(Sum.inr (fS false) : Key), (Sum.inr (keepS n) : Key)] (.int v) = ksV (aput k n v) := by
  have e1 : ((ksV k).any fun kv => decide (kv.1 = [(Sum.inr (fS false) : Key), (Sum.inr (keepS n) : Key)])) = k.any fun p => decide (p.1 = n) := by
    unfold ksV
    rw [List.any_map]
    congr 1
    funext p
    show decide ([(Sum.inr (fS false) : Key), (Sum.inr (keepS p.1) : Key)] = [(Sum.inr (fS false) : Key), (Sum.inr (keepS n) : Key)]) = decide (p.1 = n)
    by_cases e : p.1 = n
    · rw [decide_eq_true e, e, decide_eq_true rfl]
    · rw [decide_eq_false e, decide_eq_false (fun z => e (ksK_inj z))]
  unfold putK aput
  rw [e1]
  by_cases h : (k.any fun p => decide (p.1 = n)) = true
  · rw [if_pos h, if_pos h]
    unfold ksV
    rw [List.map_map, List.map_map]
    refine List.map_congr_left fun p _ => ?_
    show (if [(Sum.inr (fS false) : Key), (Sum.inr (keepS p.1) : Key)] = [(Sum.inr (fS false) : Key), (Sum.inr (keepS n) : Key)] then ([(Sum.inr (fS false) : Key), (Sum.inr (keepS p.1) : Key)], V.int v) else ([(Sum.inr (fS false) : Key), (Sum.inr (keepS p.1) : Key)], V.int p.2)) = _
    show _ = ([(Sum.inr (fS false) : Key), (Sum.inr (keepS (if p.1 = n then (p.1, v) else p).1) : Key)], V.int (if p.1 = n then (p.1, v) else p).2)
    by_cases e : p.1 = n
    · rw [if_pos (by rw [e]), if_pos e]
    · rw [if_neg (fun z => e (ksK_inj z)), if_neg e]
  · rw [if_neg h, if_neg h]
    unfold ksV
    rw [List.map_append] <;> rfl
section
variable {K : PySem.W.Frag} {σ : L2.St} {H H' : Hp} {ta tb te tc t0 t1 t2 tv : TE} {tr : TA} {D : Ends} {tz : TS} {E : XK}
theorem et_chain {i j k : Int} (ha : Ev ta σ H (.int i)) (hb : Ev tb σ H (.int j)) (hc : Ev te σ H (.int k)) : EvT (tTest (tChain (rI0 fun i j => .bl (decide (i ≤ j))) (rI0 fun i j => .bl (decide (i ≤ j))) ta tb te)) σ H (decide (i ≤ j) && decide (j ≤ k)) := et_test fun H1 e Q q =>
  ha H1 e _ fun H2 e2 => hb H2 (e.trans e2) _ fun H3 e3 => ⟨i, j, rfl, rfl, _, rfl, by
    by_cases h : i ≤ j
    · rw [decide_eq_true h]
      show te σ H3 _
      refine hc H3 ((e.trans e2).trans e3) _ fun H4 e4 => ⟨j, k, rfl, rfl, ?_⟩
      have z := q H4 ((e2.trans e3).trans e4)
      rw [decide_eq_true h, Bool.true_and] at z
      exact z
    · rw [decide_eq_false h]
      show Q (.bl false) H3
      have z := q H3 (e2.trans e3)
      rw [decide_eq_false h, Bool.false_and] at z
      exact z⟩
theorem ev_lenCat {i j : Str} {n : Nat} (ha : Ev ta σ H (.str i)) (hb : Ev tb σ H (.str j)) (h1 : i.length + j.length ≤ 100) (h2 : (i ++ j).length = n) (h3 : n ≤ 100) :
    Ev (tCB (fun xs H Q => ∃ z : Str, xs = [.str z] ∧ z.length ≤ sizeLine ∧ Q (.int z.length) H) (tCons (tOp (fun x y H Q => ∃ i j : Str, x = .str i ∧ y = .str j ∧ i.length + j.length ≤ sizeLine ∧ Q (.str (i ++ j)) H) ta tb) tNil)) σ H (.int (n : Int)) :=
  ev_cb (ea_cons (ev_op ha hb fun H1 _ Q q => ⟨i, j, rfl, rfl, sz_of (by omega), q H1 (Ex.refl H1)⟩) ea_nil) fun H1 _ Q q => ⟨_, rfl, by rw [h2]; exact sz_of (by omega), by rw [h2]; exact q H1 (Ex.refl H1)⟩
theorem ev_int1 {b : Bool} (h : Ev te σ H (.bl b)) : Ev (tCB (fun xs H Q => (∃ i, xs = [.int i] ∧ Q (.int i) H) ∨ ∃ k, xs = [.bl k] ∧ Q (.int (if k then 1 else 0)) H) (tCons te tNil)) σ H (.int (if b then 1 else 0)) :=
  ev_cb (ea_cons h ea_nil) fun H1 _ Q q => .inr ⟨b, rfl, q H1 (Ex.refl H1)⟩
end
def rkV : Int ⊕ Bool → V
  | .inl v => .int v
  | .inr b => .str (badS b)
section
variable {P : Program} {w : World} {K : PySem.W.Frag} {mg : Str → Option Value} {base : Heap}
/-! ### _law_reckon -/
abbrev s__law_reckon : Stmt := topS 20
theorem sc__law_reckon : FnScope ["_law_word", "_law_one", "_law_other_here", "_law_found"] ["_law_word", "_law_one", "_law_other_here"] (fnScope s__law_reckon) := fnScope_by (by decide +kernel)
def spReckon (K : PySem.W.Frag) : Sp := fun vs H Q _ => ∃ (o : Op) (a b : Int), vs = [.str (opS o), .int a, .int b] ∧ inB a = true ∧ inB b = true ∧ RetV (rkV (reckon o a b)) H Q
theorem ok_reckon (T : ModsI K mg) {f : Addr} {fd : FuncData} (F : Def K mg "_law_reckon" s__law_reckon f fd) (b : Binds K fd ["_law_word", "_law_one", "_law_other_here"] []) : Cal P w K mg base 1 "_law_reckon" (spReckon K) [] := by
  refine cal0 F b .nil sc__law_reckon (fun vs H Q E h => ?_) (fun cdv A outer s H vs Q E hr h => ?_)
  · obtain ⟨_, _, _, rfl, _⟩ := h
    rfl
  · obtain ⟨o, x, y, rfl, hx, hy, q⟩ := h
    have m_int := T.m_int
    have hu := hu_of hr
    refine ⟨_, (pss_cons (ps_if (pt_cmpR op_in_seq (pv 0) (pe_tup (pa_cons pe_str (pa_cons pe_str pa_nil))) (by with_unfolding_all rfl)) (pss_one (ps_ret (pe_ifExp (pt_cmpR op_eq (pv 2) pe_int (nomark _)) pe_str (pe_ifExp (pt_cmpR op_eq (pv 0) pe_str (nomark _)) (pe_op Wt.op_fdivQ (pv 1) (pv 2)) (pe_op op_sub (pv 1) (pe_op op_mul (pe_op Wt.op_fdivQ (pv 1) (pv 2)) (pv 2))))))) pss_nil)
      (pss_cons (ps_if (pt_cmpR op_in_seq (pv 0) (pe_tup (pa_cons pe_str (pa_cons pe_str pa_nil))) (by with_unfolding_all rfl)) (pss_one (ps_ret (pe_ifExp (pt_cmpR op_eq (pv 0) pe_str (nomark _)) (pe_callTy call_int1 (by rfl) m_int Wt.bt_int (pa_cons (pe_cmpR op_lt (pv 1) (pv 2) (nomark _)) pa_nil)) (pe_callTy call_int1 (by rfl) m_int Wt.bt_int (pa_cons (pe_cmpR op_eq (pv 1) (pv 2) (nomark _)) pa_nil))))) pss_nil)
      (pss_cons (ps_set (i := 3) sc__law_reckon.nd rfl (.inl rfl) (pe_ifExp (pt_cmpR op_eq (pv 0) pe_str (nomark _)) (pe_op op_add (pv 1) (pv 2)) (pe_ifExp (pt_cmpR op_eq (pv 0) pe_str (nomark _)) (pe_op op_sub (pv 1) (pv 2)) (pe_op op_mul (pv 1) (pv 2)))))
      (pss_one (ps_ret (pe_ifExp (pt_chain op_le op_le (pe_op op_sub pe_int (pe_op op_pow pe_int pe_int)) (pv 3) (pe_op op_pow pe_int pe_int)) (pv 3) pe_str)))))), ?_⟩
    rw [inB_iff] at hx hy
    have go : ∀ {H1 H2 : Hp}, Ex H H1 → Ex H1 H2 → Q (rkV (reckon o x y)) H2 := fun a b => q.go (a.trans b)
    have big : ∀ {H' : Hp} {σ : L2.St}, Ev (tOp (rI CPow fun i j => .int (i ^ j.toNat)) (tC (.int 10)) (tC (.int 12))) σ H' (.int 1000000000000) := ev_is (ev_op ev_c ev_c (rv_I ⟨by decide, by decide, by decide⟩)) (congrArg V.int (by decide))
    have small : ∀ {H' : Hp} {σ : L2.St}, Ev (tOp (rI0 fun i j => .int (i - j)) (tC (.int 0)) (tOp (rI CPow fun i j => .int (i ^ j.toNat)) (tC (.int 10)) (tC (.int 12)))) σ H' (.int (-1000000000000)) := ev_is (ev_op ev_c big rv_I0) (congrArg V.int (by decide))
    have eq0 : ∀ {H' : Hp} {σ : L2.St} {i j : Int} {ta tb : TE}, Ev ta σ H' (.int i) → Ev tb σ H' (.int j) → Ev (tOp rEq ta tb) σ H' (.bl (decide (i = j))) := fun {H' σ i j ta tb} ha hb => ev_is (ev_op ha hb (rv_eq rfl)) (congrArg V.bl (by
      by_cases z : i = j
      · rw [decide_eq_true z, decide_eq_true (congrArg V.int z)]
      · rw [decide_eq_false z, decide_eq_false fun w => z (V.int.inj w)]))
    have lims : ∀ {H' : Hp} {z : Int}, Ex H H' → reckon o x y = lim z → (tRet (tIf (tTest (tChain (rI0 fun i j => .bl (decide (i ≤ j))) (rI0 fun i j => .bl (decide (i ≤ j))) (tOp (rI0 fun i j => .int (i - j)) (tC (.int 0)) (tOp (rI CPow fun i j => .int (i ^ j.toNat)) (tC (.int 10)) (tC (.int 12)))) (tVar 3) (tOp (rI CPow fun i j => .int (i ^ j.toNat)) (tC (.int 10)) (tC (.int 12))))) (tVar 3) (tC (.str (Str.ofString "great"))))) { nx := fun _ H' => Q .non H', rt := Q, bk := fun _ _ => False, ct := fun _ _ => False } [some (.str (opS o)), some (.int x), some (.int y), some (.int z)] H' := fun {H' z} e h => by
      refine s_ret (v := rkV (lim z)) (ev_if (et_chain small (ev_var rfl) big) (fun hb => ?_) (fun hb => ?_)) fun H2 e2 => by rw [← h]; exact go e e2
      · rw [Bool.and_eq_true, decide_eq_true_iff, decide_eq_true_iff] at hb
        unfold lim
        rw [if_pos hb]
        exact ev_var rfl
      · have hb2 : ¬ (-1000000000000 ≤ z ∧ z ≤ 1000000000000) := fun w => by
          rw [decide_eq_true w.1, decide_eq_true w.2] at hb
          cases hb
        unfold lim
        rw [if_neg hb2]
        exact ev_c
    have no1 : ∀ {H' : Hp} {σ : L2.St} {b : Bool}, σ[0]? = some (some (.str (opS o))) → inV (.str (opS o)) [V.str (Str.ofString "over"), V.str (Str.ofString "rest")] = b → EvT (tTest (tOp (rIn K false) (tVar 0) (tTup (tCons (tC (.str (Str.ofString "over"))) (tCons (tC (.str (Str.ofString "rest"))) tNil))))) σ H' b := fun h0 h => inWU (K := K) (c := opS o) (ev_var h0) (eu_tup (ea_cons ev_c (ea_cons ev_c ea_nil)) (by show 2 ≤ 100000; decide)) rfl rfl h
    have no2 : ∀ {H' : Hp} {σ : L2.St} {b : Bool}, σ[0]? = some (some (.str (opS o))) → inV (.str (opS o)) [V.str (Str.ofString "less"), V.str (Str.ofString "same")] = b → EvT (tTest (tOp (rIn K false) (tVar 0) (tTup (tCons (tC (.str (Str.ofString "less"))) (tCons (tC (.str (Str.ofString "same"))) tNil))))) σ H' b := fun h0 h => inWU (K := K) (c := opS o) (ev_var h0) (eu_tup (ea_cons ev_c (ea_cons ev_c ea_nil)) (by show 2 ≤ 100000; decide)) rfl rfl h
    have wd : ∀ {H' : Hp} {σ : L2.St} {b : Bool} {z : Str}, σ[0]? = some (some (.str (opS o))) → decide (opS o = z) = b → EvT (tTest (tOp rEq (tVar 0) (tC (.str z)))) σ H' b := fun h0 h => eqWT (c := opS o) (ev_var h0) ev_c rfl h
    have nz : decide (y = 0) = false → y ≠ 0 := of_decide_eq_false
    cases o with
    | over =>
      refine q_when (b := true) (no1 rfl (by decide +kernel)) (fun _ H1 e1 => ?_) (fun z => by cases z)
      refine s_ret (v := rkV (reckon .over x y)) (ev_if (et_test (eq0 (ev_var rfl) ev_c)) (fun hb => ?_) (fun hb => ?_)) fun H2 e2 => go e1 e2
      · have e : reckon .over x y = .inr true := if_pos (of_decide_eq_true hb)
        rw [e]
        exact ev_c
      · have e : reckon .over x y = .inl (x.fdiv y) := if_neg (nz hb)
        rw [e]
        exact ev_if (wd rfl (by decide +kernel : _ = true)) (fun _ => ev_op (ev_var rfl) (ev_var rfl) (rv_I ⟨nz hb, hy⟩)) (fun z => by cases z)
    | rest =>
      refine q_when (b := true) (no1 rfl (by decide +kernel)) (fun _ H1 e1 => ?_) (fun z => by cases z)
      refine s_ret (v := rkV (reckon .rest x y)) (ev_if (et_test (eq0 (ev_var rfl) ev_c)) (fun hb => ?_) (fun hb => ?_)) fun H2 e2 => go e1 e2
      · have e : reckon .rest x y = .inr true := if_pos (of_decide_eq_true hb)
        rw [e]
        exact ev_c
      · have e : reckon .rest x y = .inl (x - x.fdiv y * y) := if_neg (nz hb)
        rw [e]
        exact ev_if (wd rfl (by decide +kernel : _ = false)) (fun z => by cases z) (fun _ => ev_op (ev_var rfl) (ev_op (ev_op (ev_var rfl) (ev_var rfl) (rv_I ⟨nz hb, hy⟩)) (ev_var rfl) (rv_I (.inr ⟨by omega, by omega⟩))) rv_I0)
    | less =>
      refine q_when (b := false) (no1 rfl (by decide +kernel)) (fun z => by cases z) (fun _ H1 e1 => ?_)
      refine q_when (b := true) (no2 rfl (by decide +kernel)) (fun _ H2 e2 => ?_) (fun z => by cases z)
      refine s_ret (v := rkV (reckon .less x y)) (ev_if (wd rfl (by decide +kernel : _ = true)) (fun _ => ?_) (fun z => by cases z)) fun H3 e3 => go (e1.trans e2) e3
      exact ev_is (ev_int1 (ev_op (ev_var rfl) (ev_var rfl) rv_I0)) (congrArg V.int (by
        by_cases z : x < y
        · rw [decide_eq_true z, if_pos z] <;> rfl
        · rw [decide_eq_false z, if_neg z] <;> rfl))
    | same =>
      refine q_when (b := false) (no1 rfl (by decide +kernel)) (fun z => by cases z) (fun _ H1 e1 => ?_)
      refine q_when (b := true) (no2 rfl (by decide +kernel)) (fun _ H2 e2 => ?_) (fun z => by cases z)
      refine s_ret (v := rkV (reckon .same x y)) (ev_if (wd rfl (by decide +kernel : _ = false)) (fun z => by cases z) (fun _ => ?_)) fun H3 e3 => go (e1.trans e2) e3
      exact ev_is (ev_int1 (eq0 (ev_var rfl) (ev_var rfl))) (congrArg V.int (by
        by_cases z : x = y
        · rw [decide_eq_true z, if_pos z] <;> rfl
        · rw [decide_eq_false z, if_neg z] <;> rfl))
    | add =>
      refine q_when (b := false) (no1 rfl (by decide +kernel)) (fun z => by cases z) (fun _ H1 e1 => ?_)
      refine q_when (b := false) (no2 rfl (by decide +kernel)) (fun z => by cases z) (fun _ H2 e2 => ?_)
      refine q_asg (v := .int (x + y)) (ev_if (wd rfl (by decide +kernel : _ = true)) (fun _ => ev_op (ev_var rfl) (ev_var rfl) rv_I0) (fun z => by cases z)) fun H3 e3 => ?_
      exact lims ((e1.trans e2).trans e3) rfl
    | take =>
      refine q_when (b := false) (no1 rfl (by decide +kernel)) (fun z => by cases z) (fun _ H1 e1 => ?_)
      refine q_when (b := false) (no2 rfl (by decide +kernel)) (fun z => by cases z) (fun _ H2 e2 => ?_)
      refine q_asg (v := .int (x - y)) (ev_if (wd rfl (by decide +kernel : _ = false)) (fun z => by cases z) (fun _ => ev_if (wd rfl (by decide +kernel : _ = true)) (fun _ => ev_op (ev_var rfl) (ev_var rfl) rv_I0) (fun z => by cases z))) fun H3 e3 => ?_
      exact lims ((e1.trans e2).trans e3) rfl
    | times =>
      refine q_when (b := false) (no1 rfl (by decide +kernel)) (fun z => by cases z) (fun _ H1 e1 => ?_)
      refine q_when (b := false) (no2 rfl (by decide +kernel)) (fun z => by cases z) (fun _ H2 e2 => ?_)
      refine q_asg (v := .int (x * y)) (ev_if (wd rfl (by decide +kernel : _ = false)) (fun z => by cases z) (fun _ => ev_if (wd rfl (by decide +kernel : _ = false)) (fun z => by cases z) (fun _ => ev_op (ev_var rfl) (ev_var rfl) (rv_I (.inr ⟨by omega, by omega⟩))))) fun H3 e3 => ?_
      exact lims ((e1.trans e2).trans e3) rfl
/-! ### _law_came -/
abbrev s__law_came : Stmt := topS 21
theorem sc__law_came : FnScope ["_law_file", "_law_name", "_law_worths", "_law_found", "_law_worth"] ["_law_file", "_law_name", "_law_worths"] (fnScope s__law_came) := fnScope_by (by decide +kernel)
def spCame (K : PySem.W.Frag) : Sp := fun vs H Q _ => ∃ (f n : Bool) (p : Addr) (xs : List Int), vs = [.str (fS f), .str (nS n), .ref p] ∧ SqL K H p (xs.map V.int) ∧ (∀ H', Ex H H' → SqL K H' p (xs.map V.int)) ∧ xs.length ≤ 90000 ∧ RetV (.int (came xs)) H Q
theorem ok_came (T : ModsI K mg) {f : Addr} {fd : FuncData} (F : Def K mg "_law_came" s__law_came f fd) (b : Binds K fd ["_law_file", "_law_name", "_law_worths"] []) : Cal P w K mg base 1 "_law_came" (spCame K) [] := by
  refine cal0 F b .nil sc__law_came (fun vs H Q E h => ?_) (fun cdv A outer s H vs Q E hr h => ?_)
  · obtain ⟨_, _, _, _, rfl, _⟩ := h
    rfl
  · obtain ⟨fb, nb, p, xs, rfl, hp, hpx, hl, q⟩ := h
    have m_len := T.m_len
    have hu := hu_of hr
    refine ⟨_, (pss_cons (ps_set (i := 3) sc__law_came.nd rfl (.inl rfl) (pe_op op_add (pe_op op_mul (pe_callB call_len_str (by rfl) m_len PySem.boot_len (pa_cons (pe_op op_add_str (pv 0) (pv 1)) pa_nil)) pe_int) (pe_callB call_len_seq (by rfl) m_len PySem.boot_len (pa_cons (pv 2) pa_nil))))
      (pss_cons (ps_for PassesOwn.never rfl (pi_list (pv 2)) (pg_name (i := 4) sc__law_came.nd rfl (.inl rfl)) (pss_one (ps_set (i := 3) sc__law_came.nd rfl (.inl rfl) (pe_op op_mod (pe_op op_add (pe_op op_mul (pv 3) pe_int) (pv 4)) pe_int))))
      (pss_one (ps_ret (pe_op op_sub (pv 3) pe_int))))), ?_⟩
    refine q_asg (v := .int (21 + (xs.length : Int))) ?_ fun H1 e1 => ?_
    · exact ev_is (ev_op (ev_op (ev_lenCat (n := 3) (ev_var rfl) (ev_var rfl) (by cases fb <;> cases nb <;> decide +kernel) (by cases fb <;> cases nb <;> decide +kernel) (by decide)) ev_c (rv_I (.inr ⟨by decide, by decide⟩))) (ev_len (K := K) (ev_var rfl) hp) rv_I0) (congrArg V.int (by rw [List.length_map]; omega))
    refine q_forLn (ev_var rfl) (hpx _ e1) (fun i σ' H' => ∃ (y : Option V), σ' = [some (.str (fS fb)), some (.str (nS nb)), some (.ref p), some (.int ((xs.take i).foldl (fun a w => (a * 31 + w) % 1009) (21 + (xs.length : Int)))), y] ∧ Ex H H')
      (fun H2 e2 => ⟨none, rfl, e1.trans e2⟩) (fun i σ' H' _ ⟨_, _, e⟩ => hpx _ e) ?_ ?_
    · rintro i x σ' H' hx ⟨y, rfl, eH⟩
      rw [List.getElem?_map] at hx
      cases hc : xs[i]? with
      | none => rw [hc] at hx; cases hx
      | some c =>
        rw [hc] at hx
        have ex : x = .int c := (Option.some.inj hx).symm
        subst ex
        refine s_asg (ev_op (ev_op (ev_op (ev_var rfl) ev_c (rv_I (.inr ⟨by decide, by decide⟩))) (ev_var rfl) rv_I0) ev_c (rv_I (show (0 : Int) < 1009 by decide))) fun H2 e2 => ⟨some (.int c), ?_, eH.trans e2⟩
        rw [List.take_succ, hc, List.foldl_append] <;> rfl
    · rintro σ' H' ⟨y, rfl, eH⟩
      rw [List.length_map, List.take_length]
      exact s_ret (ev_op (ev_var rfl) ev_c rv_I0) fun H4 e4 => q.go (eH.trans e4)
end
end Wt

set_option Elab.async false
set_option linter.all false
set_option maxRecDepth 100000
set_option maxHeartbeats 4000000
namespace Wt
open PySem PySem.Spec PyProof.Rows L2 SX Evl
open C8 (Def Cal cal0 fnScope_by fnScope)
/-! _law_done: what a row over cells does. -/
/-- the rest of what is told, as values; N: which objects are new -/
def RestV (N : Addr → Prop) (H : Hp) (xs : List V) : Rest → Prop
  | .snap c => ∃ d, xs = [.ref d] ∧ N d ∧ H d = some (.dK (cV c))
  | .flat vs => xs = vs ∧ vs.all flatV = true ∧ vs ≠ []
  | .call f n ws => ∃ l, xs = [.str (fS f), .str (nS n), .ref l] ∧ N l ∧ H l = some (.lst (ws.map V.int))
def ToldV (N : Addr → Prop) (H : Hp) (w : V) : Option Rest → Prop
  | none => ∃ p, w = .ref p ∧ N p ∧ H p = some (.tup [])
  | some r => ∃ p xs, w = .ref p ∧ N p ∧ H p = some (.tup xs) ∧ RestV N H xs r
theorem RestV.ex {N N' : Addr → Prop} {H H' : Hp} {xs : List V} (hn : ∀ a, N a → N' a) (e : ∀ a o, N a → H a = some o → H' a = some o) : ∀ {r : Rest}, RestV N H xs r → RestV N' H' xs r
  | .snap c, ⟨d, h1, h2, h3⟩ => ⟨d, h1, hn d h2, e d _ h2 h3⟩
  | .flat vs, h => h
  | .call f n ws, ⟨l, h1, h2, h3⟩ => ⟨l, h1, hn l h2, e l _ h2 h3⟩
theorem ToldV.ex {N N' : Addr → Prop} {H H' : Hp} {w : V} (hn : ∀ a, N a → N' a) (e : ∀ a o, N a → H a = some o → H' a = some o) : ∀ {t : Option Rest}, ToldV N H w t → ToldV N' H' w t
  | none, ⟨p, h1, h2, h3⟩ => ⟨p, h1, hn p h2, e p _ h2 h3⟩
  | some r, ⟨p, xs, h1, h2, h3, h4⟩ => ⟨p, xs, h1, hn p h2, e p _ h2 h3, h4.ex hn e⟩
theorem val_aval {c : Cs} {k x : Int} (h : val c k = some x) : aval c k = some x := by
  unfold val at h
  cases e : aval c k with
  | none => rw [e] at h; cases h
  | some y =>
    rw [e] at h
    have h2 : (if inB y = true then some y else none) = some x := h
    split at h2
    · exact h2
    · cases h2
theorem td_intsV {H : Hp} : ∀ {vs : List V} {xs : List Int}, TdAll H vs (xs.map .int) → vs = xs.map V.int
  | _, [], h => by cases h; rfl
  | _, x :: xs, h => by
    cases h with
    | cons h1 h2 =>
      cases h1
      rw [td_intsV h2] <;> rfl
theorem vals_map {c : Cs} : ∀ {cs xs : List Int}, vals c cs = some xs → (cs.map fun k => (val c k).getD 0) = xs
  | [], xs, h => by cases h; rfl
  | k :: cs, xs, h => by
    unfold vals at h
    cases e1 : val c k with
    | none => rw [e1] at h; cases h
    | some x =>
      cases e2 : vals c cs with
      | none => rw [e1, e2] at h; cases h
      | some ys =>
        rw [e1, e2] at h
        have h2 : x :: ys = xs := Option.some.inj h
        rw [← h2, List.map_cons, e1, vals_map e2] <;> rfl
theorem vals_mem {c : Cs} : ∀ {cs xs : List Int}, vals c cs = some xs → ∀ k ∈ cs, ∃ x, val c k = some x
  | [], _, _ => fun k hk => by cases hk
  | k :: cs, xs, h => by
    unfold vals at h
    cases e1 : val c k with
    | none => rw [e1] at h; cases h
    | some x =>
      cases e2 : vals c cs with
      | none => rw [e1, e2] at h; cases h
      | some ys =>
        intro j hj
        rcases List.mem_cons.mp hj with rfl | hj
        · exact ⟨x, e1⟩
        · exact vals_mem e2 j hj
section
variable {K : PySem.W.Frag} {σ : L2.St} {H H' : Hp} {ta tb te tc td ty tk t0 t1 t2 tv : TE} {tr : TA} {D : Ends} {tz : TS} {E : XK}
theorem q_dputC {a : Addr} {c : Cs} {k v : Int} (hv : Ev tv σ H (.int v)) (hd : ∀ H', Ev td σ H' (.ref a)) (hk : ∀ H', Ex H H' → Ev ty σ H' (.int k)) (h : H a = some (.dK (cV c))) (hz : c.length ≤ 90000)
    (q : ∀ H1, Ex H H1 → tz D σ (upd H1 a (.dK (cV (aput c k v))))) : tSeq (sDPut td ty tv) tz D σ H := hv H (Ex.refl H) _ fun H1 e1 => hd H1 H1 (Ex.refl _) _ fun H2 e2 => hk H2 (e1.trans e2) H2 (Ex.refl _) _ fun H3 e3 => by
  have e := (e1.trans e2).trans e3
  refine ⟨a, _, rfl, DPut.k (k := (Sum.inl k : Key)) (e a _ h) (sz_lt (by unfold cV; rw [List.length_map]; omega)), ?_⟩
  rw [cV_put]
  exact q H3 e
theorem s_dputC {a : Addr} {c : Cs} {k v : Int} (hv : Ev tv σ H (.int v)) (hd : ∀ H', Ev td σ H' (.ref a)) (hk : ∀ H', Ex H H' → Ev ty σ H' (.int k)) (h : H a = some (.dK (cV c))) (hz : c.length ≤ 90000)
    (q : ∀ H1, Ex H H1 → D.nx σ (upd H1 a (.dK (cV (aput c k v))))) : sDPut td ty tv D σ H := hv H (Ex.refl H) _ fun H1 e1 => hd H1 H1 (Ex.refl _) _ fun H2 e2 => hk H2 (e1.trans e2) H2 (Ex.refl _) _ fun H3 e3 => by
  have e := (e1.trans e2).trans e3
  refine ⟨a, _, rfl, DPut.k (k := (Sum.inl k : Key)) (e a _ h) (sz_lt (by unfold cV; rw [List.length_map]; omega)), ?_⟩
  rw [cV_put]
  exact q H3 e
theorem q_dputKs {a : Addr} {ks : Ks} {n : Bool} {v : Int} (hv : Ev tv σ H (.int v)) (hd : ∀ H', Ev td σ H' (.ref a)) (hk : ∀ H', Ex H H' → EvU ty σ H' [.str (fS false), .str (keepS n)]) (h : H a = some (.dT (ksV ks))) (hz : ks.length ≤ 90000)
    (q : ∀ H1, Ex H H1 → tz D σ (upd H1 a (.dT (ksV (aput ks n v))))) : tSeq (sDPut td ty tv) tz D σ H := hv H (Ex.refl H) _ fun H1 e1 => hd H1 H1 (Ex.refl _) _ fun H2 e2 => hk H2 (e1.trans e2) H2 (Ex.refl _) _ fun p H3 hp0 e3 hp => by
  have e := (e1.trans e2).trans e3
  refine ⟨a, _, rfl, DPut.t (k := [(Sum.inr (fS false) : Key), (Sum.inr (keepS n) : Key)]) (e a _ h) hp (sz_lt (by unfold ksV; rw [List.length_map]; omega)), ?_⟩
  rw [ksV_put]
  exact q H3 e
/-- keeps.get((f, n), 33) -/
theorem ev_kget {a : Addr} {ks : Ks} {f n : Bool} (hd : Ev td σ H (.ref a)) (hk : EvU ty σ H [.str (fS f), .str (keepS n)]) (hx : Ev te σ H (.int 33)) (h : H a = some (.dT (ksV ks))) : Ev (tDGet2 td ty te) σ H (.int (kget ks f n)) := fun H1 e Q q =>
  hd H1 e _ fun H2 e2 => ⟨a, rfl, .inr ⟨_, .inl ((e.trans e2) a _ h)⟩, hk H2 (e.trans e2) _ fun p H3 hp0 e3 hp => hx H3 ((e.trans e2).trans e3) _ fun H4 e4 => by
    have g := DGet.t (k := [(Sum.inr (fS f) : Key), (Sum.inr (keepS n) : Key)]) ((((e.trans e2).trans e3).trans e4) a _ h) (e4 _ _ hp)
    rw [ksV_val] at g
    refine ⟨_, g, ?_⟩
    have z := q H4 ((e2.trans e3).trans e4)
    unfold kget at z
    cases ho : (if f = true then none else aval ks n) with
    | none =>
      rw [ho] at z
      exact z
    | some x =>
      rw [ho] at z
      exact z⟩
theorem ev_cell {a : Addr} {c : Cs} {k x : Int} (hd : Ev td σ H (.ref a)) (hk : Ev ty σ H (.int k)) (h : H a = some (.dK (cV c))) (hx : val c k = some x) : Ev (tDGet td ty) σ H (.int x) := ev_dgetI hd hk h (by rw [cV_val, val_aval hx] <;> rfl)
end
def tells : Rw → Bool
  | .say .. => true
  | .lay .. => true
  | .give .. => true
  | .fetch .. => true
  | .call .. => true
  | .op .. => true
  | _ => false
section
variable {P : Program} {w : World} {K : PySem.W.Frag} {mg : Str → Option Value} {base : Heap}
abbrev s__law_done : Stmt := topS 23
theorem sc__law_done : FnScope ["_law_row", "_law_cells", "_law_keeps", "_law_word", "_law_worths", "_law_worth", "_law_cell"] ["_law_row", "_law_cells", "_law_keeps"] (fnScope s__law_done) := fnScope_by (by decide +kernel)
/-- what comes of a row that tells: the state then, what is told -/
def Comes (out : Out) (s s' : Sx) (t : Option Rest) : Prop := out = .on s' t ∨ (s' = s ∧ ∃ t', t = some t' ∧ out = .stop t')
def spDone (K : PySem.W.Frag) : Sp := fun vs H Q _ => ∃ (v : V) (c k : Addr) (s : Sx) (r : Rw) (pl : Int × Int) (out : Out), vs = [v, .ref c, .ref k] ∧ Td H v (rpD (r, pl)) ∧ H c = some (.dK (cV s.c)) ∧ H k = some (.dT (ksV s.k)) ∧
  s.c.length ≤ 90000 ∧ s.k.length ≤ 90000 ∧ tells r = true ∧ fewC r = true ∧ eff s r = some out ∧
  ∀ s' t w H2, Comes out s s' t → Kp [c, k] H H2 → H2 c = some (.dK (cV s'.c)) → H2 k = some (.dT (ksV s'.k)) → ToldV (fun a => H a = none) H2 w t → Q w H2
theorem ok_done (T : ModsI K mg) (c__law_reckon : Cal P w K mg base 1 "_law_reckon" (spReckon K) []) (c__law_came : Cal P w K mg base 1 "_law_came" (spCame K) []) {f : Addr} {fd : FuncData} (F : Def K mg "_law_done" s__law_done f fd) (b : Binds K fd ["_law_row", "_law_cells", "_law_keeps"] []) : Cal P w K mg base 2 "_law_done" (spDone K) [] := by
  refine cal0 F b .nil sc__law_done (fun vs H Q E h => ?_) (fun cdv A outer s H vs Q E hr h => ?_)
  · obtain ⟨_, _, _, _, _, _, _, rfl, _⟩ := h
    rfl
  · obtain ⟨v, c, k, ⟨cs, ks⟩, r, pl, out, rfl, hv, hc, hk, lc, lk, ht, hf, he, q⟩ := h
    have m_len := T.m_len
    have m_isinstance := T.m_isinstance
    have m_str := T.m_str
    have hu := hu_of hr
    have hu64 := hr.units
    refine ⟨_, (pss_cons (ps_set (i := 3) sc__law_done.nd rfl (.inl rfl) (pe_ix ix_tup (pv 0) pe_int (fun _ _ => rfl)))
      (pss_cons (ps_if (pt_cmpR op_eq (pv 3) pe_str (nomark _)) (pss_one (ps_ret (pe_tup (pa_cons (pe_ix ix_tup (pv 0) pe_int (fun _ _ => rfl)) (pa_cons (pe_dget hu (pv 1) (pe_ix ix_tup (pv 0) pe_int (fun _ _ => rfl)) (fun _ _ => rfl)) pa_nil))))) pss_nil)
      (pss_cons (ps_if (pt_cmpR op_eq (pv 3) pe_str (nomark _)) (pss_cons (ps_dput hu (pv 2) (pe_tup (pa_cons pe_str (pa_cons (pe_ix ix_tup (pv 0) pe_int (fun _ _ => rfl)) pa_nil))) (pe_dget hu (pv 1) (pe_ix ix_tup (pv 0) pe_int (fun _ _ => rfl)) (fun _ _ => rfl)) rfl)
      (pss_one (ps_ret (pe_tup (pa_cons (pe_ix ix_tup (pv 0) pe_int (fun _ _ => rfl)) (pa_cons (pe_dget hu (pv 1) (pe_ix ix_tup (pv 0) pe_int (fun _ _ => rfl)) (fun _ _ => rfl)) pa_nil)))))) pss_nil)
      (pss_cons (ps_if (pt_cmpR op_eq (pv 3) pe_str (nomark _)) (pss_one (ps_ret (pe_tup (pa_cons (pe_ifExp (pt_cmpR op_isN (pe_ix ix_tup (pv 0) pe_int (fun _ _ => rfl)) pe_non (nomark _)) pe_non (pe_dget hu (pv 1) (pe_ix ix_tup (pv 0) pe_int (fun _ _ => rfl)) (fun _ _ => rfl))) pa_nil)))) pss_nil)
      (pss_cons (ps_if (pt_cmpR op_eq (pv 3) pe_str (nomark _)) (pss_cons (ps_dput hu (pv 1) (pe_ix ix_tup (pv 0) pe_int (fun _ _ => rfl)) (pe_dget2 hu (pv 2) (pe_tup (pa_cons (pe_ix ix_tup (pv 0) pe_int (fun _ _ => rfl)) (pa_cons (pe_ix ix_tup (pv 0) pe_int (fun _ _ => rfl)) pa_nil))) (pe_op op_mul (pe_callB call_len_str (by rfl) m_len PySem.boot_len (pa_cons (pe_op op_add_str (pe_ix ix_tup (pv 0) pe_int (fun _ _ => rfl)) (pe_ix ix_tup (pv 0) pe_int (fun _ _ => rfl))) pa_nil)) pe_int) ⟨rfl, by rfl, by rfl, rfl⟩) rfl)
      (pss_one (ps_ret (pe_tup (pa_cons (pe_ix ix_tup (pv 0) pe_int (fun _ _ => rfl)) (pa_cons (pe_ix ix_tup (pv 0) pe_int (fun _ _ => rfl)) pa_nil)))))) pss_nil)
      (pss_cons (ps_if (pt_cmpR op_eq (pv 3) pe_str (nomark _)) (pss_cons (ps_setLc (i := 4) (own := [("_law_cell", 6)]) (g := (gName 6)) (tt := tYes) rfl sc__law_done.nd rfl rfl (sw_true rfl rfl rfl (by decide +kernel)) (pi_tup (pe_ix ix_tup (pv 0) pe_int (fun _ _ => rfl))) (blkOk_by (N := ["_law_row", "_law_cells", "_law_keeps", "_law_word", "_law_worths", "_law_worth", "_law_cell"]) (sc := C8.fnScope s__law_done) (by decide +kernel)) (fun _ _ _ _ _ => pg_name (i := 6) sc__law_done.nd rfl (Or.inl rfl)) (fun _ _ _ _ _ => pts_nil) (fun _ _ _ _ _ => (pe_dget hu (pv 1) (pv 6) (fun _ _ => rfl))))
      (pss_cons (ps_if (pt_cmpR op_notN (pe_ix ix_tup (pv 0) pe_int (fun _ _ => rfl)) pe_non (nomark _)) (pss_one (ps_dput hu (pv 1) (pe_ix ix_tup (pv 0) pe_int (fun _ _ => rfl)) (C8.pe_c c__law_came hr (by first | decide | exact Nat.le_refl _ | omega) (by rfl) (pa_cons (pe_ix ix_tup (pv 0) pe_int (fun _ _ => rfl)) (pa_cons (pe_ix ix_tup (pv 0) pe_int (fun _ _ => rfl)) (pa_cons (pv 4) pa_nil)))) rfl)) pss_nil)
      (pss_one (ps_ret (pe_tup (pa_cons (pe_ix ix_tup (pv 0) pe_int (fun _ _ => rfl)) (pa_cons (pe_ix ix_tup (pv 0) pe_int (fun _ _ => rfl)) (pa_cons (pv 4) pa_nil)))))))) pss_nil)
      (pss_cons (ps_set (i := 5) sc__law_done.nd rfl (.inl rfl) (C8.pe_c c__law_reckon hr (by first | decide | exact Nat.le_refl _ | omega) (by rfl) (pa_cons (pv 3) (pa_cons (pe_dget hu (pv 1) (pe_ix ix_tup (pv 0) pe_int (fun _ _ => rfl)) (fun _ _ => rfl)) (pa_cons (pe_dget hu (pv 1) (pe_ix ix_tup (pv 0) pe_int (fun _ _ => rfl)) (fun _ _ => rfl)) pa_nil)))))
      (pss_cons (ps_if (pt_val (pe_callB call_isi (by rfl) m_isinstance Wt.bt_isinstance (pa_cons (pv 5) (pa_cons (pe_bltn (v := .ty "str") (by rfl) m_str Wt.bt_str rfl) pa_nil)))) (pss_one (ps_ret (pe_tup (pa_cons (pv 5) pa_nil)))) pss_nil)
      (pss_cons (ps_dput hu (pv 1) (pe_ix ix_tup (pv 0) pe_int (fun _ _ => rfl)) (pv 5) rfl)
      (pss_one (ps_ret (pe_tup pa_nil)))))))))))), ?_⟩
    have nck : c ≠ k := ne_of hc hk (by intro z; cases z)
    refine q_asg (ev_ixTs (K := K) (j := 0) (ev_var rfl) hv ev_c rfl) fun H1 e1 => ?_
    have wd : ∀ {H' : Hp} {σ : L2.St} {b : Bool} {z : Str} (x : Str), σ[3]? = some (some (.str (rwW r))) → rwW r = x → decide (x = z) = b → EvT (tTest (tOp rEq (tVar 3) (tC (.str z)))) σ H' b := fun x h0 hx h => eqWT (c := x) (ev_var h0) ev_c hx h
    have hvx : ∀ {H'}, Ex H1 H' → Td H' v (rpD (r, pl)) := fun e => Td.tx (Tx.of (e1.trans e)) _ _ hv
    have hcx : ∀ {H'}, Ex H1 H' → H' c = some (.dK (cV cs)) := fun e => (e1.trans e) _ _ hc
    have hkx : ∀ {H'}, Ex H1 H' → H' k = some (.dT (ksV ks)) := fun e => (e1.trans e) _ _ hk
    -- nothing changed, something told
    have same : ∀ {H' : Hp} {te : TE} {σ : L2.St} {D : Ends} {t : Rest} {xs : List V}, Ex H1 H' → D.rt = Q → EvU te σ H' xs → Comes out ⟨cs, ks⟩ ⟨cs, ks⟩ (some t) → (∀ H2, Ex H' H2 → RestV (fun a => H a = none) H2 xs t) → tRet te D σ H' := fun {H' te σ D t xs} e hD h hcm hr => s_retU h fun p H2 hp0 e2 hp => by
      rw [hD]
      exact q _ _ _ H2 hcm (.of ((e1.trans e).trans e2)) (e2 _ _ (hcx e)) (e2 _ _ (hkx e)) ⟨p, xs, rfl, fresh_back (e1.trans e) hp0, hp, hr H2 e2⟩
    cases r with
    | say kb cc =>
      cases hx : val cs cc with
      | none =>
        have he' : (val cs cc).map _ = some out := he
        rw [hx] at he'
        cases he'
      | some x =>
        have eo := Option.some.inj ((eff_say (s := ⟨cs, ks⟩) (k := kb) hx).symm.trans he)
        refine q_when (b := true) (wd (Str.ofString "say") rfl rfl (by decide +kernel)) (fun _ H2 e2 => ?_) (fun z => by cases z)
        exact same e2 rfl (eu_tup (ea_cons (ev_ixTs (K := K) (j := 1) (ev_var rfl) (hvx e2) ev_c rfl) (ea_cons (ev_cell (ev_var rfl) (ev_ixTi (K := K) (j := 2) (ev_var rfl) (hvx e2) ev_c rfl) (hcx e2) hx) ea_nil)) (by show 2 ≤ 100000; decide)) (.inl eo.symm) fun _ _ => ⟨rfl, rfl, List.cons_ne_nil _ _⟩
    | lay nb cc =>
      cases hx : val cs cc with
      | none =>
        have he' : (val cs cc).map _ = some out := he
        rw [hx] at he'
        cases he'
      | some x =>
        have eo := Option.some.inj ((eff_lay (s := ⟨cs, ks⟩) (n := nb) hx).symm.trans he)
        refine q_when (b := false) (wd (Str.ofString "lay") rfl rfl (by decide +kernel)) (fun z => by cases z) (fun _ H2 e2 => ?_)
        refine q_when (b := true) (wd (Str.ofString "lay") rfl rfl (by decide +kernel)) (fun _ H3 e3 => ?_) (fun z => by cases z)
        have e13 := e2.trans e3
        refine q_dputKs (n := nb) (ev_cell (ev_var rfl) (ev_ixTi (K := K) (j := 2) (ev_var rfl) (hvx e13) ev_c rfl) (hcx e13) hx) (fun _ => ev_var rfl) (fun H' e' => eu_tup (ea_cons ev_c (ea_cons (ev_ixTs (K := K) (j := 1) (ev_var rfl) (hvx (e13.trans e')) ev_c rfl) ea_nil)) (by show 2 ≤ 100000; decide)) (hkx e13) lk fun H4 e4 => ?_
        have e14 := e13.trans e4
        have kp : Kp [c, k] H (upd H4 k (.dT (ksV (aput ks nb x)))) := (Kp.of (e1.trans e14)).trans (.upd (by simp) (hkx e14))
        have hv5 : Td (upd H4 k (.dT (ksV (aput ks nb x)))) v (rpD (.lay nb cc, pl)) := Td.tx (fun a zs z => by rw [upd_ne (ne_of z (hkx e14) (by intro z; cases z))]; exact z) _ _ (hvx e14)
        have hc5 : (upd H4 k (.dT (ksV (aput ks nb x)))) c = some (.dK (cV cs)) := by rw [upd_ne nck]; exact hcx e14
        have hk5 : (upd H4 k (.dT (ksV (aput ks nb x)))) k = some (.dT (ksV (aput ks nb x))) := upd_same
        generalize upd H4 k (.dT (ksV (aput ks nb x))) = H5 at kp hv5 hc5 hk5 ⊢
        refine s_retU (eu_tup (ea_cons (ev_ixTs (K := K) (j := 1) (ev_var rfl) hv5 ev_c rfl) (ea_cons (ev_cell (ev_var rfl) (ev_ixTi (K := K) (j := 2) (ev_var rfl) hv5 ev_c rfl) hc5 hx) ea_nil)) (by show 2 ≤ 100000; decide)) fun p H6 hp0 e6 hp => ?_
        exact q _ _ _ H6 (.inl eo.symm) (kp.trans (.of e6)) (e6 _ _ hc5) (e6 _ _ hk5) ⟨p, _, rfl, kp.there p hp0, hp, rfl, rfl, List.cons_ne_nil _ _⟩
    | give oc =>
      refine q_when (b := false) (wd (Str.ofString "give") rfl rfl (by decide +kernel)) (fun z => by cases z) (fun _ H2 e2 => ?_)
      refine q_when (b := false) (wd (Str.ofString "give") rfl rfl (by decide +kernel)) (fun z => by cases z) (fun _ H3 e3 => ?_)
      refine q_when (b := true) (wd (Str.ofString "give") rfl rfl (by decide +kernel)) (fun _ H4 e4 => ?_) (fun z => by cases z)
      have e14 := (e2.trans e3).trans e4
      obtain ⟨x1, hx1, ev1⟩ := ev_ixTd (K := K) (σ := [some v, some (.ref c), some (.ref k), some (.str (Str.ofString "give")), none, none, none]) (ta := tVar 0) (tb := tC (.int 1)) (j := 1) (ev_var rfl) (hvx e14) ev_c rfl
      cases oc with
      | none =>
        cases hx1
        have eo : Out.stop (.flat [.non]) = out := Option.some.inj he
        exact same e14 rfl (eu_tup (ea_cons (ev_if (et_isNone (b := true) ev1 rfl) (fun _ => ev_c) (fun z => by cases z)) ea_nil) (by show 1 ≤ 100000; decide)) (.inr ⟨rfl, _, rfl, eo.symm⟩) fun _ _ => ⟨rfl, rfl, List.cons_ne_nil _ _⟩
      | some cc =>
        cases hx1
        cases hx : val cs cc with
        | none =>
          have he' : (val cs cc).map _ = some out := he
          rw [hx] at he'
          cases he'
        | some x =>
          have eo := Option.some.inj ((eff_give (s := ⟨cs, ks⟩) hx).symm.trans he)
          exact same e14 rfl (eu_tup (ea_cons (ev_if (et_isNone (b := false) ev1 rfl) (fun z => by cases z) (fun _ => ev_cell (ev_var rfl) ev1 (hcx e14) hx)) ea_nil) (by show 1 ≤ 100000; decide)) (.inr ⟨rfl, _, rfl, eo.symm⟩) fun _ _ => ⟨rfl, rfl, List.cons_ne_nil _ _⟩
    | fetch cc fb nb =>
      have eo : Out.on ⟨aput cs cc (kget ks fb nb), ks⟩ (some (.flat [.str (fS fb), .str (keepS nb)])) = out := Option.some.inj he
      refine q_when (b := false) (wd (Str.ofString "fetch") rfl rfl (by decide +kernel)) (fun z => by cases z) (fun _ H2 e2 => ?_)
      refine q_when (b := false) (wd (Str.ofString "fetch") rfl rfl (by decide +kernel)) (fun z => by cases z) (fun _ H3 e3 => ?_)
      refine q_when (b := false) (wd (Str.ofString "fetch") rfl rfl (by decide +kernel)) (fun z => by cases z) (fun _ H4 e4 => ?_)
      refine q_when (b := true) (wd (Str.ofString "fetch") rfl rfl (by decide +kernel)) (fun _ H5 e5 => ?_) (fun z => by cases z)
      have e15 := ((e2.trans e3).trans e4).trans e5
      refine q_dputC (k := cc) (ev_kget (f := fb) (n := nb) (ev_var rfl) (eu_tup (ea_cons (ev_ixTs (K := K) (j := 2) (ev_var rfl) (hvx e15) ev_c rfl) (ea_cons (ev_ixTs (K := K) (j := 3) (ev_var rfl) (hvx e15) ev_c rfl) ea_nil)) (by show 2 ≤ 100000; decide)) (ev_is (ev_op (ev_lenCat (n := 3) (ev_ixTs (K := K) (j := 2) (ev_var rfl) (hvx e15) ev_c rfl) (ev_ixTs (K := K) (j := 3) (ev_var rfl) (hvx e15) ev_c rfl) (by cases fb <;> cases nb <;> decide +kernel) (by cases fb <;> cases nb <;> decide +kernel) (by decide)) ev_c (rv_I (.inr ⟨by decide, by decide⟩))) (congrArg V.int (by decide))) (hkx e15)) (fun _ => ev_var rfl) (fun H' e' => ev_ixTi (K := K) (j := 1) (ev_var rfl) (hvx (e15.trans e')) ev_c rfl) (hcx e15) lc fun H6 e6 => ?_
      have e16 := e15.trans e6
      have kp : Kp [c, k] H (upd H6 c (.dK (cV (aput cs cc (kget ks fb nb))))) := (Kp.of (e1.trans e16)).trans (.upd (by simp) (hcx e16))
      have hv5 : Td (upd H6 c (.dK (cV (aput cs cc (kget ks fb nb))))) v (rpD (.fetch cc fb nb, pl)) := Td.tx (Tx.dK (hcx e16)) _ _ (hvx e16)
      have hk5 : (upd H6 c (.dK (cV (aput cs cc (kget ks fb nb))))) k = some (.dT (ksV ks)) := by rw [upd_ne nck.symm]; exact hkx e16
      have hc5 : (upd H6 c (.dK (cV (aput cs cc (kget ks fb nb))))) c = some (.dK (cV (aput cs cc (kget ks fb nb)))) := upd_same
      generalize upd H6 c (.dK (cV (aput cs cc (kget ks fb nb)))) = H7 at kp hv5 hc5 hk5 ⊢
      refine s_retU (eu_tup (ea_cons (ev_ixTs (K := K) (j := 2) (ev_var rfl) hv5 ev_c rfl) (ea_cons (ev_ixTs (K := K) (j := 3) (ev_var rfl) hv5 ev_c rfl) ea_nil)) (by show 2 ≤ 100000; decide)) fun p H8 hp0 e8 hp => ?_
      exact q _ _ _ H8 (.inl eo.symm) (kp.trans (.of e8)) (e8 _ _ hc5) (e8 _ _ hk5) ⟨p, _, rfl, kp.there p hp0, hp, rfl, rfl, List.cons_ne_nil _ _⟩
    | call oc fb nb ws =>
      cases hx : vals cs ws with
      | none =>
        have he' : (vals cs ws).map _ = some out := he
        rw [hx] at he'
        cases he'
      | some xs =>
        have eo := Option.some.inj ((eff_call (s := ⟨cs, ks⟩) (oc := oc) (f := fb) (n := nb) hx).symm.trans he)
        have lw : ws.length ≤ 3 := of_decide_eq_true hf
        have lxs : xs.length ≤ 3 := by rw [vals_len hx]; exact lw
        refine q_when (b := false) (wd (Str.ofString "call") rfl rfl (by decide +kernel)) (fun z => by cases z) (fun _ H2 e2 => ?_)
        refine q_when (b := false) (wd (Str.ofString "call") rfl rfl (by decide +kernel)) (fun z => by cases z) (fun _ H3 e3 => ?_)
        refine q_when (b := false) (wd (Str.ofString "call") rfl rfl (by decide +kernel)) (fun z => by cases z) (fun _ H4 e4 => ?_)
        refine q_when (b := false) (wd (Str.ofString "call") rfl rfl (by decide +kernel)) (fun z => by cases z) (fun _ H5 e5 => ?_)
        refine q_when (b := true) (wd (Str.ofString "call") rfl rfl (by decide +kernel)) (fun _ H6 e6 => ?_) (fun z => by cases z)
        have e16 := (((e2.trans e3).trans e4).trans e5).trans e6
        have emap : (ws.map PyData.int).map (fun d => match d with | .int z => .int ((val cs z).getD 0) | d => d) = xs.map PyData.int := by
          rw [List.map_map, ← vals_map hx, List.map_map] <;> rfl
        refine q_asgDL (ds := xs.map .int) (emap ▸ edl_lcTD (K := K) (ds := ws.map .int) (f := fun d => match d with | .int z => .int ((val cs z).getD 0) | d => d) (ed_ixTd (K := K) (j := 4) (ev_var rfl) (hvx e16) ev_c rfl) (by rw [List.length_map]; omega) (fun _ => rfl) fun y d H7 e7 hd hy => ?_) fun l H7 vs hl0 e7 hl hvs => ?_
        · obtain ⟨z, hz, rfl⟩ := List.mem_map.mp hd
          cases hy
          obtain ⟨x, hx2⟩ := vals_mem hx z hz
          show EvD _ _ H7 (.int ((val cs z).getD 0))
          rw [hx2]
          exact ed_int (ev_cell (ev_var rfl) (ev_var rfl) (hcx (e16.trans e7)) hx2)
        · have evs := td_intsV hvs
          subst evs
          have e17 := e16.trans e7
          have hl00 : H l = none := fresh_back (e1.trans e16) hl0
          have ncl : l ≠ c := fun z => by rw [z, hc] at hl00; cases hl00
          have nkl : l ≠ k := fun z => by rw [z, hk] at hl00; cases hl00
          obtain ⟨x1, hx1, ev1⟩ : ∃ x1, Td H7 x1 (oD oc) ∧ ∀ {σ : L2.St} {H'}, Ex H7 H' → σ[0]? = some (some v) → Ev (tOp (rIxT K) (tVar 0) (tC (.int 1))) σ H' x1 := by
            cases hvx e17 with
            | @tup a xs _ h1 h2 =>
              obtain ⟨x, hx, hT⟩ := td_get h2 (i := 1) (d := oD oc) rfl
              exact ⟨x, hT, fun e h0 => ev_op (ev_var h0) ev_c (rv_ixT (st_of (e _ _ h1)) (atI_nat (j := 1) hx))⟩
          -- what is told then
          have fin : ∀ {H' : Hp} {σ : L2.St} {D : Ends} {cs' : Cs}, D.rt = Q → Kp [c, k] H H' → Td H' v (rpD (.call oc fb nb ws, pl)) → H' c = some (.dK (cV cs')) → H' k = some (.dT (ksV ks)) → H' l = some (.lst (xs.map V.int)) → cs' = callPut cs oc (came xs) → σ[0]? = some (some v) → σ[4]? = some (some (.ref l)) → tRet (tTup (tCons (tOp (rIxT K) (tVar 0) (tC (.int 2))) (tCons (tOp (rIxT K) (tVar 0) (tC (.int 3))) (tCons (tVar 4) tNil)))) D σ H' := fun {H' σ D cs'} hD kp hv5 hc5 hk5 hl5 ecs h0 h4 => s_retU (eu_tup (ea_cons (ev_ixTs (K := K) (j := 2) (ev_var h0) hv5 ev_c rfl) (ea_cons (ev_ixTs (K := K) (j := 3) (ev_var h0) hv5 ev_c rfl) (ea_cons (ev_var h4) ea_nil))) (by show 3 ≤ 100000; decide)) fun p H8 hp0 e8 hp => by
            rw [hD]
            exact q ⟨cs', ks⟩ (some (.call fb nb xs)) _ H8 (.inl (by rw [ecs]; exact eo.symm)) (kp.trans (.of e8)) (e8 _ _ hc5) (e8 _ _ hk5) ⟨p, _, rfl, kp.there p hp0, hp, l, rfl, hl00, e8 _ _ hl5⟩
          cases oc with
          | none =>
            cases hx1
            refine q_when (b := false) (et_notNone (ev1 (Ex.refl _) rfl) rfl) (fun z => by cases z) (fun _ H8 e8 => ?_)
            exact fin rfl (.of ((e1.trans e17).trans e8)) (hvx (e17.trans e8)) (hcx (e17.trans e8)) (hkx (e17.trans e8)) (e8 _ _ hl) rfl rfl rfl
          | some cc =>
            cases hx1
            refine q_when (b := true) (et_notNone (ev1 (Ex.refl _) rfl) rfl) (fun _ H8 e8 => ?_) (fun z => by cases z)
            have e18 := e17.trans e8
            have hl8 := e8 _ _ hl
            refine s_dputC (k := cc) (v := came xs) (ev_call (dvs := []) (vs := [.str (fS fb), .str (nS nb), .ref l]) (ea_cons (ev_ixTs (K := K) (j := 2) (ev_var rfl) (hvx e18) ev_c rfl) (ea_cons (ev_ixTs (K := K) (j := 3) (ev_var rfl) (hvx e18) ev_c rfl) (ea_cons (ev_var rfl) ea_nil))) fun H9 e9 Q9 q9 E9 => ⟨fb, nb, l, xs, rfl, sq_of (e9 _ _ hl8), fun H' e' => sq_of (e' _ _ (e9 _ _ hl8)), by omega, fun H10 e10 => q9 H10 e10⟩) (fun _ => ev_var rfl) (fun H' e' => ev1 (e8.trans e') rfl) (hcx e18) lc fun H9 e9 => ?_
            have e19 := e18.trans e9
            have kp : Kp [c, k] H (upd H9 c (.dK (cV (aput cs cc (came xs))))) := (Kp.of (e1.trans e19)).trans (.upd (by simp) (hcx e19))
            refine fin rfl kp (Td.tx (Tx.dK (hcx e19)) _ _ (hvx e19)) upd_same (by rw [upd_ne nck.symm]; exact hkx e19) (by rw [upd_ne ncl]; exact e9 _ _ hl8) rfl rfl rfl
    | op o cc dd ee =>
      have wo : ∀ z : Str, z = Str.ofString "say" ∨ z = Str.ofString "lay" ∨ z = Str.ofString "give" ∨ z = Str.ofString "fetch" ∨ z = Str.ofString "call" → decide (opS o = z) = false := by
        rintro z (rfl | rfl | rfl | rfl | rfl) <;> (cases o <;> decide +kernel)
      refine q_when (b := false) (wd (opS o) rfl rfl (wo _ (.inl rfl))) (fun z => by cases z) (fun _ H2 e2 => ?_)
      refine q_when (b := false) (wd (opS o) rfl rfl (wo _ (.inr (.inl rfl)))) (fun z => by cases z) (fun _ H3 e3 => ?_)
      refine q_when (b := false) (wd (opS o) rfl rfl (wo _ (.inr (.inr (.inl rfl))))) (fun z => by cases z) (fun _ H4 e4 => ?_)
      refine q_when (b := false) (wd (opS o) rfl rfl (wo _ (.inr (.inr (.inr (.inl rfl)))))) (fun z => by cases z) (fun _ H5 e5 => ?_)
      refine q_when (b := false) (wd (opS o) rfl rfl (wo _ (.inr (.inr (.inr (.inr rfl)))))) (fun z => by cases z) (fun _ H6 e6 => ?_)
      have e16 := (((e2.trans e3).trans e4).trans e5).trans e6
      have he0 : (match val cs dd, val cs ee with | some x, some y => some (opOut o cc ⟨cs, ks⟩ (reckon o x y)) | _, _ => none) = some out := he
      cases hx : val cs dd with
      | none => rw [hx] at he0; cases he0
      | some x =>
        cases hy : val cs ee with
        | none => rw [hx, hy] at he0; cases he0
        | some y =>
          have eo := Option.some.inj ((eff_op (s := ⟨cs, ks⟩) (o := o) (c := cc) hx hy).symm.trans he)
          refine q_asg (v := rkV (reckon o x y)) (ev_call (dvs := []) (vs := [.str (opS o), .int x, .int y]) (ea_cons (ev_var rfl) (ea_cons (ev_cell (ev_var rfl) (ev_ixTi (K := K) (j := 2) (ev_var rfl) (hvx e16) ev_c rfl) (hcx e16) hx) (ea_cons (ev_cell (ev_var rfl) (ev_ixTi (K := K) (j := 3) (ev_var rfl) (hvx e16) ev_c rfl) (hcx e16) hy) ea_nil))) fun H7 e7 Q7 q7 E7 => ⟨o, x, y, rfl, val_in hx, val_in hy, fun H8 e8 => q7 H8 e8⟩) fun H7 e7 => ?_
          have e17 := e16.trans e7
          cases er : reckon o x y with
          | inl z =>
            rw [er] at eo
            refine q_when (b := false) (et_B (ev_isi (ev_var rfl) ev_c (.int z) (show kitB "int" "str" = some false by decide +kernel))) (fun z => by cases z) (fun _ H8 e8 => ?_)
            have e18 := e17.trans e8
            refine q_dputC (k := cc) (v := z) (ev_var rfl) (fun _ => ev_var rfl) (fun H' e' => ev_ixTi (K := K) (j := 1) (ev_var rfl) (hvx (e18.trans e')) ev_c rfl) (hcx e18) lc fun H9 e9 => ?_
            have e19 := e18.trans e9
            have kp : Kp [c, k] H (upd H9 c (.dK (cV (aput cs cc z)))) := (Kp.of (e1.trans e19)).trans (.upd (by simp) (hcx e19))
            have hk5 : (upd H9 c (.dK (cV (aput cs cc z)))) k = some (.dT (ksV ks)) := by rw [upd_ne nck.symm]; exact hkx e19
            have hc5 : (upd H9 c (.dK (cV (aput cs cc z)))) c = some (.dK (cV (aput cs cc z))) := upd_same
            generalize upd H9 c (.dK (cV (aput cs cc z))) = H10 at kp hk5 hc5 ⊢
            refine s_retU (eu_tup ea_nil (Nat.zero_le _)) fun p H11 hp0 e11 hp => ?_
            exact q ⟨aput cs cc z, ks⟩ none _ H11 (.inl eo.symm) (kp.trans (.of e11)) (e11 _ _ hc5) (e11 _ _ hk5) ⟨p, rfl, kp.there p hp0, hp⟩
          | inr bd =>
            rw [er] at eo
            refine q_when (b := true) (et_B (ev_isi (ev_var rfl) ev_c (.str (badS bd)) (show kitB "str" "str" = some true by decide +kernel))) (fun _ H8 e8 => ?_) (fun z => by cases z)
            exact same (e17.trans e8) rfl (eu_tup (ea_cons (ev_var rfl) ea_nil) (by show 1 ≤ 100000; decide)) (.inr ⟨rfl, _, rfl, eo.symm⟩) fun _ _ => ⟨rfl, rfl, List.cons_ne_nil _ _⟩
    | _ => cases ht
end
end Wt

set_option Elab.async false
set_option linter.all false
set_option maxRecDepth 100000
set_option maxHeartbeats 4000000
namespace Wt
open PySem PySem.Spec PyProof.Rows L2 SX Evl
open C8 (Def Cal cal0 fnScope_by fnScope)
/-! _law_worked: what a machine's row does. -/
abbrev iL (p : List Int) : HO := .lst (p.map V.int)
section
variable {K : PySem.W.Frag} {σ : L2.St} {H H' : Hp} {ta tb te tc td tl ty tk t0 t1 t2 tv : TE} {t : TT} {tr : TA} {D : Ends} {tz : TS} {E : XK} {Q : VK}
theorem pop_go {a : Addr} {p : List Int} {y : Int} (hl : Ev tl σ H (.ref a)) (h : H a = some (iL (p ++ [y]))) (q : ∀ H1, Ex H H1 → Q (.int y) (upd H1 a (iL p))) : tBM0 K "list" rPop tl σ H Q := hl H (Ex.refl H) _ fun H1 e1 => by
  have h1 := e1 _ _ h
  have em : (p ++ [y]).map V.int = p.map V.int ++ [.int y] := by rw [List.map_append] <;> rfl
  refine ⟨.inl ⟨rfl, _, sq_of h1⟩, a, _, .int y, rfl, rfl, h1, ?_, ?_⟩
  · rw [em, List.length_append, List.length_singleton, Nat.add_sub_cancel]
    rw [List.getElem?_append_right (Nat.le_refl _), Nat.sub_self] <;> rfl
  · rw [em, List.dropLast_concat]
    exact q H1 e1
/-- return (x, l.pop()) -/
theorem s_retTP {a : Addr} {p : List Int} {y : Int} {x : V} (h1 : Ev t1 σ H x) (hl : ∀ H', Ev tl σ H' (.ref a)) (h : H a = some (iL (p ++ [y]))) (q : ∀ H1 r, Ex H H1 → (upd H1 a (iL p)) r = none → D.rt (.ref r) (upd (upd H1 a (iL p)) r (.tup [x, .int y]))) :
    tRet (tTup (tCons t1 (tCons (tBM0 K "list" rPop tl) tNil))) D σ H := h1 H (Ex.refl H) _ fun H1 e1 => pop_go (hl H1) (e1 _ _ h) fun H2 e2 => ⟨by show 2 ≤ sizeLine; decide, fun r hr => q H2 r (e1.trans e2) hr⟩
/-- return (l.pop() if .. else .,) where it pops -/
theorem s_retIP {a : Addr} {p : List Int} {y : Int} (ht : EvT t σ H true) (hl : ∀ H', Ev tl σ H' (.ref a)) (h : H a = some (iL (p ++ [y]))) (q : ∀ H1 r, Ex H H1 → (upd H1 a (iL p)) r = none → D.rt (.ref r) (upd (upd H1 a (iL p)) r (.tup [.int y]))) :
    tRet (tTup (tCons (tIf t (tBM0 K "list" rPop tl) tc) tNil)) D σ H := ht H (Ex.refl H) _ fun H1 e1 => by
  show tBM0 K "list" rPop tl σ H1 _
  exact pop_go (hl H1) (e1 _ _ h) fun H2 e2 => ⟨by show 1 ≤ sizeLine; decide, fun r hr => q H2 r (e1.trans e2) hr⟩
theorem q_asgPop {a : Addr} {p : List Int} {y : Int} {i : Nat} (hl : Ev tl σ H (.ref a)) (h : H a = some (iL (p ++ [y]))) (q : ∀ H1, Ex H H1 → tz D (σ.set i (some (.int y))) (upd H1 a (iL p))) : tSeq (tAsg (tBM0 K "list" rPop tl) (gName i)) tz D σ H := pop_go hl h q
/-- v = f(x, l.pop(), z) -/
theorem q_asgCP {sp : Sp} {a : Addr} {p : List Int} {y : Int} {x z : V} {i : Nat} (h1 : Ev t1 σ H x) (hl : ∀ H', Ev tl σ H' (.ref a)) (h2 : ∀ H', Ev t2 σ H' z) (h : H a = some (iL (p ++ [y]))) (q : ∀ H1 H2, Ex H H1 → Ex (upd H1 a (iL p)) H2 → sp [x, .int y, z] H2 (fun v H3 => tz D (σ.set i (some v)) H3) E) :
    tSeq (tAsg (tCall sp [] E (tCons t1 (tCons (tBM0 K "list" rPop tl) (tCons t2 tNil)))) (gName i)) tz D σ H := h1 H (Ex.refl H) _ fun H1 e1 => pop_go (hl H1) (e1 _ _ h) fun H2 e2 => h2 _ _ (Ex.refl _) _ fun H3 e3 => q H2 H3 (e1.trans e2) e3
/-- [l.pop() for ..] and turned round -/
theorem q_asgPops {a : Addr} {p : List Int} {many i j : Nat} {vs : List Nat} (hn : Ev tv σ H (.int (many : Int))) (hm : many ≤ p.length) (hp : p.length ≤ 90000) (hw : ∀ x, wipe ((wipe σ vs).set j (some x)) vs = wipe σ vs) (hl : ∀ x H', Ev tl ((wipe σ vs).set j (some x)) H' (.ref a)) (h : H a = some (iL p)) (hs : ∀ H', EvO (tPart te) σ H' (some (-1)))
    (q : ∀ l H1, l ≠ a → H l = none → Kp [a] H H1 → H1 l = some (iL (p.drop (p.length - many))) → H1 a = some (iL (p.take (p.length - many))) → tz D (σ.set i (some (.ref l))) H1) :
    tSeq (tAsg (tRev K (tLc (iRng1 (tCons tv tNil)) (gName j) tYes (tBM0 K "list" rPop tl) vs) (tPart te)) (gName i)) tz D σ H := hn H (Ex.refl H) _ fun H1 e1 => by
  have h1 := e1 _ _ h
  refine ⟨(many : Int), rfl, by omega, by omega, fun Dl hD => ?_⟩
  have nDa : Dl ≠ a := fun z => by rw [z, h1] at hD; cases hD
  refine lc_range (lo := 0) (n := (many : Int).toNat) (fun n H' => Kp [a] H1 H' ∧ H' Dl = some (iL (p.drop (p.length - n)).reverse) ∧ H' a = some (iL (p.take (p.length - n)))) ?_ ?_ ?_
  · refine ⟨.of (Ex.new hD), ?_, ?_⟩
    · rw [upd_same, Nat.sub_zero, List.drop_length] <;> rfl
    · rw [upd_ne nDa.symm, Nat.sub_zero, List.take_length]
      exact h1
  · rintro n H2 hn2 ⟨k2, hD2, ha2⟩
    refine ⟨hw _, ?_⟩
    show tBM0 K "list" rPop tl _ H2 _
    obtain ⟨x, hx⟩ : ∃ x, p[p.length - (n + 1)]? = some x := ⟨_, List.getElem?_eq_getElem (by omega)⟩
    have e : p.take (p.length - n) = p.take (p.length - (n + 1)) ++ [x] := by
      have e2 := List.take_succ (l := p) (i := p.length - (n + 1))
      rw [show p.length - (n + 1) + 1 = p.length - n by omega, hx] at e2
      exact e2
    have ed : p.drop (p.length - (n + 1)) = x :: p.drop (p.length - n) := by
      obtain ⟨hlt, hxx⟩ := List.getElem?_eq_some_iff.mp hx
      have e2 := List.drop_eq_getElem_cons hlt
      rw [hxx, show p.length - (n + 1) + 1 = p.length - n by omega] at e2
      exact e2
    rw [e] at ha2
    refine pop_go (hl _ _) ha2 fun H3 e3 => ?_
    have hD3 : (upd H3 a (iL (p.take (p.length - (n + 1))))) Dl = some (iL (p.drop (p.length - n)).reverse) := by rw [upd_ne nDa]; exact e3 _ _ hD2
    refine ⟨_, hD3, sz_lt (by rw [List.length_map, List.length_reverse, List.length_drop]; omega), ?_, ?_, ?_⟩
    · refine ⟨fun b o hb ho => ?_, fun b hb => ?_⟩
      · have hbD : b ≠ Dl := ne_of_none ho hD
        have hba : b ≠ a := fun z => hb (by rw [z]; simp)
        rw [upd_ne hbD, upd_ne hba]
        exact e3 _ _ (k2.keep b o hb ho)
      · have hbD : b ≠ Dl := fun z => by rw [z, upd_same] at hb; cases hb
        have hba : b ≠ a := fun z => by rw [z, upd_ne nDa.symm, upd_same] at hb; cases hb
        rw [upd_ne hbD, upd_ne hba] at hb
        exact k2.there b (fresh_back e3 hb)
    · rw [upd_same, ed, List.reverse_cons]
      show some (HO.lst (((p.drop (p.length - n)).reverse).map V.int ++ [V.int x])) = some (HO.lst (((p.drop (p.length - n)).reverse ++ [x]).map V.int))
      rw [List.map_append] <;> rfl
    · rw [upd_ne nDa.symm, upd_same]
  · rintro H2 ⟨k2, hD2, ha2⟩
    rw [Int.toNat_natCast] at hD2 ha2
    refine hs H2 H2 (Ex.refl H2) _ fun H3 e3 => ⟨Dl, _, rfl, rfl, sq_of (e3 _ _ hD2), fun l hl0 => ?_⟩
    have ha3 := e3 _ _ ha2
    have nla : l ≠ a := fun z => by rw [z, ha3] at hl0; cases hl0
    have kp : Kp [a] H H3 := ((Kp.of e1).trans k2).trans (.of e3)
    refine q l _ nla (kp.there l hl0) (kp.trans (.of (Ex.new hl0))) ?_ ?_
    · rw [upd_same, ← List.map_reverse, List.reverse_reverse]
    · rw [upd_ne nla.symm]
      exact ha3
/-- l.append(v), iL -/
theorem q_appI {a : Addr} {p : List Int} {v : Int} (h : H a = some (iL p)) (ha : Ev ta σ H (.ref a)) (hv : Ev te σ H (.int v)) (hz : p.length ≤ 90000) (k : ∀ H1, Ex H H1 → tz D σ (upd H1 a (iL (p ++ [v])))) :
    tSeq (tDrop (tBM K "list" rAppend ta (tCons te tNil))) tz D σ H := q_app h ha hv (by rw [List.length_map]; omega) fun H1 e1 => by
  have em : p.map V.int ++ [.int v] = (p ++ [v]).map V.int := by rw [List.map_append] <;> rfl
  rw [em]
  exact k H1 e1
theorem s_appI {a : Addr} {p : List Int} {v : Int} (h : H a = some (iL p)) (ha : Ev ta σ H (.ref a)) (hv : Ev te σ H (.int v)) (hz : p.length ≤ 90000) (k : ∀ H1, Ex H H1 → D.nx σ (upd H1 a (iL (p ++ [v])))) :
    tDrop (tBM K "list" rAppend ta (tCons te tNil)) D σ H := q_appI (tz := tNext) h ha hv hz k
end
def tellsX : Mr → Bool
  | .say _ => true
  | .lay _ => true
  | .give _ => true
  | .fetch .. => true
  | .call .. => true
  | .op _ => true
  | _ => false
def ComesX (out : XOut) (s s' : Sx) (p' : List Int) (t : Option Rest) : Prop := out = .on s' p' t ∨ (s' = s ∧ ∃ t', t = some t' ∧ out = .stop t')
section
variable {P : Program} {w : World} {K : PySem.W.Frag} {mg : Str → Option Value} {base : Heap}
abbrev s__law_worked : Stmt := topS 25
theorem sc__law_worked : FnScope ["_law_row", "_law_middle_here", "_law_pile", "_law_keeps", "_law_word", "_law_worths", "_law_other_here", "_law_worth", "_law_again"] ["_law_row", "_law_middle_here", "_law_pile", "_law_keeps"] (fnScope s__law_worked) := fnScope_by (by decide +kernel)
def spWorked (K : PySem.W.Frag) : Sp := fun vs H Q _ => ∃ (v vm : V) (a k : Addr) (rs : List Rw) (s : Sx) (p : List Int) (m : Mr × Nat) (r : Rw) (pl : Int × Int) (out : XOut), vs = [v, vm, .ref a, .ref k] ∧ Td H v (mkD m) ∧ Td H vm (rpD (r, pl)) ∧ rs[m.2]? = some r ∧
  (∀ f n z, m.1 = .call f n z → ∃ oc cs, r = .call oc f n cs) ∧ H a = some (iL p) ∧ H k = some (.dT (ksV s.k)) ∧
  p.length ≤ 85000 ∧ s.k.length ≤ 85000 ∧ tellsX m.1 = true ∧ effX rs s p m = some out ∧
  ∀ s' p' t w H2, ComesX out s s' p' t → Kp [a, k] H H2 → H2 a = some (iL p') → H2 k = some (.dT (ksV s'.k)) → s'.c = s.c → ToldV (fun a => H a = none) H2 w t → Q w H2
theorem ok_worked (T : ModsI K mg) (c__law_reckon : Cal P w K mg base 1 "_law_reckon" (spReckon K) []) (c__law_came : Cal P w K mg base 1 "_law_came" (spCame K) []) {f : Addr} {fd : FuncData} (F : Def K mg "_law_worked" s__law_worked f fd) (b : Binds K fd ["_law_row", "_law_middle_here", "_law_pile", "_law_keeps"] []) : Cal P w K mg base 2 "_law_worked" (spWorked K) [] := by
  refine cal0 F b .nil sc__law_worked (fun vs H Q E h => ?_) (fun cdv A outer s H vs Q E hr h => ?_)
  · obtain ⟨_, _, _, _, _, _, _, _, _, _, _, rfl, _⟩ := h
    rfl
  · obtain ⟨v, vm, a, k, rs, ⟨cs, ks⟩, p, ⟨m, i⟩, r, pl, out, rfl, hv, hvm, hri, hcl, ha, hk, la, lk, ht, he, q⟩ := h
    have m_len := T.m_len
    have m_range := T.m_range
    have m_isinstance := T.m_isinstance
    have m_str := T.m_str
    have hu := hu_of hr
    have hu64 := hr.units
    refine ⟨_, (pss_cons (ps_set (i := 4) sc__law_worked.nd rfl (.inl rfl) (pe_ix ix_tup (pv 0) pe_int (fun _ _ => rfl)))
      (pss_cons (ps_if (pt_cmpR op_eq (pv 4) pe_str (nomark _)) (pss_one (ps_ret (pe_tup (pa_cons (pe_ix ix_tup (pv 0) pe_int (fun _ _ => rfl)) (pa_cons (pe_bm0 PySem.F.plainAttrs_list PySem.F.slot_list_pop PySem.F.type_list_pop mt_pop (pv 2)) pa_nil))))) pss_nil)
      (pss_cons (ps_if (pt_cmpR op_eq (pv 4) pe_str (nomark _)) (pss_cons (ps_dput hu (pv 3) (pe_tup (pa_cons pe_str (pa_cons (pe_ix ix_tup (pv 0) pe_int (fun _ _ => rfl)) pa_nil))) (pe_ix ix_list (pv 2) (pe_un un_neg pe_int) (fun _ _ => rfl)) rfl)
      (pss_one (ps_ret (pe_tup (pa_cons (pe_ix ix_tup (pv 0) pe_int (fun _ _ => rfl)) (pa_cons (pe_bm0 PySem.F.plainAttrs_list PySem.F.slot_list_pop PySem.F.type_list_pop mt_pop (pv 2)) pa_nil)))))) pss_nil)
      (pss_cons (ps_if (pt_cmpR op_eq (pv 4) pe_str (nomark _)) (pss_one (ps_ret (pe_tup (pa_cons (pe_ifExp (pt_cmpR op_eq (pe_ix ix_tup (pv 0) pe_int (fun _ _ => rfl)) pe_int (nomark _)) (pe_bm0 PySem.F.plainAttrs_list PySem.F.slot_list_pop PySem.F.type_list_pop mt_pop (pv 2)) pe_non) pa_nil)))) pss_nil)
      (pss_cons (ps_if (pt_cmpR op_eq (pv 4) pe_str (nomark _)) (pss_cons (ps_expr (pe_bm PySem.F.plainAttrs_list PySem.F.slot_list_append PySem.F.type_list_append mt_append (pv 2) (pa_cons (pe_dget2 hu (pv 3) (pe_tup (pa_cons (pe_ix ix_tup (pv 0) pe_int (fun _ _ => rfl)) (pa_cons (pe_ix ix_tup (pv 0) pe_int (fun _ _ => rfl)) pa_nil))) (pe_op op_mul (pe_callB call_len_str (by rfl) m_len PySem.boot_len (pa_cons (pe_op op_add_str (pe_ix ix_tup (pv 0) pe_int (fun _ _ => rfl)) (pe_ix ix_tup (pv 0) pe_int (fun _ _ => rfl))) pa_nil)) pe_int) ⟨rfl, by rfl, by rfl, rfl⟩) pa_nil)))
      (pss_one (ps_ret (pe_tup (pa_cons (pe_ix ix_tup (pv 0) pe_int (fun _ _ => rfl)) (pa_cons (pe_ix ix_tup (pv 0) pe_int (fun _ _ => rfl)) pa_nil)))))) pss_nil)
      (pss_cons (ps_if (pt_cmpR op_eq (pv 4) pe_str (nomark _)) (pss_cons (ps_set (i := 5) sc__law_worked.nd rfl (.inl rfl) (Wt.pe_rev (pe_lc (own := [("_law_again", 8)]) (g := (gName 8)) (tt := tYes) rfl sc__law_worked.nd (pi_range1 (by rfl) m_range (pa_cons (pe_ix ix_tup (pv 0) pe_int (fun _ _ => rfl)) pa_nil)) (blkOk_by (N := ["_law_row", "_law_middle_here", "_law_pile", "_law_keeps", "_law_word", "_law_worths", "_law_other_here", "_law_worth", "_law_again"]) (sc := C8.fnScope s__law_worked) (by decide +kernel)) (fun _ _ _ _ _ => pg_name (i := 8) sc__law_worked.nd rfl (Or.inl rfl)) (fun _ _ _ _ _ => pts_nil) (fun _ _ _ _ _ => (Wt.pe_bm0K (K := K) rfl PySem.F.plainAttrs_list PySem.F.slot_list_pop PySem.F.type_list_pop mt_pop (pv 2)))) (po_some (pe_un un_neg pe_int))))
      (pss_cons (ps_if (pt_cmpR op_notN (pe_ix ix_tup (pv 1) pe_int (fun _ _ => rfl)) pe_non (nomark _)) (pss_one (ps_expr (pe_bm PySem.F.plainAttrs_list PySem.F.slot_list_append PySem.F.type_list_append mt_append (pv 2) (pa_cons (C8.pe_c c__law_came hr (by first | decide | exact Nat.le_refl _ | omega) (by rfl) (pa_cons (pe_ix ix_tup (pv 0) pe_int (fun _ _ => rfl)) (pa_cons (pe_ix ix_tup (pv 0) pe_int (fun _ _ => rfl)) (pa_cons (pv 5) pa_nil)))) pa_nil)))) pss_nil)
      (pss_one (ps_ret (pe_tup (pa_cons (pe_ix ix_tup (pv 0) pe_int (fun _ _ => rfl)) (pa_cons (pe_ix ix_tup (pv 0) pe_int (fun _ _ => rfl)) (pa_cons (pv 5) pa_nil)))))))) pss_nil)
      (pss_cons (ps_set (i := 6) sc__law_worked.nd rfl (.inl rfl) (pe_bm0 PySem.F.plainAttrs_list PySem.F.slot_list_pop PySem.F.type_list_pop mt_pop (pv 2)))
      (pss_cons (ps_set (i := 7) sc__law_worked.nd rfl (.inl rfl) (C8.pe_c c__law_reckon hr (by first | decide | exact Nat.le_refl _ | omega) (by rfl) (pa_cons (pv 4) (pa_cons (pe_bm0 PySem.F.plainAttrs_list PySem.F.slot_list_pop PySem.F.type_list_pop mt_pop (pv 2)) (pa_cons (pv 6) pa_nil)))))
      (pss_cons (ps_if (pt_val (pe_callB call_isi (by rfl) m_isinstance Wt.bt_isinstance (pa_cons (pv 7) (pa_cons (pe_bltn (v := .ty "str") (by rfl) m_str Wt.bt_str rfl) pa_nil)))) (pss_one (ps_ret (pe_tup (pa_cons (pv 7) pa_nil)))) pss_nil)
      (pss_cons (ps_expr (pe_bm PySem.F.plainAttrs_list PySem.F.slot_list_append PySem.F.type_list_append mt_append (pv 2) (pa_cons (pv 7) pa_nil)))
      (pss_one (ps_ret (pe_tup pa_nil))))))))))))), ?_⟩
    have lk' : ks.length ≤ 85000 := lk
    have nak : a ≠ k := ne_of ha hk (by intro z; cases z)
    refine q_asg (ev_ixTs (K := K) (j := 0) (ev_var rfl) hv ev_c rfl) fun H1 e1 => ?_
    have wd : ∀ {H' : Hp} {σ : L2.St} {b : Bool} {z : Str} (x : Str), σ[4]? = some (some (.str (mrW m))) → mrW m = x → decide (x = z) = b → EvT (tTest (tOp rEq (tVar 4) (tC (.str z)))) σ H' b := fun x h0 hx h => eqWT (c := x) (ev_var h0) ev_c hx h
    have hvx : ∀ {H'}, Ex H1 H' → Td H' v (mkD (m, i)) := fun e => Td.tx (Tx.of (e1.trans e)) _ _ hv
    have hmx : ∀ {H'}, Ex H1 H' → Td H' vm (rpD (r, pl)) := fun e => Td.tx (Tx.of (e1.trans e)) _ _ hvm
    have hax : ∀ {H'}, Ex H1 H' → H' a = some (iL p) := fun e => (e1.trans e) _ _ ha
    have hkx : ∀ {H'}, Ex H1 H' → H' k = some (.dT (ksV ks)) := fun e => (e1.trans e) _ _ hk
    -- one taken off, then told
    have told : ∀ {H' : Hp} {r : Addr} {p' : List Int} {xs : List V} {t : Rest}, Ex H1 H' → (upd H' a (iL p')) r = none → ComesX out ⟨cs, ks⟩ ⟨cs, ks⟩ p' (some t) → RestV (fun a => H a = none) (upd (upd H' a (iL p')) r (.tup xs)) xs t → Q (.ref r) (upd (upd H' a (iL p')) r (.tup xs)) := fun {H' r p' xs t} e hr hc hrest => by
      have kp : Kp [a, k] H (upd H' a (iL p')) := (Kp.of (e1.trans e)).trans (.upd (by simp) (hax e))
      have nra : r ≠ a := fun z => by rw [z, upd_same] at hr; cases hr
      have hk2 : (upd H' a (iL p')) k = some (.dT (ksV ks)) := by rw [upd_ne nak.symm]; exact hkx e
      have nrk : r ≠ k := fun z => by rw [z, hk2] at hr; cases hr
      exact q ⟨cs, ks⟩ p' (some t) _ _ hc (kp.trans (.of (Ex.new hr))) (by rw [upd_ne nra.symm]; exact upd_same) (by rw [upd_ne nrk.symm]; exact hk2) rfl ⟨r, xs, rfl, kp.there r hr, upd_same, hrest⟩
    cases m with
    | say kb =>
      have he' : (pop p).map _ = some out := he
      cases hp : pop p with
      | none => rw [hp] at he'; cases he'
      | some qy =>
        obtain ⟨p0, y⟩ := qy
        rw [hp] at he'
        have ep := pop_out hp
        subst ep
        have eo := Option.some.inj he'
        refine q_when (b := true) (wd (Str.ofString "say") rfl rfl (by decide +kernel)) (fun _ H2 e2 => ?_) (fun z => by cases z)
        exact s_retTP (ev_ixTs (K := K) (j := 1) (ev_var rfl) (hvx e2) ev_c rfl) (fun _ => ev_var rfl) (hax e2) fun H3 r e3 hr => told (e2.trans e3) hr (.inl eo.symm) ⟨rfl, rfl, List.cons_ne_nil _ _⟩
    | lay nb =>
      have he' : (pop p).map _ = some out := he
      cases hp : pop p with
      | none => rw [hp] at he'; cases he'
      | some qy =>
        obtain ⟨p0, y⟩ := qy
        rw [hp] at he'
        have ep := pop_out hp
        subst ep
        have eo := Option.some.inj he'
        refine q_when (b := false) (wd (Str.ofString "lay") rfl rfl (by decide +kernel)) (fun z => by cases z) (fun _ H2 e2 => ?_)
        refine q_when (b := true) (wd (Str.ofString "lay") rfl rfl (by decide +kernel)) (fun _ H3 e3 => ?_) (fun z => by cases z)
        have e13 := e2.trans e3
        refine q_dputKs (n := nb) (v := y) (ev_op (ev_var rfl) (ev_un ev_c ru_neg) (rv_ixL (K := K) (i := -1) (sq_of (hax e13)) ?_)) (fun _ => ev_var rfl) (fun H' e' => eu_tup (ea_cons ev_c (ea_cons (ev_ixTs (K := K) (j := 1) (ev_var rfl) (hvx (e13.trans e')) ev_c rfl) ea_nil)) (by show 2 ≤ 100000; decide)) (hkx e13) (by omega) fun H4 e4 => ?_
        · rw [List.map_append]
          exact atI_last _ _
        have e14 := e13.trans e4
        have kp : Kp [a, k] H (upd H4 k (.dT (ksV (aput ks nb y)))) := (Kp.of (e1.trans e14)).trans (.upd (by simp) (hkx e14))
        have hv5 : Td (upd H4 k (.dT (ksV (aput ks nb y)))) v (mkD (.lay nb, i)) := Td.tx (fun a zs z => by rw [upd_ne (ne_of z (hkx e14) (by intro z; cases z))]; exact z) _ _ (hvx e14)
        have ha5 : (upd H4 k (.dT (ksV (aput ks nb y)))) a = some (iL (p0 ++ [y])) := by rw [upd_ne nak]; exact hax e14
        have hk5 : (upd H4 k (.dT (ksV (aput ks nb y)))) k = some (.dT (ksV (aput ks nb y))) := upd_same
        generalize upd H4 k (.dT (ksV (aput ks nb y))) = H5 at kp hv5 ha5 hk5 ⊢
        refine s_retTP (ev_ixTs (K := K) (j := 1) (ev_var rfl) hv5 ev_c rfl) (fun _ => ev_var rfl) ha5 fun H6 r e6 hr => ?_
        have kp6 : Kp [a, k] H (upd H6 a (iL p0)) := (kp.trans (.of e6)).trans (.upd (by simp) (e6 _ _ ha5))
        have nra : r ≠ a := fun z => by rw [z, upd_same] at hr; cases hr
        have hk6 : (upd H6 a (iL p0)) k = some (.dT (ksV (aput ks nb y))) := by rw [upd_ne nak.symm]; exact e6 _ _ hk5
        have nrk : r ≠ k := fun z => by rw [z, hk6] at hr; cases hr
        exact q ⟨cs, aput ks nb y⟩ p0 _ _ _ (.inl eo.symm) (kp6.trans (.of (Ex.new hr))) (by rw [upd_ne nra.symm]; exact upd_same) (by rw [upd_ne nrk.symm]; exact hk6) rfl ⟨r, _, rfl, kp6.there r hr, upd_same, rfl, rfl, List.cons_ne_nil _ _⟩
    | give gb =>
      refine q_when (b := false) (wd (Str.ofString "give") rfl rfl (by decide +kernel)) (fun z => by cases z) (fun _ H2 e2 => ?_)
      refine q_when (b := false) (wd (Str.ofString "give") rfl rfl (by decide +kernel)) (fun z => by cases z) (fun _ H3 e3 => ?_)
      refine q_when (b := true) (wd (Str.ofString "give") rfl rfl (by decide +kernel)) (fun _ H4 e4 => ?_) (fun z => by cases z)
      have e14 := (e2.trans e3).trans e4
      have ev1 : Ev (tOp (rIxT K) (tVar 0) (tC (.int 1))) [some v, some vm, some (.ref a), some (.ref k), some (.str (Str.ofString "give")), none, none, none, none] H4 (.int (if gb then 1 else 0)) := ev_ixTi (K := K) (j := 1) (ev_var rfl) (hvx e14) ev_c rfl
      have tst : EvT (tTest (tOp rEq (tOp (rIxT K) (tVar 0) (tC (.int 1))) (tC (.int 1)))) [some v, some vm, some (.ref a), some (.ref k), some (.str (Str.ofString "give")), none, none, none, none] H4 gb := et_test (ev_is (ev_op ev1 ev_c (rv_eq rfl)) (congrArg V.bl (by cases gb <;> decide)))
      cases gb with
      | true =>
        have he' : (pop p).map _ = some out := he
        cases hp : pop p with
        | none => rw [hp] at he'; cases he'
        | some qy =>
          obtain ⟨p0, y⟩ := qy
          rw [hp] at he'
          have ep := pop_out hp
          subst ep
          have eo := Option.some.inj he'
          exact s_retIP tst (fun _ => ev_var rfl) (hax e14) fun H3 r e3 hr => told (e14.trans e3) hr (.inr ⟨rfl, _, rfl, eo.symm⟩) ⟨rfl, rfl, List.cons_ne_nil _ _⟩
      | false =>
        have eo : XOut.stop (.flat [.non]) = out := Option.some.inj he
        refine s_retU (eu_tup (ea_cons (ev_if tst (fun z => by cases z) (fun _ => ev_c)) ea_nil) (by show 1 ≤ 100000; decide)) fun r H5 hr0 e5 hr => ?_
        exact q ⟨cs, ks⟩ p _ _ _ (.inr ⟨rfl, _, rfl, eo.symm⟩) (.of ((e1.trans e14).trans e5)) (e5 _ _ (hax e14)) (e5 _ _ (hkx e14)) rfl ⟨r, _, rfl, fresh_back (e1.trans e14) hr0, hr, rfl, rfl, List.cons_ne_nil _ _⟩
    | fetch fb nb =>
      have eo : XOut.on ⟨cs, ks⟩ (p ++ [kget ks fb nb]) (some (.flat [.str (fS fb), .str (keepS nb)])) = out := Option.some.inj he
      refine q_when (b := false) (wd (Str.ofString "fetch") rfl rfl (by decide +kernel)) (fun z => by cases z) (fun _ H2 e2 => ?_)
      refine q_when (b := false) (wd (Str.ofString "fetch") rfl rfl (by decide +kernel)) (fun z => by cases z) (fun _ H3 e3 => ?_)
      refine q_when (b := false) (wd (Str.ofString "fetch") rfl rfl (by decide +kernel)) (fun z => by cases z) (fun _ H4 e4 => ?_)
      refine q_when (b := true) (wd (Str.ofString "fetch") rfl rfl (by decide +kernel)) (fun _ H5 e5 => ?_) (fun z => by cases z)
      have e15 := ((e2.trans e3).trans e4).trans e5
      refine q_appI (v := kget ks fb nb) (hax e15) (ev_var rfl) (ev_kget (f := fb) (n := nb) (ev_var rfl) (eu_tup (ea_cons (ev_ixTs (K := K) (j := 1) (ev_var rfl) (hvx e15) ev_c rfl) (ea_cons (ev_ixTs (K := K) (j := 2) (ev_var rfl) (hvx e15) ev_c rfl) ea_nil)) (by show 2 ≤ 100000; decide)) (ev_is (ev_op (ev_lenCat (n := 3) (ev_ixTs (K := K) (j := 1) (ev_var rfl) (hvx e15) ev_c rfl) (ev_ixTs (K := K) (j := 2) (ev_var rfl) (hvx e15) ev_c rfl) (by cases fb <;> cases nb <;> decide +kernel) (by cases fb <;> cases nb <;> decide +kernel) (by decide)) ev_c (rv_I (.inr ⟨by decide, by decide⟩))) (congrArg V.int (by decide))) (hkx e15)) (by omega) fun H6 e6 => ?_
      have e16 := e15.trans e6
      have kp : Kp [a, k] H (upd H6 a (iL (p ++ [kget ks fb nb]))) := (Kp.of (e1.trans e16)).trans (.upd (by simp) (hax e16))
      have hv5 : Td (upd H6 a (iL (p ++ [kget ks fb nb]))) v (mkD (.fetch fb nb, i)) := Td.tx (Tx.lst (hax e16)) _ _ (hvx e16)
      have hk5 : (upd H6 a (iL (p ++ [kget ks fb nb]))) k = some (.dT (ksV ks)) := by rw [upd_ne nak.symm]; exact hkx e16
      have ha5 : (upd H6 a (iL (p ++ [kget ks fb nb]))) a = some (iL (p ++ [kget ks fb nb])) := upd_same
      generalize upd H6 a (iL (p ++ [kget ks fb nb])) = H7 at kp hv5 hk5 ha5 ⊢
      refine s_retU (eu_tup (ea_cons (ev_ixTs (K := K) (j := 1) (ev_var rfl) hv5 ev_c rfl) (ea_cons (ev_ixTs (K := K) (j := 2) (ev_var rfl) hv5 ev_c rfl) ea_nil)) (by show 2 ≤ 100000; decide)) fun r H8 hp0 e8 hp => ?_
      exact q _ _ _ _ H8 (.inl eo.symm) (kp.trans (.of e8)) (e8 _ _ ha5) (e8 _ _ hk5) rfl ⟨r, _, rfl, kp.there r hp0, hp, rfl, rfl, List.cons_ne_nil _ _⟩
    | call fb nb many =>
      obtain ⟨oc, ws, er⟩ := hcl fb nb many rfl
      subst er
      have he' : (if many ≤ p.length then some (XOut.on ⟨cs, ks⟩ (p.take (p.length - many) ++ (if brings rs i = true then [came (p.drop (p.length - many))] else [])) (some (.call fb nb (p.drop (p.length - many))))) else none) = some out := he
      by_cases hmany : many ≤ p.length
      · rw [if_pos hmany] at he'
        have eo := Option.some.inj he'
        have hbr : brings rs i = oc.isSome := by
          have hri' : rs[i]? = some (.call oc fb nb ws) := hri
          unfold brings
          rw [hri']
          cases oc <;> rfl
        rw [hbr] at eo
        generalize hxs : p.drop (p.length - many) = xs at eo
        have lxs : xs.length ≤ 85000 := by rw [← hxs, List.length_drop]; omega
        refine q_when (b := false) (wd (Str.ofString "call") rfl rfl (by decide +kernel)) (fun z => by cases z) (fun _ H2 e2 => ?_)
        refine q_when (b := false) (wd (Str.ofString "call") rfl rfl (by decide +kernel)) (fun z => by cases z) (fun _ H3 e3 => ?_)
        refine q_when (b := false) (wd (Str.ofString "call") rfl rfl (by decide +kernel)) (fun z => by cases z) (fun _ H4 e4 => ?_)
        refine q_when (b := false) (wd (Str.ofString "call") rfl rfl (by decide +kernel)) (fun z => by cases z) (fun _ H5 e5 => ?_)
        refine q_when (b := true) (wd (Str.ofString "call") rfl rfl (by decide +kernel)) (fun _ H6 e6 => ?_) (fun z => by cases z)
        have e16 := (((e2.trans e3).trans e4).trans e5).trans e6
        refine q_asgPops (many := many) (ev_ixTi (K := K) (j := 3) (ev_var rfl) (hvx e16) ev_c rfl) hmany (by omega) (fun _ => rfl) (fun _ _ => ev_var rfl) (hax e16) (fun _ => eo_some (ev_un ev_c ru_neg)) fun l H7 nla hl0 k7 hl7 ha7 => ?_
        rw [hxs] at hl7
        have hl00 : H l = none := fresh_back (e1.trans e16) hl0
        have nlk : l ≠ k := fun z => by rw [z, hk] at hl00; cases hl00
        have hk7 : H7 k = some (.dT (ksV ks)) := k7.keep _ _ (by simp [nak.symm]) (hkx e16)
        have tx7 : Tx H6 H7 := fun b zs hb => k7.keep b _ (by
          intro z
          rw [List.mem_singleton.mp z, hax e16] at hb
          cases hb) hb
        have hv7 : Td H7 v (mkD (.call fb nb many, i)) := Td.tx tx7 _ _ (hvx e16)
        have hm7 : Td H7 vm (rpD (.call oc fb nb ws, pl)) := Td.tx tx7 _ _ (hmx e16)
        have kp7 : Kp [a, k] H H7 := (Kp.of (e1.trans e16)).trans (k7.mono (by simp))
        obtain ⟨x1, hx1, ev1⟩ := ev_ixTd (K := K) (σ := [some v, some vm, some (.ref a), some (.ref k), some (.str (Str.ofString "call")), some (.ref l), none, none, none]) (ta := tVar 1) (tb := tC (.int 1)) (j := 1) (ev_var rfl) hm7 ev_c rfl
        have fin : ∀ {H' : Hp} {σ : L2.St} {D : Ends} {p' : List Int}, D.rt = Q → Kp [a, k] H H' → Td H' v (mkD (.call fb nb many, i)) → H' a = some (iL p') → H' k = some (.dT (ksV ks)) → H' l = some (iL xs) → out = .on ⟨cs, ks⟩ p' (some (.call fb nb xs)) → σ[0]? = some (some v) → σ[5]? = some (some (.ref l)) → tRet (tTup (tCons (tOp (rIxT K) (tVar 0) (tC (.int 1))) (tCons (tOp (rIxT K) (tVar 0) (tC (.int 2))) (tCons (tVar 5) tNil)))) D σ H' := fun {H' σ D p'} hD kp hv5 ha5 hk5 hl5 eo2 h0 h5 => s_retU (eu_tup (ea_cons (ev_ixTs (K := K) (j := 1) (ev_var h0) hv5 ev_c rfl) (ea_cons (ev_ixTs (K := K) (j := 2) (ev_var h0) hv5 ev_c rfl) (ea_cons (ev_var h5) ea_nil))) (by show 3 ≤ 100000; decide)) fun r H8 hp0 e8 hp => by
          rw [hD]
          exact q ⟨cs, ks⟩ p' (some (.call fb nb xs)) _ H8 (.inl eo2) (kp.trans (.of e8)) (e8 _ _ ha5) (e8 _ _ hk5) rfl ⟨r, _, rfl, kp.there r hp0, hp, l, rfl, hl00, e8 _ _ hl5⟩
        cases oc with
        | none =>
          cases hx1
          have eo : XOut.on ⟨cs, ks⟩ (p.take (p.length - many) ++ []) (some (.call fb nb xs)) = out := eo
          rw [List.append_nil] at eo
          refine q_when (b := false) (et_notNone ev1 rfl) (fun z => by cases z) (fun _ H8 e8 => ?_)
          exact fin rfl (kp7.trans (.of e8)) (Td.tx (Tx.of e8) _ _ hv7) (e8 _ _ ha7) (e8 _ _ hk7) (e8 _ _ hl7) eo.symm rfl rfl
        | some cc =>
          cases hx1
          refine q_when (b := true) (et_notNone ev1 rfl) (fun _ H8 e8 => ?_) (fun z => by cases z)
          have hv8 := Td.tx (Tx.of e8) _ _ hv7
          have hl8 := e8 _ _ hl7
          have ha8 := e8 _ _ ha7
          refine s_appI (v := came xs) ha8 (ev_var rfl) (ev_call (dvs := []) (vs := [.str (fS fb), .str (nS nb), .ref l]) (ea_cons (ev_ixTs (K := K) (j := 1) (ev_var rfl) hv8 ev_c rfl) (ea_cons (ev_ixTs (K := K) (j := 2) (ev_var rfl) hv8 ev_c rfl) (ea_cons (ev_var rfl) ea_nil))) fun H9 e9 Q9 q9 E9 => ⟨fb, nb, l, xs, rfl, sq_of (e9 _ _ hl8), fun H' e' => sq_of (e' _ _ (e9 _ _ hl8)), by omega, fun H10 e10 => q9 H10 e10⟩) (by rw [List.length_take]; omega) fun H9 e9 => ?_
          have ha9 := e9 _ _ ha8
          refine fin rfl ((kp7.trans (.of (e8.trans e9))).trans (.upd (by simp) ha9)) (Td.tx ((Tx.of e9).trans (Tx.lst ha9)) _ _ hv8) upd_same (by rw [upd_ne nak.symm]; exact (e8.trans e9) _ _ hk7) (by rw [upd_ne nla]; exact e9 _ _ hl8) eo.symm rfl rfl
      · rw [if_neg hmany] at he'
        cases he'
    | op o =>
      have wo : ∀ z : Str, z = Str.ofString "say" ∨ z = Str.ofString "lay" ∨ z = Str.ofString "give" ∨ z = Str.ofString "fetch" ∨ z = Str.ofString "call" → decide (opS o = z) = false := by
        rintro z (rfl | rfl | rfl | rfl | rfl) <;> (cases o <;> decide +kernel)
      refine q_when (b := false) (wd (opS o) rfl rfl (wo _ (.inl rfl))) (fun z => by cases z) (fun _ H2 e2 => ?_)
      refine q_when (b := false) (wd (opS o) rfl rfl (wo _ (.inr (.inl rfl)))) (fun z => by cases z) (fun _ H3 e3 => ?_)
      refine q_when (b := false) (wd (opS o) rfl rfl (wo _ (.inr (.inr (.inl rfl))))) (fun z => by cases z) (fun _ H4 e4 => ?_)
      refine q_when (b := false) (wd (opS o) rfl rfl (wo _ (.inr (.inr (.inr (.inl rfl)))))) (fun z => by cases z) (fun _ H5 e5 => ?_)
      refine q_when (b := false) (wd (opS o) rfl rfl (wo _ (.inr (.inr (.inr (.inr rfl)))))) (fun z => by cases z) (fun _ H6 e6 => ?_)
      have e16 := (((e2.trans e3).trans e4).trans e5).trans e6
      have he0 : (match pop p with | some (q, y) => (match pop q with | some (q2, x) => if inB x = true ∧ inB y = true then some (xOp ⟨cs, ks⟩ q2 (reckon o x y)) else none | none => none) | none => none) = some out := he
      cases hp : pop p with
      | none => rw [hp] at he0; cases he0
      | some qy =>
        obtain ⟨p1, y⟩ := qy
        rw [hp] at he0
        have ep := pop_out hp
        subst ep
        have he1 : (match pop p1 with | some (q2, x) => if inB x = true ∧ inB y = true then some (xOp ⟨cs, ks⟩ q2 (reckon o x y)) else none | none => none) = some out := he0
        cases hp1 : pop p1 with
        | none => rw [hp1] at he1; cases he1
        | some qx =>
          obtain ⟨p0, x⟩ := qx
          rw [hp1] at he1
          have ep1 := pop_out hp1
          subst ep1
          have he2 : (if inB x = true ∧ inB y = true then some (xOp ⟨cs, ks⟩ p0 (reckon o x y)) else none) = some out := he1
          by_cases hin : inB x = true ∧ inB y = true
          · rw [if_pos hin] at he2
            have eo := Option.some.inj he2
            have lp0 : p0.length ≤ 85000 := by rw [List.length_append, List.length_append] at la; omega
            refine q_asgPop (ev_var rfl) (hax e16) fun H7 e7 => ?_
            have e17 := e16.trans e7
            have kp7 : Kp [a, k] H (upd H7 a (iL (p0 ++ [x]))) := (Kp.of (e1.trans e17)).trans (.upd (by simp) (hax e17))
            have hk7 : (upd H7 a (iL (p0 ++ [x]))) k = some (.dT (ksV ks)) := by rw [upd_ne nak.symm]; exact hkx e17
            have ha7 : (upd H7 a (iL (p0 ++ [x]))) a = some (iL (p0 ++ [x])) := upd_same
            generalize upd H7 a (iL (p0 ++ [x])) = H8 at kp7 hk7 ha7 ⊢
            refine q_asgCP (x := .str (opS o)) (z := .int y) (ev_var rfl) (fun _ => ev_var rfl) (fun _ => ev_var rfl) ha7 fun H9 H10 e9 e10 => ⟨o, x, y, rfl, hin.1, hin.2, fun H11 e11 => ?_⟩
            have ha9 := e9 _ _ ha7
            have kp9 : Kp [a, k] H (upd H9 a (iL p0)) := (kp7.trans (.of e9)).trans (.upd (by simp) ha9)
            have hk9 : (upd H9 a (iL p0)) k = some (.dT (ksV ks)) := by rw [upd_ne nak.symm]; exact e9 _ _ hk7
            have hka : (upd H9 a (iL p0)) a = some (iL p0) := upd_same
            have kp11 := kp9.trans (.of (e10.trans e11))
            have hk11 := (e10.trans e11) _ _ hk9
            have ha11 := (e10.trans e11) _ _ hka
            cases er : reckon o x y with
            | inl z =>
              rw [er] at eo
              refine q_when (b := false) (et_B (ev_isi (ev_var rfl) ev_c (.int z) (show kitB "int" "str" = some false by decide +kernel))) (fun z => by cases z) (fun _ H12 e12 => ?_)
              refine q_appI (v := z) (e12 _ _ ha11) (ev_var rfl) (ev_var rfl) (by omega) fun H13 e13 => ?_
              have ha13 := (e12.trans e13) _ _ ha11
              have kp : Kp [a, k] H (upd H13 a (iL (p0 ++ [z]))) := (kp11.trans (.of (e12.trans e13))).trans (.upd (by simp) ha13)
              have hk5 : (upd H13 a (iL (p0 ++ [z]))) k = some (.dT (ksV ks)) := by rw [upd_ne nak.symm]; exact (e12.trans e13) _ _ hk11
              have ha5 : (upd H13 a (iL (p0 ++ [z]))) a = some (iL (p0 ++ [z])) := upd_same
              generalize upd H13 a (iL (p0 ++ [z])) = H14 at kp hk5 ha5 ⊢
              refine s_retU (eu_tup ea_nil (Nat.zero_le _)) fun r H15 hp0 e15 hp => ?_
              exact q ⟨cs, ks⟩ _ none _ H15 (.inl eo.symm) (kp.trans (.of e15)) (e15 _ _ ha5) (e15 _ _ hk5) rfl ⟨r, rfl, kp.there r hp0, hp⟩
            | inr bd =>
              rw [er] at eo
              refine q_when (b := true) (et_B (ev_isi (ev_var rfl) ev_c (.str (badS bd)) (show kitB "str" "str" = some true by decide +kernel))) (fun _ H12 e12 => ?_) (fun z => by cases z)
              refine s_retU (eu_tup (ea_cons (ev_var rfl) ea_nil) (by show 1 ≤ 100000; decide)) fun r H15 hp0 e15 hp => ?_
              exact q ⟨cs, ks⟩ p0 _ _ H15 (.inr ⟨rfl, _, rfl, eo.symm⟩) (kp11.trans (.of (e12.trans e15))) ((e12.trans e15) _ _ ha11) ((e12.trans e15) _ _ hk11) rfl ⟨r, _, rfl, kp11.there r (fresh_back e12 hp0), hp, rfl, rfl, List.cons_ne_nil _ _⟩
          · rw [if_neg hin] at he2
            cases he2
    | _ => cases ht
end
end Wt

set_option Elab.async false
set_option linter.all false
set_option maxRecDepth 100000
set_option maxHeartbeats 4000000
namespace Wt
open PySem PySem.Spec PyProof.Rows L2 SX Evl
/-! What is found, as a list; what both interpreters' loops do alike. -/
def FdV (N : Addr → Prop) (H : Hp) (v : V) (e : Fd) : Prop := ∃ t xs, v = .ref t ∧ N t ∧ H t = some (.tup (.str e.w :: .int (e.at_ : Int) :: xs)) ∧ RestV N H xs e.rest
inductive FdAll (N : Addr → Prop) (H : Hp) : List V → List Fd → Prop
  | nil : FdAll N H [] []
  | cons {v e vs es} : FdV N H v e → FdAll N H vs es → FdAll N H (v :: vs) (e :: es)
theorem FdV.ex {N N' : Addr → Prop} {H H' : Hp} {v : V} {f : Fd} (hn : ∀ a, N a → N' a) (e : ∀ a o, N a → H a = some o → H' a = some o) (h : FdV N H v f) : FdV N' H' v f := by
  obtain ⟨t, xs, h1, h2, h3, h4⟩ := h
  exact ⟨t, xs, h1, hn t h2, e t _ h2 h3, h4.ex hn e⟩
theorem FdAll.ex {N N' : Addr → Prop} {H H' : Hp} {vs : List V} {f : List Fd} (h : FdAll N H vs f) (hn : ∀ a, N a → N' a) (e : ∀ a o, N a → H a = some o → H' a = some o) : FdAll N' H' vs f := by
  induction h with
  | nil => exact .nil
  | cons h1 _ ih => exact .cons (h1.ex hn e) ih
theorem FdAll.snoc {N : Addr → Prop} {H : Hp} {vs : List V} {f : List Fd} {v : V} {e : Fd} (h : FdAll N H vs f) (g : FdV N H v e) : FdAll N H (vs ++ [v]) (f ++ [e]) := by
  induction h with
  | nil => exact .cons g .nil
  | cons h1 _ ih => exact .cons h1 ih
theorem FdAll.len {N : Addr → Prop} {H : Hp} {vs : List V} {f : List Fd} (h : FdAll N H vs f) : vs.length = f.length := by
  induction h with
  | nil => rfl
  | cons _ _ ih => rw [List.length_cons, List.length_cons, ih]
/-- the last one -/
theorem FdAll.last {N : Addr → Prop} {H : Hp} {vs : List V} {f : List Fd} (h : FdAll N H vs f) (hne : f ≠ []) : ∃ vs0 v f0 e, vs = vs0 ++ [v] ∧ f = f0 ++ [e] ∧ FdV N H v e := by
  induction h with
  | nil => exact absurd rfl hne
  | @cons v e vs es h1 h2 ih =>
    cases h2 with
    | nil => exact ⟨[], v, [], e, rfl, rfl, h1⟩
    | cons a b =>
      obtain ⟨vs0, v', f0, e', e1, e2, g⟩ := ih (List.cons_ne_nil _ _)
      exact ⟨v :: vs0, v', e :: f0, e', by rw [e1] <;> rfl, by rw [e2] <;> rfl, g⟩
/-- does it tell a fault -/
def bad0 : Rest → Bool
  | .flat (v :: _) => inV v [V.str (Str.ofString "great"), V.str (Str.ofString "nought")]
  | _ => false
def Fine (f : List Fd) : Prop := ∀ e ∈ f, bad0 e.rest = false
def lastBad (f : List Fd) : Bool := match f.getLast? with
  | some e => bad0 e.rest
  | none => false
theorem Fine.last {f : List Fd} (h : Fine f) : lastBad f = false := by
  unfold lastBad
  cases e : f.getLast? with
  | none => rfl
  | some x => exact h x (List.mem_of_getLast? e)
theorem lastBad_snoc (f : List Fd) (e : Fd) : lastBad (f ++ [e]) = bad0 e.rest := by
  unfold lastBad
  rw [List.getLast?_concat]
theorem Fine.snoc {f : List Fd} {e : Fd} (h : Fine f) (g : bad0 e.rest = false) : Fine (f ++ [e]) := fun x hx => by
  rcases List.mem_append.mp hx with z | z
  · exact h x z
  · rw [List.mem_singleton.mp z]
    exact g
section
variable {K : PySem.W.Frag} {σ : L2.St} {H H' : Hp} {ta tb te tc td tl ty tk t0 t1 t2 tv tw tn : TE} {tt : TT} {tr : TA} {D : Ends} {tz : TS} {E : XK} {Q : VK}
theorem eqWB {a b : Str} (ha : Ev ta σ H (.str a)) (hb : Ev tb σ H (.str b)) : Ev (tOp rEq ta tb) σ H (.bl (decide (a = b))) := ev_is (eqW ha hb) (congrArg V.bl (by
  by_cases e : a = b
  · rw [decide_eq_true e, decide_eq_true (congrArg V.str e)]
  · rw [decide_eq_false e, decide_eq_false (fun z => e (V.str.inj z))]))
theorem neWT {a b : Str} {r : Bool} (ha : Ev ta σ H (.str a)) (hb : Ev tb σ H (.str b)) (h : decide (a = b) = r) : EvT (tTest (tOp rNe ta tb)) σ H (!r) := et_test (ev_is (ev_op ha hb (rv_ne rfl)) (congrArg V.bl (by
  subst h
  by_cases e : a = b
  · rw [decide_eq_true e, decide_eq_true (congrArg V.str e)]
  · rw [decide_eq_false e, decide_eq_false (fun z => e (V.str.inj z))])))
theorem ev_ne0 {a : Addr} {xs : List V} (ha : Ev ta σ H (.ref a)) (h : H a = some (.lst xs)) : EvT (tTest (tOp (rNe0 K) ta (tLst tNil))) σ H (!xs.isEmpty) := et_test fun H1 e Q q => ha H1 e _ fun H2 e2 =>
  (show EvL (tLst tNil) σ H2 [] from el_lst ea_nil (Nat.zero_le _)) H2 (Ex.refl H2) _ fun p H3 hp0 e3 hp => ⟨a, p, xs, rfl, rfl, .inl ⟨sq_of (((e.trans e2).trans e3) _ _ h), sq_of hp⟩, q H3 (e2.trans e3)⟩
theorem ev_ne0T {a : Addr} {xs : List V} (ha : Ev ta σ H (.ref a)) (h : H a = some (.tup xs)) : EvT (tTest (tOp (rNe0 K) ta (tTup tNil))) σ H (!xs.isEmpty) := et_test fun H1 e Q q => ha H1 e _ fun H2 e2 =>
  (show EvU (tTup tNil) σ H2 [] from eu_tup ea_nil (Nat.zero_le _)) H2 (Ex.refl H2) _ fun p H3 hp0 e3 hp => ⟨a, p, xs, rfl, rfl, .inr ⟨st_of (((e.trans e2).trans e3) _ _ h), st_of hp⟩, q H3 (e2.trans e3)⟩
/-- found[-1][2] in ("great", "nought") -/
theorem et_bad {N : Addr → Prop} {a : Addr} {vs : List V} {f : List Fd} (ha : Ev ta σ H (.ref a)) (h : H a = some (.lst vs)) (hf : FdAll N H vs f) (hne : f ≠ []) :
    EvT (tTest (tOp (rInQ K) (tOp (rIxT K) (tOp (rIxL K) ta (tUn (rU fun i => .int (-i)) (tC (.int 1)))) (tC (.int 2))) (tTup (tCons (tC (.str (Str.ofString "great"))) (tCons (tC (.str (Str.ofString "nought"))) tNil))))) σ H (lastBad f) := by
  obtain ⟨vs0, v, f0, e, rfl, rfl, t, xs, rfl, _, ht, hr⟩ := hf.last hne
  rw [lastBad_snoc]
  have e1 : Ev (tOp (rIxL K) ta (tUn (rU fun i => .int (-i)) (tC (.int 1)))) σ H (.ref t) := ev_op ha (ev_un ev_c ru_neg) (rv_ixL (sq_of h) (atI_last _ _))
  have e2 : ∀ {x : V} {ys : List V}, xs = x :: ys → Ev (tOp (rIxT K) (tOp (rIxL K) ta (tUn (rU fun i => .int (-i)) (tC (.int 1)))) (tC (.int 2))) σ H x := fun {x ys} hx => by
    subst hx
    exact ev_op e1 ev_c (rv_ixT (st_of ht) (atI_nat (j := 2) rfl))
  have fin : ∀ {x : V} {ys : List V} {b : Bool}, xs = x :: ys → (flatV x = true ∧ inV x [V.str (Str.ofString "great"), V.str (Str.ofString "nought")] = b) ∨ (b = false ∧ ∃ d kvs, x = .ref d ∧ H d = some (.dK kvs)) →
      EvT (tTest (tOp (rInQ K) (tOp (rIxT K) (tOp (rIxL K) ta (tUn (rU fun i => .int (-i)) (tC (.int 1)))) (tC (.int 2))) (tTup (tCons (tC (.str (Str.ofString "great"))) (tCons (tC (.str (Str.ofString "nought"))) tNil))))) σ H b := fun {x ys b} hx hb => et_test fun H1 e Q q => e2 hx H1 e _ fun H2 e3 =>
    (show EvU (tTup (tCons (tC (.str (Str.ofString "great"))) (tCons (tC (.str (Str.ofString "nought"))) tNil))) σ H2 [V.str (Str.ofString "great"), V.str (Str.ofString "nought")] from eu_tup (ea_cons ev_c (ea_cons ev_c ea_nil)) (by show 2 ≤ 100000; decide)) H2 (Ex.refl H2) _ fun p H3 hp0 e4 hp => by
      refine ⟨p, [Str.ofString "great", Str.ofString "nought"], rfl, st_of hp, ?_⟩
      rcases hb with ⟨h1, h2⟩ | ⟨h1, d, kvs, h2, h3⟩
      · refine .inl ⟨h1, ?_⟩
        show Q (.bl (inV x [V.str (Str.ofString "great"), V.str (Str.ofString "nought")])) H3
        rw [h2]
        exact q H3 (e3.trans e4)
      · subst h1
        exact .inr ⟨d, kvs, h2, ((e.trans e3).trans e4) _ _ h3, q H3 (e3.trans e4)⟩
  obtain ⟨ew, ea, er⟩ := e
  cases er with
  | snap c =>
    obtain ⟨d, rfl, _, hd⟩ := hr
    exact fin rfl (.inr ⟨rfl, d, _, rfl, hd⟩)
  | flat us =>
    obtain ⟨rfl, h1, h2⟩ := hr
    cases xs with
    | nil => exact absurd rfl h2
    | cons x ys =>
      rw [List.all_cons, Bool.and_eq_true] at h1
      exact fin rfl (.inl ⟨h1.1, rfl⟩)
  | call fb nb ws =>
    obtain ⟨l, rfl, _, _⟩ := hr
    exact fin rfl (.inl ⟨rfl, show inV (V.str (fS fb)) _ = false by cases fb <;> decide +kernel⟩)
/-- word in ("give", "nothing") or (found != [] and found[-1][2] in ("great", "nought")) -/
theorem et_over {N : Addr → Prop} {a : Addr} {vs : List V} {f : List Fd} {w : Str} {b : Bool} (hw : Ev tw σ H (.str w)) (hb : inV (.str w) [V.str (Str.ofString "give"), V.str (Str.ofString "nothing")] = b) (ha : Ev ta σ H (.ref a)) (h : H a = some (.lst vs)) (hf : FdAll N H vs f) :
    EvT (tOr (tTest (tOp (rIn K false) tw (tTup (tCons (tC (.str (Str.ofString "give"))) (tCons (tC (.str (Str.ofString "nothing"))) tNil))))) (tAnd (tTest (tOp (rNe0 K) ta (tLst tNil))) (tTest (tOp (rInQ K) (tOp (rIxT K) (tOp (rIxL K) ta (tUn (rU fun i => .int (-i)) (tC (.int 1)))) (tC (.int 2))) (tTup (tCons (tC (.str (Str.ofString "great"))) (tCons (tC (.str (Str.ofString "nought"))) tNil))))))) σ H (b || lastBad f) := by
  refine et_or (inWU (K := K) (c := w) hw (eu_tup (ea_cons ev_c (ea_cons ev_c ea_nil)) (by show 2 ≤ 100000; decide)) rfl rfl hb) fun _ => ?_
  cases hf with
  | nil => exact et_is (et_and (b := false) (ev_ne0 ha h) fun z => by cases z) rfl
  | cons h1 h2 => exact et_is (et_and (ev_ne0 ha h) fun _ => et_bad ha h (.cons h1 h2) (List.cons_ne_nil _ _)) (Bool.true_and _)
/-- found.append((word, number, dict(cells))) -/
theorem s_appSnap {N : Addr → Prop} {a c : Addr} {vs : List V} {f : List Fd} {cs : Cs} {w : Str} {n : Nat} (ha : ∀ H', Ev ta σ H' (.ref a)) (h : H a = some (.lst vs)) (hw : Ev tw σ H (.str w)) (hn : ∀ H', Ev tn σ H' (.int (n : Int))) (hc : ∀ H', Ev tc σ H' (.ref c)) (hcs : H c = some (.dK (cV cs)))
    (hN : ∀ b, H b = none → N b) (hf : FdAll N H vs f) (hz : f.length ≤ 90000) (q : ∀ H1 vs', Ex H H1 → (upd H1 a (.lst vs')) a = some (.lst vs') → FdAll N H1 vs' (f ++ [⟨w, n, .snap cs⟩]) → D.nx σ (upd H1 a (.lst vs'))) :
    tDrop (tBM K "list" rAppend ta (tCons (tTup (tCons tw (tCons tn (tCons (tCB (fun xs H Q => ∃ (a : Addr) (kvs : List (Key × V)), xs = [.ref a] ∧ Rd H a (.dK kvs) ∧ ∀ p, H p = none → Q (.ref p) (upd H p (.dK kvs))) (tCons tc tNil)) tNil)))) tNil)) D σ H :=
  ha H H (Ex.refl H) _ fun H1 e1 => ⟨.inl ⟨rfl, vs, sq_of (e1 _ _ h)⟩, hw H1 e1 _ fun H2 e2 => hn H2 H2 (Ex.refl _) _ fun H3 e3 => hc H3 H3 (Ex.refl _) _ fun H4 e4 => ⟨c, _, rfl, .inl ((((e1.trans e2).trans e3).trans e4) _ _ hcs), fun d hd => by
    have e14 := ((e1.trans e2).trans e3).trans e4
    refine ⟨by show 3 ≤ sizeLine; decide, fun t ht => ?_⟩
    have e5 := Ex.new (o := HO.dK (cV cs)) hd
    have e6 := Ex.new (o := HO.tup [.str w, .int (n : Int), .ref d]) ht
    have e := (e14.trans e5).trans e6
    have hlen := hf.len
    refine ⟨a, vs, .ref t, rfl, rfl, e _ _ h, sz_lt (by omega), ?_⟩
    refine q _ _ e upd_same ((hf.ex (fun _ z => z) fun b o _ hb => e b o hb).snoc ⟨t, _, rfl, hN t (fresh_back (e14.trans e5) ht), upd_same, d, rfl, hN d (fresh_back e14 hd), e6 _ _ upd_same⟩)⟩⟩
/-- found.append((word, number) + told) -/
theorem s_appTold {N : Addr → Prop} {a t : Addr} {vs xs : List V} {f : List Fd} {r : Rest} {w : Str} {n : Nat} (ha : ∀ H', Ev ta σ H' (.ref a)) (h : H a = some (.lst vs)) (hw : Ev tw σ H (.str w)) (hn : ∀ H', Ev tn σ H' (.int (n : Int))) (ht : ∀ H', Ev te σ H' (.ref t)) (htx : H t = some (.tup xs)) (hr : RestV N H xs r)
    (hN : ∀ b, H b = none → N b) (hf : FdAll N H vs f) (hz : f.length ≤ 90000) (hx : xs ≠ []) (lx : xs.length ≤ 100) (q : ∀ H1 vs', Ex H H1 → FdAll N H1 vs' (f ++ [⟨w, n, r⟩]) → D.nx σ (upd H1 a (.lst vs'))) :
    tDrop (tBM K "list" rAppend ta (tCons (tOp (rCatA K) (tTup (tCons tw (tCons tn tNil))) te) tNil)) D σ H :=
  ha H H (Ex.refl H) _ fun H1 e1 => ⟨.inl ⟨rfl, vs, sq_of (e1 _ _ h)⟩, hw H1 e1 _ fun H2 e2 => hn H2 H2 (Ex.refl _) _ fun H3 e3 => ⟨by show 2 ≤ sizeLine; decide, fun p hp => by
    have e13 := (e1.trans e2).trans e3
    have e4 := Ex.new (o := HO.tup [.str w, .int (n : Int)]) hp
    refine ht _ _ (Ex.refl _) _ fun H5 e5 => ?_
    have e15 := (e13.trans e4).trans e5
    refine ⟨p, t, [.str w, .int (n : Int)], xs, rfl, rfl, st_of (e5 _ _ upd_same), st_of (e15 _ _ htx), sz_of (by show 2 + xs.length ≤ 100000; omega), fun z => absurd z (List.cons_ne_nil _ _), fun _ z => absurd z hx, fun _ _ u hu => ?_⟩
    have e6 := Ex.new (o := HO.tup ([.str w, .int (n : Int)] ++ xs)) hu
    have e := e15.trans e6
    have hlen := hf.len
    refine ⟨a, vs, .ref u, rfl, rfl, e _ _ h, sz_lt (by omega), ?_⟩
    exact q _ _ e ((hf.ex (fun _ z => z) fun b o _ hb => e b o hb).snoc ⟨u, xs, rfl, hN u (fresh_back e15 hu), upd_same, hr.ex (fun _ z => z) fun b o _ hb => e b o hb⟩)⟩⟩
end
/-! ### the parts' cells -/
def pcs (ps : List Int) (i : Nat) : Cs := (List.range i).map fun j : Nat => ((j : Int), ps.getD j 0)
theorem pcs_succ (ps : List Int) (i : Nat) : aput (pcs ps i) (i : Int) (ps.getD i 0) = pcs ps (i + 1) := by
  have h : ((pcs ps i).any fun p => decide (p.1 = (i : Int))) = false := by
    rw [Bool.eq_false_iff]
    intro z
    obtain ⟨p, hp, hd⟩ := List.any_eq_true.mp z
    obtain ⟨j, hj, rfl⟩ := List.mem_map.mp hp
    have := List.mem_range.mp hj
    have h2 : ((j : Nat) : Int) = (i : Int) := of_decide_eq_true hd
    omega
  unfold aput
  rw [if_neg (by rw [h]; exact Bool.false_ne_true)]
  unfold pcs
  rw [List.range_succ, List.map_append] <;> rfl
theorem pcs_len (ps : List Int) (i : Nat) : (pcs ps i).length = i := by
  unfold pcs
  rw [List.length_map, List.length_range]
/-! ### what rows do, told once more -/
theorem inGN (r : Rw) : inV (.str (rwW r)) [V.str (Str.ofString "give"), V.str (Str.ofString "nothing")] = stops r := by
  cases r with
  | begin_ => (show inV (V.str (Str.ofString "begin")) [V.str (Str.ofString "give"), V.str (Str.ofString "nothing")] = false; decide +kernel)
  | nothing => (show inV (V.str (Str.ofString "nothing")) [V.str (Str.ofString "give"), V.str (Str.ofString "nothing")] = true; decide +kernel)
  | put _ _ => (show inV (V.str (Str.ofString "put")) [V.str (Str.ofString "give"), V.str (Str.ofString "nothing")] = false; decide +kernel)
  | copy _ _ => (show inV (V.str (Str.ofString "copy")) [V.str (Str.ofString "give"), V.str (Str.ofString "nothing")] = false; decide +kernel)
  | fetch _ _ _ => (show inV (V.str (Str.ofString "fetch")) [V.str (Str.ofString "give"), V.str (Str.ofString "nothing")] = false; decide +kernel)
  | lay _ _ => (show inV (V.str (Str.ofString "lay")) [V.str (Str.ofString "give"), V.str (Str.ofString "nothing")] = false; decide +kernel)
  | label _ => (show inV (V.str (Str.ofString "label")) [V.str (Str.ofString "give"), V.str (Str.ofString "nothing")] = false; decide +kernel)
  | go _ => (show inV (V.str (Str.ofString "go")) [V.str (Str.ofString "give"), V.str (Str.ofString "nothing")] = false; decide +kernel)
  | unless_ _ _ => (show inV (V.str (Str.ofString "unless")) [V.str (Str.ofString "give"), V.str (Str.ofString "nothing")] = false; decide +kernel)
  | call _ _ _ _ => (show inV (V.str (Str.ofString "call")) [V.str (Str.ofString "give"), V.str (Str.ofString "nothing")] = false; decide +kernel)
  | say _ _ => (show inV (V.str (Str.ofString "say")) [V.str (Str.ofString "give"), V.str (Str.ofString "nothing")] = false; decide +kernel)
  | give _ => (show inV (V.str (Str.ofString "give")) [V.str (Str.ofString "give"), V.str (Str.ofString "nothing")] = true; decide +kernel)
  | op o _ _ _ => (show inV (V.str (opS o)) [V.str (Str.ofString "give"), V.str (Str.ofString "nothing")] = false; cases o <;> decide +kernel)
theorem eff_on {s s' : Sx} {r : Rw} {t : Option Rest} (h : eff s r = some (.on s' t)) : inV (.str (rwW r)) [V.str (Str.ofString "give"), V.str (Str.ofString "nothing")] = false ∧ ∀ x, t = some x → bad0 x = false := by
  cases r with
  | begin_ => cases h; exact ⟨inGN _, fun x hx => by cases hx; rfl⟩
  | nothing => cases h
  | put c n => cases h; exact ⟨inGN _, fun x hx => by cases hx⟩
  | copy c d =>
    have h' : (val s.c d).map _ = some _ := h
    cases e : val s.c d with
    | none => rw [e] at h'; cases h'
    | some x => rw [e] at h'; cases h'; exact ⟨inGN _, fun x hx => by cases hx⟩
  | op o c d e =>
    have h' : (match val s.c d, val s.c e with | some x, some y => some (opOut o c s (reckon o x y)) | _, _ => none) = some (.on s' t) := h
    cases e1 : val s.c d with
    | none => rw [e1] at h'; cases h'
    | some x =>
      cases e2 : val s.c e with
      | none => rw [e1, e2] at h'; cases h'
      | some y =>
        rw [e1, e2] at h'
        have h2 : some (opOut o c s (reckon o x y)) = some (.on s' t) := h'
        cases e3 : reckon o x y with
        | inl v =>
          rw [e3] at h2
          cases h2
          exact ⟨inGN _, fun x hx => by cases hx⟩
        | inr b =>
          rw [e3] at h2
          cases h2
  | fetch c f n => cases h; exact ⟨inGN _, fun x hx => by cases hx; show inV (.str (fS f)) _ = false; cases f <;> decide +kernel⟩
  | lay n c =>
    have h' : (val s.c c).map _ = some _ := h
    cases e : val s.c c with
    | none => rw [e] at h'; cases h'
    | some x => rw [e] at h'; cases h'; exact ⟨inGN _, fun y hy => by cases hy; show inV (.str (keepS n)) _ = false; cases n <;> decide +kernel⟩
  | label k => cases h; exact ⟨inGN _, fun x hx => by cases hx⟩
  | go k => cases h
  | unless_ c k => exact ⟨inGN _, fun x hx => by
      have h' : (val s.c c).map (fun x => if x = 0 then Out.to k else Out.on s none) = some (.on s' t) := h
      cases e : val s.c c with
      | none => rw [e] at h'; cases h'
      | some y =>
        rw [e] at h'
        have h2 : (if y = 0 then Out.to k else Out.on s none) = .on s' t := Option.some.inj h'
        split at h2
        · cases h2
        · cases h2; cases hx⟩
  | call oc f n cs =>
    have h' : (vals s.c cs).map _ = some _ := h
    cases e : vals s.c cs with
    | none => rw [e] at h'; cases h'
    | some x => rw [e] at h'; cases h'; exact ⟨inGN _, fun x hx => by cases hx; rfl⟩
  | say k c =>
    have h' : (val s.c c).map _ = some _ := h
    cases e : val s.c c with
    | none => rw [e] at h'; cases h'
    | some x => rw [e] at h'; cases h'; exact ⟨inGN _, fun y hy => by cases hy; show inV (.str (kindS k)) _ = false; cases k <;> decide +kernel⟩
  | give oc =>
    cases oc with
    | none => cases h
    | some c =>
      have h' : (val s.c c).map (fun x => Out.stop (.flat [.int x])) = some (.on s' t) := h
      cases e : val s.c c with
      | none => rw [e] at h'; cases h'
      | some x => rw [e] at h'; cases h'
theorem eff_over {s : Sx} {r : Rw} {t : Rest} (h : eff s r = some (.stop t)) : (inV (.str (rwW r)) [V.str (Str.ofString "give"), V.str (Str.ofString "nothing")] || bad0 t) = true := by
  cases r with
  | nothing => rw [inGN] <;> rfl
  | give oc => rw [inGN] <;> rfl
  | op o c d e =>
    have h' : (match val s.c d, val s.c e with | some x, some y => some (opOut o c s (reckon o x y)) | _, _ => none) = some (.stop t) := h
    cases e1 : val s.c d with
    | none => rw [e1] at h'; cases h'
    | some x =>
      cases e2 : val s.c e with
      | none => rw [e1, e2] at h'; cases h'
      | some y =>
        rw [e1, e2] at h'
        have h2 : some (opOut o c s (reckon o x y)) = some (.stop t) := h'
        cases e3 : reckon o x y with
        | inl v => rw [e3] at h2; cases h2
        | inr b =>
          rw [e3] at h2
          cases h2
          rw [Bool.or_eq_true]
          exact .inr (by cases b <;> decide +kernel)
  | begin_ => cases h
  | put c n => cases h
  | copy c d =>
    have h' : (val s.c d).map (fun x => Out.on ⟨aput s.c c x, s.k⟩ none) = some (.stop t) := h
    cases e : val s.c d <;> (rw [e] at h'; cases h')
  | fetch c f n => cases h
  | lay n c =>
    have h' : (val s.c c).map (fun x => Out.on ⟨s.c, aput s.k n x⟩ (some (.flat [.str (keepS n), .int x]))) = some (.stop t) := h
    cases e : val s.c c <;> (rw [e] at h'; cases h')
  | label k => cases h
  | go k => cases h
  | unless_ c k =>
    have h' : (val s.c c).map (fun x => if x = 0 then Out.to k else Out.on s none) = some (.stop t) := h
    cases e : val s.c c with
    | none => rw [e] at h'; cases h'
    | some y =>
      rw [e] at h'
      have h2 : (if y = 0 then Out.to k else Out.on s none) = .stop t := Option.some.inj h'
      split at h2 <;> cases h2
  | call oc f n cs =>
    have h' : (vals s.c cs).map (fun xs => Out.on ⟨callPut s.c oc (came xs), s.k⟩ (some (.call f n xs))) = some (.stop t) := h
    cases e : vals s.c cs <;> (rw [e] at h'; cases h')
  | say k c =>
    have h' : (val s.c c).map (fun x => Out.on s (some (.flat [.str (kindS k), .int x]))) = some (.stop t) := h
    cases e : val s.c c <;> (rw [e] at h'; cases h')
/-- which way of the interpreter's a row goes -/
def cls : Rw → Nat
  | .begin_ => 0
  | .nothing => 0
  | .go _ => 1
  | .unless_ .. => 1
  | .put .. => 2
  | .copy .. => 2
  | .label _ => 3
  | _ => 4
theorem inBN (r : Rw) : inV (.str (rwW r)) [V.str (Str.ofString "begin"), V.str (Str.ofString "nothing")] = decide (cls r = 0) := by
  cases r with
  | begin_ => (show inV (V.str (Str.ofString "begin")) [V.str (Str.ofString "begin"), V.str (Str.ofString "nothing")] = true; decide +kernel)
  | nothing => (show inV (V.str (Str.ofString "nothing")) [V.str (Str.ofString "begin"), V.str (Str.ofString "nothing")] = true; decide +kernel)
  | put _ _ => (show inV (V.str (Str.ofString "put")) [V.str (Str.ofString "begin"), V.str (Str.ofString "nothing")] = false; decide +kernel)
  | copy _ _ => (show inV (V.str (Str.ofString "copy")) [V.str (Str.ofString "begin"), V.str (Str.ofString "nothing")] = false; decide +kernel)
  | fetch _ _ _ => (show inV (V.str (Str.ofString "fetch")) [V.str (Str.ofString "begin"), V.str (Str.ofString "nothing")] = false; decide +kernel)
  | lay _ _ => (show inV (V.str (Str.ofString "lay")) [V.str (Str.ofString "begin"), V.str (Str.ofString "nothing")] = false; decide +kernel)
  | label _ => (show inV (V.str (Str.ofString "label")) [V.str (Str.ofString "begin"), V.str (Str.ofString "nothing")] = false; decide +kernel)
  | go _ => (show inV (V.str (Str.ofString "go")) [V.str (Str.ofString "begin"), V.str (Str.ofString "nothing")] = false; decide +kernel)
  | unless_ _ _ => (show inV (V.str (Str.ofString "unless")) [V.str (Str.ofString "begin"), V.str (Str.ofString "nothing")] = false; decide +kernel)
  | call _ _ _ _ => (show inV (V.str (Str.ofString "call")) [V.str (Str.ofString "begin"), V.str (Str.ofString "nothing")] = false; decide +kernel)
  | say _ _ => (show inV (V.str (Str.ofString "say")) [V.str (Str.ofString "begin"), V.str (Str.ofString "nothing")] = false; decide +kernel)
  | give _ => (show inV (V.str (Str.ofString "give")) [V.str (Str.ofString "begin"), V.str (Str.ofString "nothing")] = false; decide +kernel)
  | op o _ _ _ => (show inV (V.str (opS o)) [V.str (Str.ofString "begin"), V.str (Str.ofString "nothing")] = false; cases o <;> decide +kernel)
theorem inGU (r : Rw) : inV (.str (rwW r)) [V.str (Str.ofString "go"), V.str (Str.ofString "unless")] = decide (cls r = 1) := by
  cases r with
  | begin_ => (show inV (V.str (Str.ofString "begin")) [V.str (Str.ofString "go"), V.str (Str.ofString "unless")] = false; decide +kernel)
  | nothing => (show inV (V.str (Str.ofString "nothing")) [V.str (Str.ofString "go"), V.str (Str.ofString "unless")] = false; decide +kernel)
  | put _ _ => (show inV (V.str (Str.ofString "put")) [V.str (Str.ofString "go"), V.str (Str.ofString "unless")] = false; decide +kernel)
  | copy _ _ => (show inV (V.str (Str.ofString "copy")) [V.str (Str.ofString "go"), V.str (Str.ofString "unless")] = false; decide +kernel)
  | fetch _ _ _ => (show inV (V.str (Str.ofString "fetch")) [V.str (Str.ofString "go"), V.str (Str.ofString "unless")] = false; decide +kernel)
  | lay _ _ => (show inV (V.str (Str.ofString "lay")) [V.str (Str.ofString "go"), V.str (Str.ofString "unless")] = false; decide +kernel)
  | label _ => (show inV (V.str (Str.ofString "label")) [V.str (Str.ofString "go"), V.str (Str.ofString "unless")] = false; decide +kernel)
  | go _ => (show inV (V.str (Str.ofString "go")) [V.str (Str.ofString "go"), V.str (Str.ofString "unless")] = true; decide +kernel)
  | unless_ _ _ => (show inV (V.str (Str.ofString "unless")) [V.str (Str.ofString "go"), V.str (Str.ofString "unless")] = true; decide +kernel)
  | call _ _ _ _ => (show inV (V.str (Str.ofString "call")) [V.str (Str.ofString "go"), V.str (Str.ofString "unless")] = false; decide +kernel)
  | say _ _ => (show inV (V.str (Str.ofString "say")) [V.str (Str.ofString "go"), V.str (Str.ofString "unless")] = false; decide +kernel)
  | give _ => (show inV (V.str (Str.ofString "give")) [V.str (Str.ofString "go"), V.str (Str.ofString "unless")] = false; decide +kernel)
  | op o _ _ _ => (show inV (V.str (opS o)) [V.str (Str.ofString "go"), V.str (Str.ofString "unless")] = false; cases o <;> decide +kernel)
theorem inPC (r : Rw) : inV (.str (rwW r)) [V.str (Str.ofString "put"), V.str (Str.ofString "copy")] = decide (cls r = 2) := by
  cases r with
  | begin_ => (show inV (V.str (Str.ofString "begin")) [V.str (Str.ofString "put"), V.str (Str.ofString "copy")] = false; decide +kernel)
  | nothing => (show inV (V.str (Str.ofString "nothing")) [V.str (Str.ofString "put"), V.str (Str.ofString "copy")] = false; decide +kernel)
  | put _ _ => (show inV (V.str (Str.ofString "put")) [V.str (Str.ofString "put"), V.str (Str.ofString "copy")] = true; decide +kernel)
  | copy _ _ => (show inV (V.str (Str.ofString "copy")) [V.str (Str.ofString "put"), V.str (Str.ofString "copy")] = true; decide +kernel)
  | fetch _ _ _ => (show inV (V.str (Str.ofString "fetch")) [V.str (Str.ofString "put"), V.str (Str.ofString "copy")] = false; decide +kernel)
  | lay _ _ => (show inV (V.str (Str.ofString "lay")) [V.str (Str.ofString "put"), V.str (Str.ofString "copy")] = false; decide +kernel)
  | label _ => (show inV (V.str (Str.ofString "label")) [V.str (Str.ofString "put"), V.str (Str.ofString "copy")] = false; decide +kernel)
  | go _ => (show inV (V.str (Str.ofString "go")) [V.str (Str.ofString "put"), V.str (Str.ofString "copy")] = false; decide +kernel)
  | unless_ _ _ => (show inV (V.str (Str.ofString "unless")) [V.str (Str.ofString "put"), V.str (Str.ofString "copy")] = false; decide +kernel)
  | call _ _ _ _ => (show inV (V.str (Str.ofString "call")) [V.str (Str.ofString "put"), V.str (Str.ofString "copy")] = false; decide +kernel)
  | say _ _ => (show inV (V.str (Str.ofString "say")) [V.str (Str.ofString "put"), V.str (Str.ofString "copy")] = false; decide +kernel)
  | give _ => (show inV (V.str (Str.ofString "give")) [V.str (Str.ofString "put"), V.str (Str.ofString "copy")] = false; decide +kernel)
  | op o _ _ _ => (show inV (V.str (opS o)) [V.str (Str.ofString "put"), V.str (Str.ofString "copy")] = false; cases o <;> decide +kernel)
theorem isLbl (r : Rw) : decide (rwW r = Str.ofString "label") = decide (cls r = 3) := by
  cases r with
  | begin_ => (show decide (Str.ofString "begin" = Str.ofString "label") = false; decide +kernel)
  | nothing => (show decide (Str.ofString "nothing" = Str.ofString "label") = false; decide +kernel)
  | put _ _ => (show decide (Str.ofString "put" = Str.ofString "label") = false; decide +kernel)
  | copy _ _ => (show decide (Str.ofString "copy" = Str.ofString "label") = false; decide +kernel)
  | fetch _ _ _ => (show decide (Str.ofString "fetch" = Str.ofString "label") = false; decide +kernel)
  | lay _ _ => (show decide (Str.ofString "lay" = Str.ofString "label") = false; decide +kernel)
  | label _ => (show decide (Str.ofString "label" = Str.ofString "label") = true; decide +kernel)
  | go _ => (show decide (Str.ofString "go" = Str.ofString "label") = false; decide +kernel)
  | unless_ _ _ => (show decide (Str.ofString "unless" = Str.ofString "label") = false; decide +kernel)
  | call _ _ _ _ => (show decide (Str.ofString "call" = Str.ofString "label") = false; decide +kernel)
  | say _ _ => (show decide (Str.ofString "say" = Str.ofString "label") = false; decide +kernel)
  | give _ => (show decide (Str.ofString "give" = Str.ofString "label") = false; decide +kernel)
  | op o _ _ _ => (show decide (opS o = Str.ofString "label") = false; cases o <;> decide +kernel)
theorem tells_cls {r : Rw} (h : cls r = 4) : tells r = true := by
  cases r <;> first | rfl | cases h
theorem aput_len {κ : Type} [DecidableEq κ] (l : List (κ × Int)) (k : κ) (v : Int) : (aput l k v).length ≤ l.length + 1 := by
  unfold aput
  split
  · rw [List.length_map]; omega
  · rw [List.length_append, List.length_singleton]; omega
theorem eff_len {s s' : Sx} {r : Rw} {t : Option Rest} (h : eff s r = some (.on s' t)) : s'.c.length ≤ s.c.length + 1 ∧ s'.k.length ≤ s.k.length + 1 := by
  cases r with
  | begin_ => cases h; exact ⟨by omega, by omega⟩
  | nothing => cases h
  | put c n => cases h; exact ⟨aput_len _ _ _, by show s.k.length ≤ _; omega⟩
  | copy c d =>
    have h' : (val s.c d).map (fun x => Out.on ⟨aput s.c c x, s.k⟩ none) = some (.on s' t) := h
    cases e : val s.c d with
    | none => rw [e] at h'; cases h'
    | some x => rw [e] at h'; cases h'; exact ⟨aput_len _ _ _, by show s.k.length ≤ _; omega⟩
  | op o c d e =>
    have h' : (match val s.c d, val s.c e with | some x, some y => some (opOut o c s (reckon o x y)) | _, _ => none) = some (.on s' t) := h
    cases e1 : val s.c d with
    | none => rw [e1] at h'; cases h'
    | some x =>
      cases e2 : val s.c e with
      | none => rw [e1, e2] at h'; cases h'
      | some y =>
        rw [e1, e2] at h'
        have h2 : some (opOut o c s (reckon o x y)) = some (.on s' t) := h'
        cases e3 : reckon o x y with
        | inl v => rw [e3] at h2; cases h2; exact ⟨aput_len _ _ _, by show s.k.length ≤ _; omega⟩
        | inr b => rw [e3] at h2; cases h2
  | fetch c f n => cases h; exact ⟨aput_len _ _ _, by show s.k.length ≤ _; omega⟩
  | lay n c =>
    have h' : (val s.c c).map (fun x => Out.on ⟨s.c, aput s.k n x⟩ (some (.flat [.str (keepS n), .int x]))) = some (.on s' t) := h
    cases e : val s.c c with
    | none => rw [e] at h'; cases h'
    | some x => rw [e] at h'; cases h'; exact ⟨by show s.c.length ≤ _; omega, aput_len _ _ _⟩
  | label k => cases h; exact ⟨by omega, by omega⟩
  | go k => cases h
  | unless_ c k =>
    have h' : (val s.c c).map (fun x => if x = 0 then Out.to k else Out.on s none) = some (.on s' t) := h
    cases e : val s.c c with
    | none => rw [e] at h'; cases h'
    | some y =>
      rw [e] at h'
      have h2 : (if y = 0 then Out.to k else Out.on s none) = .on s' t := Option.some.inj h'
      split at h2
      · cases h2
      · cases h2; exact ⟨by omega, by omega⟩
  | call oc f n cs =>
    have h' : (vals s.c cs).map (fun xs => Out.on ⟨callPut s.c oc (came xs), s.k⟩ (some (.call f n xs))) = some (.on s' t) := h
    cases e : vals s.c cs with
    | none => rw [e] at h'; cases h'
    | some x =>
      rw [e] at h'
      cases h'
      refine ⟨?_, by show s.k.length ≤ _; omega⟩
      cases oc with
      | none => show s.c.length ≤ _; omega
      | some c => exact aput_len _ _ _
  | say k c =>
    have h' : (val s.c c).map (fun x => Out.on s (some (.flat [.str (kindS k), .int x]))) = some (.on s' t) := h
    cases e : val s.c c with
    | none => rw [e] at h'; cases h'
    | some x => rw [e] at h'; cases h'; exact ⟨by omega, by omega⟩
  | give oc =>
    cases oc with
    | none => cases h
    | some c =>
      have h' : (val s.c c).map (fun x => Out.stop (.flat [.int x])) = some (.on s' t) := h
      cases e : val s.c c with
      | none => rw [e] at h'; cases h'
      | some x => rw [e] at h'; cases h'
theorem RestV.ne {N : Addr → Prop} {H : Hp} {xs : List V} : ∀ {r : Rest}, RestV N H xs r → xs ≠ []
  | .snap c, ⟨d, h1, _⟩ => by rw [h1]; exact List.cons_ne_nil _ _
  | .flat vs, ⟨h1, _, h3⟩ => by rw [h1]; exact h3
  | .call f n ws, ⟨l, h1, _⟩ => by rw [h1]; exact List.cons_ne_nil _ _
/-- what is told is short -/
theorem told_len {s s' : Sx} {r : Rw} {us : List V} (h : eff s r = some (.on s' (some (.flat us))) ∨ eff s r = some (.stop (.flat us))) : us.length ≤ 100 := by
  cases r with
  | begin_ => rcases h with h | h <;> cases h
  | nothing => rcases h with h | h <;> cases h
  | put c n => rcases h with h | h <;> cases h
  | copy c d =>
    cases e : val s.c d with
    | none => rcases h with h | h <;> (have h' : (val s.c d).map (fun x => Out.on ⟨aput s.c c x, s.k⟩ none) = some _ := h; rw [e] at h'; cases h')
    | some x => rcases h with h | h <;> (rw [eff_copy e] at h; cases h)
  | op o c d e =>
    cases e1 : val s.c d with
    | none => rcases h with h | h <;> (have h' : (match val s.c d, val s.c e with | some x, some y => some (opOut o c s (reckon o x y)) | _, _ => none) = some _ := h; rw [e1] at h'; cases h')
    | some x =>
      cases e2 : val s.c e with
      | none => rcases h with h | h <;> (have h' : (match val s.c d, val s.c e with | some x, some y => some (opOut o c s (reckon o x y)) | _, _ => none) = some _ := h; rw [e1, e2] at h'; cases h')
      | some y =>
        cases e3 : reckon o x y with
        | inl v => rcases h with h | h <;> (rw [eff_op e1 e2, e3] at h; cases h)
        | inr b => rcases h with h | h <;> (rw [eff_op e1 e2, e3] at h; cases h) <;> (show 1 ≤ 100; decide)
  | fetch c f n => rcases h with h | h <;> cases h <;> (show 2 ≤ 100; decide)
  | lay n c =>
    cases e : val s.c c with
    | none => rcases h with h | h <;> (have h' : (val s.c c).map (fun x => Out.on ⟨s.c, aput s.k n x⟩ (some (.flat [.str (keepS n), .int x]))) = some _ := h; rw [e] at h'; cases h')
    | some x => rcases h with h | h <;> (rw [eff_lay e] at h; cases h) <;> (show 2 ≤ 100; decide)
  | label k => rcases h with h | h <;> cases h
  | go k => rcases h with h | h <;> cases h
  | unless_ c k =>
    cases e : val s.c c with
    | none => rcases h with h | h <;> (have h' : (val s.c c).map (fun x => if x = 0 then Out.to k else Out.on s none) = some _ := h; rw [e] at h'; cases h')
    | some x => rcases h with h | h <;> (rw [eff_unless e] at h; by_cases hx : x = 0 <;> simp [hx] at h)
  | call oc f n cs =>
    cases e : vals s.c cs with
    | none => rcases h with h | h <;> (have h' : (vals s.c cs).map (fun xs => Out.on ⟨callPut s.c oc (came xs), s.k⟩ (some (.call f n xs))) = some _ := h; rw [e] at h'; cases h')
    | some x => rcases h with h | h <;> (rw [eff_call e] at h; cases h)
  | say k c =>
    cases e : val s.c c with
    | none => rcases h with h | h <;> (have h' : (val s.c c).map (fun x => Out.on s (some (.flat [.str (kindS k), .int x]))) = some _ := h; rw [e] at h'; cases h')
    | some x => rcases h with h | h <;> (rw [eff_say e] at h; cases h) <;> (show 2 ≤ 100; decide)
  | give oc =>
    cases oc with
    | none => rcases h with h | h <;> cases h <;> (show 1 ≤ 100; decide)
    | some c =>
      cases e : val s.c c with
      | none => rcases h with h | h <;> (have h' : (val s.c c).map (fun x => Out.stop (.flat [.int x])) = some _ := h; rw [e] at h'; cases h')
      | some x => rcases h with h | h <;> (rw [eff_give e] at h; cases h) <;> (show 1 ≤ 100; decide)
end Wt

set_option Elab.async false
set_option linter.all false
set_option maxRecDepth 100000
set_option maxHeartbeats 4000000
namespace Wt
open PySem PySem.Spec PyProof.Rows L2 SX Evl
open C8 (Def Cal cal0 fnScope_by fnScope)
/-! _law_middle: rows over cells done from their first one on. -/
theorem Kp.ex0 {l : List Addr} {H0 H1 H2 : Hp} (e : Ex H0 H1) (k : Kp l H1 H2) (h : ∀ a ∈ l, H0 a = none) : Ex H0 H2 := fun b o ho => k.keep b o (fun z => by rw [h b z] at ho; cases ho) (e b o ho)
theorem after_is (r : Rw) (most : Int) : most - (if decide (rwW r = Str.ofString "begin") = true then 1 else 0) = after r most := by
  have h : decide (rwW r = Str.ofString "begin") = decide (r = .begin_) := by
    cases r with
    | begin_ => rfl
    | nothing => (show decide (Str.ofString "nothing" = Str.ofString "begin") = false; decide +kernel)
    | put _ _ => (show decide (Str.ofString "put" = Str.ofString "begin") = false; decide +kernel)
    | copy _ _ => (show decide (Str.ofString "copy" = Str.ofString "begin") = false; decide +kernel)
    | fetch _ _ _ => (show decide (Str.ofString "fetch" = Str.ofString "begin") = false; decide +kernel)
    | lay _ _ => (show decide (Str.ofString "lay" = Str.ofString "begin") = false; decide +kernel)
    | label _ => (show decide (Str.ofString "label" = Str.ofString "begin") = false; decide +kernel)
    | go _ => (show decide (Str.ofString "go" = Str.ofString "begin") = false; decide +kernel)
    | unless_ _ _ => (show decide (Str.ofString "unless" = Str.ofString "begin") = false; decide +kernel)
    | call _ _ _ _ => (show decide (Str.ofString "call" = Str.ofString "begin") = false; decide +kernel)
    | say _ _ => (show decide (Str.ofString "say" = Str.ofString "begin") = false; decide +kernel)
    | give _ => (show decide (Str.ofString "give" = Str.ofString "begin") = false; decide +kernel)
    | op o _ _ _ => (show decide (opS o = Str.ofString "begin") = false; cases o <;> decide +kernel)
  rw [h]
  unfold after
  by_cases e : r = .begin_
  · rw [if_pos e, if_pos (decide_eq_true e)]
  · rw [if_neg e, if_neg (by rw [decide_eq_false e]; exact Bool.false_ne_true), Int.sub_zero]
theorem mergeK_new : ∀ {more kvs : List (Key × V)}, ((kvs ++ more).map Prod.fst).Nodup → mergeK kvs more = kvs ++ more
  | [], kvs, _ => (List.append_nil _).symm
  | p :: more, kvs, h => by
    have e : kvs ++ p :: more = (kvs ++ [p]) ++ more := by rw [List.append_assoc] <;> rfl
    have hn : p.1 ∉ kvs.map Prod.fst := fun hm => by
      rw [List.map_append] at h
      exact (List.nodup_append.mp h).2.2 p.1 hm p.1 (List.mem_cons_self ..) rfl
    show mergeK (putK kvs p.1 p.2) more = _
    rw [putK_new hn, e]
    exact mergeK_new (by rw [← e]; exact h)
theorem spots_mk {rs : List Rw} (h : (labs rs).Nodup) : mergeK [] (intKv (labAt 0 rs) id) = intKv (labAt 0 rs) id := by
  refine mergeK_new ?_
  rw [List.nil_append, intKv_keys, labAt_fst]
  exact List.pairwise_map.mpr (h.imp fun hab z => hab (Sum.inl.inj z))
def labD (p : Int × Nat) : PyData := .tuple [.int p.1, .int (p.2 : Int)]
/-- pairs as call_dictP wants them -/
theorem labs_pairs {K : PySem.W.Frag} {H : Hp} : ∀ {l : List (Int × Nat)} {vs : List V}, TdAll H vs (l.map labD) → ∃ ps : List Addr, vs = ps.map V.ref ∧ Paired (fun p (kv : Key × V) => SqT K H p [kV kv.1, kv.2]) ps (intKv l id)
  | [], _, h => by cases h; exact ⟨[], rfl, .nil⟩
  | p :: l, _, h => by
    cases h with
    | cons h1 h2 =>
      obtain ⟨ps, e, g⟩ := labs_pairs (K := K) h2
      cases h1 with
      | @tup a xs _ ha hx =>
        cases hx with
        | cons x1 hx =>
          cases hx with
          | cons x2 hx =>
            cases hx
            cases x1
            cases x2
            exact ⟨a :: ps, by rw [e] <;> rfl, .cons (st_of ha) g⟩
section
variable {K : PySem.W.Frag} {σ : L2.St} {H H' : Hp} {ta tb te tc td tl ty tk t0 t1 t2 tv : TE} {t : TT} {tr : TA} {D : Ends} {tz : TS} {E : XK} {Q : VK}
theorem q_asgCall {i : Nat} {sp : Sp} {vs : List V} (h : EvA tr σ H vs) (k : ∀ H1, Ex H H1 → sp vs H1 (fun v H2 => tz D (σ.set i (some v)) H2) E) : tSeq (tAsg (tCall sp [] E tr) (gName i)) tz D σ H := h H (Ex.refl H) _ fun H1 e => by
  rw [List.append_nil]
  exact k H1 e
theorem s_ifQ {tu tw : TS} {b : Bool} (h : EvT t σ H b) (h1 : b = true → ∀ H1, Ex H H1 → tu D σ H1) (h2 : b = false → ∀ H1, Ex H H1 → tw D σ H1) : tIfS t tu tw D σ H := s_if h h1 h2
/-- [e for i in range(n) if t], data -/
theorem edl_lcRf {j : Nat} {vs : List Nat} {n : Nat} (L : Nat → List PyData) (h : Ev ta σ H (.int (n : Int))) (hN : n ≤ 10000) (hw : ∀ x, wipe ((wipe σ vs).set j (some x)) vs = wipe σ vs) (h0 : L 0 = []) (hl : ∀ i, i ≤ n → (L i).length ≤ i)
    (he : ∀ (i : Nat) H1, Ex H H1 → i < n → (∃ d, EvT t ((wipe σ vs).set j (some (.int (i : Int)))) H1 true ∧ (∀ H2, Ex H1 H2 → EvD te ((wipe σ vs).set j (some (.int (i : Int)))) H2 d) ∧ L (i + 1) = L i ++ [d]) ∨ (EvT t ((wipe σ vs).set j (some (.int (i : Int)))) H1 false ∧ L (i + 1) = L i)) :
    EvDL (tLc (iRng1 (tCons ta tNil)) (gName j) t te vs) σ H (L n) := fun H0 e Q q =>
  h H0 e _ fun H1 e1 => by
    refine ⟨(n : Int), rfl, by omega, by omega, fun Dl hD => ?_⟩
    refine lc_range (lo := 0) (n := (n : Int).toNat) (fun i H2 => ∃ xs, Ex H1 H2 ∧ H2 Dl = some (.lst xs) ∧ TdAll H2 xs (L i)) ⟨[], Ex.new hD, upd_same, by rw [h0]; exact .nil⟩ ?_ ?_
    · rintro i H2 hi ⟨xs, e2, h2, hT⟩
      have hl2 := hT.len
      have hl3 := hl i (by omega)
      have e0 : (0 : Int) + (i : Int) = (i : Int) := Int.zero_add _
      show wipe ((wipe σ vs).set j (some (.int ((0 : Int) + (i : Int))))) vs = wipe σ vs ∧ t ((wipe σ vs).set j (some (.int ((0 : Int) + (i : Int))))) H2 fun b H3 => if b = true then te ((wipe σ vs).set j (some (.int ((0 : Int) + (i : Int))))) H3 _ else _
      rw [e0]
      refine ⟨hw _, ?_⟩
      rcases he i H2 ((e.trans e1).trans e2) (by omega) with ⟨d, ht, hd, hL⟩ | ⟨ht, hL⟩
      · refine ht H2 (Ex.refl H2) _ fun H3 e3 => ?_
        show te ((wipe σ vs).set j (some (.int (i : Int)))) H3 _
        refine hd H3 e3 H3 (Ex.refl H3) _ fun y H4 e4 hy => ⟨xs, (e3.trans e4) Dl _ h2, sz_lt (by omega), xs ++ [y], Ex.mut ((e2.trans e3).trans e4) hD, upd_same, ?_⟩
        have tx : Tx H4 (upd H4 Dl (.lst (xs ++ [y]))) := Tx.lst ((e3.trans e4) _ _ h2)
        rw [hL]
        exact (TdAll.tx ((Tx.of (e3.trans e4)).trans tx) _ _ hT).snoc (Td.tx tx _ _ hy)
      · refine ht H2 (Ex.refl H2) _ fun H3 e3 => ?_
        show ∃ xs, Ex H1 H3 ∧ H3 Dl = some (.lst xs) ∧ TdAll H3 xs (L (i + 1))
        rw [hL]
        exact ⟨xs, e2.trans e3, e3 _ _ h2, TdAll.tx (Tx.of e3) _ _ hT⟩
    · rintro H2 ⟨xs, e2, h2, hT⟩
      rw [Int.toNat_natCast] at hT
      exact q Dl H2 xs (fresh_back e1 hD) (e1.trans e2) h2 hT
theorem edl_cast {ds ds' : List PyData} (h : EvDL te σ H ds) (e : ds = ds') : EvDL te σ H ds' := e ▸ h
/-- spots = dict(the labels with their numbers) -/
theorem q_spots {i : Nat} {rs : List Rw} (hn : (labs rs).Nodup) (h : EvDL te σ H ((labAt 0 rs).map labD)) (k : ∀ d H1, H d = none → Ex H H1 → H1 d = some (.dK (intKv (labAt 0 rs) id)) → tz D (σ.set i (some (.ref d))) H1) :
    tSeq (tAsg (tCB (fun xs H Q => ∃ (a : Addr) (ps : List Addr) (kvs : List (Key × V)), xs = [.ref a] ∧ SqL K H a (ps.map V.ref) ∧ Paired (fun p kv => SqT K H p [kV kv.1, kv.2]) ps kvs ∧ ∀ p, H p = none → Q (.ref p) (upd H p (.dK (mergeK [] kvs)))) (tCons te tNil)) (gName i)) tz D σ H :=
  h H (Ex.refl H) _ fun p H1 vs hp0 e1 hp hT => by
    obtain ⟨ps, evs, hP⟩ := labs_pairs (K := K) hT
    subst evs
    refine ⟨p, ps, _, rfl, sq_of hp, hP, fun d hd => ?_⟩
    rw [spots_mk hn]
    exact k d _ (fresh_back e1 hd) (e1.trans (Ex.new hd)) upd_same
/-- rows, cells, keeps, found, at = x, {}, {}, [], 0 -/
theorem q_new5 {x : V} {i1 i2 i3 i4 i5 : Nat} (h1 : Ev t1 σ H x) (k : ∀ c ks f H1, H c = none → H ks = none → H f = none → c ≠ ks → c ≠ f → ks ≠ f → Ex H H1 → H1 c = some (.dK []) → H1 ks = some (.dT []) → H1 f = some (.lst []) →
      tz D (((((σ.set i1 (some x)).set i2 (some (.ref c))).set i3 (some (.ref ks))).set i4 (some (.ref f))).set i5 (some (.int 0))) H1) :
    tSeq (tAsg (tTup (tCons t1 (tCons tDNewK (tCons tDNewT (tCons (tLst tNil) (tCons (tC (.int 0)) tNil)))))) (gTup K 5 (gCons (gName i1) (gCons (gName i2) (gCons (gName i3) (gCons (gName i4) (gCons (gName i5) gNil))))))) tz D σ H := by
  refine h1 H (Ex.refl H) _ fun H1 e1 => ?_
  intro c hc
  have e2 := Ex.new (o := HO.dK []) hc
  intro ks hks
  have e3 := Ex.new (o := HO.dT []) hks
  refine ⟨Nat.zero_le _, fun f hf => ?_⟩
  have e4 := Ex.new (o := HO.lst []) hf
  refine ⟨by show 5 ≤ sizeLine; decide, fun p hp => ?_⟩
  have e5 := Ex.new (o := HO.tup [x, .ref c, .ref ks, .ref f, .int 0]) hp
  have hc2 : (upd H1 c (.dK [])) c = some (.dK []) := upd_same
  have hk3 : (upd (upd H1 c (.dK [])) ks (.dT [])) ks = some (.dT []) := upd_same
  have hf4 : (upd (upd (upd H1 c (.dK [])) ks (.dT [])) f (.lst [])) f = some (.lst []) := upd_same
  have nck : c ≠ ks := ne_of_none hc2 hks
  have ncf : c ≠ f := ne_of_none (e3 _ _ hc2) hf
  have nkf : ks ≠ f := ne_of_none hk3 hf
  exact ⟨p, _, rfl, st_of upd_same, rfl, x, _, rfl, .ref c, _, rfl, .ref ks, _, rfl, .ref f, _, rfl, .int 0, [], rfl, rfl,
    k c ks f _ (fresh_back e1 hc) (fresh_back (e1.trans e2) hks) (fresh_back ((e1.trans e2).trans e3) hf) nck ncf nkf ((((e1.trans e2).trans e3).trans e4).trans e5) (((e3.trans e4).trans e5) _ _ hc2) ((e4.trans e5) _ _ hk3) (e5 _ _ hf4)⟩
end
section
variable {P : Program} {w : World} {K : PySem.W.Frag} {mg : Str → Option Value} {base : Heap}
abbrev s__law_middle : Stmt := topS 22
theorem sc__law_middle : FnScope ["_law_made_here", "_law_parts", "_law_most", "_law_rows", "_law_cells", "_law_keeps", "_law_found", "_law_at", "_law_k", "_law_spots", "_law_row", "_law_word", "_law_told"] ["_law_made_here", "_law_parts", "_law_most"] (fnScope s__law_middle) := fnScope_by (by decide +kernel)
/-- a new list of what is found -/
def RetFd (res : List Fd) (H : Hp) (Q : VK) : Prop := ∀ l H2 vs, H l = none → Ex H H2 → H2 l = some (.lst vs) → FdAll (fun a => H a = none ∧ a ≠ l) H2 vs res → Q (.ref l) H2
def spMiddle (K : PySem.W.Frag) : Sp := fun vs H Q _ => ∃ (v : V) (pa : Addr) (ds : List PyData) (rows : List Rp) (ps : List Int) (most : Int) (F : Nat) (res : List Fd), vs = [v, .ref pa, .int most] ∧ Td H v (.tuple ds) ∧ ds[4]? = some (.tuple (rows.map rpD)) ∧ H pa = some (iL ps) ∧
  RowsOk (rows.map Prod.fst) ∧ runM (rows.map Prod.fst) F most 0 ⟨pcs ps ps.length, []⟩ [] = some res ∧ F ≤ 60000 ∧ ps.length ≤ 1000 ∧ RetFd res H Q
theorem ok_middle (T : ModsI K mg) (c__law_done : Cal P w K mg base 2 "_law_done" (spDone K) []) {f : Addr} {fd : FuncData} (F : Def K mg "_law_middle" s__law_middle f fd) (b : Binds K fd ["_law_made_here", "_law_parts", "_law_most"] []) : Cal P w K mg base 3 "_law_middle" (spMiddle K) [] := by
  refine cal0 F b .nil sc__law_middle (fun vs H Q E h => ?_) (fun cdv A outer s H vs Q E hr h => ?_)
  · obtain ⟨_, _, _, _, _, _, _, _, rfl, _⟩ := h
    rfl
  · obtain ⟨v, pa, ds, rows, ps, most, F, res, rfl, hv, h4, hpa, ok, hrun, lF, lps, q⟩ := h
    have m_range := T.m_range
    have m_len := T.m_len
    have m_dict := T.m_dict
    have m_int := T.m_int
    have hu := hu_of hr
    have hu64 := hr.units
    refine ⟨_, (pss_cons (ps_asg (pe_tup (pa_cons (pe_ix ix_tup (pv 0) pe_int (fun _ _ => rfl)) (pa_cons pe_dnewK (pa_cons pe_dnewT (pa_cons (pe_lst pa_nil) (pa_cons pe_int pa_nil)))))) (pg_tup rfl (pgs_cons (pg_name (i := 3) sc__law_middle.nd rfl (.inr rfl)) (pgs_cons (pg_name (i := 4) sc__law_middle.nd rfl (.inl rfl)) (pgs_cons (pg_name (i := 5) sc__law_middle.nd rfl (.inl rfl)) (pgs_cons (pg_name (i := 6) sc__law_middle.nd rfl (.inl rfl)) (pgs_cons (pg_name (i := 7) sc__law_middle.nd rfl (.inl rfl)) pgs_nil)))))))
      (pss_cons (ps_for PassesOwn.never rfl (pi_range1 (by rfl) m_range (pa_cons (pe_callB call_len_seq (by rfl) m_len PySem.boot_len (pa_cons (pv 1) pa_nil)) pa_nil)) (pg_name (i := 8) sc__law_middle.nd rfl (.inl rfl)) (pss_one (ps_dput hu (pv 4) (pv 8) (pe_ix ix_list (pv 1) (pv 8) (fun _ _ => rfl)) rfl)))
      (pss_cons (ps_set (i := 9) sc__law_middle.nd rfl (.inl rfl) (pe_callTy (call_dictP rfl) (by rfl) m_dict Wt.bt_dict (pa_cons (pe_lc (own := [("_law_k", 8)]) (g := (gName 8)) rfl sc__law_middle.nd (pi_range1 (by rfl) m_range (pa_cons (pe_callB call_len_seq (by rfl) m_len PySem.boot_len (pa_cons (pv 3) pa_nil)) pa_nil)) (blkOk_by (N := ["_law_made_here", "_law_parts", "_law_most", "_law_rows", "_law_cells", "_law_keeps", "_law_found", "_law_at", "_law_k", "_law_spots", "_law_row", "_law_word", "_law_told"]) (sc := C8.fnScope s__law_middle) (by decide +kernel)) (fun _ _ _ _ _ => pg_name (i := 8) sc__law_middle.nd rfl (Or.inl rfl)) (fun _ _ _ _ _ => pts_one (pt_cmpR op_eq (pe_ix (show IxR _ (rIxT K) from ix_tup) (pe_ix (show IxR _ (rIxT K) from ix_tup) (pv 3) (pv 8) (fun _ _ => rfl)) pe_int (fun _ _ => rfl)) pe_str (nomark _))) (fun _ _ _ _ _ => (pe_tup (pa_cons (pe_ix (show IxR _ (rIxT K) from ix_tup) (pe_ix (show IxR _ (rIxT K) from ix_tup) (pv 3) (pv 8) (fun _ _ => rfl)) pe_int (fun _ _ => rfl)) (pa_cons (pv 8) pa_nil))))) pa_nil)))
      (pss_cons (ps_while PassesOwn.never (pt_cmpR op_ge (pv 2) pe_int (nomark _)) (pss_cons (ps_par (i := 10) (j := 7) rfl sc__law_middle.nd rfl rfl (by decide) (by rfl) (by rfl) (pa_cons (pe_ix ix_tup (pv 3) (pv 7) (fun _ _ => rfl)) (pa_cons (pe_op op_add (pv 7) pe_int) pa_nil)) (by rfl))
      (pss_cons (ps_par (i := 11) (j := 2) rfl sc__law_middle.nd rfl rfl (by decide) (by rfl) (by rfl) (pa_cons (pe_ix ix_tup (pv 10) pe_int (fun _ _ => rfl)) (pa_cons (pe_op op_sub (pv 2) (pe_callTy call_int1 (by rfl) m_int Wt.bt_int (pa_cons (pe_cmpR op_eq (pe_ix ix_tup (pv 10) pe_int (fun _ _ => rfl)) pe_str (nomark _)) pa_nil))) pa_nil)) (by rfl))
      (pss_cons (ps_if (pt_cmpR op_in_seq (pv 11) (pe_tup (pa_cons pe_str (pa_cons pe_str pa_nil))) (by with_unfolding_all rfl)) (pss_one (ps_expr (pe_bm PySem.F.plainAttrs_list PySem.F.slot_list_append PySem.F.type_list_append mt_append (pv 6) (pa_cons (pe_tup (pa_cons (pv 11) (pa_cons (pe_op op_sub (pv 7) pe_int) (pa_cons (pe_callTy call_dictD (by rfl) m_dict Wt.bt_dict (pa_cons (pv 4) pa_nil)) pa_nil)))) pa_nil)))) (pss_one (ps_if (pt_cmpR op_in_seq (pv 11) (pe_tup (pa_cons pe_str (pa_cons pe_str pa_nil))) (by with_unfolding_all rfl)) (pss_one (ps_set (i := 7) sc__law_middle.nd rfl (.inl rfl) (pe_ifExp (pt_cmpR op_eq (pv 11) pe_str (nomark _)) (pe_dget hu (pv 9) (pe_ix ix_tup (pv 10) pe_int (fun _ _ => rfl)) (fun _ _ => rfl)) (pe_ifExp (pt_cmpR op_eq (pe_dget hu (pv 4) (pe_ix ix_tup (pv 10) pe_int (fun _ _ => rfl)) (fun _ _ => rfl)) pe_int (nomark _)) (pe_dget hu (pv 9) (pe_ix ix_tup (pv 10) pe_int (fun _ _ => rfl)) (fun _ _ => rfl)) (pv 7))))) (pss_one (ps_if (pt_cmpR op_in_seq (pv 11) (pe_tup (pa_cons pe_str (pa_cons pe_str pa_nil))) (by with_unfolding_all rfl)) (pss_one (ps_dput hu (pv 4) (pe_ix ix_tup (pv 10) pe_int (fun _ _ => rfl)) (pe_ifExp (pt_cmpR op_eq (pv 11) pe_str (nomark _)) (pe_ix ix_tup (pv 10) pe_int (fun _ _ => rfl)) (pe_dget hu (pv 4) (pe_ix ix_tup (pv 10) pe_int (fun _ _ => rfl)) (fun _ _ => rfl))) rfl)) (pss_one (ps_if (pt_cmpR op_ne (pv 11) pe_str (nomark _)) (pss_cons (ps_set (i := 12) sc__law_middle.nd rfl (.inl rfl) (C8.pe_c c__law_done hr (by first | decide | exact Nat.le_refl _ | omega) (by rfl) (pa_cons (pv 10) (pa_cons (pv 4) (pa_cons (pv 5) pa_nil)))))
      (pss_one (ps_if (pt_cmpR (Wt.op_ne0 hu) (pv 12) (pe_tup pa_nil) (nomark _)) (pss_one (ps_expr (pe_bm PySem.F.plainAttrs_list PySem.F.slot_list_append PySem.F.type_list_append mt_append (pv 6) (pa_cons (pe_op op_catA (pe_tup (pa_cons (pv 11) (pa_cons (pe_op op_sub (pv 7) pe_int) pa_nil))) (pv 12)) pa_nil)))) pss_nil))) pss_nil)))))))
      (pss_one (ps_if (PW.pt (pw_or (pt_cmpR op_in_seq (pv 11) (pe_tup (pa_cons pe_str (pa_cons pe_str pa_nil))) (by with_unfolding_all rfl)) (pw_or1 (PW.pt (pw_and (pt_cmpR (Wt.op_ne0 hu) (pv 6) (pe_lst pa_nil) (nomark _)) (pw_and1 (pt_cmpR (Wt.op_inQ hu) (pe_ix ix_tup (pe_ix ix_list (pv 6) (pe_un un_neg pe_int) (fun _ _ => rfl)) pe_int (fun _ _ => rfl)) (pe_tup (pa_cons pe_str (pa_cons pe_str pa_nil))) (by with_unfolding_all rfl)))))))) (pss_one (ps_ret (pv 6))) pss_nil))))))
      (pss_one (ps_ret (pv 6))))))), ?_⟩
    obtain ⟨rs, ers⟩ : ∃ rs, rs = rows.map Prod.fst := ⟨_, rfl⟩
    rw [← ers] at ok hrun
    have lrs : rs.length = rows.length := by rw [ers, List.length_map]
    obtain ⟨x4, hx4, ev4⟩ := ev_ixTd (K := K) (σ := [some v, some (.ref pa), some (.int most), none, none, none, none, none, none, none, none, none, none]) (ta := tVar 0) (tb := tC (.int 4)) (j := 4) (ev_var rfl) hv ev_c h4
    refine q_new5 ev4 fun c k f H1 hc0 hk0 hf0 nck ncf nkf e1 hc1 hk1 hf1 => ?_
    cases hx4 with
    | @tup ra xs _ hra hxs =>
    have lxs : xs.length = rs.length := by rw [hxs.len, List.length_map, lrs]
    -- the parts
    refine q_forR1 (n := (ps.length : Int)) (ea_cons (ev_is (ev_len (K := K) (ev_var rfl) (sq_of (e1 _ _ hpa))) (by rw [List.length_map])) ea_nil) (by omega) (fun i σ' H' => ∃ y8, σ' = [some v, some (.ref pa), some (.int most), some (.ref ra), some (.ref c), some (.ref k), some (.ref f), some (.int 0), y8, none, none, none, none] ∧ Ex H H' ∧ H' c = some (.dK (cV (pcs ps i))) ∧ H' k = some (.dT (ksV [])) ∧ H' f = some (.lst []))
      (fun H2 e2 => ⟨_, rfl, e1.trans e2, e2 _ _ hc1, e2 _ _ hk1, e2 _ _ hf1⟩) ?_ ?_
    · rintro i σ' H2 hi ⟨y8, rfl, e2, hc2, hk2, hf2⟩
      have hi2 : i < ps.length := by omega
      refine s_dputC (k := (i : Int)) (v := ps.getD i 0) (ev_op (ev_var rfl) (ev_var rfl) (rv_ixL (sq_of (e2 _ _ hpa)) (atI_nat ?_))) (fun _ => ev_var rfl) (fun _ _ => ev_var rfl) hc2 (by rw [pcs_len]; omega) fun H3 e3 => ⟨_, rfl, Ex.mut (e2.trans e3) hc0, ?_, ?_, ?_⟩
      · rw [List.getElem?_map, List.getElem?_eq_getElem hi2, List.getD_eq_getElem?_getD, List.getElem?_eq_getElem hi2] <;> rfl
      · rw [upd_same, pcs_succ]
      · rw [upd_ne nck.symm]; exact e3 _ _ hk2
      · rw [upd_ne ncf.symm]; exact e3 _ _ hf2
    rintro σ' H2 ⟨y8, rfl, e2, hc2, hk2, hf2⟩
    rw [Int.toNat_natCast] at hc2
    -- where labels stand
    have hra2 := e2 _ _ hra
    have rowAt : ∀ {i : Nat} {H' : Hp}, Ex H H' → i < rs.length → ∃ (x : V) (r : Rw) (pl : Int × Int), xs[i]? = some x ∧ rs[i]? = some r ∧ Td H' x (rpD (r, pl)) := fun {i H'} e hi => by
      have hi2 : i < rows.length := by omega
      obtain ⟨x, hx, hT⟩ := td_get (i := i) (d := rpD rows[i]) hxs (by rw [List.getElem?_map, List.getElem?_eq_getElem hi2] <;> rfl)
      exact ⟨x, rows[i].1, rows[i].2, hx, by rw [ers, List.getElem?_map, List.getElem?_eq_getElem hi2] <;> rfl, Td.tx (Tx.of e) _ _ hT⟩
    have evRow : ∀ {i : Nat} {x : V} {σ : L2.St} {H' : Hp} {tb : TE}, Ex H H' → xs[i]? = some x → σ[3]? = some (some (.ref ra)) → Ev tb σ H' (.int (i : Int)) → Ev (tOp (rIxT K) (tVar 3) tb) σ H' x := fun e hx h3 hb => ev_op (ev_var h3) hb (rv_ixT (st_of (e _ _ hra)) (atI_nat hx))
    refine q_spots ok.nd (edl_cast (edl_lcRf (n := rs.length) (fun i => (labAt 0 (rs.take i)).map labD) (ev_is (ev_lenT (K := K) (ev_var rfl) (st_of hra2)) (by rw [lxs])) (by have := ok.few; omega) (fun _ => rfl) rfl (fun i hi => ?_) fun i H3 e3 hi => ?_) (by show (labAt 0 (rs.take rs.length)).map labD = _; rw [List.take_length])) fun sp H3 hsp0 e3 hsp => ?_
    · rw [List.length_map]
      have := labAt_len 0 (rs.take i)
      rw [List.length_take] at this
      omega
    · have e23 := e2.trans e3
      obtain ⟨x, r, pl, hx, hri, hT⟩ := rowAt e23 hi
      have hL : ∀ i, labAt 0 (rs.take (i + 1)) = labAt 0 (rs.take i) ++ match rs[i]? with | some r => (lab1 r).map (fun k => (k, i)) | none => [] := fun i => by
        rw [List.take_succ, labAt_app, List.length_take]
        cases hh : rs[i]? with
        | none => rfl
        | some r =>
          have hi := (List.getElem?_eq_some_iff.mp hh).1
          show labAt 0 (rs.take i) ++ labAt (0 + min i rs.length) [r] = _
          rw [Nat.zero_add, Nat.min_eq_left (Nat.le_of_lt hi)]
          show _ ++ ((lab1 r).map (fun k => (k, i)) ++ []) = _
          rw [List.append_nil]
      have hLi := hL i
      rw [hri] at hLi
      have tst : ∀ {b : Bool}, decide (rwW r = Str.ofString "label") = b → EvT (tTest (tOp rEq (tOp (rIxT K) (tOp (rIxT K) (tVar 3) (tVar 8)) (tC (.int 0))) (tC (.str (Str.ofString "label"))))) ((wipe [some v, some (.ref pa), some (.int most), some (.ref ra), some (.ref c), some (.ref k), some (.ref f), some (.int 0), y8, none, none, none, none] (List.map (fun x => x.snd) [(Str.ofString "_law_k", 8)])).set 8 (some (.int (i : Int)))) H3 b := fun hb => eqWT (c := rwW r) (ev_ixTs (K := K) (j := 0) (evRow e23 hx rfl (ev_var rfl)) hT ev_c rfl) ev_c rfl hb
      cases r with
      | label k2 =>
        refine .inl ⟨.tuple [.int k2, .int (i : Int)], tst (by show decide (Str.ofString "label" = Str.ofString "label") = true; decide +kernel), fun H4 e4 => ?_, ?_⟩
        · exact ed_tup (ead_cons (ed_int (ev_ixTi (K := K) (j := 1) (evRow (e23.trans e4) hx rfl (ev_var rfl)) (Td.tx (Tx.of e4) _ _ hT) ev_c rfl)) (ead_cons (ed_int (ev_var rfl)) ead_nil)) (by show 2 ≤ 100000; decide)
        · show (labAt 0 (rs.take (i + 1))).map labD = _
          rw [hLi, List.map_append] <;> rfl
      | op o _ _ _ => exact .inr ⟨tst (by show decide (opS o = Str.ofString "label") = false; cases o <;> decide +kernel), by show (labAt 0 (rs.take (i + 1))).map labD = _; rw [hLi]; exact congrArg _ (List.append_nil _)⟩
      | begin_ => exact .inr ⟨tst (by show decide (Str.ofString "begin" = Str.ofString "label") = false; decide +kernel), by show (labAt 0 (rs.take (i + 1))).map labD = _; rw [hLi]; exact congrArg _ (List.append_nil _)⟩
      | nothing => exact .inr ⟨tst (by show decide (Str.ofString "nothing" = Str.ofString "label") = false; decide +kernel), by show (labAt 0 (rs.take (i + 1))).map labD = _; rw [hLi]; exact congrArg _ (List.append_nil _)⟩
      | put _ _ => exact .inr ⟨tst (by show decide (Str.ofString "put" = Str.ofString "label") = false; decide +kernel), by show (labAt 0 (rs.take (i + 1))).map labD = _; rw [hLi]; exact congrArg _ (List.append_nil _)⟩
      | copy _ _ => exact .inr ⟨tst (by show decide (Str.ofString "copy" = Str.ofString "label") = false; decide +kernel), by show (labAt 0 (rs.take (i + 1))).map labD = _; rw [hLi]; exact congrArg _ (List.append_nil _)⟩
      | fetch _ _ _ => exact .inr ⟨tst (by show decide (Str.ofString "fetch" = Str.ofString "label") = false; decide +kernel), by show (labAt 0 (rs.take (i + 1))).map labD = _; rw [hLi]; exact congrArg _ (List.append_nil _)⟩
      | lay _ _ => exact .inr ⟨tst (by show decide (Str.ofString "lay" = Str.ofString "label") = false; decide +kernel), by show (labAt 0 (rs.take (i + 1))).map labD = _; rw [hLi]; exact congrArg _ (List.append_nil _)⟩
      | go _ => exact .inr ⟨tst (by show decide (Str.ofString "go" = Str.ofString "label") = false; decide +kernel), by show (labAt 0 (rs.take (i + 1))).map labD = _; rw [hLi]; exact congrArg _ (List.append_nil _)⟩
      | unless_ _ _ => exact .inr ⟨tst (by show decide (Str.ofString "unless" = Str.ofString "label") = false; decide +kernel), by show (labAt 0 (rs.take (i + 1))).map labD = _; rw [hLi]; exact congrArg _ (List.append_nil _)⟩
      | call _ _ _ _ => exact .inr ⟨tst (by show decide (Str.ofString "call" = Str.ofString "label") = false; decide +kernel), by show (labAt 0 (rs.take (i + 1))).map labD = _; rw [hLi]; exact congrArg _ (List.append_nil _)⟩
      | say _ _ => exact .inr ⟨tst (by show decide (Str.ofString "say" = Str.ofString "label") = false; decide +kernel), by show (labAt 0 (rs.take (i + 1))).map labD = _; rw [hLi]; exact congrArg _ (List.append_nil _)⟩
      | give _ => exact .inr ⟨tst (by show decide (Str.ofString "give" = Str.ofString "label") = false; decide +kernel), by show (labAt 0 (rs.take (i + 1))).map labD = _; rw [hLi]; exact congrArg _ (List.append_nil _)⟩
    -- the rows
    have hsp00 : H sp = none := fresh_back e2 hsp0
    have e03 := e2.trans e3
    have nspc : sp ≠ c := fun z => by rw [z, hc2] at hsp0; cases hsp0
    have nspk : sp ≠ k := fun z => by rw [z, hk2] at hsp0; cases hsp0
    have nspf : sp ≠ f := fun z => by rw [z, hf2] at hsp0; cases hsp0
    obtain ⟨N, hN⟩ : ∃ N : Addr → Prop, N = fun a => H a = none ∧ a ≠ c ∧ a ≠ k ∧ a ≠ f := ⟨_, rfl⟩
    have all0 : ∀ a ∈ [c, k, f], H a = none := fun a ha => by
      simp only [List.mem_cons, List.not_mem_nil, or_false] at ha
      rcases ha with rfl | rfl | rfl
      · exact hc0
      · exact hk0
      · exact hf0
    refine q_while (fun n σ' H' => ∃ (mo : Int) (i : Nat) (st : Sx) (fd : List Fd) (vs : List V) (y8 y10 y11 y12 : Option V), σ' = [some v, some (.ref pa), some (.int mo), some (.ref ra), some (.ref c), some (.ref k), some (.ref f), some (.int (i : Int)), y8, some (.ref sp), y10, y11, y12] ∧
      runM rs n mo i st fd = some res ∧ Ex H H' ∧ H' sp = some (.dK (intKv (labAt 0 rs) id)) ∧ H' c = some (.dK (cV st.c)) ∧ H' k = some (.dT (ksV st.k)) ∧ H' f = some (.lst vs) ∧ FdAll N H' vs fd ∧ Fine fd ∧ st.c.length + n ≤ 70000 ∧ st.k.length + n ≤ 70000 ∧ fd.length + n ≤ 70000)
      F ⟨most, 0, ⟨pcs ps ps.length, []⟩, [], [], _, _, _, _, rfl, hrun, e03, hsp, e3 _ _ hc2, e3 _ _ hk2, e3 _ _ hf2, .nil, (fun e he => by cases he), by show (pcs ps ps.length).length + F ≤ 70000; rw [pcs_len]; omega, by show 0 + F ≤ 70000; omega, by show 0 + F ≤ 70000; omega⟩ ?_
    rintro n σ' H4 ⟨mo, i, ⟨cs, ks⟩, fd, vs, y8, y10, y11, y12, rfl, hr4, e4, hsp4, hc4, hk4, hf4, hfd, hfine, lc, lk, lf⟩
    have lc' : cs.length + n ≤ 70000 := lc
    have lk' : ks.length + n ≤ 70000 := lk
    refine ⟨decide (0 ≤ mo), et_test (ev_op (ev_var rfl) ev_c rv_I0), fun hb H5 e5 => ?_, fun hb H5 e5 => ?_⟩
    rotate_left
    · -- tired
      have hm := of_decide_eq_false hb
      cases n with
      | zero => cases hr4
      | succ n =>
        unfold runM at hr4
        rw [if_pos (by omega)] at hr4
        have efd := Option.some.inj hr4
        subst efd
        refine s_ret (ev_var rfl) fun H6 e6 => q f H6 vs hf0 (e4.trans (e5.trans e6)) ((e5.trans e6) _ _ hf4) (hfd.ex (fun a ha => by rw [hN] at ha; exact ⟨ha.1, ha.2.2.2⟩) fun a o _ ho => (e5.trans e6) a o ho)
    have hm : 0 ≤ mo := of_decide_eq_true hb
    cases n with
    | zero => cases hr4
    | succ n =>
    cases hri : rs[i]? with
    | none =>
      unfold runM at hr4
      rw [if_neg (by omega), hri] at hr4
      cases hr4
    | some r =>
    have hi := (List.getElem?_eq_some_iff.mp hri).1
    -- what is carried on
    obtain ⟨NX, hNX⟩ : ∃ NX : L2.St → Hp → Prop, NX = fun σ' H' => ∃ (mo : Int) (i : Nat) (st : Sx) (fd : List Fd) (vs : List V) (y8 y10 y11 y12 : Option V), σ' = [some v, some (.ref pa), some (.int mo), some (.ref ra), some (.ref c), some (.ref k), some (.ref f), some (.int (i : Int)), y8, some (.ref sp), y10, y11, y12] ∧
      runM rs n mo i st fd = some res ∧ Ex H H' ∧ H' sp = some (.dK (intKv (labAt 0 rs) id)) ∧ H' c = some (.dK (cV st.c)) ∧ H' k = some (.dT (ksV st.k)) ∧ H' f = some (.lst vs) ∧ FdAll N H' vs fd ∧ Fine fd ∧ st.c.length + n ≤ 70000 ∧ st.k.length + n ≤ 70000 ∧ fd.length + n ≤ 70000 := ⟨_, rfl⟩
    refine ⟨NX, fun _ _ h => ⟨n, Nat.lt_succ_self n, by rw [hNX] at h; exact h⟩, ?_⟩
    have go_on : ∀ {D : Ends} {H' : Hp} {mo' : Int} {i' : Nat} {st' : Sx} {fd' : List Fd} {vs' : List V} {z8 z10 z12 : Option V}, D.nx = NX → stops r = false → runM rs n mo' i' st' fd' = some res → Ex H H' → H' sp = some (.dK (intKv (labAt 0 rs) id)) → H' c = some (.dK (cV st'.c)) → H' k = some (.dT (ksV st'.k)) → H' f = some (.lst vs') → FdAll N H' vs' fd' → Fine fd' → st'.c.length + n ≤ 70000 → st'.k.length + n ≤ 70000 → fd'.length + n ≤ 70000 →
        tIfS (tOr (tTest (tOp (rIn K false) (tVar 11) (tTup (tCons (tC (.str (Str.ofString "give"))) (tCons (tC (.str (Str.ofString "nothing"))) tNil))))) (tAnd (tTest (tOp (rNe0 K) (tVar 6) (tLst tNil))) (tTest (tOp (rInQ K) (tOp (rIxT K) (tOp (rIxL K) (tVar 6) (tUn (rU fun i => .int (-i)) (tC (.int 1)))) (tC (.int 2))) (tTup (tCons (tC (.str (Str.ofString "great"))) (tCons (tC (.str (Str.ofString "nought"))) tNil))))))) (tRet (tVar 6)) tNext D
          [some v, some (.ref pa), some (.int mo'), some (.ref ra), some (.ref c), some (.ref k), some (.ref f), some (.int (i' : Int)), z8, some (.ref sp), z10, some (.str (rwW r)), z12] H' := fun {D H' mo' i' st' fd' vs' z8 z10 z12} hD hst hrun' eH h1 h2 h3 h4 h5 h6 h7 h8 h9 => by
      refine s_when (b := stops r || lastBad fd') (et_over (N := N) (ev_var rfl) (inGN r) (ev_var rfl) h4 h5) (fun z => by rw [hst, h6.last] at z; cases z) fun _ H6 e6 => ?_
      rw [hD, hNX]
      exact ⟨mo', i', st', fd', vs', z8, z10, _, z12, rfl, hrun', eH.trans e6, e6 _ _ h1, e6 _ _ h2, e6 _ _ h3, e6 _ _ h4, h5.ex (fun _ z => z) fun a o _ ho => e6 a o ho, h6, h7, h8, h9⟩
    have go_over : ∀ {D : Ends} {H' : Hp} {fd' : List Fd} {vs' : List V} {z2 z7 z8 z10 z12 : Option V}, D.rt = Q → fd' = res → Ex H H' → H' f = some (.lst vs') → FdAll N H' vs' fd' → (stops r || lastBad fd') = true →
        tIfS (tOr (tTest (tOp (rIn K false) (tVar 11) (tTup (tCons (tC (.str (Str.ofString "give"))) (tCons (tC (.str (Str.ofString "nothing"))) tNil))))) (tAnd (tTest (tOp (rNe0 K) (tVar 6) (tLst tNil))) (tTest (tOp (rInQ K) (tOp (rIxT K) (tOp (rIxL K) (tVar 6) (tUn (rU fun i => .int (-i)) (tC (.int 1)))) (tC (.int 2))) (tTup (tCons (tC (.str (Str.ofString "great"))) (tCons (tC (.str (Str.ofString "nought"))) tNil))))))) (tRet (tVar 6)) tNext D
          [some v, some (.ref pa), z2, some (.ref ra), some (.ref c), some (.ref k), some (.ref f), z7, z8, some (.ref sp), z10, some (.str (rwW r)), z12] H' := fun {D H' fd' vs' z2 z7 z8 z10 z12} hD hres eH h4 h5 hov => by
      refine s_when (b := stops r || lastBad fd') (et_over (N := N) (ev_var rfl) (inGN r) (ev_var rfl) h4 h5) (fun _ H6 e6 => ?_) fun z => by rw [hov] at z; cases z
      refine s_ret (ev_var rfl) fun H7 e7 => ?_
      rw [hD]
      subst hres
      exact q f H7 vs' hf0 (eH.trans (e6.trans e7)) ((e6.trans e7) _ _ h4) (h5.ex (fun a ha => by rw [hN] at ha; exact ⟨ha.1, ha.2.2.2⟩) fun a o _ ho => (e6.trans e7) a o ho)
    -- new things are none of those that change
    have newN : ∀ {H'}, Ex H4 H' → ∀ b, H' b = none → N b := fun {H'} e b hb => by
      rw [hN]
      show H b = none ∧ b ≠ c ∧ b ≠ k ∧ b ≠ f
      exact ⟨fresh_back (e4.trans e) hb, fun z => (by rw [z, e _ _ hc4] at hb; cases hb), fun z => (by rw [z, e _ _ hk4] at hb; cases hb), fun z => (by rw [z, e _ _ hf4] at hb; cases hb)⟩
    obtain ⟨x, r2, pl, hx, hri2, hT5⟩ := rowAt (i := i) (e4.trans e5) hi
    rw [hri] at hri2
    cases hri2
    have hfew := ok.cs r (List.mem_of_getElem? hri)
    refine q_par (ea_cons (evRow (e4.trans e5) hx rfl (ev_var rfl)) (ea_cons (ev_op (ev_var rfl) ev_c rv_I0) ea_nil)) fun H6 e6 => ?_
    have hT6 := Td.tx (Tx.of e6) _ _ hT5
    refine q_par (ea_cons (ev_ixTs (K := K) (j := 0) (ev_var rfl) hT6 ev_c rfl) (ea_cons (ev_is (ev_op (ev_var rfl) (ev_int1 (eqWB (ev_ixTs (K := K) (j := 0) (ev_var rfl) hT6 ev_c rfl) ev_c)) rv_I0) (congrArg V.int (after_is r mo))) ea_nil)) fun H7 e7 => ?_
    have e47 := (e5.trans e6).trans e7
    have hT7 := Td.tx (Tx.of e7) _ _ hT6
    have hsp7 := e47 _ _ hsp4
    have hc7 := e47 _ _ hc4
    have hk7 := e47 _ _ hk4
    have hf7 := e47 _ _ hf4
    have hfd7 : FdAll N H7 vs fd := hfd.ex (fun _ z => z) fun a o _ ho => e47 a o ho
    have eH7 := e4.trans e47
    show tSeq _ _ _ ([some v, some (.ref pa), some (.int (after r mo)), some (.ref ra), some (.ref c), some (.ref k), some (.ref f), some (.int ((i : Int) + 1)), y8, some (.ref sp), some x, some (.str (rwW r)), y12] : L2.St) H7
    rw [show (i : Int) + 1 = ((i + 1 : Nat) : Int) by omega]
    have ei : ∀ {σ : L2.St} {H'}, σ[7]? = some (some (.int ((i + 1 : Nat) : Int))) → Ev (tOp (rI0 fun i j => .int (i - j)) (tVar 7) (tC (.int 1))) σ H' (.int (i : Int)) := fun h => ev_is (ev_op (ev_var h) ev_c rv_I0) (congrArg V.int (by omega))
    have inU : ∀ {a b : String} {σ : L2.St} {H'} {bb : Bool}, σ[11]? = some (some (.str (rwW r))) → inV (.str (rwW r)) [V.str (Str.ofString a), V.str (Str.ofString b)] = bb → EvT (tTest (tOp (rIn K false) (tVar 11) (tTup (tCons (tC (.str (Str.ofString a))) (tCons (tC (.str (Str.ofString b))) tNil))))) σ H' bb := fun h0 h => inWU (K := K) (c := rwW r) (ev_var h0) (eu_tup (ea_cons ev_c (ea_cons ev_c ea_nil)) (by show 2 ≤ 100000; decide)) rfl rfl h
    -- the snapshot at a row that begins, or at the end
    have snap : ∀ {D : Ends} {σ : L2.St} {H'}, Ex H7 H' → σ[6]? = some (some (.ref f)) → σ[11]? = some (some (.str (rwW r))) → σ[7]? = some (some (.int ((i + 1 : Nat) : Int))) → σ[4]? = some (some (.ref c)) →
        (∀ H8 vs', Ex H' H8 → FdAll N H8 vs' (fd ++ [⟨rwW r, i, .snap cs⟩]) → D.nx σ (upd H8 f (.lst vs'))) →
        tDrop (tBM K "list" rAppend (tVar 6) (tCons (tTup (tCons (tVar 11) (tCons (tOp (rI0 fun i j => .int (i - j)) (tVar 7) (tC (.int 1))) (tCons (tCB (fun xs H Q => ∃ (a : Addr) (kvs : List (Key × V)), xs = [.ref a] ∧ Rd H a (.dK kvs) ∧ ∀ p, H p = none → Q (.ref p) (upd H p (.dK kvs))) (tCons (tVar 4) tNil)) tNil)))) tNil)) D σ H' := fun {D σ H'} e h6 h11 h7 h4 q9 =>
      s_appSnap (N := N) (f := fd) (fun _ => ev_var h6) (e _ _ hf7) (ev_var h11) (fun _ => ei h7) (fun _ => ev_var h4) (e _ _ hc7) (newN (e47.trans e)) (hfd7.ex (fun _ z => z) fun a o _ ho => e a o ho) (by omega) fun H8 vs' e8 _ hfd8 => q9 H8 vs' e8 hfd8
    -- when only what is found is written
    have upF : ∀ {H8 : Hp} {vs' : List V} {fd' : List Fd}, Ex H7 H8 → FdAll N H8 vs' fd' → Ex H (upd H8 f (.lst vs')) ∧ (upd H8 f (.lst vs')) sp = some (.dK (intKv (labAt 0 rs) id)) ∧ (upd H8 f (.lst vs')) c = some (.dK (cV cs)) ∧ (upd H8 f (.lst vs')) k = some (.dT (ksV ks)) ∧ (upd H8 f (.lst vs')) f = some (.lst vs') ∧ FdAll N (upd H8 f (.lst vs')) vs' fd' := fun {H8 vs' fd'} e h => by
      refine ⟨Ex.mut (eH7.trans e) hf0, by rw [upd_ne nspf]; exact e _ _ hsp7, by rw [upd_ne ncf]; exact e _ _ hc7, by rw [upd_ne nkf]; exact e _ _ hk7, upd_same, h.ex (fun _ z => z) fun a o ha ho => ?_⟩
      rw [hN] at ha
      rw [upd_ne ha.2.2.2]
      exact ho
    have runOn : ∀ {s' t}, eff ⟨cs, ks⟩ r = some (.on s' t) → runM rs n (after r mo) (i + 1) s' (fd ++ tell (rwW r) i t) = some res := fun he => by rw [runM_on hm hri he] at hr4; exact hr4
    have runStop : ∀ {t}, eff ⟨cs, ks⟩ r = some (.stop t) → fd ++ [⟨rwW r, i, t⟩] = res := fun he => by rw [runM_stop hm hri he] at hr4; exact Option.some.inj hr4
    have noE : eff ⟨cs, ks⟩ r = none → False := fun he => by
      unfold runM at hr4
      rw [if_neg (by omega), hri] at hr4
      have h2 : (match eff ⟨cs, ks⟩ r with | none => none | some (.on s' t) => runM rs n (after r mo) (i + 1) s' (fd ++ tell (rwW r) i t) | some (.to k) => (match (labAt 0 rs).lookup k with | some j => runM rs n mo j ⟨cs, ks⟩ fd | none => none) | some (.stop t) => some (fd ++ [(⟨rwW r, i, t⟩ : Fd)])) = some res := hr4
      rw [he] at h2
      cases h2
    have st_on : ∀ {s' t}, eff ⟨cs, ks⟩ r = some (.on s' t) → stops r = false := fun he => (inGN r).symm.trans (eff_on he).1
    by_cases ht : tells r = true
    · -- a row that tells
      have hcl : cls r = 4 := by cases r <;> first | rfl | cases ht
      refine q_if (b := false) (inU rfl ((inBN r).trans (by rw [hcl] <;> rfl))) (fun z => by cases z) (fun _ H8 e8 => ?_)
      refine s_ifQ (b := false) (inU rfl ((inGU r).trans (by rw [hcl] <;> rfl))) (fun z => by cases z) (fun _ H9 e9 => ?_)
      refine s_ifQ (b := false) (inU rfl ((inPC r).trans (by rw [hcl] <;> rfl))) (fun z => by cases z) (fun _ H10 e10 => ?_)
      refine s_when (b := true) (neWT (ev_var rfl) ev_c ((isLbl r).trans (by rw [hcl] <;> rfl))) (fun _ H11 e11 => ?_) (fun z => by cases z)
      have e711 := ((e8.trans e9).trans e10).trans e11
      cases he : eff ⟨cs, ks⟩ r with
      | none => exact (noE he).elim
      | some out =>
        refine q_asgCall (ea_cons (ev_var rfl) (ea_cons (ev_var rfl) (ea_cons (ev_var rfl) ea_nil))) fun H12 e12 => ⟨x, c, k, ⟨cs, ks⟩, r, pl, out, rfl, Td.tx (Tx.of (e711.trans e12)) _ _ hT7, (e711.trans e12) _ _ hc7, (e711.trans e12) _ _ hk7, by show cs.length ≤ 90000; omega, by show ks.length ≤ 90000; omega, ht, hfew, he, fun s' t w' H13 hcm kp hc13 hk13 htold => ?_⟩
        have e712 := e711.trans e12
        have eH13 : Ex H H13 := Kp.ex0 (eH7.trans e712) kp (by
          intro a ha
          simp only [List.mem_cons, List.not_mem_nil, or_false] at ha
          rcases ha with rfl | rfl
          · exact hc0
          · exact hk0)
        have nin : ∀ a, a ≠ c → a ≠ k → a ∉ [c, k] := fun a h1 h2 z => by
          simp only [List.mem_cons, List.not_mem_nil, or_false] at z
          rcases z with z | z
          · exact h1 z
          · exact h2 z
        have hsp13 : H13 sp = some (.dK (intKv (labAt 0 rs) id)) := kp.keep _ _ (nin sp nspc nspk) (e712 _ _ hsp7)
        have hf13 : H13 f = some (.lst vs) := kp.keep _ _ (nin f ncf.symm nkf.symm) (e712 _ _ hf7)
        have hfd13 : FdAll N H13 vs fd := hfd7.ex (fun _ z => z) fun a o ha ho => kp.keep _ _ (by rw [hN] at ha; exact nin a ha.2.1 ha.2.2.1) (e712 a o ho)
        have htold2 := htold.ex (N' := N) (newN (e47.trans e712)) fun a o _ ho => ho
        cases t with
        | none =>
          obtain ⟨p, rfl, _, hp⟩ := htold2
          rcases hcm with hcm | ⟨_, _, hcm, _⟩
          · subst hcm
            have hl := eff_len he
            have hrun' := runOn he
            rw [show fd ++ tell (rwW r) i none = fd from List.append_nil fd] at hrun'
            refine s_when (b := false) (ev_ne0T (ev_var rfl) hp) (fun z => by cases z) (fun _ H14 e14 => ?_)
            exact go_on rfl (st_on he) hrun' (eH13.trans e14) (e14 _ _ hsp13) (e14 _ _ hc13) (e14 _ _ hk13) (e14 _ _ hf13) (hfd13.ex (fun _ z => z) fun a o _ ho => e14 a o ho) hfine (by have := hl.1; simp only at this; omega) (by have := hl.2; simp only at this; omega) (by omega)
          · cases hcm
        | some rest =>
          obtain ⟨p, ys, rfl, _, hp, hrest⟩ := htold2
          have hne := hrest.ne
          have hys : ys.length ≤ 100 := by
            cases rest with
            | snap c' => obtain ⟨d, hd, _⟩ := hrest; rw [hd]; show 1 ≤ 100; decide
            | call f' n' ws => obtain ⟨l, hd, _⟩ := hrest; rw [hd]; show 3 ≤ 100; decide
            | flat us =>
              obtain ⟨hd, _, _⟩ := hrest
              rw [hd]
              rcases hcm with hcm | ⟨_, _, hcm1, hcm⟩
              · subst hcm
                exact told_len (s' := s') (.inl he)
              · cases hcm1
                subst hcm
                exact told_len (s' := s') (.inr he)
          refine s_when (b := true) (et_is (ev_ne0T (ev_var rfl) hp) (by cases ys <;> first | rfl | exact absurd rfl hne)) (fun _ H14 e14 => ?_) (fun z => by cases z)
          refine s_appTold (N := N) (f := fd) (n := i) (fun _ => ev_var rfl) (e14 _ _ hf13) (ev_var rfl) (fun _ => ei rfl) (fun _ => ev_var rfl) (e14 _ _ hp) (hrest.ex (fun _ z => z) fun a o _ ho => e14 a o ho) ?_ (hfd13.ex (fun _ z => z) fun a o _ ho => e14 a o ho) (by omega) hne hys fun H15 vs' e15 hfd15 => ?_
          · intro b hb
            exact newN (e47.trans e712) b (kp.there b (fresh_back e14 hb))
          have e1315 := e14.trans e15
          have hN6 : FdAll N (upd H15 f (.lst vs')) vs' (fd ++ [⟨rwW r, i, rest⟩]) := hfd15.ex (fun _ z => z) fun a o ha ho => by
            rw [hN] at ha
            rw [upd_ne ha.2.2.2]
            exact ho
          rcases hcm with hcm | ⟨hs, _, hcm1, hcm⟩
          · subst hcm
            have hl := eff_len he
            exact go_on rfl (st_on he) (runOn he) (Ex.mut (eH13.trans e1315) hf0) (by rw [upd_ne nspf]; exact e1315 _ _ hsp13) (by rw [upd_ne ncf]; exact e1315 _ _ hc13) (by rw [upd_ne nkf]; exact e1315 _ _ hk13) upd_same hN6 (hfine.snoc ((eff_on he).2 rest rfl)) (by have := hl.1; simp only at this; omega) (by have := hl.2; simp only at this; omega) (by rw [List.length_append]; show fd.length + 1 + n ≤ 70000; omega)
          · cases hcm1
            subst hcm
            exact go_over rfl (runStop he) (Ex.mut (eH13.trans e1315) hf0) upd_same hN6 (by rw [lastBad_snoc, ← inGN]; exact eff_over he)
    · cases r with
      | begin_ =>
        refine q_if (b := true) (inU rfl (inBN .begin_)) (fun _ H8 e8 => ?_) (fun z => by cases z)
        refine snap e8 rfl rfl rfl rfl fun H9 vs' e9 hfd9 => ?_
        obtain ⟨u1, u2, u3, u4, u5, u6⟩ := upF (e8.trans e9) hfd9
        exact go_on rfl rfl (runOn rfl) u1 u2 u3 u4 u5 u6 (hfine.snoc rfl) (by show cs.length + n ≤ 70000; omega) (by show ks.length + n ≤ 70000; omega) (by rw [List.length_append]; show fd.length + 1 + n ≤ 70000; omega)
      | nothing =>
        refine q_if (b := true) (inU rfl (inBN .nothing)) (fun _ H8 e8 => ?_) (fun z => by cases z)
        refine snap e8 rfl rfl rfl rfl fun H9 vs' e9 hfd9 => ?_
        obtain ⟨u1, u2, u3, u4, u5, u6⟩ := upF (e8.trans e9) hfd9
        exact go_over rfl (runStop rfl) u1 u5 u6 rfl
      | go kk =>
        have hkl := ok.js kk (jumps_mem hri rfl)
        rw [← labAt_fst 0 rs] at hkl
        obtain ⟨j, hj, _⟩ := lookup_mem hkl
        rw [runM_to hm hri rfl hj] at hr4
        refine q_if (b := false) (inU rfl (inBN (.go kk))) (fun z => by cases z) (fun _ H8 e8 => ?_)
        refine s_ifQ (b := true) (inU rfl (inGU (.go kk))) (fun _ H9 e9 => ?_) (fun z => by cases z)
        have e79 := e8.trans e9
        refine s_asg (v := .int (j : Int)) (ev_if (b := true) (eqWT (c := Str.ofString "go") (ev_var rfl) ev_c rfl (by decide +kernel)) (fun _ => ev_dgetI (k := kk) (ev_var rfl) (ev_ixTi (K := K) (j := 1) (ev_var rfl) (Td.tx (Tx.of e79) _ _ hT7) ev_c rfl) (e79 _ _ hsp7) (by rw [intKv_val, hj] <;> rfl)) (fun z => by cases z)) fun H10 e10 => ?_
        have e710 := e79.trans e10
        exact go_on rfl rfl hr4 (eH7.trans e710) (e710 _ _ hsp7) (e710 _ _ hc7) (e710 _ _ hk7) (e710 _ _ hf7) (hfd7.ex (fun _ z => z) fun a o _ ho => e710 a o ho) hfine (by show cs.length + n ≤ 70000; omega) (by show ks.length + n ≤ 70000; omega) (by omega)
      | unless_ cc kk =>
        have hkl := ok.js kk (jumps_mem hri rfl)
        rw [← labAt_fst 0 rs] at hkl
        obtain ⟨j, hj, _⟩ := lookup_mem hkl
        cases hv9 : val cs cc with
        | none => exact (noE (by show (val cs cc).map _ = _; rw [hv9] <;> rfl)).elim
        | some y =>
          have he := eff_unless (s := ⟨cs, ks⟩) (k := kk) hv9
          refine q_if (b := false) (inU rfl (inBN (.unless_ cc kk))) (fun z => by cases z) (fun _ H8 e8 => ?_)
          refine s_ifQ (b := true) (inU rfl (inGU (.unless_ cc kk))) (fun _ H9 e9 => ?_) (fun z => by cases z)
          have e79 := e8.trans e9
          have tst : EvT (tTest (tOp rEq (tDGet (tVar 4) (tOp (rIxT K) (tVar 10) (tC (.int 1)))) (tC (.int 0)))) [some v, some (.ref pa), some (.int (after (.unless_ cc kk) mo)), some (.ref ra), some (.ref c), some (.ref k), some (.ref f), some (.int ((i + 1 : Nat) : Int)), y8, some (.ref sp), some x, some (.str (rwW (.unless_ cc kk))), y12] H9 (decide (y = 0)) := et_test (ev_is (ev_op (ev_cell (ev_var rfl) (ev_ixTi (K := K) (j := 1) (ev_var rfl) (Td.tx (Tx.of e79) _ _ hT7) ev_c rfl) (e79 _ _ hc7) hv9) ev_c (rv_eq rfl)) (congrArg V.bl (by
            by_cases e : y = 0
            · rw [decide_eq_true e, decide_eq_true (congrArg V.int e)]
            · rw [decide_eq_false e, decide_eq_false (fun z => e (V.int.inj z))])))
          by_cases hy : y = 0
          · rw [if_pos hy] at he
            rw [runM_to hm hri he hj] at hr4
            refine s_asg (v := .int (j : Int)) (ev_if (b := false) (eqWT (c := Str.ofString "unless") (ev_var rfl) ev_c rfl (by decide +kernel)) (fun z => by cases z) (fun _ => ev_if tst (fun _ => ev_dgetI (k := kk) (ev_var rfl) (ev_ixTi (K := K) (j := 2) (ev_var rfl) (Td.tx (Tx.of e79) _ _ hT7) ev_c rfl) (e79 _ _ hsp7) (by rw [intKv_val, hj] <;> rfl)) (fun z => absurd hy (of_decide_eq_false z)))) fun H10 e10 => ?_
            have e710 := e79.trans e10
            exact go_on rfl rfl hr4 (eH7.trans e710) (e710 _ _ hsp7) (e710 _ _ hc7) (e710 _ _ hk7) (e710 _ _ hf7) (hfd7.ex (fun _ z => z) fun a o _ ho => e710 a o ho) hfine (by show cs.length + n ≤ 70000; omega) (by show ks.length + n ≤ 70000; omega) (by omega)
          · rw [if_neg hy] at he
            have hrun' := runOn he
            rw [show fd ++ tell (rwW (.unless_ cc kk)) i none = fd from List.append_nil fd] at hrun'
            refine s_asg (v := .int ((i + 1 : Nat) : Int)) (ev_if (b := false) (eqWT (c := Str.ofString "unless") (ev_var rfl) ev_c rfl (by decide +kernel)) (fun z => by cases z) (fun _ => ev_if tst (fun z => absurd (of_decide_eq_true z) hy) (fun _ => ev_var rfl))) fun H10 e10 => ?_
            have e710 := e79.trans e10
            exact go_on rfl rfl hrun' (eH7.trans e710) (e710 _ _ hsp7) (e710 _ _ hc7) (e710 _ _ hk7) (e710 _ _ hf7) (hfd7.ex (fun _ z => z) fun a o _ ho => e710 a o ho) hfine (by show cs.length + n ≤ 70000; omega) (by show ks.length + n ≤ 70000; omega) (by omega)
      | put cc y =>
        have hrun' := runOn (s' := ⟨aput cs cc y, ks⟩) (t := none) rfl
        rw [show fd ++ tell (rwW (.put cc y)) i none = fd from List.append_nil fd] at hrun'
        refine q_if (b := false) (inU rfl (inBN (.put cc y))) (fun z => by cases z) (fun _ H8 e8 => ?_)
        refine s_ifQ (b := false) (inU rfl (inGU (.put cc y))) (fun z => by cases z) (fun _ H9 e9 => ?_)
        refine s_ifQ (b := true) (inU rfl (inPC (.put cc y))) (fun _ H10 e10 => ?_) (fun z => by cases z)
        have e710 := (e8.trans e9).trans e10
        refine s_dputC (k := cc) (v := y) (ev_if (b := true) (eqWT (c := Str.ofString "put") (ev_var rfl) ev_c rfl (by decide +kernel)) (fun _ => ev_ixTi (K := K) (j := 2) (ev_var rfl) (Td.tx (Tx.of e710) _ _ hT7) ev_c rfl) (fun z => by cases z)) (fun _ => ev_var rfl) (fun H' e' => ev_ixTi (K := K) (j := 1) (ev_var rfl) (Td.tx (Tx.of (e710.trans e')) _ _ hT7) ev_c rfl) (e710 _ _ hc7) (by omega) fun H11 e11 => ?_
        have e711 := e710.trans e11
        have lp := aput_len cs cc y
        exact go_on rfl rfl hrun' (Ex.mut (eH7.trans e711) hc0) (by rw [upd_ne nspc]; exact e711 _ _ hsp7) upd_same (by rw [upd_ne nck.symm]; exact e711 _ _ hk7) (by rw [upd_ne ncf.symm]; exact e711 _ _ hf7) (hfd7.ex (fun _ z => z) fun a o ha ho => by rw [hN] at ha; rw [upd_ne ha.2.1]; exact e711 a o ho) hfine (by show (aput cs cc y).length + n ≤ 70000; omega) (by show ks.length + n ≤ 70000; omega) (by omega)
      | copy cc dd =>
        cases hv9 : val cs dd with
        | none => exact (noE (by show (val cs dd).map _ = _; rw [hv9] <;> rfl)).elim
        | some y =>
          have hrun' := runOn (eff_copy (s := ⟨cs, ks⟩) (c := cc) hv9)
          rw [show fd ++ tell (rwW (.copy cc dd)) i none = fd from List.append_nil fd] at hrun'
          refine q_if (b := false) (inU rfl (inBN (.copy cc dd))) (fun z => by cases z) (fun _ H8 e8 => ?_)
          refine s_ifQ (b := false) (inU rfl (inGU (.copy cc dd))) (fun z => by cases z) (fun _ H9 e9 => ?_)
          refine s_ifQ (b := true) (inU rfl (inPC (.copy cc dd))) (fun _ H10 e10 => ?_) (fun z => by cases z)
          have e710 := (e8.trans e9).trans e10
          refine s_dputC (k := cc) (v := y) (ev_if (b := false) (eqWT (c := Str.ofString "copy") (ev_var rfl) ev_c rfl (by decide +kernel)) (fun z => by cases z) (fun _ => ev_cell (ev_var rfl) (ev_ixTi (K := K) (j := 2) (ev_var rfl) (Td.tx (Tx.of e710) _ _ hT7) ev_c rfl) (e710 _ _ hc7) hv9)) (fun _ => ev_var rfl) (fun H' e' => ev_ixTi (K := K) (j := 1) (ev_var rfl) (Td.tx (Tx.of (e710.trans e')) _ _ hT7) ev_c rfl) (e710 _ _ hc7) (by omega) fun H11 e11 => ?_
          have e711 := e710.trans e11
          have lp := aput_len cs cc y
          exact go_on rfl rfl hrun' (Ex.mut (eH7.trans e711) hc0) (by rw [upd_ne nspc]; exact e711 _ _ hsp7) upd_same (by rw [upd_ne nck.symm]; exact e711 _ _ hk7) (by rw [upd_ne ncf.symm]; exact e711 _ _ hf7) (hfd7.ex (fun _ z => z) fun a o ha ho => by rw [hN] at ha; rw [upd_ne ha.2.1]; exact e711 a o ho) hfine (by show (aput cs cc y).length + n ≤ 70000; omega) (by show ks.length + n ≤ 70000; omega) (by omega)
      | label kk =>
        have hrun' := runOn (s' := ⟨cs, ks⟩) (t := none) rfl
        rw [show fd ++ tell (rwW (.label kk)) i none = fd from List.append_nil fd] at hrun'
        refine q_if (b := false) (inU rfl (inBN (.label kk))) (fun z => by cases z) (fun _ H8 e8 => ?_)
        refine s_ifQ (b := false) (inU rfl (inGU (.label kk))) (fun z => by cases z) (fun _ H9 e9 => ?_)
        refine s_ifQ (b := false) (inU rfl (inPC (.label kk))) (fun z => by cases z) (fun _ H10 e10 => ?_)
        refine s_when (b := false) (neWT (ev_var rfl) ev_c (isLbl (.label kk))) (fun z => by cases z) (fun _ H11 e11 => ?_)
        have e711 := ((e8.trans e9).trans e10).trans e11
        exact go_on rfl rfl hrun' (eH7.trans e711) (e711 _ _ hsp7) (e711 _ _ hc7) (e711 _ _ hk7) (e711 _ _ hf7) (hfd7.ex (fun _ z => z) fun a o _ ho => e711 a o ho) hfine (by show cs.length + n ≤ 70000; omega) (by show ks.length + n ≤ 70000; omega) (by omega)
      | _ => exact absurd rfl ht
end
end Wt

set_option Elab.async false
set_option linter.all false
set_option maxRecDepth 100000
set_option maxHeartbeats 4000000
namespace Wt
open PySem PySem.Spec PyProof.Rows L2 SX Evl
/-! What machine rows do, told once more; readings of the machine's loop. -/
def clsX : Mr → Nat
  | .row => 0
  | .nothing => 0
  | .jump _ => 1
  | .unless_ _ => 1
  | .push _ => 2
  | .load _ => 2
  | .store _ => 3
  | _ => 4
def stopsX : Mr → Bool
  | .nothing => true
  | .give _ => true
  | _ => false
theorem inRN (m : Mr) : inV (.str (mrW m)) [V.str (Str.ofString "row"), V.str (Str.ofString "nothing")] = decide (clsX m = 0) := by
  cases m with
  | row => (show inV (V.str (Str.ofString "row")) [V.str (Str.ofString "row"), V.str (Str.ofString "nothing")] = true; decide +kernel)
  | nothing => (show inV (V.str (Str.ofString "nothing")) [V.str (Str.ofString "row"), V.str (Str.ofString "nothing")] = true; decide +kernel)
  | jump _ => (show inV (V.str (Str.ofString "jump")) [V.str (Str.ofString "row"), V.str (Str.ofString "nothing")] = false; decide +kernel)
  | unless_ _ => (show inV (V.str (Str.ofString "unless")) [V.str (Str.ofString "row"), V.str (Str.ofString "nothing")] = false; decide +kernel)
  | push _ => (show inV (V.str (Str.ofString "push")) [V.str (Str.ofString "row"), V.str (Str.ofString "nothing")] = false; decide +kernel)
  | load _ => (show inV (V.str (Str.ofString "load")) [V.str (Str.ofString "row"), V.str (Str.ofString "nothing")] = false; decide +kernel)
  | store _ => (show inV (V.str (Str.ofString "store")) [V.str (Str.ofString "row"), V.str (Str.ofString "nothing")] = false; decide +kernel)
  | fetch _ _ => (show inV (V.str (Str.ofString "fetch")) [V.str (Str.ofString "row"), V.str (Str.ofString "nothing")] = false; decide +kernel)
  | lay _ => (show inV (V.str (Str.ofString "lay")) [V.str (Str.ofString "row"), V.str (Str.ofString "nothing")] = false; decide +kernel)
  | call _ _ _ => (show inV (V.str (Str.ofString "call")) [V.str (Str.ofString "row"), V.str (Str.ofString "nothing")] = false; decide +kernel)
  | give _ => (show inV (V.str (Str.ofString "give")) [V.str (Str.ofString "row"), V.str (Str.ofString "nothing")] = false; decide +kernel)
  | say _ => (show inV (V.str (Str.ofString "say")) [V.str (Str.ofString "row"), V.str (Str.ofString "nothing")] = false; decide +kernel)
  | op o => (show inV (V.str (opS o)) [V.str (Str.ofString "row"), V.str (Str.ofString "nothing")] = false; cases o <;> decide +kernel)
theorem inJU (m : Mr) : inV (.str (mrW m)) [V.str (Str.ofString "jump"), V.str (Str.ofString "unless")] = decide (clsX m = 1) := by
  cases m with
  | row => (show inV (V.str (Str.ofString "row")) [V.str (Str.ofString "jump"), V.str (Str.ofString "unless")] = false; decide +kernel)
  | nothing => (show inV (V.str (Str.ofString "nothing")) [V.str (Str.ofString "jump"), V.str (Str.ofString "unless")] = false; decide +kernel)
  | jump _ => (show inV (V.str (Str.ofString "jump")) [V.str (Str.ofString "jump"), V.str (Str.ofString "unless")] = true; decide +kernel)
  | unless_ _ => (show inV (V.str (Str.ofString "unless")) [V.str (Str.ofString "jump"), V.str (Str.ofString "unless")] = true; decide +kernel)
  | push _ => (show inV (V.str (Str.ofString "push")) [V.str (Str.ofString "jump"), V.str (Str.ofString "unless")] = false; decide +kernel)
  | load _ => (show inV (V.str (Str.ofString "load")) [V.str (Str.ofString "jump"), V.str (Str.ofString "unless")] = false; decide +kernel)
  | store _ => (show inV (V.str (Str.ofString "store")) [V.str (Str.ofString "jump"), V.str (Str.ofString "unless")] = false; decide +kernel)
  | fetch _ _ => (show inV (V.str (Str.ofString "fetch")) [V.str (Str.ofString "jump"), V.str (Str.ofString "unless")] = false; decide +kernel)
  | lay _ => (show inV (V.str (Str.ofString "lay")) [V.str (Str.ofString "jump"), V.str (Str.ofString "unless")] = false; decide +kernel)
  | call _ _ _ => (show inV (V.str (Str.ofString "call")) [V.str (Str.ofString "jump"), V.str (Str.ofString "unless")] = false; decide +kernel)
  | give _ => (show inV (V.str (Str.ofString "give")) [V.str (Str.ofString "jump"), V.str (Str.ofString "unless")] = false; decide +kernel)
  | say _ => (show inV (V.str (Str.ofString "say")) [V.str (Str.ofString "jump"), V.str (Str.ofString "unless")] = false; decide +kernel)
  | op o => (show inV (V.str (opS o)) [V.str (Str.ofString "jump"), V.str (Str.ofString "unless")] = false; cases o <;> decide +kernel)
theorem inPL (m : Mr) : inV (.str (mrW m)) [V.str (Str.ofString "push"), V.str (Str.ofString "load")] = decide (clsX m = 2) := by
  cases m with
  | row => (show inV (V.str (Str.ofString "row")) [V.str (Str.ofString "push"), V.str (Str.ofString "load")] = false; decide +kernel)
  | nothing => (show inV (V.str (Str.ofString "nothing")) [V.str (Str.ofString "push"), V.str (Str.ofString "load")] = false; decide +kernel)
  | jump _ => (show inV (V.str (Str.ofString "jump")) [V.str (Str.ofString "push"), V.str (Str.ofString "load")] = false; decide +kernel)
  | unless_ _ => (show inV (V.str (Str.ofString "unless")) [V.str (Str.ofString "push"), V.str (Str.ofString "load")] = false; decide +kernel)
  | push _ => (show inV (V.str (Str.ofString "push")) [V.str (Str.ofString "push"), V.str (Str.ofString "load")] = true; decide +kernel)
  | load _ => (show inV (V.str (Str.ofString "load")) [V.str (Str.ofString "push"), V.str (Str.ofString "load")] = true; decide +kernel)
  | store _ => (show inV (V.str (Str.ofString "store")) [V.str (Str.ofString "push"), V.str (Str.ofString "load")] = false; decide +kernel)
  | fetch _ _ => (show inV (V.str (Str.ofString "fetch")) [V.str (Str.ofString "push"), V.str (Str.ofString "load")] = false; decide +kernel)
  | lay _ => (show inV (V.str (Str.ofString "lay")) [V.str (Str.ofString "push"), V.str (Str.ofString "load")] = false; decide +kernel)
  | call _ _ _ => (show inV (V.str (Str.ofString "call")) [V.str (Str.ofString "push"), V.str (Str.ofString "load")] = false; decide +kernel)
  | give _ => (show inV (V.str (Str.ofString "give")) [V.str (Str.ofString "push"), V.str (Str.ofString "load")] = false; decide +kernel)
  | say _ => (show inV (V.str (Str.ofString "say")) [V.str (Str.ofString "push"), V.str (Str.ofString "load")] = false; decide +kernel)
  | op o => (show inV (V.str (opS o)) [V.str (Str.ofString "push"), V.str (Str.ofString "load")] = false; cases o <;> decide +kernel)
theorem inGNX (m : Mr) : inV (.str (mrW m)) [V.str (Str.ofString "give"), V.str (Str.ofString "nothing")] = stopsX m := by
  cases m with
  | row => (show inV (V.str (Str.ofString "row")) [V.str (Str.ofString "give"), V.str (Str.ofString "nothing")] = false; decide +kernel)
  | nothing => (show inV (V.str (Str.ofString "nothing")) [V.str (Str.ofString "give"), V.str (Str.ofString "nothing")] = true; decide +kernel)
  | jump _ => (show inV (V.str (Str.ofString "jump")) [V.str (Str.ofString "give"), V.str (Str.ofString "nothing")] = false; decide +kernel)
  | unless_ _ => (show inV (V.str (Str.ofString "unless")) [V.str (Str.ofString "give"), V.str (Str.ofString "nothing")] = false; decide +kernel)
  | push _ => (show inV (V.str (Str.ofString "push")) [V.str (Str.ofString "give"), V.str (Str.ofString "nothing")] = false; decide +kernel)
  | load _ => (show inV (V.str (Str.ofString "load")) [V.str (Str.ofString "give"), V.str (Str.ofString "nothing")] = false; decide +kernel)
  | store _ => (show inV (V.str (Str.ofString "store")) [V.str (Str.ofString "give"), V.str (Str.ofString "nothing")] = false; decide +kernel)
  | fetch _ _ => (show inV (V.str (Str.ofString "fetch")) [V.str (Str.ofString "give"), V.str (Str.ofString "nothing")] = false; decide +kernel)
  | lay _ => (show inV (V.str (Str.ofString "lay")) [V.str (Str.ofString "give"), V.str (Str.ofString "nothing")] = false; decide +kernel)
  | call _ _ _ => (show inV (V.str (Str.ofString "call")) [V.str (Str.ofString "give"), V.str (Str.ofString "nothing")] = false; decide +kernel)
  | give _ => (show inV (V.str (Str.ofString "give")) [V.str (Str.ofString "give"), V.str (Str.ofString "nothing")] = true; decide +kernel)
  | say _ => (show inV (V.str (Str.ofString "say")) [V.str (Str.ofString "give"), V.str (Str.ofString "nothing")] = false; decide +kernel)
  | op o => (show inV (V.str (opS o)) [V.str (Str.ofString "give"), V.str (Str.ofString "nothing")] = false; cases o <;> decide +kernel)
theorem isSto (m : Mr) : decide (mrW m = Str.ofString "store") = decide (clsX m = 3) := by
  cases m with
  | row => (show decide (Str.ofString "row" = Str.ofString "store") = false; decide +kernel)
  | nothing => (show decide (Str.ofString "nothing" = Str.ofString "store") = false; decide +kernel)
  | jump _ => (show decide (Str.ofString "jump" = Str.ofString "store") = false; decide +kernel)
  | unless_ _ => (show decide (Str.ofString "unless" = Str.ofString "store") = false; decide +kernel)
  | push _ => (show decide (Str.ofString "push" = Str.ofString "store") = false; decide +kernel)
  | load _ => (show decide (Str.ofString "load" = Str.ofString "store") = false; decide +kernel)
  | store _ => (show decide (Str.ofString "store" = Str.ofString "store") = true; decide +kernel)
  | fetch _ _ => (show decide (Str.ofString "fetch" = Str.ofString "store") = false; decide +kernel)
  | lay _ => (show decide (Str.ofString "lay" = Str.ofString "store") = false; decide +kernel)
  | call _ _ _ => (show decide (Str.ofString "call" = Str.ofString "store") = false; decide +kernel)
  | give _ => (show decide (Str.ofString "give" = Str.ofString "store") = false; decide +kernel)
  | say _ => (show decide (Str.ofString "say" = Str.ofString "store") = false; decide +kernel)
  | op o => (show decide (opS o = Str.ofString "store") = false; cases o <;> decide +kernel)
theorem pop_none {p : List Int} {α : Type} {g : List Int × Int → α} {y : α} (h : (pop p).map g = some y) : ∃ q x, pop p = some (q, x) ∧ g (q, x) = y := by
  cases e : pop p with
  | none => rw [e] at h; cases h
  | some qx => rw [e] at h; exact ⟨qx.1, qx.2, rfl, Option.some.inj h⟩
theorem opX_out {rs : List Rw} {s : Sx} {p : List Int} {o : Op} {i : Nat} {out : XOut} (h : effX rs s p (.op o, i) = some out) : ∃ q x y, p = q ++ [x] ++ [y] ∧ inB x = true ∧ inB y = true ∧ out = xOp s q (reckon o x y) := by
  have h0 : (match pop p with | some (q, y) => (match pop q with | some (q2, x) => if inB x = true ∧ inB y = true then some (xOp s q2 (reckon o x y)) else none | none => none) | none => none) = some out := h
  cases hp : pop p with
  | none => rw [hp] at h0; cases h0
  | some qy =>
    obtain ⟨p1, y⟩ := qy
    rw [hp] at h0
    have h1 : (match pop p1 with | some (q2, x) => if inB x = true ∧ inB y = true then some (xOp s q2 (reckon o x y)) else none | none => none) = some out := h0
    cases hp1 : pop p1 with
    | none => rw [hp1] at h1; cases h1
    | some qx =>
      obtain ⟨p0, x⟩ := qx
      rw [hp1] at h1
      have h2 : (if inB x = true ∧ inB y = true then some (xOp s p0 (reckon o x y)) else none) = some out := h1
      by_cases hin : inB x = true ∧ inB y = true
      · rw [if_pos hin] at h2
        exact ⟨p0, x, y, by rw [pop_out hp, pop_out hp1], hin.1, hin.2, (Option.some.inj h2).symm⟩
      · rw [if_neg hin] at h2
        cases h2
/-- what a row that tells does, beside: no fault where it goes on; a fault or an end where it stops; nothing grows by more than one; short -/
structure XOn (s s' : Sx) (p p' : List Int) (m : Mr) (t : Option Rest) : Prop where
  st : stopsX m = false
  bad : ∀ x, t = some x → bad0 x = false
  c : s'.c.length ≤ s.c.length + 1
  k : s'.k.length ≤ s.k.length + 1
  p : p'.length ≤ p.length + 1
  len : ∀ us, t = some (.flat us) → us.length ≤ 100
theorem effX_on {rs : List Rw} {s s' : Sx} {p p' : List Int} {m : Mr × Nat} {t : Option Rest} (h : effX rs s p m = some (.on s' p' t)) : XOn s s' p p' m.1 t := by
  obtain ⟨m, i⟩ := m
  cases m with
  | row =>
    have h' : (if p = [] then some (XOut.on s p (some (.snap s.c))) else none) = some (.on s' p' t) := h
    split at h'
    · cases h'; exact ⟨rfl, fun x hx => (by cases hx; rfl), by omega, by omega, by omega, fun us hu => (by cases hu)⟩
    · cases h'
  | nothing =>
    have h' : (if p = [] then some (XOut.stop (.snap s.c)) else none) = some (.on s' p' t) := h
    split at h' <;> cases h'
  | push n => cases h; exact ⟨rfl, fun x hx => (by cases hx), by omega, by omega, by rw [List.length_append]; exact Nat.le_refl _, fun us hu => (by cases hu)⟩
  | load c =>
    have h' : (val s.c c).map (fun x => XOut.on s (p ++ [x]) none) = some (.on s' p' t) := h
    cases e : val s.c c with
    | none => rw [e] at h'; cases h'
    | some x => rw [e] at h'; cases h'; exact ⟨rfl, fun x hx => (by cases hx), by omega, by omega, by rw [List.length_append]; exact Nat.le_refl _, fun us hu => (by cases hu)⟩
  | store c =>
    obtain ⟨q, x, hp, hg⟩ := pop_none (show (pop p).map (fun q => XOut.on ⟨aput s.c c q.2, s.k⟩ q.1 none) = some (.on s' p' t) from h)
    cases hg
    rw [pop_out hp]
    exact ⟨rfl, fun x hx => (by cases hx), aput_len _ _ _, by show s.k.length ≤ _; omega, by rw [List.length_append]; show q.length ≤ _; omega, fun us hu => (by cases hu)⟩
  | fetch f n => cases h; exact ⟨rfl, fun x hx => (by cases hx; show inV (.str (fS f)) _ = false; cases f <;> decide +kernel), by omega, by omega, by rw [List.length_append]; exact Nat.le_refl _, fun us hu => (by cases hu; show 2 ≤ 100; decide)⟩
  | lay n =>
    obtain ⟨q, x, hp, hg⟩ := pop_none (show (pop p).map (fun q => XOut.on ⟨s.c, aput s.k n q.2⟩ q.1 (some (.flat [.str (keepS n), .int q.2]))) = some (.on s' p' t) from h)
    cases hg
    rw [pop_out hp]
    exact ⟨rfl, fun y hy => (by cases hy; show inV (.str (keepS n)) _ = false; cases n <;> decide +kernel), by show s.c.length ≤ _; omega, aput_len _ _ _, by rw [List.length_append]; show q.length ≤ _; omega, fun us hu => (by cases hu; show 2 ≤ 100; decide)⟩
  | op o =>
    obtain ⟨q, x, y, rfl, _, _, ho⟩ := opX_out h
    cases er : reckon o x y with
    | inl v =>
      rw [er] at ho
      cases ho
      exact ⟨rfl, fun x hx => (by cases hx), by omega, by omega, by simp only [List.length_append, List.length_singleton]; omega, fun us hu => (by cases hu)⟩
    | inr b => rw [er] at ho; cases ho
  | jump k => cases h
  | unless_ k =>
    obtain ⟨q, x, hp, hg⟩ := pop_none (show (pop p).map (fun q => if q.2 = 0 then XOut.to q.1 k else XOut.on s q.1 none) = some (.on s' p' t) from h)
    have hg' : (if x = 0 then XOut.to q k else XOut.on s q none) = .on s' p' t := hg
    split at hg'
    · cases hg'
    · cases hg'
      rw [pop_out hp]
      exact ⟨rfl, fun x hx => (by cases hx), by omega, by omega, by rw [List.length_append]; omega, fun us hu => (by cases hu)⟩
  | call f n many =>
    have h' : (if many ≤ p.length then some (XOut.on s (p.take (p.length - many) ++ (if brings rs i = true then [came (p.drop (p.length - many))] else [])) (some (.call f n (p.drop (p.length - many))))) else none) = some (.on s' p' t) := h
    split at h'
    · cases h'
      refine ⟨rfl, fun x hx => (by cases hx; rfl), by omega, by omega, ?_, fun us hu => (by cases hu)⟩
      rw [List.length_append, List.length_take]
      have : ((if brings rs i = true then [came (p.drop (p.length - many))] else []) : List Int).length ≤ 1 := by split <;> simp
      omega
    · cases h'
  | give b =>
    cases b with
    | true =>
      obtain ⟨q, x, hp, hg⟩ := pop_none (show (pop p).map (fun q => XOut.stop (.flat [.int q.2])) = some (.on s' p' t) from h)
      cases hg
    | false => cases h
  | say k =>
    obtain ⟨q, x, hp, hg⟩ := pop_none (show (pop p).map (fun q => XOut.on s q.1 (some (.flat [.str (kindS k), .int q.2]))) = some (.on s' p' t) from h)
    cases hg
    rw [pop_out hp]
    exact ⟨rfl, fun y hy => (by cases hy; show inV (.str (kindS k)) _ = false; cases k <;> decide +kernel), by omega, by omega, by rw [List.length_append]; show q.length ≤ _; omega, fun us hu => (by cases hu; show 2 ≤ 100; decide)⟩
theorem effX_stop {rs : List Rw} {s : Sx} {p : List Int} {m : Mr × Nat} {t : Rest} (h : effX rs s p m = some (.stop t)) : (stopsX m.1 || bad0 t) = true ∧ ∀ us, t = .flat us → us.length ≤ 100 := by
  obtain ⟨m, i⟩ := m
  cases m with
  | row =>
    have h' : (if p = [] then some (XOut.on s p (some (.snap s.c))) else none) = some (.stop t) := h
    split at h' <;> cases h'
  | nothing =>
    have h' : (if p = [] then some (XOut.stop (.snap s.c)) else none) = some (.stop t) := h
    split at h'
    · cases h'; exact ⟨rfl, fun us hu => by cases hu⟩
    · cases h'
  | push n => cases h
  | load c =>
    have h' : (val s.c c).map (fun x => XOut.on s (p ++ [x]) none) = some (.stop t) := h
    cases e : val s.c c <;> (rw [e] at h'; cases h')
  | store c =>
    obtain ⟨q, x, hp, hg⟩ := pop_none (show (pop p).map (fun q => XOut.on ⟨aput s.c c q.2, s.k⟩ q.1 none) = some (.stop t) from h)
    cases hg
  | fetch f n => cases h
  | lay n =>
    obtain ⟨q, x, hp, hg⟩ := pop_none (show (pop p).map (fun q => XOut.on ⟨s.c, aput s.k n q.2⟩ q.1 (some (.flat [.str (keepS n), .int q.2]))) = some (.stop t) from h)
    cases hg
  | op o =>
    obtain ⟨q, x, y, rfl, _, _, ho⟩ := opX_out h
    cases er : reckon o x y with
    | inl v => rw [er] at ho; cases ho
    | inr b =>
      rw [er] at ho
      cases ho
      exact ⟨by rw [Bool.or_eq_true]; exact .inr (by cases b <;> decide +kernel), fun us hu => by cases hu; show 1 ≤ 100; decide⟩
  | jump k => cases h
  | unless_ k =>
    obtain ⟨q, x, hp, hg⟩ := pop_none (show (pop p).map (fun q => if q.2 = 0 then XOut.to q.1 k else XOut.on s q.1 none) = some (.stop t) from h)
    have hg' : (if x = 0 then XOut.to q k else XOut.on s q none) = .stop t := hg
    split at hg' <;> cases hg'
  | call f n many =>
    have h' : (if many ≤ p.length then some (XOut.on s (p.take (p.length - many) ++ (if brings rs i = true then [came (p.drop (p.length - many))] else [])) (some (.call f n (p.drop (p.length - many))))) else none) = some (.stop t) := h
    split at h' <;> cases h'
  | give b =>
    cases b with
    | true =>
      obtain ⟨q, x, hp, hg⟩ := pop_none (show (pop p).map (fun q => XOut.stop (.flat [.int q.2])) = some (.stop t) from h)
      cases hg
      exact ⟨rfl, fun us hu => by cases hu; show 1 ≤ 100; decide⟩
    | false => cases h; exact ⟨rfl, fun us hu => by cases hu; show 1 ≤ 100; decide⟩
  | say k =>
    obtain ⟨q, x, hp, hg⟩ := pop_none (show (pop p).map (fun q => XOut.on s q.1 (some (.flat [.str (kindS k), .int q.2]))) = some (.stop t) from h)
    cases hg
theorem tells_clsX {m : Mr} : tellsX m = decide (clsX m = 4) := by cases m <;> rfl
section
variable {K : PySem.W.Frag} {σ : L2.St} {H H' : Hp} {ta tb te tc td tl ty tk t0 t1 t2 tv : TE} {t : TT} {tr : TA} {D : Ends} {tz : TS} {E : XK} {Q : VK}
/-- pile, cells, keeps, found, at = [], {}, {}, [], 0 -/
theorem q_new5L {i1 i2 i3 i4 i5 : Nat} (k : ∀ p c ks f H1, H p = none → H c = none → H ks = none → H f = none → p ≠ c → p ≠ ks → p ≠ f → c ≠ ks → c ≠ f → ks ≠ f → Ex H H1 → H1 p = some (.lst []) → H1 c = some (.dK []) → H1 ks = some (.dT []) → H1 f = some (.lst []) →
      tz D (((((σ.set i1 (some (.ref p))).set i2 (some (.ref c))).set i3 (some (.ref ks))).set i4 (some (.ref f))).set i5 (some (.int 0))) H1) :
    tSeq (tAsg (tTup (tCons (tLst tNil) (tCons tDNewK (tCons tDNewT (tCons (tLst tNil) (tCons (tC (.int 0)) tNil)))))) (gTup K 5 (gCons (gName i1) (gCons (gName i2) (gCons (gName i3) (gCons (gName i4) (gCons (gName i5) gNil))))))) tz D σ H := by
  refine ⟨Nat.zero_le _, fun p hp => ?_⟩
  have e1 := Ex.new (o := HO.lst []) hp
  intro c hc
  have e2 := Ex.new (o := HO.dK []) hc
  intro ks hks
  have e3 := Ex.new (o := HO.dT []) hks
  refine ⟨Nat.zero_le _, fun f hf => ?_⟩
  have e4 := Ex.new (o := HO.lst []) hf
  refine ⟨by show 5 ≤ sizeLine; decide, fun u hu => ?_⟩
  have e5 := Ex.new (o := HO.tup [.ref p, .ref c, .ref ks, .ref f, .int 0]) hu
  have hp1 : (upd H p (.lst [])) p = some (.lst []) := upd_same
  have hc2 : (upd (upd H p (.lst [])) c (.dK [])) c = some (.dK []) := upd_same
  have hk3 : (upd (upd (upd H p (.lst [])) c (.dK [])) ks (.dT [])) ks = some (.dT []) := upd_same
  have hf4 : (upd (upd (upd (upd H p (.lst [])) c (.dK [])) ks (.dT [])) f (.lst [])) f = some (.lst []) := upd_same
  have npc : p ≠ c := ne_of_none hp1 hc
  have npk : p ≠ ks := ne_of_none (e2 _ _ hp1) hks
  have npf : p ≠ f := ne_of_none ((e2.trans e3) _ _ hp1) hf
  have nck : c ≠ ks := ne_of_none hc2 hks
  have ncf : c ≠ f := ne_of_none (e3 _ _ hc2) hf
  have nkf : ks ≠ f := ne_of_none hk3 hf
  exact ⟨u, _, rfl, st_of upd_same, rfl, .ref p, _, rfl, .ref c, _, rfl, .ref ks, _, rfl, .ref f, _, rfl, .int 0, [], rfl, rfl,
    k p c ks f _ hp (fresh_back e1 hc) (fresh_back (e1.trans e2) hks) (fresh_back ((e1.trans e2).trans e3) hf) npc npk npf nck ncf nkf ((((e1.trans e2).trans e3).trans e4).trans e5) ((((e2.trans e3).trans e4).trans e5) _ _ hp1) (((e3.trans e4).trans e5) _ _ hc2) ((e4.trans e5) _ _ hk3) (e5 _ _ hf4)⟩
/-- x = a if .. or l.pop() == 0 else b, where it pops -/
theorem s_asgPopIf {i : Nat} {a : Addr} {p : List Int} {y : Int} {v : V} (h1 : EvT t σ H false) (hl : ∀ H', Ev tl σ H' (.ref a)) (h : H a = some (iL (p ++ [y]))) (ha : y = 0 → ∀ H1, Ex H H1 → Ev ta σ (upd H1 a (iL p)) v) (hb : y ≠ 0 → ∀ H1, Ex H H1 → Ev tb σ (upd H1 a (iL p)) v)
    (k : ∀ H1 H2, Ex H H1 → Ex (upd H1 a (iL p)) H2 → D.nx (σ.set i (some v)) H2) : tAsg (tIf (tOr t (tTest (tOp rEq (tBM0 K "list" rPop tl) (tC (.int 0))))) ta tb) (gName i) D σ H := h1 H (Ex.refl H) _ fun H1 e1 => by
  show tTest (tOp rEq (tBM0 K "list" rPop tl) (tC (.int 0))) σ H1 _
  refine pop_go (hl H1) (e1 _ _ h) fun H2 e2 => ?_
  have e12 := e1.trans e2
  refine ⟨rfl, decide (V.int y = V.int 0), rfl, ?_⟩
  by_cases hy : y = 0
  · rw [decide_eq_true (congrArg V.int hy)]
    exact ha hy H2 e12 _ (Ex.refl _) _ fun H3 e3 => k H2 H3 e12 e3
  · rw [decide_eq_false (fun z => hy (V.int.inj z))]
    exact hb hy H2 e12 _ (Ex.refl _) _ fun H3 e3 => k H2 H3 e12 e3
/-- d[k] = l.pop() -/
theorem s_dputPop {a c : Addr} {p : List Int} {cs : Cs} {k y : Int} (hac : a ≠ c) (hl : Ev tl σ H (.ref a)) (h : H a = some (iL (p ++ [y]))) (hd : ∀ H', Ev td σ H' (.ref c)) (hk : ∀ H1 H', Ex H H1 → Ex (upd H1 a (iL p)) H' → Ev ty σ H' (.int k)) (hc : H c = some (.dK (cV cs))) (hz : cs.length ≤ 90000)
    (q : ∀ H1 H2, Ex H H1 → Ex (upd H1 a (iL p)) H2 → D.nx σ (upd H2 c (.dK (cV (aput cs k y))))) : sDPut td ty (tBM0 K "list" rPop tl) D σ H := pop_go hl h fun H1 e1 => hd _ _ (Ex.refl _) _ fun H2 e2 => hk H1 H2 e1 e2 H2 (Ex.refl _) _ fun H3 e3 => by
  have hc3 : H3 c = some (.dK (cV cs)) := (e2.trans e3) _ _ (by rw [upd_ne hac.symm]; exact e1 _ _ hc)
  refine ⟨c, _, rfl, DPut.k (k := (Sum.inl k : Key)) hc3 (sz_lt (by unfold cV; rw [List.length_map]; omega)), ?_⟩
  rw [cV_put]
  exact q H1 H3 e1 (e2.trans e3)
end
end Wt

set_option Elab.async false
set_option linter.all false
set_option maxRecDepth 100000
set_option maxHeartbeats 4000000
namespace Wt
open PySem PySem.Spec PyProof.Rows L2 SX Evl
open C8 (Def Cal cal0 fnScope_by fnScope)
/-! _law_machine: the machine's rows done from their first one on. -/
theorem afterX_is (m : Mr) (most : Int) (h : clsX m = 0) : most - (if decide (mrW m = Str.ofString "row") = true then 1 else 0) = afterX m most := by
  cases m with
  | row => rfl
  | nothing =>
    have e : decide (mrW .nothing = Str.ofString "row") = false := (show decide (Str.ofString "nothing" = Str.ofString "row") = false by decide +kernel)
    rw [e]
    show most - 0 = most
    omega
  | _ => cases h
/-- rows of the machine beside rows over cells -/
structure MsOk (rs : List Rw) (ms : List (Mr × Nat)) : Prop where
  lt : ∀ m ∈ ms, m.2 < rs.length
  call : ∀ m ∈ ms, ∀ f n z, m.1 = .call f n z → ∃ oc cs, rs[m.2]? = some (.call oc f n cs)
  jmp : ∀ m ∈ ms, ∀ k, (m.1 = .jump k ∨ m.1 = .unless_ k) → 0 ≤ k
section
variable {P : Program} {w : World} {K : PySem.W.Frag} {mg : Str → Option Value} {base : Heap}
abbrev s__law_machine : Stmt := topS 24
theorem sc__law_machine : FnScope ["_law_rows", "_law_made_here", "_law_parts", "_law_most", "_law_pile", "_law_cells", "_law_keeps", "_law_found", "_law_at", "_law_k", "_law_row", "_law_word", "_law_told"] ["_law_rows", "_law_made_here", "_law_parts", "_law_most"] (fnScope s__law_machine) := fnScope_by (by decide +kernel)
def spMach (K : PySem.W.Frag) : Sp := fun vs H Q _ => ∃ (ml : Addr) (mvs : List V) (v : V) (pa : Addr) (ds : List PyData) (rows : List Rp) (ps : List Int) (most : Int) (ms : List (Mr × Nat)) (F : Nat) (res : List Fd), vs = [.ref ml, v, .ref pa, .int most] ∧ H ml = some (.lst mvs) ∧ TdAll H mvs (ms.map mkD) ∧ Td H v (.tuple ds) ∧ ds[4]? = some (.tuple (rows.map rpD)) ∧ H pa = some (iL ps) ∧
  MsOk (rows.map Prod.fst) ms ∧ runX (rows.map Prod.fst) ms F most 0 [] ⟨pcs ps ps.length, []⟩ [] = some res ∧ F ≤ 72000 ∧ ps.length ≤ 1000 ∧ RetFd res H Q
theorem ok_mach (T : ModsI K mg) (c__law_worked : Cal P w K mg base 2 "_law_worked" (spWorked K) []) {f : Addr} {fd : FuncData} (F : Def K mg "_law_machine" s__law_machine f fd) (b : Binds K fd ["_law_rows", "_law_made_here", "_law_parts", "_law_most"] []) : Cal P w K mg base 3 "_law_machine" (spMach K) [] := by
  refine cal0 F b .nil sc__law_machine (fun vs H Q E h => ?_) (fun cdv A outer s H vs Q E hr h => ?_)
  · obtain ⟨_, _, _, _, _, _, _, _, _, _, _, rfl, _⟩ := h
    rfl
  · obtain ⟨ml, mvs, v, pa, ds, rows, ps, most, ms, F, res, rfl, hml, hmvs, hv, h4, hpa, mok, hrun, lF, lps, q⟩ := h
    have m_range := T.m_range
    have m_len := T.m_len
    have m_int := T.m_int
    have m_dict := T.m_dict
    have hu := hu_of hr
    have hu64 := hr.units
    refine ⟨_, (pss_cons (ps_asg (pe_tup (pa_cons (pe_lst pa_nil) (pa_cons pe_dnewK (pa_cons pe_dnewT (pa_cons (pe_lst pa_nil) (pa_cons pe_int pa_nil)))))) (pg_tup rfl (pgs_cons (pg_name (i := 4) sc__law_machine.nd rfl (.inl rfl)) (pgs_cons (pg_name (i := 5) sc__law_machine.nd rfl (.inl rfl)) (pgs_cons (pg_name (i := 6) sc__law_machine.nd rfl (.inl rfl)) (pgs_cons (pg_name (i := 7) sc__law_machine.nd rfl (.inl rfl)) (pgs_cons (pg_name (i := 8) sc__law_machine.nd rfl (.inl rfl)) pgs_nil)))))))
      (pss_cons (ps_for PassesOwn.never rfl (pi_range1 (by rfl) m_range (pa_cons (pe_callB call_len_seq (by rfl) m_len PySem.boot_len (pa_cons (pv 2) pa_nil)) pa_nil)) (pg_name (i := 9) sc__law_machine.nd rfl (.inl rfl)) (pss_one (ps_dput hu (pv 5) (pv 9) (pe_ix ix_list (pv 2) (pv 9) (fun _ _ => rfl)) rfl)))
      (pss_cons (ps_while PassesOwn.never (pt_cmpR op_ge (pv 3) pe_int (nomark _)) (pss_cons (ps_par (i := 10) (j := 8) rfl sc__law_machine.nd rfl rfl (by decide) (by rfl) (by rfl) (pa_cons (pe_ix ix_list (pv 0) (pv 8) (fun _ _ => rfl)) (pa_cons (pe_op op_add (pv 8) pe_int) pa_nil)) (by rfl))
      (pss_cons (ps_par (i := 11) (j := 9) rfl sc__law_machine.nd rfl rfl (by decide) (by rfl) (by rfl) (pa_cons (pe_ix ix_tup (pv 10) pe_int (fun _ _ => rfl)) (pa_cons (pe_ix ix_tup (pv 10) (pe_op op_sub (pe_callB call_len_seq (by rfl) m_len PySem.boot_len (pa_cons (pv 10) pa_nil)) pe_int) (fun _ _ => rfl)) pa_nil)) (by rfl))
      (pss_cons (ps_if (pt_cmpR op_in_seq (pv 11) (pe_tup (pa_cons pe_str (pa_cons pe_str pa_nil))) (by with_unfolding_all rfl)) (pss_cons (ps_set (i := 3) sc__law_machine.nd rfl (.inl rfl) (pe_op op_sub (pv 3) (pe_callTy call_int1 (by rfl) m_int Wt.bt_int (pa_cons (pe_cmpR op_eq (pv 11) pe_str (nomark _)) pa_nil))))
      (pss_cons (ps_if (pt_cmpR (Wt.op_ne0 hu) (pv 4) (pe_lst pa_nil) (nomark _)) (pss_one (ps_ret pe_non)) pss_nil)
      (pss_one (ps_expr (pe_bm PySem.F.plainAttrs_list PySem.F.slot_list_append PySem.F.type_list_append mt_append (pv 7) (pa_cons (pe_tup (pa_cons (pe_dget2 hu (pe_disp (pps_cons pe_str pe_str pps_nil) (by rfl) (by rfl) (by simp) (by decide)) (pv 11) (pv 11) ⟨rfl, by rfl, by rfl, rfl⟩) (pa_cons (pv 9) (pa_cons (pe_callTy call_dictD (by rfl) m_dict Wt.bt_dict (pa_cons (pv 5) pa_nil)) pa_nil)))) pa_nil)))))) (pss_one (ps_if (pt_cmpR op_in_seq (pv 11) (pe_tup (pa_cons pe_str (pa_cons pe_str pa_nil))) (by with_unfolding_all rfl)) (pss_one (ps_set (i := 8) sc__law_machine.nd rfl (.inl rfl) (pe_ifExp (PW.pt (pw_or (pt_cmpR op_eq (pv 11) pe_str (nomark _)) (pw_or1 (pt_cmpR op_eq (pe_bm0 PySem.F.plainAttrs_list PySem.F.slot_list_pop PySem.F.type_list_pop mt_pop (pv 4)) pe_int (nomark _))))) (pe_ix ix_tup (pv 10) pe_int (fun _ _ => rfl)) (pv 8)))) (pss_one (ps_if (pt_cmpR op_in_seq (pv 11) (pe_tup (pa_cons pe_str (pa_cons pe_str pa_nil))) (by with_unfolding_all rfl)) (pss_one (ps_expr (pe_bm PySem.F.plainAttrs_list PySem.F.slot_list_append PySem.F.type_list_append mt_append (pv 4) (pa_cons (pe_ifExp (pt_cmpR op_eq (pv 11) pe_str (nomark _)) (pe_ix ix_tup (pv 10) pe_int (fun _ _ => rfl)) (pe_dget hu (pv 5) (pe_ix ix_tup (pv 10) pe_int (fun _ _ => rfl)) (fun _ _ => rfl))) pa_nil)))) (pss_one (ps_if (pt_cmpR op_eq (pv 11) pe_str (nomark _)) (pss_one (ps_dput hu (pv 5) (pe_ix ix_tup (pv 10) pe_int (fun _ _ => rfl)) (pe_bm0 PySem.F.plainAttrs_list PySem.F.slot_list_pop PySem.F.type_list_pop mt_pop (pv 4)) rfl)) (pss_cons (ps_set (i := 12) sc__law_machine.nd rfl (.inl rfl) (C8.pe_c c__law_worked hr (by first | decide | exact Nat.le_refl _ | omega) (by rfl) (pa_cons (pv 10) (pa_cons (pe_ix ix_tup (pe_ix ix_tup (pv 1) pe_int (fun _ _ => rfl)) (pv 9) (fun _ _ => rfl)) (pa_cons (pv 4) (pa_cons (pv 6) pa_nil))))))
      (pss_one (ps_if (pt_cmpR (Wt.op_ne0 hu) (pv 12) (pe_tup pa_nil) (nomark _)) (pss_one (ps_expr (pe_bm PySem.F.plainAttrs_list PySem.F.slot_list_append PySem.F.type_list_append mt_append (pv 7) (pa_cons (pe_op op_catA (pe_tup (pa_cons (pv 11) (pa_cons (pv 9) pa_nil))) (pv 12)) pa_nil)))) pss_nil))))))))))
      (pss_one (ps_if (PW.pt (pw_or (pt_cmpR op_in_seq (pv 11) (pe_tup (pa_cons pe_str (pa_cons pe_str pa_nil))) (by with_unfolding_all rfl)) (pw_or1 (PW.pt (pw_and (pt_cmpR (Wt.op_ne0 hu) (pv 7) (pe_lst pa_nil) (nomark _)) (pw_and1 (pt_cmpR (Wt.op_inQ hu) (pe_ix ix_tup (pe_ix ix_list (pv 7) (pe_un un_neg pe_int) (fun _ _ => rfl)) pe_int (fun _ _ => rfl)) (pe_tup (pa_cons pe_str (pa_cons pe_str pa_nil))) (by with_unfolding_all rfl)))))))) (pss_one (ps_ret (pv 7))) pss_nil))))))
      (pss_one (ps_ret (pv 7)))))), ?_⟩
    obtain ⟨rs, ers⟩ : ∃ rs, rs = rows.map Prod.fst := ⟨_, rfl⟩
    rw [← ers] at mok hrun
    have lrs : rs.length = rows.length := by rw [ers, List.length_map]
    have lmv : mvs.length = ms.length := by rw [hmvs.len, List.length_map]
    refine q_new5L fun pp c k f H1 hp0 hc0 hk0 hf0 npc npk npf nck ncf nkf e1 hp1 hc1 hk1 hf1 => ?_
    -- the parts
    refine q_forR1 (n := (ps.length : Int)) (ea_cons (ev_is (ev_len (K := K) (ev_var rfl) (sq_of (e1 _ _ hpa))) (by rw [List.length_map])) ea_nil) (by omega) (fun i σ' H' => ∃ y9, σ' = [some (.ref ml), some v, some (.ref pa), some (.int most), some (.ref pp), some (.ref c), some (.ref k), some (.ref f), some (.int 0), y9, none, none, none] ∧ Ex H H' ∧ H' pp = some (.lst []) ∧ H' c = some (.dK (cV (pcs ps i))) ∧ H' k = some (.dT (ksV [])) ∧ H' f = some (.lst []))
      (fun H2 e2 => ⟨_, rfl, e1.trans e2, e2 _ _ hp1, e2 _ _ hc1, e2 _ _ hk1, e2 _ _ hf1⟩) ?_ ?_
    · rintro i σ' H2 hi ⟨y9, rfl, e2, hp2, hc2, hk2, hf2⟩
      have hi2 : i < ps.length := by omega
      refine s_dputC (k := (i : Int)) (v := ps.getD i 0) (ev_op (ev_var rfl) (ev_var rfl) (rv_ixL (sq_of (e2 _ _ hpa)) (atI_nat ?_))) (fun _ => ev_var rfl) (fun _ _ => ev_var rfl) hc2 (by rw [pcs_len]; omega) fun H3 e3 => ⟨_, rfl, Ex.mut (e2.trans e3) hc0, ?_, ?_, ?_, ?_⟩
      · rw [List.getElem?_map, List.getElem?_eq_getElem hi2, List.getD_eq_getElem?_getD, List.getElem?_eq_getElem hi2] <;> rfl
      · rw [upd_ne npc]; exact e3 _ _ hp2
      · rw [upd_same, pcs_succ]
      · rw [upd_ne nck.symm]; exact e3 _ _ hk2
      · rw [upd_ne ncf.symm]; exact e3 _ _ hf2
    rintro σ' H2 ⟨y9, rfl, e2, hp2, hc2, hk2, hf2⟩
    rw [Int.toNat_natCast] at hc2
    have rowAt : ∀ {i : Nat} {m : Mr × Nat} {H' : Hp}, Ex H H' → ms[i]? = some m → ∃ (x : V), mvs[i]? = some x ∧ Td H' x (mkD m) := fun {i m H'} e hm => by
      obtain ⟨x, hx, hT⟩ := td_get (i := i) (d := mkD m) hmvs (by rw [List.getElem?_map, hm] <;> rfl)
      exact ⟨x, hx, Td.tx (Tx.of e) _ _ hT⟩
    obtain ⟨N, hN⟩ : ∃ N : Addr → Prop, N = fun a => H a = none ∧ a ≠ pp ∧ a ≠ c ∧ a ≠ k ∧ a ≠ f := ⟨_, rfl⟩
    refine q_while (fun n σ' H' => ∃ (mo : Int) (i : Nat) (p : List Int) (st : Sx) (fd : List Fd) (vs : List V) (y9 y10 y11 y12 : Option V), σ' = [some (.ref ml), some v, some (.ref pa), some (.int mo), some (.ref pp), some (.ref c), some (.ref k), some (.ref f), some (.int (i : Int)), y9, y10, y11, y12] ∧
      runX rs ms n mo i p st fd = some res ∧ Ex H H' ∧ H' pp = some (iL p) ∧ H' c = some (.dK (cV st.c)) ∧ H' k = some (.dT (ksV st.k)) ∧ H' f = some (.lst vs) ∧ FdAll N H' vs fd ∧ Fine fd ∧ st.c.length + n ≤ 74000 ∧ st.k.length + n ≤ 74000 ∧ fd.length + n ≤ 74000 ∧ p.length + n ≤ 74000)
      F ⟨most, 0, [], ⟨pcs ps ps.length, []⟩, [], [], _, _, _, _, rfl, hrun, e2, hp2, hc2, hk2, hf2, .nil, (fun e he => by cases he), by show (pcs ps ps.length).length + F ≤ 74000; rw [pcs_len]; omega, by show 0 + F ≤ 74000; omega, by show 0 + F ≤ 74000; omega, by show 0 + F ≤ 74000; omega⟩ ?_
    rintro n σ' H4 ⟨mo, i, p, ⟨cs, ks⟩, fd, vs, y9, y10, y11, y12, rfl, hr4, e4, hp4, hc4, hk4, hf4, hfd, hfine, lc, lk, lf, lp⟩
    have lc' : cs.length + n ≤ 74000 := lc
    have lk' : ks.length + n ≤ 74000 := lk
    refine ⟨decide (0 ≤ mo), et_test (ev_op (ev_var rfl) ev_c rv_I0), fun hb H5 e5 => ?_, fun hb H5 e5 => ?_⟩
    rotate_left
    · -- tired
      have hm := of_decide_eq_false hb
      cases n with
      | zero => cases hr4
      | succ n =>
        unfold runX at hr4
        rw [if_pos (by omega)] at hr4
        have efd := Option.some.inj hr4
        subst efd
        refine s_ret (ev_var rfl) fun H6 e6 => q f H6 vs hf0 (e4.trans (e5.trans e6)) ((e5.trans e6) _ _ hf4) (hfd.ex (fun a ha => by rw [hN] at ha; exact ⟨ha.1, ha.2.2.2.2⟩) fun a o _ ho => (e5.trans e6) a o ho)
    have hm : 0 ≤ mo := of_decide_eq_true hb
    cases n with
    | zero => cases hr4
    | succ n =>
    cases hmi : ms[i]? with
    | none =>
      unfold runX at hr4
      rw [if_neg (by omega), hmi] at hr4
      cases hr4
    | some mk =>
    obtain ⟨m, ix⟩ := mk
    have hmem := List.mem_of_getElem? hmi
    obtain ⟨NX, hNX⟩ : ∃ NX : L2.St → Hp → Prop, NX = fun σ' H' => ∃ (mo : Int) (i : Nat) (p : List Int) (st : Sx) (fd : List Fd) (vs : List V) (y9 y10 y11 y12 : Option V), σ' = [some (.ref ml), some v, some (.ref pa), some (.int mo), some (.ref pp), some (.ref c), some (.ref k), some (.ref f), some (.int (i : Int)), y9, y10, y11, y12] ∧
      runX rs ms n mo i p st fd = some res ∧ Ex H H' ∧ H' pp = some (iL p) ∧ H' c = some (.dK (cV st.c)) ∧ H' k = some (.dT (ksV st.k)) ∧ H' f = some (.lst vs) ∧ FdAll N H' vs fd ∧ Fine fd ∧ st.c.length + n ≤ 74000 ∧ st.k.length + n ≤ 74000 ∧ fd.length + n ≤ 74000 ∧ p.length + n ≤ 74000 := ⟨_, rfl⟩
    refine ⟨NX, fun _ _ h => ⟨n, Nat.lt_succ_self n, by rw [hNX] at h; exact h⟩, ?_⟩
    have go_on : ∀ {D : Ends} {H' : Hp} {mo' : Int} {i' : Nat} {p' : List Int} {st' : Sx} {fd' : List Fd} {vs' : List V} {z9 z10 z12 : Option V}, D.nx = NX → stopsX m = false → runX rs ms n mo' i' p' st' fd' = some res → Ex H H' → H' pp = some (iL p') → H' c = some (.dK (cV st'.c)) → H' k = some (.dT (ksV st'.k)) → H' f = some (.lst vs') → FdAll N H' vs' fd' → Fine fd' → st'.c.length + n ≤ 74000 → st'.k.length + n ≤ 74000 → fd'.length + n ≤ 74000 → p'.length + n ≤ 74000 →
        tIfS (tOr (tTest (tOp (rIn K false) (tVar 11) (tTup (tCons (tC (.str (Str.ofString "give"))) (tCons (tC (.str (Str.ofString "nothing"))) tNil))))) (tAnd (tTest (tOp (rNe0 K) (tVar 7) (tLst tNil))) (tTest (tOp (rInQ K) (tOp (rIxT K) (tOp (rIxL K) (tVar 7) (tUn (rU fun i => .int (-i)) (tC (.int 1)))) (tC (.int 2))) (tTup (tCons (tC (.str (Str.ofString "great"))) (tCons (tC (.str (Str.ofString "nought"))) tNil))))))) (tRet (tVar 7)) tNext D
          [some (.ref ml), some v, some (.ref pa), some (.int mo'), some (.ref pp), some (.ref c), some (.ref k), some (.ref f), some (.int (i' : Int)), z9, z10, some (.str (mrW m)), z12] H' := fun {D H' mo' i' p' st' fd' vs' z9 z10 z12} hD hst hrun' eH h1 h2 h3 h4 h5 h6 h7 h8 h9 h10 => by
      refine s_when (b := stopsX m || lastBad fd') (et_over (N := N) (ev_var rfl) (inGNX m) (ev_var rfl) h4 h5) (fun z => by rw [hst, h6.last] at z; cases z) fun _ H6 e6 => ?_
      rw [hD, hNX]
      exact ⟨mo', i', p', st', fd', vs', z9, z10, _, z12, rfl, hrun', eH.trans e6, e6 _ _ h1, e6 _ _ h2, e6 _ _ h3, e6 _ _ h4, h5.ex (fun _ z => z) fun a o _ ho => e6 a o ho, h6, h7, h8, h9, h10⟩
    have go_over : ∀ {D : Ends} {H' : Hp} {fd' : List Fd} {vs' : List V} {z3 z8 z9 z10 z12 : Option V}, D.rt = Q → fd' = res → Ex H H' → H' f = some (.lst vs') → FdAll N H' vs' fd' → (stopsX m || lastBad fd') = true →
        tIfS (tOr (tTest (tOp (rIn K false) (tVar 11) (tTup (tCons (tC (.str (Str.ofString "give"))) (tCons (tC (.str (Str.ofString "nothing"))) tNil))))) (tAnd (tTest (tOp (rNe0 K) (tVar 7) (tLst tNil))) (tTest (tOp (rInQ K) (tOp (rIxT K) (tOp (rIxL K) (tVar 7) (tUn (rU fun i => .int (-i)) (tC (.int 1)))) (tC (.int 2))) (tTup (tCons (tC (.str (Str.ofString "great"))) (tCons (tC (.str (Str.ofString "nought"))) tNil))))))) (tRet (tVar 7)) tNext D
          [some (.ref ml), some v, some (.ref pa), z3, some (.ref pp), some (.ref c), some (.ref k), some (.ref f), z8, z9, z10, some (.str (mrW m)), z12] H' := fun {D H' fd' vs' z3 z8 z9 z10 z12} hD hres eH h4 h5 hov => by
      refine s_when (b := stopsX m || lastBad fd') (et_over (N := N) (ev_var rfl) (inGNX m) (ev_var rfl) h4 h5) (fun _ H6 e6 => ?_) fun z => by rw [hov] at z; cases z
      refine s_ret (ev_var rfl) fun H7 e7 => ?_
      rw [hD]
      subst hres
      exact q f H7 vs' hf0 (eH.trans (e6.trans e7)) ((e6.trans e7) _ _ h4) (h5.ex (fun a ha => by rw [hN] at ha; exact ⟨ha.1, ha.2.2.2.2⟩) fun a o _ ho => (e6.trans e7) a o ho)
    have newN : ∀ {H'}, Ex H4 H' → ∀ b, H' b = none → N b := fun {H'} e b hb => by
      rw [hN]
      show H b = none ∧ b ≠ pp ∧ b ≠ c ∧ b ≠ k ∧ b ≠ f
      exact ⟨fresh_back (e4.trans e) hb, fun z => (by rw [z, e _ _ hp4] at hb; cases hb), fun z => (by rw [z, e _ _ hc4] at hb; cases hb), fun z => (by rw [z, e _ _ hk4] at hb; cases hb), fun z => (by rw [z, e _ _ hf4] at hb; cases hb)⟩
    obtain ⟨x, hx, hT5⟩ := rowAt (e4.trans e5) hmi
    refine q_par (ea_cons (ev_op (ev_var rfl) (ev_var rfl) (rv_ixL (sq_of ((e4.trans e5) _ _ hml)) (atI_nat hx))) (ea_cons (ev_op (ev_var rfl) ev_c rv_I0) ea_nil)) fun H6 e6 => ?_
    have hT6 := Td.tx (Tx.of e6) _ _ hT5
    have elen : (mkDs (m, ix)).length = (mrDs m).length + 1 := by unfold mkDs; rw [List.length_append] <;> rfl
    refine q_par (ea_cons (ev_ixTs (K := K) (j := 0) (ev_var rfl) hT6 ev_c rfl) (ea_cons (ev_ixTi (K := K) (j := (mrDs m).length) (x := (ix : Int)) (ev_var rfl) hT6 (ev_is (ev_op (ev_lenTd (K := K) (ev_var rfl) hT6) ev_c rv_I0) (congrArg V.int (by rw [elen]; omega))) (by unfold mkDs; rw [List.getElem?_append_right (Nat.le_refl _), Nat.sub_self] <;> rfl)) ea_nil)) fun H7 e7 => ?_
    have e47 := (e5.trans e6).trans e7
    have hT7 := Td.tx (Tx.of e7) _ _ hT6
    have hp7 := e47 _ _ hp4
    have hc7 := e47 _ _ hc4
    have hk7 := e47 _ _ hk4
    have hf7 := e47 _ _ hf4
    have hfd7 : FdAll N H7 vs fd := hfd.ex (fun _ z => z) fun a o _ ho => e47 a o ho
    have eH7 := e4.trans e47
    show tSeq _ _ _ ([some (.ref ml), some v, some (.ref pa), some (.int mo), some (.ref pp), some (.ref c), some (.ref k), some (.ref f), some (.int ((i : Int) + 1)), some (.int (ix : Int)), some x, some (.str (mrW m)), y12] : L2.St) H7
    rw [show (i : Int) + 1 = ((i + 1 : Nat) : Int) by omega]
    have inU : ∀ {a b : String} {σ : L2.St} {H'} {bb : Bool}, σ[11]? = some (some (.str (mrW m))) → inV (.str (mrW m)) [V.str (Str.ofString a), V.str (Str.ofString b)] = bb → EvT (tTest (tOp (rIn K false) (tVar 11) (tTup (tCons (tC (.str (Str.ofString a))) (tCons (tC (.str (Str.ofString b))) tNil))))) σ H' bb := fun h0 h => inWU (K := K) (c := mrW m) (ev_var h0) (eu_tup (ea_cons ev_c (ea_cons ev_c ea_nil)) (by show 2 ≤ 100000; decide)) rfl rfl h
    have upF : ∀ {H8 : Hp} {vs' : List V} {fd' : List Fd}, Ex H7 H8 → FdAll N H8 vs' fd' → Ex H (upd H8 f (.lst vs')) ∧ (upd H8 f (.lst vs')) pp = some (iL p) ∧ (upd H8 f (.lst vs')) c = some (.dK (cV cs)) ∧ (upd H8 f (.lst vs')) k = some (.dT (ksV ks)) ∧ (upd H8 f (.lst vs')) f = some (.lst vs') ∧ FdAll N (upd H8 f (.lst vs')) vs' fd' := fun {H8 vs' fd'} e h => by
      refine ⟨Ex.mut (eH7.trans e) hf0, by rw [upd_ne npf]; exact e _ _ hp7, by rw [upd_ne ncf]; exact e _ _ hc7, by rw [upd_ne nkf]; exact e _ _ hk7, upd_same, h.ex (fun _ z => z) fun a o ha ho => ?_⟩
      rw [hN] at ha
      rw [upd_ne ha.2.2.2.2]
      exact ho
    have runOn : ∀ {s' p' t}, effX rs ⟨cs, ks⟩ p (m, ix) = some (.on s' p' t) → runX rs ms n (afterX m mo) (i + 1) p' s' (fd ++ tell (mrT m) ix t) = some res := fun he => by rw [runX_on hm hmi he] at hr4; exact hr4
    have runTo : ∀ {p' j}, effX rs ⟨cs, ks⟩ p (m, ix) = some (.to p' j) → runX rs ms n mo j.toNat p' ⟨cs, ks⟩ fd = some res := fun he => by rw [runX_to hm hmi he] at hr4; exact hr4
    have runStop : ∀ {t}, effX rs ⟨cs, ks⟩ p (m, ix) = some (.stop t) → fd ++ [⟨mrT m, ix, t⟩] = res := fun he => by rw [runX_stop hm hmi he] at hr4; exact Option.some.inj hr4
    have noE : effX rs ⟨cs, ks⟩ p (m, ix) = none → False := fun he => by
      unfold runX at hr4
      rw [if_neg (by omega), hmi] at hr4
      have h2 : (match effX rs ⟨cs, ks⟩ p (m, ix) with | none => none | some (.on s' p' t) => runX rs ms n (afterX m mo) (i + 1) p' s' (fd ++ tell (mrT m) ix t) | some (.to p' j) => runX rs ms n mo j.toNat p' ⟨cs, ks⟩ fd | some (.stop t) => some (fd ++ [(⟨mrT m, ix, t⟩ : Fd)])) = some res := hr4
      rw [he] at h2
      cases h2
    -- only the pile is written
    have upP : ∀ {H8 H9 : Hp} {p' : List Int}, Ex H7 H8 → Ex (upd H8 pp (iL p')) H9 → Ex H H9 ∧ H9 pp = some (iL p') ∧ H9 c = some (.dK (cV cs)) ∧ H9 k = some (.dT (ksV ks)) ∧ H9 f = some (.lst vs) ∧ FdAll N H9 vs fd ∧ Td H9 x (mkD (m, ix)) := fun {H8 H9 p'} e8 e9 => by
      refine ⟨(Ex.mut (eH7.trans e8) hp0).trans e9, e9 _ _ upd_same, e9 _ _ (by rw [upd_ne npc.symm]; exact e8 _ _ hc7), e9 _ _ (by rw [upd_ne npk.symm]; exact e8 _ _ hk7), e9 _ _ (by rw [upd_ne npf.symm]; exact e8 _ _ hf7), hfd7.ex (fun _ z => z) (fun a o ha ho => e9 a o ?_), Td.tx (((Tx.of e8).trans (Tx.lst (e8 _ _ hp7))).trans (Tx.of e9)) _ _ hT7⟩
      rw [hN] at ha
      rw [upd_ne ha.2.1]
      exact e8 a o ho
    have aft : m ≠ .row → afterX m mo = mo := fun h => if_neg h
    -- the row over cells that it comes from
    obtain ⟨vm, r, pl, hvm, hri, evm⟩ : ∃ (vm : V) (r : Rw) (pl : Int × Int), Td H vm (rpD (r, pl)) ∧ rs[ix]? = some r ∧ ∀ {σ : L2.St} {H' : Hp}, Ex H H' → σ[1]? = some (some v) → σ[9]? = some (some (.int (ix : Int))) → Ev (tOp (rIxT K) (tOp (rIxT K) (tVar 1) (tC (.int 4))) (tVar 9)) σ H' vm := by
      have hlt : ix < rows.length := by have := mok.lt _ hmem; rw [← lrs]; exact this
      cases hv with
      | @tup a xs _ h1 h2 =>
        obtain ⟨x4, hx4, hT4⟩ := td_get h2 h4
        cases hT4 with
        | @tup a2 xs2 _ h3 h5 =>
          obtain ⟨vm, hvm, hTm⟩ := td_get h5 (i := ix) (d := rpD rows[ix]) (by rw [List.getElem?_map, List.getElem?_eq_getElem hlt] <;> rfl)
          exact ⟨vm, rows[ix].1, rows[ix].2, hTm, by rw [ers, List.getElem?_map, List.getElem?_eq_getElem hlt] <;> rfl, fun e h1' h9' => ev_op (ev_op (ev_var h1') ev_c (rv_ixT (st_of (e _ _ h1)) (atI_nat (j := 4) hx4))) (ev_var h9') (rv_ixT (st_of (e _ _ h3)) (atI_nat hvm))⟩
    by_cases ht : tellsX m = true
    · -- a row that tells
      have hcl : clsX m = 4 := of_decide_eq_true (tells_clsX.symm.trans ht)
      have nr : m ≠ .row := fun z => by rw [z] at hcl; cases hcl
      have emt : mrT m = mrW m := by cases m <;> first | rfl | exact absurd rfl nr
      refine q_if (b := false) (inU rfl ((inRN m).trans (by rw [hcl] <;> rfl))) (fun z => by cases z) (fun _ H8 e8 => ?_)
      refine s_ifQ (b := false) (inU rfl ((inJU m).trans (by rw [hcl] <;> rfl))) (fun z => by cases z) (fun _ H9 e9 => ?_)
      refine s_ifQ (b := false) (inU rfl ((inPL m).trans (by rw [hcl] <;> rfl))) (fun z => by cases z) (fun _ H10 e10 => ?_)
      refine s_ifQ (b := false) (eqWT (c := mrW m) (ev_var rfl) ev_c rfl ((isSto m).trans (by rw [hcl] <;> rfl))) (fun z => by cases z) (fun _ H11 e11 => ?_)
      have e711 := ((e8.trans e9).trans e10).trans e11
      cases he : effX rs ⟨cs, ks⟩ p (m, ix) with
      | none => exact (noE he).elim
      | some out =>
        refine q_asgCall (ea_cons (ev_var rfl) (ea_cons (evm (eH7.trans e711) rfl rfl) (ea_cons (ev_var rfl) (ea_cons (ev_var rfl) ea_nil)))) fun H12 e12 => ⟨x, vm, pp, k, rs, ⟨cs, ks⟩, p, (m, ix), r, pl, out, rfl, Td.tx (Tx.of (e711.trans e12)) _ _ hT7, Td.tx (Tx.of ((eH7.trans e711).trans e12)) _ _ hvm, hri, fun f' n' z hm' => ?_, (e711.trans e12) _ _ hp7, (e711.trans e12) _ _ hk7, by omega, by show ks.length ≤ 85000; omega, ht, he, fun s' p' t w' H13 hcm kp hp13 hk13 hsc htold => ?_⟩
        · obtain ⟨oc, cs', h⟩ := mok.call _ hmem f' n' z hm'
          rw [hri] at h
          exact ⟨oc, cs', Option.some.inj h⟩
        have e712 := e711.trans e12
        have eH13 : Ex H H13 := Kp.ex0 (eH7.trans e712) kp (by
          intro a ha
          simp only [List.mem_cons, List.not_mem_nil, or_false] at ha
          rcases ha with rfl | rfl
          · exact hp0
          · exact hk0)
        have nin : ∀ a, a ≠ pp → a ≠ k → a ∉ [pp, k] := fun a h1 h2 z => by
          simp only [List.mem_cons, List.not_mem_nil, or_false] at z
          rcases z with z | z
          · exact h1 z
          · exact h2 z
        have hc13 : H13 c = some (.dK (cV s'.c)) := by rw [hsc]; exact kp.keep _ _ (nin c npc.symm nck) (e712 _ _ hc7)
        have hf13 : H13 f = some (.lst vs) := kp.keep _ _ (nin f npf.symm nkf.symm) (e712 _ _ hf7)
        have hfd13 : FdAll N H13 vs fd := hfd7.ex (fun _ z => z) fun a o ha ho => kp.keep _ _ (by rw [hN] at ha; exact nin a ha.2.1 ha.2.2.2.1) (e712 a o ho)
        have htold2 := htold.ex (N' := N) (newN (e47.trans e712)) fun a o _ ho => ho
        cases t with
        | none =>
          obtain ⟨u, rfl, _, hu9⟩ := htold2
          rcases hcm with hcm | ⟨_, _, hcm, _⟩
          · subst hcm
            have hx9 := effX_on he
            have hrun' := runOn he
            rw [show fd ++ tell (mrT m) ix none = fd from List.append_nil fd, aft nr] at hrun'
            refine s_when (b := false) (ev_ne0T (ev_var rfl) hu9) (fun z => by cases z) (fun _ H14 e14 => ?_)
            exact go_on rfl hx9.st hrun' (eH13.trans e14) (e14 _ _ hp13) (e14 _ _ hc13) (e14 _ _ hk13) (e14 _ _ hf13) (hfd13.ex (fun _ z => z) fun a o _ ho => e14 a o ho) hfine (by have := hx9.c; simp only at this; omega) (by have := hx9.k; simp only at this; omega) (by omega) (by have := hx9.p; omega)
          · cases hcm
        | some rest =>
          obtain ⟨u, ys, rfl, _, hu9, hrest⟩ := htold2
          have hne := hrest.ne
          have hys : ys.length ≤ 100 := by
            cases rest with
            | snap c' => obtain ⟨d, hd, _⟩ := hrest; rw [hd]; show 1 ≤ 100; decide
            | call f' n' ws => obtain ⟨l, hd, _⟩ := hrest; rw [hd]; show 3 ≤ 100; decide
            | flat us =>
              obtain ⟨hd, _, _⟩ := hrest
              rw [hd]
              rcases hcm with hcm | ⟨_, _, hcm1, hcm⟩
              · subst hcm
                exact (effX_on he).len us rfl
              · cases hcm1
                subst hcm
                exact (effX_stop he).2 us rfl
          refine s_when (b := true) (et_is (ev_ne0T (ev_var rfl) hu9) (by cases ys <;> first | rfl | exact absurd rfl hne)) (fun _ H14 e14 => ?_) (fun z => by cases z)
          refine s_appTold (N := N) (f := fd) (n := ix) (fun _ => ev_var rfl) (e14 _ _ hf13) (ev_var rfl) (fun _ => ev_var rfl) (fun _ => ev_var rfl) (e14 _ _ hu9) (hrest.ex (fun _ z => z) fun a o _ ho => e14 a o ho) ?_ (hfd13.ex (fun _ z => z) fun a o _ ho => e14 a o ho) (by omega) hne hys fun H15 vs' e15 hfd15 => ?_
          · intro b hb
            exact newN (e47.trans e712) b (kp.there b (fresh_back e14 hb))
          have e1315 := e14.trans e15
          rw [← emt] at hfd15
          have hN6 : FdAll N (upd H15 f (.lst vs')) vs' (fd ++ [⟨mrT m, ix, rest⟩]) := hfd15.ex (fun _ z => z) fun a o ha ho => by
            rw [hN] at ha
            rw [upd_ne ha.2.2.2.2]
            exact ho
          rcases hcm with hcm | ⟨hs, _, hcm1, hcm⟩
          · subst hcm
            have hx9 := effX_on he
            have hrun' := runOn he
            rw [aft nr] at hrun'
            exact go_on rfl hx9.st hrun' (Ex.mut (eH13.trans e1315) hf0) (by rw [upd_ne npf]; exact e1315 _ _ hp13) (by rw [upd_ne ncf]; exact e1315 _ _ hc13) (by rw [upd_ne nkf]; exact e1315 _ _ hk13) upd_same hN6 (hfine.snoc (hx9.bad rest rfl)) (by have := hx9.c; simp only at this; omega) (by have := hx9.k; simp only at this; omega) (by rw [List.length_append]; show fd.length + 1 + n ≤ 74000; omega) (by have := hx9.p; omega)
          · cases hcm1
            subst hcm
            exact go_over rfl (runStop he) (Ex.mut (eH13.trans e1315) hf0) upd_same hN6 (by rw [lastBad_snoc]; exact (effX_stop he).1)
    · have snap : ∀ {D : Ends} {σ : L2.St} {H'}, Ex H7 H' → clsX m = 0 → σ[7]? = some (some (.ref f)) → σ[11]? = some (some (.str (mrW m))) → σ[9]? = some (some (.int (ix : Int))) → σ[5]? = some (some (.ref c)) →
          (∀ H8 vs', Ex H' H8 → FdAll N H8 vs' (fd ++ [⟨mrT m, ix, .snap cs⟩]) → D.nx σ (upd H8 f (.lst vs'))) →
          tDrop (tBM K "list" rAppend (tVar 7) (tCons (tTup (tCons (tDGet2 (tDisp [(tC (.str (Str.ofString "row")), tC (.str (Str.ofString "begin")))]) (tVar 11) (tVar 11)) (tCons (tVar 9) (tCons (tCB (fun xs H Q => ∃ (a : Addr) (kvs : List (Key × V)), xs = [.ref a] ∧ Rd H a (.dK kvs) ∧ ∀ p, H p = none → Q (.ref p) (upd H p (.dK kvs))) (tCons (tVar 5) tNil)) tNil)))) tNil)) D σ H' := fun {D σ H'} e hcl h7 h11 h9 h5 q9 =>
        s_appSnap (N := N) (f := fd) (fun _ => ev_var h7) (e _ _ hf7) (ev_get1 (fun _ => ev_var h11) (fun _ => ev_var h11) (by
          cases m with
          | row => exact .inl ⟨rfl, rfl⟩
          | nothing => exact .inr ⟨(show Str.ofString "nothing" ≠ Str.ofString "row" by decide +kernel), rfl⟩
          | _ => cases hcl)) (fun _ => ev_var h9) (fun _ => ev_var h5) (e _ _ hc7) (newN (e47.trans e)) (hfd7.ex (fun _ z => z) fun a o _ ho => e a o ho) (by omega) fun H8 vs' e8 _ hfd8 => q9 H8 vs' e8 hfd8
      have mostE : clsX m = 0 → ∀ {σ : L2.St} {H'}, σ[3]? = some (some (.int mo)) → σ[11]? = some (some (.str (mrW m))) → Ev (tOp (rI0 fun i j => .int (i - j)) (tVar 3) (tCB (fun xs H Q => (∃ i, xs = [.int i] ∧ Q (.int i) H) ∨ ∃ k, xs = [.bl k] ∧ Q (.int (if k then 1 else 0)) H) (tCons (tOp rEq (tVar 11) (tC (.str (Str.ofString "row")))) tNil))) σ H' (.int (afterX m mo)) := fun hcl {σ H'} h3 h11 => ev_is (ev_op (ev_var h3) (ev_int1 (eqWB (ev_var h11) ev_c)) rv_I0) (congrArg V.int (afterX_is m mo hcl))
      cases m with
      | row =>
        by_cases hpe : p = []
        · subst hpe
          have he : effX rs ⟨cs, ks⟩ [] (.row, ix) = some (.on ⟨cs, ks⟩ [] (some (.snap cs))) := rfl
          refine q_if (b := true) (inU rfl (inRN .row)) (fun _ H8 e8 => ?_) (fun z => by cases z)
          refine q_asg (mostE rfl rfl rfl) fun H9 e9 => ?_
          refine q_when (b := false) (ev_ne0 (ev_var rfl) ((e8.trans e9) _ _ hp7)) (fun z => by cases z) (fun _ H10 e10 => ?_)
          have e710 := (e8.trans e9).trans e10
          refine snap e710 rfl rfl rfl rfl rfl fun H11 vs' e11 hfd11 => ?_
          obtain ⟨u1, u2, u3, u4, u5, u6⟩ := upF (e710.trans e11) hfd11
          exact go_on rfl rfl (runOn he) u1 u2 u3 u4 u5 u6 (hfine.snoc rfl) (by show cs.length + n ≤ 74000; omega) (by show ks.length + n ≤ 74000; omega) (by rw [List.length_append]; show fd.length + 1 + n ≤ 74000; omega) (by show 0 + n ≤ 74000; omega)
        · exact (noE (if_neg hpe)).elim
      | nothing =>
        by_cases hpe : p = []
        · subst hpe
          have he : effX rs ⟨cs, ks⟩ [] (.nothing, ix) = some (.stop (.snap cs)) := rfl
          refine q_if (b := true) (inU rfl (inRN .nothing)) (fun _ H8 e8 => ?_) (fun z => by cases z)
          refine q_asg (mostE rfl rfl rfl) fun H9 e9 => ?_
          refine q_when (b := false) (ev_ne0 (ev_var rfl) ((e8.trans e9) _ _ hp7)) (fun z => by cases z) (fun _ H10 e10 => ?_)
          have e710 := (e8.trans e9).trans e10
          refine snap e710 rfl rfl rfl rfl rfl fun H11 vs' e11 hfd11 => ?_
          obtain ⟨u1, u2, u3, u4, u5, u6⟩ := upF (e710.trans e11) hfd11
          exact go_over rfl (runStop he) u1 u5 u6 rfl
        · exact (noE (if_neg hpe)).elim
      | jump kk =>
        have hk0' := mok.jmp _ hmem kk (.inl rfl)
        have ek : ((kk.toNat : Nat) : Int) = kk := Int.toNat_of_nonneg hk0'
        refine q_if (b := false) (inU rfl (inRN (.jump kk))) (fun z => by cases z) (fun _ H8 e8 => ?_)
        refine s_ifQ (b := true) (inU rfl (inJU (.jump kk))) (fun _ H9 e9 => ?_) (fun z => by cases z)
        have e79 := e8.trans e9
        refine s_asg (v := .int ((kk.toNat : Nat) : Int)) (ev_if (b := true) (et_is (et_or (a := true) (b := true) (eqWT (c := Str.ofString "jump") (ev_var rfl) ev_c rfl (by decide +kernel)) fun z => by cases z) rfl) (fun _ => by rw [ek]; exact ev_ixTi (K := K) (j := 1) (ev_var rfl) (Td.tx (Tx.of e79) _ _ hT7) ev_c rfl) (fun z => by cases z)) fun H10 e10 => ?_
        have e710 := e79.trans e10
        exact go_on rfl rfl (runTo rfl) (eH7.trans e710) (e710 _ _ hp7) (e710 _ _ hc7) (e710 _ _ hk7) (e710 _ _ hf7) (hfd7.ex (fun _ z => z) fun a o _ ho => e710 a o ho) hfine (by show cs.length + n ≤ 74000; omega) (by show ks.length + n ≤ 74000; omega) (by omega) (by omega)
      | unless_ kk =>
        have hk0' := mok.jmp _ hmem kk (.inr rfl)
        have ek : ((kk.toNat : Nat) : Int) = kk := Int.toNat_of_nonneg hk0'
        cases hpo : pop p with
        | none => exact (noE (by show (pop p).map _ = _; rw [hpo] <;> rfl)).elim
        | some qy =>
          obtain ⟨p0, y⟩ := qy
          have ep := pop_out hpo
          subst ep
          have he : effX rs ⟨cs, ks⟩ (p0 ++ [y]) (.unless_ kk, ix) = some (if y = 0 then .to p0 kk else .on ⟨cs, ks⟩ p0 none) := by
            show (pop (p0 ++ [y])).map (fun q => if q.2 = 0 then XOut.to q.1 kk else XOut.on ⟨cs, ks⟩ q.1 none) = _
            rw [hpo] <;> rfl
          have lp0 : p0.length + 1 + (n + 1) ≤ 74000 := by rw [List.length_append] at lp; exact lp
          refine q_if (b := false) (inU rfl (inRN (.unless_ kk))) (fun z => by cases z) (fun _ H8 e8 => ?_)
          refine s_ifQ (b := true) (inU rfl (inJU (.unless_ kk))) (fun _ H9 e9 => ?_) (fun z => by cases z)
          have e79 := e8.trans e9
          by_cases hy : y = 0
          · rw [if_pos hy] at he
            refine s_asgPopIf (v := .int ((kk.toNat : Nat) : Int)) (eqWT (c := Str.ofString "unless") (ev_var rfl) ev_c rfl (by decide +kernel)) (fun _ => ev_var rfl) (e79 _ _ hp7) (fun _ H10 e10 => ?_) (fun z => absurd hy z) fun H10 H11 e10 e11 => ?_
            · rw [ek]
              exact ev_ixTi (K := K) (j := 1) (ev_var rfl) (upP (e79.trans e10) (Ex.refl _)).2.2.2.2.2.2 ev_c rfl
            · obtain ⟨u1, u2, u3, u4, u5, u6, _⟩ := upP (e79.trans e10) e11
              exact go_on rfl rfl (runTo he) u1 u2 u3 u4 u5 u6 hfine (by show cs.length + n ≤ 74000; omega) (by show ks.length + n ≤ 74000; omega) (by omega) (by omega)
          · rw [if_neg hy] at he
            have hrun' := runOn he
            rw [show fd ++ tell (mrT (.unless_ kk)) ix none = fd from List.append_nil fd, aft (by intro z; cases z)] at hrun'
            refine s_asgPopIf (v := .int ((i + 1 : Nat) : Int)) (eqWT (c := Str.ofString "unless") (ev_var rfl) ev_c rfl (by decide +kernel)) (fun _ => ev_var rfl) (e79 _ _ hp7) (fun z => absurd z hy) (fun _ H10 e10 => ev_var rfl) fun H10 H11 e10 e11 => ?_
            obtain ⟨u1, u2, u3, u4, u5, u6, _⟩ := upP (e79.trans e10) e11
            exact go_on rfl rfl hrun' u1 u2 u3 u4 u5 u6 hfine (by show cs.length + n ≤ 74000; omega) (by show ks.length + n ≤ 74000; omega) (by omega) (by omega)
      | push y =>
        have hrun' := runOn (s' := ⟨cs, ks⟩) (p' := p ++ [y]) (t := none) rfl
        rw [show fd ++ tell (mrT (.push y)) ix none = fd from List.append_nil fd, aft (by intro z; cases z)] at hrun'
        refine q_if (b := false) (inU rfl (inRN (.push y))) (fun z => by cases z) (fun _ H8 e8 => ?_)
        refine s_ifQ (b := false) (inU rfl (inJU (.push y))) (fun z => by cases z) (fun _ H9 e9 => ?_)
        refine s_ifQ (b := true) (inU rfl (inPL (.push y))) (fun _ H10 e10 => ?_) (fun z => by cases z)
        have e710 := (e8.trans e9).trans e10
        refine s_appI (v := y) (e710 _ _ hp7) (ev_var rfl) (ev_if (b := true) (eqWT (c := Str.ofString "push") (ev_var rfl) ev_c rfl (by decide +kernel)) (fun _ => ev_ixTi (K := K) (j := 1) (ev_var rfl) (Td.tx (Tx.of e710) _ _ hT7) ev_c rfl) (fun z => by cases z)) (by omega) fun H11 e11 => ?_
        obtain ⟨u1, u2, u3, u4, u5, u6, _⟩ := upP (p' := p ++ [y]) (e710.trans e11) (Ex.refl _)
        exact go_on rfl rfl hrun' u1 u2 u3 u4 u5 u6 hfine (by show cs.length + n ≤ 74000; omega) (by show ks.length + n ≤ 74000; omega) (by omega) (by rw [List.length_append]; show p.length + 1 + n ≤ 74000; omega)
      | load cc =>
        cases hv9 : val cs cc with
        | none => exact (noE (by show (val cs cc).map _ = _; rw [hv9] <;> rfl)).elim
        | some y =>
          have he : effX rs ⟨cs, ks⟩ p (.load cc, ix) = some (.on ⟨cs, ks⟩ (p ++ [y]) none) := by
            show (val cs cc).map _ = _
            rw [hv9] <;> rfl
          have hrun' := runOn he
          rw [show fd ++ tell (mrT (.load cc)) ix none = fd from List.append_nil fd, aft (by intro z; cases z)] at hrun'
          refine q_if (b := false) (inU rfl (inRN (.load cc))) (fun z => by cases z) (fun _ H8 e8 => ?_)
          refine s_ifQ (b := false) (inU rfl (inJU (.load cc))) (fun z => by cases z) (fun _ H9 e9 => ?_)
          refine s_ifQ (b := true) (inU rfl (inPL (.load cc))) (fun _ H10 e10 => ?_) (fun z => by cases z)
          have e710 := (e8.trans e9).trans e10
          refine s_appI (v := y) (e710 _ _ hp7) (ev_var rfl) (ev_if (b := false) (eqWT (c := Str.ofString "load") (ev_var rfl) ev_c rfl (by decide +kernel)) (fun z => by cases z) (fun _ => ev_cell (ev_var rfl) (ev_ixTi (K := K) (j := 1) (ev_var rfl) (Td.tx (Tx.of e710) _ _ hT7) ev_c rfl) (e710 _ _ hc7) hv9)) (by omega) fun H11 e11 => ?_
          obtain ⟨u1, u2, u3, u4, u5, u6, _⟩ := upP (p' := p ++ [y]) (e710.trans e11) (Ex.refl _)
          exact go_on rfl rfl hrun' u1 u2 u3 u4 u5 u6 hfine (by show cs.length + n ≤ 74000; omega) (by show ks.length + n ≤ 74000; omega) (by omega) (by rw [List.length_append]; show p.length + 1 + n ≤ 74000; omega)
      | store cc =>
        cases hpo : pop p with
        | none => exact (noE (by show (pop p).map _ = _; rw [hpo] <;> rfl)).elim
        | some qy =>
          obtain ⟨p0, y⟩ := qy
          have ep := pop_out hpo
          subst ep
          have he : effX rs ⟨cs, ks⟩ (p0 ++ [y]) (.store cc, ix) = some (.on ⟨aput cs cc y, ks⟩ p0 none) := by
            show (pop (p0 ++ [y])).map (fun q => XOut.on ⟨aput cs cc q.2, ks⟩ q.1 none) = _
            rw [hpo] <;> rfl
          have hrun' := runOn he
          rw [show fd ++ tell (mrT (.store cc)) ix none = fd from List.append_nil fd, aft (by intro z; cases z)] at hrun'
          have lp0 : p0.length + 1 + (n + 1) ≤ 74000 := by rw [List.length_append] at lp; exact lp
          have lpu := aput_len cs cc y
          refine q_if (b := false) (inU rfl (inRN (.store cc))) (fun z => by cases z) (fun _ H8 e8 => ?_)
          refine s_ifQ (b := false) (inU rfl (inJU (.store cc))) (fun z => by cases z) (fun _ H9 e9 => ?_)
          refine s_ifQ (b := false) (inU rfl (inPL (.store cc))) (fun z => by cases z) (fun _ H10 e10 => ?_)
          refine s_ifQ (b := true) (eqWT (c := Str.ofString "store") (ev_var rfl) ev_c rfl (by decide +kernel)) (fun _ H11 e11 => ?_) (fun z => by cases z)
          have e711 := ((e8.trans e9).trans e10).trans e11
          refine s_dputPop (k := cc) npc (ev_var rfl) (e711 _ _ hp7) (fun _ => ev_var rfl) (fun H12 H13 e12 e13 => ev_ixTi (K := K) (j := 1) (ev_var rfl) (upP (e711.trans e12) e13).2.2.2.2.2.2 ev_c rfl) (e711 _ _ hc7) (by omega) fun H12 H13 e12 e13 => ?_
          obtain ⟨u1, u2, u3, u4, u5, u6, _⟩ := upP (e711.trans e12) e13
          exact go_on rfl rfl hrun' (Ex.mut u1 hc0) (by rw [upd_ne npc]; exact u2) upd_same (by rw [upd_ne nck.symm]; exact u4) (by rw [upd_ne ncf.symm]; exact u5) (u6.ex (fun _ z => z) fun a o ha ho => by rw [hN] at ha; rw [upd_ne ha.2.2.1]; exact ho) hfine (by show (aput cs cc y).length + n ≤ 74000; omega) (by show ks.length + n ≤ 74000; omega) (by omega) (by omega)
      | _ => exact absurd rfl ht
end
end Wt

set_option Elab.async false
set_option linter.all false
set_option maxRecDepth 100000
set_option maxHeartbeats 4000000
namespace Wt
open PySem PySem.Spec PyProof.Rows L2 SX Evl
open C8 (Def Cal cal0 fnScope_by fnScope)
/-! What is drawn comes to an end; _law_parts_of. -/
theorem goal_nn (rs : List Rw) (k : Int) : 0 ≤ goal rs k := by
  unfold goal
  cases (labAt 0 rs).lookup k with
  | none => exact Int.le_refl 0
  | some i => exact Int.natCast_nonneg _
theorem call_of {r : Rw} {f n : Bool} {z : Nat} (h : Mr.call f n z ∈ rowsFor r) : ∃ oc cs, r = .call oc f n cs := by
  cases r with
  | call oc f2 n2 cs =>
    cases oc <;> (simp only [rowsFor, List.mem_append, List.mem_map, List.mem_cons, List.not_mem_nil, or_false] at h)
    · rcases h with ⟨_, _, h⟩ | h
      · cases h
      · cases h; exact ⟨_, _, rfl⟩
    · rcases h with (⟨_, _, h⟩ | h) | h
      · cases h
      · cases h; exact ⟨_, _, rfl⟩
      · cases h
  | give oc => cases oc <;> simp [rowsFor] at h
  | _ => simp [rowsFor] at h
theorem machine_ms (rs : List Rw) : MsOk rs (machine rs) := by
  have key : ∀ m ∈ machine rs, ∃ m0 r, rs[m.2]? = some r ∧ m0 ∈ rowsFor r ∧ m.1 = withNum (goal rs) m0 := fun m hm => by
    obtain ⟨m0, h0, rfl⟩ := List.mem_map.mp (show m ∈ (madeFrom 0 rs).map fun m => (withNum (goal rs) m.1, m.2) from hm)
    obtain ⟨j, r, hj, e, hr⟩ := madeFrom_mem h0
    have e2 : m0.2 = j := by omega
    exact ⟨m0.1, r, by show rs[m0.2]? = _; rw [e2]; exact hj, hr, rfl⟩
  refine ⟨fun m hm => ?_, fun m hm f n z hz => ?_, fun m hm k hk => ?_⟩
  · obtain ⟨_, r, h, _⟩ := key m hm
    exact (List.getElem?_eq_some_iff.mp h).1
  · obtain ⟨m0, r, h, hr, e⟩ := key m hm
    rw [hz] at e
    have e0 : m0 = .call f n z := by cases m0 <;> first | (exact e.symm) | (cases e)
    rw [e0] at hr
    obtain ⟨oc, cs, e1⟩ := call_of hr
    exact ⟨oc, cs, by rw [h, e1]⟩
  · obtain ⟨m0, r, h, hr, e⟩ := key m hm
    rcases hk with hk | hk
    · rw [hk] at e
      cases m0 <;> first | (cases e; exact goal_nn _ _) | (cases e)
    · rw [hk] at e
      cases m0 <;> first | (cases e; exact goal_nn _ _) | (cases e)
theorem pcs_val (ps : List Int) : ∀ {i j : Nat}, j < i → aval (pcs ps i) (j : Int) = some (ps.getD j 0)
  | i + 1, j, h => by
    rw [← pcs_succ, aval_put]
    by_cases e : j = i
    · rw [if_pos (by rw [e]), e]
    · rw [if_neg (fun z => e (by omega))]
      exact pcs_val ps (by omega)
theorem pcs_in (ps : List Int) : ∀ {i : Nat} {k x : Int}, aval (pcs ps i) k = some x → ∃ j, j < i ∧ x = ps.getD j 0
  | 0, k, x, h => by cases h
  | i + 1, k, x, h => by
    rw [← pcs_succ, aval_put] at h
    split at h
    · exact ⟨i, Nat.lt_succ_self i, (Option.some.inj h).symm⟩
    · obtain ⟨j, hj, e⟩ := pcs_in ps h
      exact ⟨j, by omega, e⟩
theorem OneOk.runsN {o : One} (h : OneOk o) {ps : List Int} (hl : ps.length = o.kinds.length) (hb : ∀ x ∈ ps, inB x = true) (most : Int) : ∃ F res, F ≤ (most + 1).toNat * 133 + 151 ∧ runM (o.rows.map Prod.fst) F most 0 ⟨pcs ps ps.length, []⟩ [] = some res := by
  have ok := h.rowsOk
  obtain ⟨body, A, lb, last, e, hbk, hla⟩ := h.rows
  obtain ⟨lab, hfl⟩ := Flow.ofBlk hbk
  have hst : stops last = true := by cases last <;> first | rfl | exact False.elim hla
  have hL : Flow lab A [last] [] := by
    cases last with
    | nothing => exact .row rfl (fun c hc => by cases hc) (fun k hk => by cases hk) (.nil fun c hc => by cases hc)
    | give oc =>
      cases oc with
      | none => exact .row rfl (fun c hc => by cases hc) (fun k hk => by cases hk) (.nil fun c hc => by cases hc)
      | some c => exact .row rfl (fun x hx => by rw [List.mem_singleton.mp hx]; exact hla) (fun k hk => by cases hk) (.nil fun c hc => by cases hc)
    | _ => exact False.elim hla
  have hF := (hfl lab fun _ _ _ => rfl).app hL
  rw [← e] at hF
  have hJ : JOk (o.rows.map Prod.fst) := by
    rw [e]
    exact (JOk.ofBlk hbk).app (.none fun r hr => by rw [List.mem_singleton.mp hr]; cases last <;> first | rfl | exact False.elim hla)
  have hS : ∀ (i : Nat) (r : Rw), (o.rows.map Prod.fst)[i]? = some r → stops r = false → i + 1 < (o.rows.map Prod.fst).length := fun i r hi hr => by
    rw [e] at hi ⊢
    rw [List.length_append, List.length_singleton]
    rcases Nat.lt_or_ge i body.length with z | z
    · omega
    · exfalso
      rw [List.getElem?_append_right z] at hi
      have hlt := (List.getElem?_eq_some_iff.mp hi).1
      have e0 : i - body.length = 0 := by rw [List.length_singleton] at hlt; omega
      rw [e0] at hi
      have e1 : last = r := Option.some.inj hi
      rw [← e1, hst] at hr
      cases hr
  have len : (o.rows.map Prod.fst).length ≤ 130 := by rw [List.length_map]; exact h.few
  have len1 : 0 < (o.rows.map Prod.fst).length := by rw [e, List.length_append, List.length_singleton]; omega
  have hrank := rank_le (o.rows.map Prod.fst) 0
  have hmul : (most + 1).toNat * ((o.rows.map Prod.fst).length + 3) ≤ (most + 1).toNat * 133 := Nat.mul_le_mul (Nat.le_refl _) (by omega)
  have hbd : Bd ⟨pcs ps ps.length, []⟩ := by
    refine ⟨fun k x hx => ?_, fun n x hx => ?_⟩
    · obtain ⟨j, hj, rfl⟩ := pcs_in ps hx
      rw [List.getD_eq_getElem?_getD, List.getElem?_eq_getElem hj]
      exact hb _ (List.getElem_mem hj)
    · cases hx
  have hhd : Hd (nats o.kinds.length) ⟨pcs ps ps.length, []⟩ := fun c hc => by
    obtain ⟨j, hj, rfl⟩ := List.mem_map.mp hc
    have := List.mem_range.mp hj
    exact ⟨_, pcs_val ps (by omega)⟩
  obtain ⟨F, res, hle, hrun⟩ := run_end hF hJ ok hS ((most + 1).toNat * 133 + 150) most 0 ⟨pcs ps ps.length, []⟩ [] (nats o.kinds.length) (by omega) len1 (by rw [List.drop_zero]; exact hF) hbd hhd
  exact ⟨F, res, hle, hrun⟩
theorem OneOk.runs {o : One} (h : OneOk o) {ps : List Int} (hl : ps.length = o.kinds.length) (hb : ∀ x ∈ ps, inB x = true) {most : Int} (hm : most ≤ 60) : ∃ F res, F ≤ 10000 ∧ runM (o.rows.map Prod.fst) F most 0 ⟨pcs ps ps.length, []⟩ [] = some res := by
  obtain ⟨F, res, hF, hr⟩ := h.runsN hl hb most
  have : (most + 1).toNat * 133 ≤ 61 * 133 := Nat.mul_le_mul (by omega) (Nat.le_refl _)
  exact ⟨F, res, by omega, hr⟩
section
variable {P : Program} {w : World} {K : PySem.W.Frag} {mg : Str → Option Value} {base : Heap}
theorem sn_appI {H : Hp} {σ : L2.St} {ta te : TE} {D : Ends} {l : Addr} {xs : List V} {C : V → Prop} (hl : H l = some (.lst xs)) (ha : Ev ta σ H (.ref l)) (h : EvN te σ H C) (hz : xs.length < 100000)
    (k : ∀ v H1, C v → Ex H H1 → D.nx σ (upd H1 l (.lst (xs ++ [v])))) : tDrop (tBM K "list" rAppend ta (tCons te tNil)) D σ H :=
  ha H (Ex.refl H) _ fun H1 e1 => ⟨Or.inl ⟨rfl, xs, sq_of (e1 l _ hl)⟩, h H1 e1 _ fun v H2 pv e2 => ⟨l, xs, v, rfl, rfl, e2 l _ (e1 l _ hl), sz_lt hz, k v H2 pv (e1.trans e2)⟩⟩
abbrev s__law_parts_of : Stmt := topS 27
theorem sc__law_parts_of : FnScope ["_law_row", "_law_made_here", "_law_found", "_law_kind", "_law_far"] ["_law_row", "_law_made_here"] (fnScope s__law_parts_of) := fnScope_by (by decide +kernel)
def spParts (K : PySem.W.Frag) : Sp := fun vs H Q _ => ∃ (d a : Addr) (ns : List Int) (v : V) (o : One), vs = [.ref d, v] ∧ Dc K H d a ns ∧ Td H v (oneD o) ∧ OneOk o ∧ ∀ p H2 ps, H p = none → Ex H H2 → H2 p = some (iL ps) → ps.length = o.kinds.length → (∀ x ∈ ps, inB x = true) → Q (.ref p) H2
theorem ok_parts (T : ModsI K mg) (c__law_taken : Cal P w K mg base 1 "_law_taken" (spNext K) []) {f : Addr} {fd : FuncData} (F : Def K mg "_law_parts_of" s__law_parts_of f fd) (b : Binds K fd ["_law_row", "_law_made_here"] []) : Cal P w K mg base 2 "_law_parts_of" (spParts K) [] := by
  refine cal0 F b .nil sc__law_parts_of (fun vs H Q E h => ?_) (fun cdv A outer s H vs Q E hr h => ?_)
  · obtain ⟨_, _, _, _, _, rfl, _⟩ := h
    rfl
  · obtain ⟨d, a, ns, v, o, rfl, hD, hv, ho, q⟩ := h

    have hu := hu_of hr
    refine ⟨_, (pss_cons (ps_set (i := 2) sc__law_parts_of.nd rfl (.inl rfl) (pe_lst pa_nil))
      (pss_cons (ps_for PassesOwn.never rfl (pi_tup (pe_ix ix_tup (pv 1) pe_int (fun _ _ => rfl))) (pg_name (i := 3) sc__law_parts_of.nd rfl (.inl rfl)) (pss_cons (ps_set (i := 4) sc__law_parts_of.nd rfl (.inl rfl) (pe_ix ix_list (pe_lst (pa_cons (C8.pe_c c__law_taken hr (by first | decide | exact Nat.le_refl _ | omega) (by rfl) (pa_cons (pv 0) (pa_cons pe_int pa_nil))) (pa_cons (pe_op op_sub pe_int (C8.pe_c c__law_taken hr (by first | decide | exact Nat.le_refl _ | omega) (by rfl) (pa_cons (pv 0) (pa_cons pe_int pa_nil)))) (pa_cons (C8.pe_c c__law_taken hr (by first | decide | exact Nat.le_refl _ | omega) (by rfl) (pa_cons (pv 0) (pa_cons (pe_op op_pow pe_int pe_int) pa_nil))) pa_nil)))) (C8.pe_c c__law_taken hr (by first | decide | exact Nat.le_refl _ | omega) (by rfl) (pa_cons (pv 0) (pa_cons pe_int pa_nil))) (fun _ _ => rfl)))
      (pss_one (ps_expr (pe_bm PySem.F.plainAttrs_list PySem.F.slot_list_append PySem.F.type_list_append mt_append (pv 2) (pa_cons (pe_ifExp (pt_cmpR op_eq (pv 3) pe_str (nomark _)) (C8.pe_c c__law_taken hr (by first | decide | exact Nat.le_refl _ | omega) (by rfl) (pa_cons (pv 0) (pa_cons pe_int pa_nil))) (pv 4)) pa_nil))))))
      (pss_one (ps_ret (pv 2))))), ?_⟩
    refine q_asgL (xs := []) (el_lst ea_nil (Nat.zero_le _)) fun l H1 hl0 e1 hl => ?_
    obtain ⟨x1, hx1, ev1⟩ := ev_ixTd (K := K) (σ := [some (.ref d), some v, some (.ref l), none, none]) (ta := tVar 1) (tb := tC (.int 1)) (j := 1) (ev_var rfl) (Td.tx (Tx.of e1) _ _ hv) ev_c rfl
    cases hx1 with
    | @tup ka xs _ hka hxs =>
    have lxs : xs.length = o.kinds.length := by rw [hxs.len, List.length_map]
    have hparts := ho.parts
    refine q_forT ev1 (st_of hka) (fun i σ' H' => ∃ y3 y4 ps, σ' = [some (.ref d), some v, some (.ref l), y3, y4] ∧ Ex H H' ∧ H' ka = some (.tup xs) ∧ H' l = some (iL ps) ∧ ps.length = i ∧ ∀ x ∈ ps, inB x = true)
      (fun H2 e2 => ⟨none, none, [], rfl, e1.trans e2, e2 _ _ hka, e2 _ _ hl, rfl, fun x hx => by cases hx⟩) (fun i σ' H' _ ⟨_, _, _, _, _, h, _⟩ => st_of h) ?_ ?_
    · rintro i x σ' H2 hx ⟨y3, y4, ps, rfl, e2, hka2, hl2, hlen, hin⟩
      have hi : i < o.kinds.length := by
        have := (List.getElem?_eq_some_iff.mp hx).1
        omega
      have hD2 := hD.ex e2
      obtain ⟨kb, hkb⟩ : ∃ kb, x = .str (kindS kb) := by
        obtain ⟨y, hy, hT⟩ := td_get (i := i) (d := .str (kindS o.kinds[i])) hxs (by rw [List.getElem?_map, List.getElem?_eq_getElem hi] <;> rfl)
        rw [hx] at hy
        cases hy
        cases hT
        exact ⟨_, rfl⟩
      subst hkb
      show tSeq _ _ _ ([some (.ref d), some v, some (.ref l), some (.str (kindS kb)), y4] : L2.St) H2
      have tk : ∀ {H' : Hp} {σ : L2.St} {t : TE} {m : Int}, Ex H2 H' → σ[0]? = some (some (.ref d)) → Ev t σ H' (.int m) → 0 < m → m ≤ 1000000 → EvN (tCall (spNext K) [] C8.E0 (tCons (tVar 0) (tCons t tNil))) σ H' (fun v => ∃ n : Int, v = .int n ∧ n.natAbs ≤ 1000000) := fun e e0 et m0 m1 => (en_next (hD2.ex e) (ev_var e0) et m0 (by omega)).imp fun v ⟨z, hz, z0, z1⟩ => ⟨z, hz, by omega⟩
      refine qn_asg (P := fun v => ∃ n : Int, v = .int n ∧ n.natAbs ≤ 1000000) (en_ixNL (K := K) (n := 3) (enl_lst (ean_cons (tk (Ex.refl _) rfl ev_c (by decide) (by decide)) (ean_cons (P := fun v => ∃ n : Int, v = .int n ∧ n.natAbs ≤ 1000000) (en_opV (EvN.of ev_c) (fun _ _ => tk (Ex.refl _) rfl ev_c (by decide) (by decide)) ?_) (ean_cons (tk (Ex.refl _) rfl (ev_op ev_c ev_c (rv_I ⟨by decide, by decide, by decide⟩)) (by decide) (by decide)) ean_nil))) ?_) (en_next hD2 (ev_var rfl) ev_c) ?_) fun v3 H3 hv3 e3 => ?_
      · rintro x y rfl ⟨z, rfl, hz⟩
        exact ⟨_, ⟨_, rfl, by omega⟩, rv_I0⟩
      · rintro l ⟨_, _, rfl, _, _, _, rfl, _, _, _, rfl, _, rfl⟩
        show 3 ≤ 100000
        decide
      · rintro l ⟨v1, _, rfl, h1, v2, _, rfl, h2, v3, _, rfl, h3, rfl⟩
        refine ⟨rfl, fun v hv => ?_⟩
        simp only [List.mem_cons, List.not_mem_nil, or_false] at hv
        rcases hv with rfl | rfl | rfl
        · exact h1
        · exact h2
        · exact h3
      obtain ⟨n, rfl, hn⟩ := hv3
      refine sn_appI (C := fun v => ∃ n : Int, v = .int n ∧ n.natAbs ≤ 1000000) (e3 _ _ hl2) (ev_var rfl) (en_if (b := kb) (eqWT (c := kindS kb) (ev_var rfl) ev_c rfl (by cases kb <;> decide +kernel)) (fun _ => tk e3 rfl ev_c (by decide) (by decide)) (fun _ => (EvN.of (ev_var rfl)).imp fun w hw => ⟨n, hw.symm ▸ rfl, hn⟩)) (by rw [List.length_map]; omega) fun v4 H4 hv4 e4 => ?_
      obtain ⟨z, rfl, hz⟩ := hv4
      have e24 := e3.trans e4
      have nkl : ka ≠ l := ne_of hka2 hl2 (by intro z; cases z)
      refine ⟨_, _, ps ++ [z], rfl, Ex.mut (e2.trans e24) hl0, by rw [upd_ne nkl]; exact e24 _ _ hka2, ?_, by rw [List.length_append, List.length_singleton, hlen], fun x hx => ?_⟩
      · rw [upd_same]
        show some (HO.lst (ps.map V.int ++ [V.int z])) = some (HO.lst ((ps ++ [z]).map V.int))
        rw [List.map_append] <;> rfl
      · rcases List.mem_append.mp hx with hx | hx
        · exact hin x hx
        · rw [List.mem_singleton.mp hx]
          exact inB_iff.mpr (by omega)
    · rintro σ' H2 ⟨y3, y4, ps, rfl, e2, hka2, hl2, hlen, hin⟩
      exact s_ret (ev_var rfl) fun H3 e3 => q l H3 ps hl0 (e2.trans e3) (e3 _ _ hl2) (by rw [hlen, lxs]) hin
end
end Wt

set_option Elab.async false
set_option linter.all false
set_option maxRecDepth 100000
set_option maxHeartbeats 4000000
namespace Wt
open PySem PySem.Spec PyProof.Rows L2 SX Evl
/-! What is found, as laws hold it against one another. -/
/-- a snapshot stands where a row begins or ends, and nowhere else; what is told is short -/
def Wf (e : Fd) : Prop := match e.rest with
  | .snap _ => inV (.str e.w) [V.str (Str.ofString "begin"), V.str (Str.ofString "nothing")] = true
  | .flat us => us.length ≤ 100
  | .call _ _ xs => xs.length ≤ 3
theorem eff_wf {s s' : Sx} {r : Rw} {x : Rest} {i : Nat} (hf : fewC r = true) (h : eff s r = some (.on s' (some x)) ∨ eff s r = some (.stop x)) : Wf ⟨rwW r, i, x⟩ := by
  cases x with
  | snap c =>
    show inV (.str (rwW r)) _ = true
    rw [inBN]
    cases r with
    | begin_ => rfl
    | nothing => rfl
    | put c n => rcases h with h | h <;> cases h
    | copy c d =>
      cases e : val s.c d with
      | none => rcases h with h | h <;> (have h' : (val s.c d).map (fun x => Out.on ⟨aput s.c c x, s.k⟩ none) = some _ := h; rw [e] at h'; cases h')
      | some x => rcases h with h | h <;> (rw [eff_copy e] at h; cases h)
    | op o c d e =>
      cases e1 : val s.c d with
      | none => rcases h with h | h <;> (have h' : (match val s.c d, val s.c e with | some x, some y => some (opOut o c s (reckon o x y)) | _, _ => none) = some _ := h; rw [e1] at h'; cases h')
      | some x =>
        cases e2 : val s.c e with
        | none => rcases h with h | h <;> (have h' : (match val s.c d, val s.c e with | some x, some y => some (opOut o c s (reckon o x y)) | _, _ => none) = some _ := h; rw [e1, e2] at h'; cases h')
        | some y =>
          cases e3 : reckon o x y with
          | inl v => rcases h with h | h <;> (rw [eff_op e1 e2, e3] at h; cases h)
          | inr b => rcases h with h | h <;> (rw [eff_op e1 e2, e3] at h; cases h)
    | fetch c f n => rcases h with h | h <;> cases h
    | lay n c =>
      cases e : val s.c c with
      | none => rcases h with h | h <;> (have h' : (val s.c c).map (fun x => Out.on ⟨s.c, aput s.k n x⟩ (some (.flat [.str (keepS n), .int x]))) = some _ := h; rw [e] at h'; cases h')
      | some x => rcases h with h | h <;> (rw [eff_lay e] at h; cases h)
    | label k => rcases h with h | h <;> cases h
    | go k => rcases h with h | h <;> cases h
    | unless_ c k =>
      cases e : val s.c c with
      | none => rcases h with h | h <;> (have h' : (val s.c c).map (fun x => if x = 0 then Out.to k else Out.on s none) = some _ := h; rw [e] at h'; cases h')
      | some x => rcases h with h | h <;> (rw [eff_unless e] at h; by_cases hx : x = 0 <;> simp [hx] at h)
    | call oc f n cs =>
      cases e : vals s.c cs with
      | none => rcases h with h | h <;> (have h' : (vals s.c cs).map (fun xs => Out.on ⟨callPut s.c oc (came xs), s.k⟩ (some (.call f n xs))) = some _ := h; rw [e] at h'; cases h')
      | some x => rcases h with h | h <;> (rw [eff_call e] at h; cases h)
    | say k c =>
      cases e : val s.c c with
      | none => rcases h with h | h <;> (have h' : (val s.c c).map (fun x => Out.on s (some (.flat [.str (kindS k), .int x]))) = some _ := h; rw [e] at h'; cases h')
      | some x => rcases h with h | h <;> (rw [eff_say e] at h; cases h)
    | give oc =>
      cases oc with
      | none => rcases h with h | h <;> cases h
      | some c =>
        cases e : val s.c c with
        | none => rcases h with h | h <;> (have h' : (val s.c c).map (fun x => Out.stop (.flat [.int x])) = some _ := h; rw [e] at h'; cases h')
        | some x => rcases h with h | h <;> (rw [eff_give e] at h; cases h)
  | flat us => exact told_len (s' := s') h
  | call f n xs =>
    show xs.length ≤ 3
    cases r with
    | call oc f2 n2 cs =>
      have hcs : cs.length ≤ 3 := of_decide_eq_true hf
      cases e : vals s.c cs with
      | none => rcases h with h | h <;> (have h' : (vals s.c cs).map (fun xs => Out.on ⟨callPut s.c oc (came xs), s.k⟩ (some (.call f2 n2 xs))) = some _ := h; rw [e] at h'; cases h')
      | some ys =>
        rcases h with h | h
        · rw [eff_call e] at h
          cases h
          rw [vals_len e]
          exact hcs
        · rw [eff_call e] at h
          cases h
    | begin_ => rcases h with h | h <;> cases h
    | nothing => rcases h with h | h <;> cases h
    | put c n => rcases h with h | h <;> cases h
    | copy c d =>
      cases e : val s.c d with
      | none => rcases h with h | h <;> (have h' : (val s.c d).map (fun x => Out.on ⟨aput s.c c x, s.k⟩ none) = some _ := h; rw [e] at h'; cases h')
      | some x => rcases h with h | h <;> (rw [eff_copy e] at h; cases h)
    | op o c d e =>
      cases e1 : val s.c d with
      | none => rcases h with h | h <;> (have h' : (match val s.c d, val s.c e with | some x, some y => some (opOut o c s (reckon o x y)) | _, _ => none) = some _ := h; rw [e1] at h'; cases h')
      | some x =>
        cases e2 : val s.c e with
        | none => rcases h with h | h <;> (have h' : (match val s.c d, val s.c e with | some x, some y => some (opOut o c s (reckon o x y)) | _, _ => none) = some _ := h; rw [e1, e2] at h'; cases h')
        | some y =>
          cases e3 : reckon o x y with
          | inl v => rcases h with h | h <;> (rw [eff_op e1 e2, e3] at h; cases h)
          | inr b => rcases h with h | h <;> (rw [eff_op e1 e2, e3] at h; cases h)
    | fetch c f n => rcases h with h | h <;> cases h
    | lay n c =>
      cases e : val s.c c with
      | none => rcases h with h | h <;> (have h' : (val s.c c).map (fun x => Out.on ⟨s.c, aput s.k n x⟩ (some (.flat [.str (keepS n), .int x]))) = some _ := h; rw [e] at h'; cases h')
      | some x => rcases h with h | h <;> (rw [eff_lay e] at h; cases h)
    | label k => rcases h with h | h <;> cases h
    | go k => rcases h with h | h <;> cases h
    | unless_ c k =>
      cases e : val s.c c with
      | none => rcases h with h | h <;> (have h' : (val s.c c).map (fun x => if x = 0 then Out.to k else Out.on s none) = some _ := h; rw [e] at h'; cases h')
      | some x => rcases h with h | h <;> (rw [eff_unless e] at h; by_cases hx : x = 0 <;> simp [hx] at h)
    | say k c =>
      cases e : val s.c c with
      | none => rcases h with h | h <;> (have h' : (val s.c c).map (fun x => Out.on s (some (.flat [.str (kindS k), .int x]))) = some _ := h; rw [e] at h'; cases h')
      | some x => rcases h with h | h <;> (rw [eff_say e] at h; cases h)
    | give oc =>
      cases oc with
      | none => rcases h with h | h <;> cases h
      | some c =>
        cases e : val s.c c with
        | none => rcases h with h | h <;> (have h' : (val s.c c).map (fun x => Out.stop (.flat [.int x])) = some _ := h; rw [e] at h'; cases h')
        | some x => rcases h with h | h <;> (rw [eff_give e] at h; cases h)
theorem runM_wf {rs : List Rw} (hc : ∀ r ∈ rs, fewC r = true) : ∀ (n : Nat) {most : Int} {i : Nat} {s : Sx} {f res : List Fd}, runM rs n most i s f = some res → (∀ e ∈ f, Wf e) → (∀ e ∈ res, Wf e) ∧ res.length ≤ f.length + n
  | 0, _, _, _, _, _, h, _ => by cases h
  | n + 1, most, i, s, f, res, h, hf => by
    rcases (show most < 0 ∨ 0 ≤ most by omega) with hm | hm
    · unfold runM at h
      rw [if_pos hm] at h
      cases h
      exact ⟨hf, by omega⟩
    cases hr : rs[i]? with
    | none =>
      unfold runM at h
      rw [if_neg (by omega), hr] at h
      cases h
    | some r =>
      have hfew := hc r (List.mem_of_getElem? hr)
      cases he : eff s r with
      | none =>
        unfold runM at h
        rw [if_neg (by omega), hr] at h
        have h2 : (match eff s r with | none => none | some (.on s' t) => runM rs n (after r most) (i + 1) s' (f ++ tell (rwW r) i t) | some (.to k) => (match (labAt 0 rs).lookup k with | some j => runM rs n most j s f | none => none) | some (.stop t) => some (f ++ [(⟨rwW r, i, t⟩ : Fd)])) = some res := h
        rw [he] at h2
        cases h2
      | some out =>
        cases out with
        | on s' t =>
          rw [runM_on hm hr he] at h
          have hft : ∀ e ∈ f ++ tell (rwW r) i t, Wf e := fun e hm => by
            rcases List.mem_append.mp hm with z | z
            · exact hf e z
            · cases t with
              | none => cases z
              | some x => rw [List.mem_singleton.mp z]; exact eff_wf hfew (.inl he)
          obtain ⟨h1, h2⟩ := runM_wf hc n h hft
          refine ⟨h1, ?_⟩
          rw [List.length_append] at h2
          have : (tell (rwW r) i t).length ≤ 1 := by cases t <;> (unfold tell; simp)
          omega
        | to k =>
          cases hl : (labAt 0 rs).lookup k with
          | none =>
            unfold runM at h
            rw [if_neg (by omega), hr] at h
            have h2 : (match eff s r with | none => none | some (.on s' t) => runM rs n (after r most) (i + 1) s' (f ++ tell (rwW r) i t) | some (.to k) => (match (labAt 0 rs).lookup k with | some j => runM rs n most j s f | none => none) | some (.stop t) => some (f ++ [(⟨rwW r, i, t⟩ : Fd)])) = some res := h
            rw [he] at h2
            have h3 : (match (labAt 0 rs).lookup k with | some j => runM rs n most j s f | none => none) = some res := h2
            rw [hl] at h3
            cases h3
          | some j =>
            rw [runM_to hm hr he hl] at h
            obtain ⟨h1, h2⟩ := runM_wf hc n h hf
            exact ⟨h1, by omega⟩
        | stop t =>
          rw [runM_stop hm hr he] at h
          have e2 := Option.some.inj h
          subst e2
          refine ⟨fun e hm => ?_, by rw [List.length_append, List.length_singleton]; omega⟩
          rcases List.mem_append.mp hm with z | z
          · exact hf e z
          · rw [List.mem_singleton.mp z]
            exact eff_wf (s' := s) hfew (.inr he)
/-! ### the projection: word, number, and the rest but at snapshots -/
def shows (e : Fd) : Bool := !inV (.str e.w) [V.str (Str.ofString "begin"), V.str (Str.ofString "nothing")]
def vD : V → PyData
  | .int i => .int i
  | .str s => .str s
  | .bl b => .bool b
  | _ => .none
def restD : Rest → List PyData
  | .snap _ => []
  | .flat vs => vs.map vD
  | .call f n xs => [.str (fS f), .str (nS n), .list (xs.map .int)]
def projD (e : Fd) : PyData := .tuple (.str e.w :: .int (e.at_ : Int) :: (if shows e = true then restD e.rest else []))
def PjR (H0 : Hp) (e : Fd) (ys : List V) : Prop := (shows e = false ∧ ys = []) ∨ (shows e = true ∧ RestV (fun _ => True) H0 ys e.rest)
def PjV (H0 H : Hp) (v : V) (e : Fd) : Prop := ∃ t ys, v = .ref t ∧ H t = some (.tup (.str e.w :: .int (e.at_ : Int) :: ys)) ∧ PjR H0 e ys
inductive PjAll (H0 H : Hp) : List V → List Fd → Prop
  | nil : PjAll H0 H [] []
  | cons {v e vs es} : PjV H0 H v e → PjAll H0 H vs es → PjAll H0 H (v :: vs) (e :: es)
theorem PjAll.tx {H0 H H' : Hp} {vs : List V} {f : List Fd} (h : PjAll H0 H vs f) (t : Tx H H') : PjAll H0 H' vs f := by
  induction h with
  | nil => exact .nil
  | cons h1 _ ih =>
    obtain ⟨u, ys, e, h2, h3⟩ := h1
    exact .cons ⟨u, ys, e, t _ _ h2, h3⟩ ih
theorem PjAll.snoc {H0 H : Hp} {vs : List V} {f : List Fd} {v : V} {e : Fd} (h : PjAll H0 H vs f) (g : PjV H0 H v e) : PjAll H0 H (vs ++ [v]) (f ++ [e]) := by
  induction h with
  | nil => exact .cons g .nil
  | cons h1 _ ih => exact .cons h1 ih
theorem PjAll.len {H0 H : Hp} {vs : List V} {f : List Fd} (h : PjAll H0 H vs f) : vs.length = f.length := by
  induction h with
  | nil => rfl
  | cons _ _ ih => rw [List.length_cons, List.length_cons, ih]
theorem FdAll.get {N : Addr → Prop} {H : Hp} {vs : List V} {f : List Fd} (h : FdAll N H vs f) : ∀ {i : Nat} {v : V}, vs[i]? = some v → ∃ e, f[i]? = some e ∧ FdV N H v e := by
  induction h with
  | nil => intro i v hv; simp at hv
  | cons h1 _ ih =>
    intro i v hv
    cases i with
    | zero => cases hv; exact ⟨_, rfl, h1⟩
    | succ i => exact ih hv
theorem flat_dp {K : PySem.W.Frag} {H : Hp} : ∀ {vs : List V}, vs.all flatV = true → DpAll K H vs (vs.map vD)
  | [], _ => .nil
  | v :: vs, h => by
    rw [List.all_cons, Bool.and_eq_true] at h
    refine .cons ?_ (flat_dp h.2)
    cases v with
    | int i => exact .int i
    | str s => exact .str s
    | bl b => exact .bl b
    | non => exact .non
    | _ => exact absurd h.1 Bool.false_ne_true
theorem ints_dp {K : PySem.W.Frag} {H : Hp} : ∀ xs : List Int, DpAll K H (xs.map V.int) (xs.map .int)
  | [] => .nil
  | x :: xs => .cons (.int x) (ints_dp xs)
theorem PjV.dp {K : PySem.W.Frag} {H0 H : Hp} {v : V} {e : Fd} (h : PjV H0 H v e) (x : Ex H0 H) (w : Wf e) : Dp K H v (projD e) := by
  obtain ⟨t, ys, rfl, ht, hr⟩ := h
  unfold projD
  rcases hr with ⟨hs, rfl⟩ | ⟨hs, hr⟩
  · rw [if_neg (by rw [hs]; exact Bool.false_ne_true)]
    exact .tup (st_of ht) (.cons (.str _) (.cons (.int _) .nil))
  · rw [if_pos hs]
    refine .tup (st_of ht) (.cons (.str _) (.cons (.int _) ?_))
    obtain ⟨ew, ea, er⟩ := e
    cases er with
    | snap c =>
      exfalso
      have hs' : (!inV (.str ew) [V.str (Str.ofString "begin"), V.str (Str.ofString "nothing")]) = true := hs
      have w' : inV (.str ew) [V.str (Str.ofString "begin"), V.str (Str.ofString "nothing")] = true := w
      rw [w'] at hs'
      cases hs'
    | flat us =>
      obtain ⟨rfl, h1, _⟩ := hr
      exact flat_dp h1
    | call f n xs =>
      obtain ⟨l, rfl, _, hl⟩ := hr
      exact .cons (.str _) (.cons (.str _) (.cons (.lst (sq_of (x _ _ hl)) (ints_dp xs)) .nil))
theorem PjAll.dp {K : PySem.W.Frag} {H0 H : Hp} {vs : List V} {f : List Fd} (h : PjAll H0 H vs f) (x : Ex H0 H) (w : ∀ e ∈ f, Wf e) : DpAll K H vs (f.map projD) := by
  induction h with
  | nil => exact .nil
  | cons h1 _ ih => exact .cons (h1.dp x (w _ (List.mem_cons_self ..))) (ih fun e he => w e (List.mem_cons_of_mem _ he))
/-! ### depth and width -/
theorem ints_flat : ∀ xs : List Int, PyData.depthAll (xs.map .int) ≤ 1 ∧ wideAll (xs.map .int) = true
  | [] => ⟨by show PyData.depthAll [] ≤ 1; unfold PyData.depthAll; omega, rfl⟩
  | x :: xs => by
    obtain ⟨h1, h2⟩ := ints_flat xs
    refine ⟨?_, ?_⟩
    · show PyData.depthAll (.int x :: xs.map .int) ≤ 1
      unfold PyData.depthAll
      have : (PyData.int x).depth ≤ 1 := by unfold PyData.depth; omega
      omega
    · show wideAll (.int x :: xs.map .int) = true
      unfold wideAll wideD
      rw [h2] <;> rfl
theorem vD_flat : ∀ vs : List V, PyData.depthAll (vs.map vD) ≤ 1 ∧ wideAll (vs.map vD) = true
  | [] => ⟨by show PyData.depthAll [] ≤ 1; unfold PyData.depthAll; omega, rfl⟩
  | v :: vs => by
    obtain ⟨h1, h2⟩ := vD_flat vs
    have h3 : (vD v).depth ≤ 1 ∧ wideD (vD v) = true := by
      cases v <;> (refine ⟨?_, rfl⟩; show PyData.depth _ ≤ 1; unfold vD PyData.depth; omega)
    refine ⟨?_, ?_⟩
    · show PyData.depthAll (vD v :: vs.map vD) ≤ 1
      unfold PyData.depthAll
      omega
    · show wideAll (vD v :: vs.map vD) = true
      unfold wideAll
      rw [h2, h3.2] <;> rfl
theorem rest_flat {e : Fd} (w : Wf e) : PyData.depthAll (restD e.rest) ≤ 3 ∧ wideAll (restD e.rest) = true ∧ (restD e.rest).length ≤ 100 := by
  obtain ⟨ew, ea, er⟩ := e
  cases er with
  | snap c => exact ⟨by show PyData.depthAll [] ≤ 3; unfold PyData.depthAll; omega, rfl, by show 0 ≤ 100; omega⟩
  | flat us =>
    obtain ⟨h1, h2⟩ := vD_flat us
    have w' : us.length ≤ 100 := w
    exact ⟨by show PyData.depthAll (us.map vD) ≤ 3; omega, h2, by show (us.map vD).length ≤ 100; rw [List.length_map]; exact w'⟩
  | call f n xs =>
    have w' : xs.length ≤ 3 := w
    obtain ⟨h1, h2⟩ := ints_flat xs
    refine ⟨?_, ?_, by show 3 ≤ 100; omega⟩
    · show PyData.depthAll [.str (fS f), .str (nS n), .list (xs.map .int)] ≤ 3
      have d1 : (PyData.str (fS f)).depth ≤ 1 := by unfold PyData.depth; omega
      have d2 : (PyData.str (nS n)).depth ≤ 1 := by unfold PyData.depth; omega
      have d3 : (PyData.list (xs.map .int)).depth ≤ 2 := by unfold PyData.depth; omega
      have d4 : PyData.depthAll [] ≤ 1 := by unfold PyData.depthAll; omega
      unfold PyData.depthAll
      unfold PyData.depthAll
      unfold PyData.depthAll
      omega
    · show wideAll [.str (fS f), .str (nS n), .list (xs.map .int)] = true
      unfold wideAll wideAll wideAll wideD
      rw [h2, List.length_map, decide_eq_true (by omega : xs.length ≤ 40000)] <;> rfl
theorem proj_flat {e : Fd} (w : Wf e) : (projD e).depth ≤ 4 ∧ wideD (projD e) = true := by
  obtain ⟨h1, h2, h3⟩ := rest_flat w
  have hr : ∃ ds, projD e = .tuple (.str e.w :: .int (e.at_ : Int) :: ds) ∧ PyData.depthAll ds ≤ 3 ∧ wideAll ds = true ∧ ds.length ≤ 100 := by
    unfold projD
    by_cases hs : shows e = true
    · rw [if_pos hs]; exact ⟨_, rfl, h1, h2, h3⟩
    · rw [if_neg hs]; exact ⟨[], rfl, by unfold PyData.depthAll; omega, rfl, by show 0 ≤ 100; omega⟩
  obtain ⟨ds, e1, d1, d2, d3⟩ := hr
  rw [e1]
  have a1 : (PyData.str e.w).depth ≤ 1 := by unfold PyData.depth; omega
  have a2 : (PyData.int (e.at_ : Int)).depth ≤ 1 := by unfold PyData.depth; omega
  refine ⟨?_, ?_⟩
  · unfold PyData.depth PyData.depthAll PyData.depthAll
    omega
  · unfold wideD wideAll wideAll wideD
    rw [d2, decide_eq_true (by show ds.length + 1 + 1 ≤ 40000; omega : (PyData.str e.w :: PyData.int (e.at_ : Int) :: ds).length ≤ 40000)] <;> rfl
theorem projs_flat : ∀ {f : List Fd}, (∀ e ∈ f, Wf e) → PyData.depthAll (f.map projD) ≤ 4 ∧ wideAll (f.map projD) = true
  | [], _ => ⟨by show PyData.depthAll [] ≤ 4; unfold PyData.depthAll; omega, rfl⟩
  | e :: f, w => by
    obtain ⟨h1, h2⟩ := proj_flat (w e (List.mem_cons_self ..))
    obtain ⟨h3, h4⟩ := projs_flat (f := f) fun x hx => w x (List.mem_cons_of_mem _ hx)
    refine ⟨?_, ?_⟩
    · show PyData.depthAll (projD e :: f.map projD) ≤ 4
      unfold PyData.depthAll
      omega
    · show wideAll (projD e :: f.map projD) = true
      unfold wideAll
      rw [h2, h4] <;> rfl
theorem projs_list {f : List Fd} (w : ∀ e ∈ f, Wf e) (h : f.length ≤ 40000) : PyData.depth (.list (f.map projD)) < 7 ∧ wideD (.list (f.map projD)) = true := by
  obtain ⟨h3, h4⟩ := projs_flat w
  refine ⟨?_, ?_⟩
  · unfold PyData.depth
    omega
  · unfold wideD
    rw [h4, List.length_map, decide_eq_true h] <;> rfl
section
variable {K : PySem.W.Frag} {σ : L2.St} {H H' : Hp} {ta tb te tc tl t0 t1 t2 tv : TE} {t : TT} {tr tr1 tr2 : TA} {D : Ends} {tz : TS} {E : XK} {Q : VK}
theorem cut_two {a b : V} {ys : List V} : cutV (a :: b :: ys) none (some 2) = [a, b] := by
  unfold cutV
  rw [show (some (2 : Int)) = some ((2 : Nat) : Int) from rfl, HT.sIx_nat, HT.sIx_none]
  have : min 2 (a :: b :: ys).length = 2 := by show min 2 (ys.length + 1 + 1) = 2; omega
  rw [this] <;> rfl
theorem cut_rest {a b : V} {ys : List V} : cutV (a :: b :: ys) (some 2) none = ys := by
  unfold cutV
  rw [show (some (2 : Int)) = some ((2 : Nat) : Int) from rfl, HT.sIx_nat, HT.sIx_none]
  have : min 2 (a :: b :: ys).length = 2 := by show min 2 (ys.length + 1 + 1) = 2; omega
  rw [this]
  show (ys).take ((ys.length + 1 + 1) - 2) = ys
  rw [show ys.length + 1 + 1 - 2 = ys.length by omega, List.take_length]
abbrev tProj (K : PySem.W.Frag) (tp : TE) : TE := tOp (rCatA K) (tSl (rSlA K) tp tNoPart (tPart (tC (.int 2)))) (tOp (rRepQ K) (tSl (rSlA K) tp (tPart (tC (.int 2))) tNoPart) (tCB (fun xs H Q => (∃ i, xs = [.int i] ∧ Q (.int i) H) ∨ ∃ k, xs = [.bl k] ∧ Q (.int (if k then 1 else 0)) H) (tCons (tOp (rIn K true) (tOp (rIxT K) tp (tC (.int 0))) (tTup (tCons (tC (.str (Str.ofString "begin"))) (tCons (tC (.str (Str.ofString "nothing"))) tNil)))) tNil)))
theorem pj_go {N : Addr → Prop} {H0 : Hp} {v : V} {e : Fd} (hp : ∀ H', Ev tb σ H' v) (h : FdV N H0 v e) (wf : Wf e) (x : Ex H0 H) (q : ∀ u H2, Ex H H2 → PjV H0 H2 u e → Q u H2) : tProj K tb σ H Q := by
  obtain ⟨t, xs, rfl, _, ht, hr⟩ := h
  have hne := hr.ne
  have lxs : 1 ≤ xs.length := by cases xs with
    | nil => exact absurd rfl hne
    | cons a b => show 1 ≤ b.length + 1; omega
  have lx : xs.length ≤ 100 := by
    obtain ⟨ew, ea, er⟩ := e
    cases er with
    | snap c' => obtain ⟨d, hd, _⟩ := hr; rw [hd]; show 1 ≤ 100; decide
    | call f' n' ws => obtain ⟨l, hd, _⟩ := hr; rw [hd]; show 3 ≤ 100; decide
    | flat us => obtain ⟨hd, _, _⟩ := hr; rw [hd]; exact wf
  have hx0 : ∀ {H'}, Ex H H' → H' t = some (.tup (.str e.w :: .int (e.at_ : Int) :: xs)) := fun y => (x.trans y) _ _ ht
  refine hp H H (Ex.refl H) _ fun H1 e1 => ?_
  refine ⟨2, rfl, t, _, rfl, st_of (hx0 e1), fun hh => ?_, fun _ p1 hp1 => ?_⟩
  · exfalso
    have := hh.2
    rw [show (some (2 : Int)) = some ((2 : Nat) : Int) from rfl, HT.sIx_nat] at this
    have l : (V.str e.w :: V.int (e.at_ : Int) :: xs).length = xs.length + 2 := rfl
    rw [l] at this
    omega
  rw [cut_two]
  have e2 := e1.trans (Ex.new (o := HO.tup [.str e.w, .int (e.at_ : Int)]) hp1)
  have hp1' : (upd H1 p1 (.tup [.str e.w, .int (e.at_ : Int)])) p1 = some (.tup [.str e.w, .int (e.at_ : Int)]) := upd_same
  generalize upd H1 p1 (.tup [.str e.w, .int (e.at_ : Int)]) = H2 at e2 hp1' ⊢
  refine hp H2 H2 (Ex.refl H2) _ fun H3 e3 => ?_
  have e23 := e2.trans e3
  refine ⟨2, rfl, t, _, rfl, st_of (hx0 e23), fun hh => ?_, fun _ p2 hp2 => ?_⟩
  · exfalso
    have := hh.1
    rw [show (some (2 : Int)) = some ((2 : Nat) : Int) from rfl, HT.sIx_nat] at this
    have l : (V.str e.w :: V.int (e.at_ : Int) :: xs).length = xs.length + 2 := rfl
    rw [l] at this
    omega
  rw [cut_rest]
  have e4 := e23.trans (Ex.new (o := HO.tup xs) hp2)
  have hp2' : (upd H3 p2 (.tup xs)) p2 = some (.tup xs) := upd_same
  have hp1'' : (upd H3 p2 (.tup xs)) p1 = some (.tup [.str e.w, .int (e.at_ : Int)]) := (e3.trans (Ex.new hp2)) _ _ hp1'
  generalize upd H3 p2 (.tup xs) = H4 at e4 hp2' hp1'' ⊢
  -- the number
  have en : Ev (tCB (fun xs H Q => (∃ i, xs = [.int i] ∧ Q (.int i) H) ∨ ∃ k, xs = [.bl k] ∧ Q (.int (if k then 1 else 0)) H) (tCons (tOp (rIn K true) (tOp (rIxT K) tb (tC (.int 0))) (tTup (tCons (tC (.str (Str.ofString "begin"))) (tCons (tC (.str (Str.ofString "nothing"))) tNil)))) tNil)) σ H4 (.int (if shows e = true then 1 else 0)) :=
    ev_int1 fun H5 e5 Q5 q5 => (ev_op (hp H5) ev_c (rv_ixT (st_of (hx0 (e4.trans e5))) (atI_nat (j := 0) rfl))) H5 (Ex.refl H5) _ fun H6 e6 =>
      (show EvU (tTup (tCons (tC (.str (Str.ofString "begin"))) (tCons (tC (.str (Str.ofString "nothing"))) tNil))) σ H6 [V.str (Str.ofString "begin"), V.str (Str.ofString "nothing")] from eu_tup (ea_cons ev_c (ea_cons ev_c ea_nil)) (by show 2 ≤ 100000; decide)) H6 (Ex.refl H6) _ fun p7 H7 hp70 e7 hp7 => ⟨p7, _, rfl, .inr (st_of hp7), rfl, rfl, q5 H7 (e6.trans e7)⟩
  refine en H4 (Ex.refl H4) _ fun H5 e5 => ?_
  have e45 := e4.trans e5
  refine ⟨p2, shows e, xs, rfl, rfl, st_of (e5 _ _ hp2'), hne, fun hs => ?_, fun hs p3 hp3 => ?_⟩
  · -- as it is
    refine ⟨p1, p2, [.str e.w, .int (e.at_ : Int)], xs, rfl, rfl, st_of (e5 _ _ hp1''), st_of (e5 _ _ hp2'), ?_, fun z => absurd z (List.cons_ne_nil _ _), fun _ z => absurd z hne, fun _ _ u hu => ?_⟩
    · exact sz_of (by show 2 + xs.length ≤ 100000; omega)
    · exact q _ _ (e45.trans (Ex.new hu)) ⟨u, xs, rfl, upd_same, .inr ⟨hs, hr.ex (fun _ _ => True.intro) fun _ _ _ z => z⟩⟩
  · -- nothing behind
    have e6 := Ex.new (o := HO.tup []) hp3
    refine ⟨p1, p3, [.str e.w, .int (e.at_ : Int)], [], rfl, rfl, st_of (e6 _ _ (e5 _ _ hp1'')), st_of upd_same, sz_of (by show 2 + 0 ≤ 100000; omega), fun z => absurd z (List.cons_ne_nil _ _), fun _ _ => ?_, fun _ z => absurd rfl z⟩
    exact q _ _ (e45.trans e6) ⟨p1, [], rfl, e6 _ _ (e5 _ _ hp1''), .inl ⟨hs, rfl⟩⟩
end
end Wt

set_option Elab.async false
set_option linter.all false
set_option maxRecDepth 100000
set_option maxHeartbeats 4000000
namespace Wt
open PySem PySem.Spec PyProof.Rows L2 SX Evl
open C8 (Def Cal cal0 fnScope_by fnScope)
/-! _law_cell_spots, _law_other. -/
/-- where a row's cells stand -/
def spots : Rw → List Nat
  | .op .. => [1, 2, 3]
  | .put .. => [1]
  | .fetch .. => [1]
  | .unless_ .. => [1]
  | .copy .. => [1, 2]
  | .lay .. => [2]
  | .say .. => [2]
  | .give _ => [1]
  | .call .. => [1]
  | _ => []
def isOp : Rw → Bool
  | .op .. => true
  | _ => false
def isOne : Rw → Bool
  | .put .. => true
  | .fetch .. => true
  | .unless_ .. => true
  | _ => false
theorem in_op (r : Rw) : inV (.str (rwW r)) [V.str (Str.ofString "add"), .str (Str.ofString "take"), .str (Str.ofString "times"), .str (Str.ofString "over"), .str (Str.ofString "rest"), .str (Str.ofString "less"), .str (Str.ofString "same")] = isOp r := by
  cases r with
  | op o => cases o <;> rfl
  | _ => rfl
theorem in_one (r : Rw) : inV (.str (rwW r)) [V.str (Str.ofString "put"), .str (Str.ofString "fetch"), .str (Str.ofString "unless")] = isOne r := by
  cases r with
  | op o => cases o <;> rfl
  | _ => rfl
/-- the last: a row's word among five -/
def five (l1 l2 l3 l4 l5 : Addr) : List (Key × V) := [(Sum.inr (Str.ofString "copy"), .ref l1), (Sum.inr (Str.ofString "lay"), .ref l2), (Sum.inr (Str.ofString "say"), .ref l3), (Sum.inr (Str.ofString "give"), .ref l4), (Sum.inr (Str.ofString "call"), .ref l5)]
theorem five_made (l1 l2 l3 l4 l5 : Addr) : mergeK [] (five l1 l2 l3 l4 l5) = five l1 l2 l3 l4 l5 := rfl
def fiveAt (l1 l2 l3 l4 l5 l6 : Addr) : Rw → Addr
  | .copy .. => l1
  | .lay .. => l2
  | .say .. => l3
  | .give _ => l4
  | .call .. => l5
  | _ => l6
theorem five_val (l1 l2 l3 l4 l5 l6 : Addr) (r : Rw) : (valV (five l1 l2 l3 l4 l5) (Sum.inr (rwW r) : Key)).getD (.ref l6) = .ref (fiveAt l1 l2 l3 l4 l5 l6 r) := by
  cases r with
  | op o => cases o <;> rfl
  | _ => rfl
section
variable {K : PySem.W.Frag} {σ : L2.St} {H H' : Hp} {ta tb te tc tl tk t0 t1 t2 tv : TE} {t : TT} {tr : TA} {D : Ends} {tz : TS} {E : XK} {Q : VK}
theorem edl_five {v : V} {r : Rw} (h0 : isOp r = false) (h1 : isOne r = false) (hw : ∀ H', Ex H H' → Ev tb σ H' (.str (rwW r))) : EvDL (tDGet2 (tDisp [(tC (.str (Str.ofString "copy")), tLst (tCons (tC (.int 1)) (tCons (tC (.int 2)) tNil))), (tC (.str (Str.ofString "lay")), tLst (tCons (tC (.int 2)) tNil)), (tC (.str (Str.ofString "say")), tLst (tCons (tC (.int 2)) tNil)), (tC (.str (Str.ofString "give")), tLst (tCons (tC (.int 1)) tNil)), (tC (.str (Str.ofString "call")), tLst (tCons (tC (.int 1)) tNil))]) tb (tLst tNil)) σ H ((spots r).map fun k : Nat => PyData.int (k : Int)) := fun H1 e Q q => fun p hp => by
  have e1 := Ex.new (o := HO.dK []) hp
  refine ⟨by show 2 ≤ sizeLine; decide, fun l1 h1' => ⟨by show 1 ≤ sizeLine; decide, fun l2 h2' => ⟨by show 1 ≤ sizeLine; decide, fun l3 h3' => ⟨by show 1 ≤ sizeLine; decide, fun l4 h4' => ⟨by show 1 ≤ sizeLine; decide, fun l5 h5' => ?_⟩⟩⟩⟩⟩
  have x1 := Ex.new (o := HO.lst [V.int 1, .int 2]) h1'
  have x2 := Ex.new (o := HO.lst [V.int 2]) h2'
  have x3 := Ex.new (o := HO.lst [V.int 2]) h3'
  have x4 := Ex.new (o := HO.lst [V.int 1]) h4'
  have x5 := Ex.new (o := HO.lst [V.int 1]) h5'
  have x15 := x1.trans (x2.trans (x3.trans (x4.trans x5)))
  have g1 := (x2.trans (x3.trans (x4.trans x5))) l1 _ upd_same
  have g2 := (x3.trans (x4.trans x5)) l2 _ upd_same
  have g3 := (x4.trans x5) l3 _ upd_same
  have g4 := x5 l4 _ upd_same
  have gp := x15 p _ upd_same
  have g5 : (upd (upd (upd (upd (upd (upd H1 p (.dK [])) l1 (.lst [V.int 1, .int 2])) l2 (.lst [V.int 2])) l3 (.lst [V.int 2])) l4 (.lst [V.int 1])) l5 (.lst [V.int 1])) l5 = some (.lst [V.int 1]) := upd_same
  have n1 : l1 ≠ p := (ne_of_none upd_same h1').symm
  have n2 : l2 ≠ p := (ne_of_none (x1 _ _ upd_same) h2').symm
  have n3 : l3 ≠ p := (ne_of_none ((x1.trans x2) _ _ upd_same) h3').symm
  have n4 : l4 ≠ p := (ne_of_none ((x1.trans (x2.trans x3)) _ _ upd_same) h4').symm
  have n5 : l5 ≠ p := (ne_of_none ((x1.trans (x2.trans (x3.trans x4))) _ _ upd_same) h5').symm
  have f1 : H1 l1 = none := fresh_back e1 h1'
  have f2 : H1 l2 = none := fresh_back (e1.trans x1) h2'
  have f3 : H1 l3 = none := fresh_back (e1.trans (x1.trans x2)) h3'
  have f4 : H1 l4 = none := fresh_back (e1.trans (x1.trans (x2.trans x3))) h4'
  have f5 : H1 l5 = none := fresh_back (e1.trans (x1.trans (x2.trans (x3.trans x4)))) h5'
  refine ⟨gp, five l1 l2 l3 l4 l5, rfl, by show 5 ≤ 15; decide, ?_⟩
  rw [five_made]
  have e16 := e1.trans x15
  generalize upd (upd (upd (upd (upd (upd H1 p (.dK [])) l1 (.lst [V.int 1, .int 2])) l2 (.lst [V.int 2])) l3 (.lst [V.int 2])) l4 (.lst [V.int 1])) l5 (.lst [V.int 1]) = H2 at g1 g2 g3 g4 g5 gp e16
  have e3 : Ex H1 (upd H2 p (.dK (five l1 l2 l3 l4 l5))) := Ex.mut e16 hp
  have g1' : (upd H2 p (.dK (five l1 l2 l3 l4 l5))) l1 = some (.lst [V.int 1, .int 2]) := by rw [upd_ne n1]; exact g1
  have g2' : (upd H2 p (.dK (five l1 l2 l3 l4 l5))) l2 = some (.lst [V.int 2]) := by rw [upd_ne n2]; exact g2
  have g3' : (upd H2 p (.dK (five l1 l2 l3 l4 l5))) l3 = some (.lst [V.int 2]) := by rw [upd_ne n3]; exact g3
  have g4' : (upd H2 p (.dK (five l1 l2 l3 l4 l5))) l4 = some (.lst [V.int 1]) := by rw [upd_ne n4]; exact g4
  have g5' : (upd H2 p (.dK (five l1 l2 l3 l4 l5))) l5 = some (.lst [V.int 1]) := by rw [upd_ne n5]; exact g5
  have gp' : (upd H2 p (.dK (five l1 l2 l3 l4 l5))) p = some (.dK (five l1 l2 l3 l4 l5)) := upd_same
  generalize upd H2 p (.dK (five l1 l2 l3 l4 l5)) = H3 at g1' g2' g3' g4' g5' gp' e3
  refine ⟨p, rfl, .inl ⟨_, .inl gp'⟩, hw H3 (e.trans e3) H3 (Ex.refl _) _ fun H4 e4 => ⟨Nat.zero_le _, fun l6 h6 => ?_⟩⟩
  have x6 := Ex.new (o := HO.lst []) h6
  refine ⟨_, DGet.k (k := (Sum.inr (rwW r) : Key)) ((e4.trans x6) _ _ gp'), ?_⟩
  rw [five_val l1 l2 l3 l4 l5 l6]
  have dI : ∀ {xs : List Int}, TdAll (upd H4 l6 (.lst [])) (xs.map V.int) (xs.map PyData.int) := fun {xs} => td_ints _
  have e6 := e3.trans (e4.trans x6)
  cases r with
  | copy c d => exact q l1 _ [.int 1, .int 2] f1 e6 ((e4.trans x6) _ _ g1') (dI (xs := [1, 2]))
  | lay n c => exact q l2 _ [.int 2] f2 e6 ((e4.trans x6) _ _ g2') (dI (xs := [2]))
  | say k c => exact q l3 _ [.int 2] f3 e6 ((e4.trans x6) _ _ g3') (dI (xs := [2]))
  | give oc => exact q l4 _ [.int 1] f4 e6 ((e4.trans x6) _ _ g4') (dI (xs := [1]))
  | call oc f n cs => exact q l5 _ [.int 1] f5 e6 ((e4.trans x6) _ _ g5') (dI (xs := [1]))
  | op o c d e => cases h0
  | put c n => cases h1
  | fetch c f n => cases h1
  | unless_ c k => cases h1
  | begin_ => exact q l6 _ [] (fresh_back (e3.trans e4) h6) e6 upd_same .nil
  | nothing => exact q l6 _ [] (fresh_back (e3.trans e4) h6) e6 upd_same .nil
  | label k => exact q l6 _ [] (fresh_back (e3.trans e4) h6) e6 upd_same .nil
  | go k => exact q l6 _ [] (fresh_back (e3.trans e4) h6) e6 upd_same .nil
end
section
variable {P : Program} {w : World} {K : PySem.W.Frag} {mg : Str → Option Value} {base : Heap}
abbrev s__law_cell_spots : Stmt := topS 28
theorem sc__law_cell_spots : FnScope ["_law_row"] ["_law_row"] (fnScope s__law_cell_spots) := fnScope_by (by decide +kernel)
def spSpots : Sp := fun vs H Q _ => ∃ (v : V) (r : Rw) (pl : Int × Int), vs = [v] ∧ Td H v (rpD (r, pl)) ∧ RetDL ((spots r).map fun k : Nat => PyData.int (k : Int)) H Q
theorem ok_spots (T : ModsI K mg) {f : Addr} {fd : FuncData} (F : Def K mg "_law_cell_spots" s__law_cell_spots f fd) (b : Binds K fd ["_law_row"] []) : Cal P w K mg base 1 "_law_cell_spots" spSpots [] := by
  refine cal0 F b .nil sc__law_cell_spots (fun vs H Q E h => ?_) (fun cdv A outer s H vs Q E hr h => ?_)
  · obtain ⟨_, _, _, rfl, _⟩ := h
    rfl
  · obtain ⟨v, r, pl, rfl, hv, q⟩ := h

    have hu := hu_of hr
    refine ⟨_, (pss_cons (ps_if (pt_cmpR op_in_seq (pe_ix ix_tup (pv 0) pe_int (fun _ _ => rfl)) (pe_tup (pa_cons pe_str (pa_cons pe_str (pa_cons pe_str (pa_cons pe_str (pa_cons pe_str (pa_cons pe_str (pa_cons pe_str pa_nil)))))))) (by with_unfolding_all rfl)) (pss_one (ps_ret (pe_lst (pa_cons pe_int (pa_cons pe_int (pa_cons pe_int pa_nil)))))) pss_nil)
      (pss_cons (ps_if (pt_cmpR op_in_seq (pe_ix ix_tup (pv 0) pe_int (fun _ _ => rfl)) (pe_tup (pa_cons pe_str (pa_cons pe_str (pa_cons pe_str pa_nil)))) (by with_unfolding_all rfl)) (pss_one (ps_ret (pe_lst (pa_cons pe_int pa_nil)))) pss_nil)
      (pss_one (ps_ret (pe_dget2 hu (pe_disp (pps_cons pe_str (pe_lst (pa_cons pe_int (pa_cons pe_int pa_nil))) (pps_cons pe_str (pe_lst (pa_cons pe_int pa_nil)) (pps_cons pe_str (pe_lst (pa_cons pe_int pa_nil)) (pps_cons pe_str (pe_lst (pa_cons pe_int pa_nil)) (pps_cons pe_str (pe_lst (pa_cons pe_int pa_nil)) pps_nil))))) (by rfl) (by rfl) (by simp) (by decide)) (pe_ix ix_tup (pv 0) pe_int (fun _ _ => rfl)) (pe_lst pa_nil) ⟨rfl, by rfl, by rfl, rfl⟩))))), ?_⟩
    have ew : ∀ {H'}, Ex H H' → Ev (tOp (rIxT K) (tVar 0) (tC (.int 0))) [some v] H' (.str (rwW r)) := fun e => ev_ixTs (K := K) (j := 0) (ev_var rfl) (Td.tx (Tx.of e) _ _ hv) ev_c rfl
    refine q_when (b := isOp r) (inWU (K := K) (c := rwW r) (ew (Ex.refl H)) (eu_tup (ea_cons ev_c (ea_cons ev_c (ea_cons ev_c (ea_cons ev_c (ea_cons ev_c (ea_cons ev_c (ea_cons ev_c ea_nil))))))) (by show 7 ≤ 100000; decide)) rfl rfl (in_op r)) (fun z H1 e1 => ?_) (fun z H1 e1 => ?_)
    · cases r with
      | op o c d e => exact s_retDL (Q := Q) (edl_lst (ead_cons (ed_int ev_c) (ead_cons (ed_int ev_c) (ead_cons (ed_int ev_c) ead_nil))) (by show 3 ≤ 100000; decide)) rfl (q.go e1)
      | _ => cases z
    refine q_when (b := isOne r) (inWU (K := K) (c := rwW r) (ew e1) (eu_tup (ea_cons ev_c (ea_cons ev_c (ea_cons ev_c ea_nil))) (by show 3 ≤ 100000; decide)) rfl rfl (in_one r)) (fun z2 H2 e2 => ?_) (fun z2 H2 e2 => ?_)
    · have : spots r = [1] := by
        cases r with
        | put c n => rfl
        | fetch c f n => rfl
        | unless_ c k => rfl
        | _ => cases z2
      rw [this] at q
      exact s_retDL (Q := Q) (edl_lst (ead_cons (ed_int ev_c) ead_nil) (by show 1 ≤ 100000; decide)) rfl (q.go (e1.trans e2))
    · exact s_retDL (Q := Q) (edl_five (v := v) z z2 (fun H' e' => ew ((e1.trans e2).trans e'))) rfl (q.go (e1.trans e2))
end
end Wt

set_option Elab.async false
set_option linter.all false
set_option maxRecDepth 100000
set_option maxHeartbeats 4000000
namespace Wt
open PySem PySem.Spec PyProof.Rows L2 SX Evl
open C8 (Def Cal cal0 fnScope_by fnScope)
/-! _law_other. -/
def rho (c : Cs) (k : Int) : Int := (aval c k).getD k
def rnD (ρ : Int → Int) : PyData → PyData
  | .int i => .int (ρ i)
  | d => d
def fillS (ρ : Int → Int) (ds : List PyData) (ks : List Nat) (acc : List PyData) : List PyData := ks.foldl (fun a k => a.set k (rnD ρ (ds.getD k .none))) acc
theorem fillS_snoc (ρ : Int → Int) (ds : List PyData) (ks : List Nat) (k : Nat) (acc : List PyData) : fillS ρ ds (ks ++ [k]) acc = (fillS ρ ds ks acc).set k (rnD ρ (ds.getD k .none)) := by
  unfold fillS
  rw [List.foldl_append] <;> rfl
theorem fillS_len (ρ : Int → Int) (ds : List PyData) : ∀ (ks : List Nat) (acc : List PyData), (fillS ρ ds ks acc).length = acc.length
  | [], _ => rfl
  | k :: ks, acc => by
    show (fillS ρ ds ks (acc.set k _)).length = _
    rw [fillS_len ρ ds ks, List.length_set]
def callOf : Rw → Option (List Int)
  | .call _ _ _ cs => some cs
  | _ => none
def labOf : Rw → Option (Nat × Int)
  | .label k => some (1, k)
  | .go k => some (1, k)
  | .unless_ _ k => some (2, k)
  | _ => none
def withCall (ρ : Int → Int) (r : Rw) (ds : List PyData) : List PyData := match callOf r with
  | some cs => ds.set 4 (.tuple ((cs.map .int).map (rnD ρ)))
  | none => ds
def withLab (sh : Int) (r : Rw) (ds : List PyData) : List PyData := match labOf r with
  | some x => ds.set x.1 (.int (sh - x.2))
  | none => ds
theorem ren_ds (ρ : Int → Int) (sh : Int) (r : Rw) (pl : Int × Int) : withLab sh r (withCall ρ r (fillS ρ (rpDs (r, pl)) (spots r) (rpDs (r, pl)))) = rpDs (renR ρ sh r, pl) := by
  cases r with
  | call oc f n cs =>
    have e : (cs.map PyData.int).map (rnD ρ) = (cs.map ρ).map PyData.int := by
      rw [List.map_map, List.map_map] <;> rfl
    cases oc with
    | none =>
      show [PyData.str (Str.ofString "call"), PyData.none, .str (fS f), .str (nS n), .tuple ((cs.map PyData.int).map (rnD ρ)), plD pl] = _
      rw [e] <;> rfl
    | some c =>
      show [PyData.str (Str.ofString "call"), PyData.int (ρ c), .str (fS f), .str (nS n), .tuple ((cs.map PyData.int).map (rnD ρ)), plD pl] = _
      rw [e] <;> rfl
  | give oc => cases oc <;> rfl
  | _ => rfl
theorem spots_at {r : Rw} {pl : Int × Int} {k : Nat} (h : k ∈ spots r) : ∃ d, (rpDs (r, pl))[k]? = some d ∧ (d = .none ∨ ∃ i, d = .int i) := by
  cases r with
  | op o c d e =>
    rcases List.mem_cons.mp h with rfl | h
    · exact ⟨_, rfl, .inr ⟨_, rfl⟩⟩
    rcases List.mem_cons.mp h with rfl | h
    · exact ⟨_, rfl, .inr ⟨_, rfl⟩⟩
    rw [List.mem_singleton.mp h]
    exact ⟨_, rfl, .inr ⟨_, rfl⟩⟩
  | copy c d =>
    rcases List.mem_cons.mp h with rfl | h
    · exact ⟨_, rfl, .inr ⟨_, rfl⟩⟩
    rw [List.mem_singleton.mp h]
    exact ⟨_, rfl, .inr ⟨_, rfl⟩⟩
  | give oc =>
    rw [List.mem_singleton.mp h]
    cases oc with
    | none => exact ⟨_, rfl, .inl rfl⟩
    | some c => exact ⟨_, rfl, .inr ⟨_, rfl⟩⟩
  | call oc f n cs =>
    rw [List.mem_singleton.mp h]
    cases oc with
    | none => exact ⟨_, rfl, .inl rfl⟩
    | some c => exact ⟨_, rfl, .inr ⟨_, rfl⟩⟩
  | put c n => rw [List.mem_singleton.mp h]; exact ⟨_, rfl, .inr ⟨_, rfl⟩⟩
  | fetch c f n => rw [List.mem_singleton.mp h]; exact ⟨_, rfl, .inr ⟨_, rfl⟩⟩
  | lay n c => rw [List.mem_singleton.mp h]; exact ⟨_, rfl, .inr ⟨_, rfl⟩⟩
  | say k c => rw [List.mem_singleton.mp h]; exact ⟨_, rfl, .inr ⟨_, rfl⟩⟩
  | unless_ c k => rw [List.mem_singleton.mp h]; exact ⟨_, rfl, .inr ⟨_, rfl⟩⟩
  | begin_ => cases h
  | nothing => cases h
  | label k => cases h
  | go k => cases h
theorem call_w (r : Rw) : decide (rwW r = Str.ofString "call") = (callOf r).isSome := by
  cases r with
  | op o => cases o <;> rfl
  | _ => rfl
theorem lab_w (r : Rw) : inV (.str (rwW r)) [V.str (Str.ofString "label"), .str (Str.ofString "go"), .str (Str.ofString "unless")] = (labOf r).isSome := by
  cases r with
  | op o => cases o <;> rfl
  | _ => rfl
theorem lab_at {r : Rw} {x : Nat × Int} (h : labOf r = some x) (pl : Int × Int) : (rpDs (r, pl))[x.1]? = some (.int x.2) ∧ (x.1 : Int) = 1 + (if decide (rwW r = Str.ofString "unless") = true then 1 else 0) := by
  cases r with
  | label k => cases h; exact ⟨rfl, rfl⟩
  | go k => cases h; exact ⟨rfl, rfl⟩
  | unless_ c k => cases h; exact ⟨rfl, rfl⟩
  | _ => cases h
theorem call_at {r : Rw} {cs : List Int} (h : callOf r = some cs) (pl : Int × Int) : (rpDs (r, pl))[4]? = some (.tuple (cs.map .int)) ∧ (rpDs (r, pl)).length = 6 := by
  cases r with
  | call oc f n cs2 => cases h; exact ⟨rfl, rfl⟩
  | _ => cases h
theorem td_set {H : Hp} : ∀ {vs : List V} {ds : List PyData} {k : Nat} {v : V} {d : PyData}, TdAll H vs ds → Td H v d → TdAll H (vs.set k v) (ds.set k d)
  | _, _, _, _, _, .nil, _ => .nil
  | _, _, 0, _, _, .cons _ b, g => .cons g b
  | _, _, k + 1, _, _, .cons a b, g => .cons a (td_set b g)
section
variable {K : PySem.W.Frag} {σ : L2.St} {H H' : Hp} {ta tb td te tc tl tk to ty t0 t1 t2 tv : TE} {t : TT} {tr : TA} {D : Ends} {tz : TS} {E : XK} {Q : VK}
theorem edl_listT {v : V} {ds : List PyData} (h : Ev te σ H v) (hv : Td H v (.tuple ds)) : EvDL (tCB (fun xs H Q => ∃ p ys, xs = [.ref p] ∧ (SqL K H p ys ∨ SqT K H p ys) ∧ ∀ l, H l = none → Q (.ref l) (upd H l (.lst ys))) (tCons te tNil)) σ H ds := fun H1 e Q q => by
  cases hv with
  | @tup a xs _ h1 h2 =>
    exact h H1 e _ fun H2 e2 => ⟨a, xs, rfl, .inr (st_of ((e.trans e2) _ _ h1)), fun l hl => q l _ xs (fresh_back e2 hl) (e2.trans (Ex.new hl)) upd_same (TdAll.tx (Tx.of ((e.trans e2).trans (Ex.new hl))) _ _ h2)⟩
theorem ed_tupDL {ds : List PyData} (h : EvDL te σ H ds) : EvD (tCB (fun xs H Q => ∃ p ys, xs = [.ref p] ∧ ((SqL K H p ys ∧ ∀ l, H l = none → Q (.ref l) (upd H l (.tup ys))) ∨ (SqT K H p ys ∧ Q (.ref p) H))) (tCons te tNil)) σ H (.tuple ds) := fun H1 e Q q =>
  h H1 e _ fun p H2 vs hp e2 h2 hT => ⟨p, vs, rfl, .inl ⟨sq_of h2, fun c hc => q _ _ (e2.trans (Ex.new hc)) (.tup upd_same (TdAll.tx (Tx.of (Ex.new hc)) _ _ hT))⟩⟩
theorem s_setD {d : PyData} {l : Addr} {k : Nat} {ws : List V} (h : EvD te σ H d) (ho : ∀ H', Ev to σ H' (.ref l)) (hk : ∀ H', Ex H H' → Ev tk σ H' (.int (k : Int))) (hl : H l = some (.lst ws)) (hlt : k < ws.length)
    (c : ∀ v H1, Ex H H1 → Td H1 v d → D.nx σ (upd H1 l (.lst (ws.set k v)))) : tAsg te (gSub to tk rSetL) D σ H := h H (Ex.refl H) _ fun v H1 e1 hv => ho H1 H1 (Ex.refl _) _ fun H2 e2 => hk H2 (e1.trans e2) H2 (Ex.refl _) _ fun H3 e3 => by
  have e13 := (e1.trans e2).trans e3
  refine ⟨l, ws, (k : Int), k, rfl, rfl, e13 _ _ hl, ?_, c v H3 e13 (Td.tx (Tx.of (e2.trans e3)) _ _ hv)⟩
  unfold ixN
  rw [if_pos (by omega), if_pos (by omega), Int.toNat_natCast]
theorem q_setD {d : PyData} {l : Addr} {k : Nat} {ws : List V} (h : EvD te σ H d) (ho : ∀ H', Ev to σ H' (.ref l)) (hk : ∀ H', Ex H H' → Ev tk σ H' (.int (k : Int))) (hl : H l = some (.lst ws)) (hlt : k < ws.length)
    (c : ∀ v H1, Ex H H1 → Td H1 v d → tz D σ (upd H1 l (.lst (ws.set k v)))) : tSeq (tAsg te (gSub to tk rSetL)) tz D σ H := s_setD (D := { D with nx := tz D }) h ho hk hl hlt c
theorem s_retD0 {d : PyData} (h : EvD te σ H d) (k : ∀ v H1, Ex H H1 → Td H1 v d → D.rt v H1) : tRet te D σ H := h H (Ex.refl H) _ k
/-- cells.get(x, x) -/
theorem ed_getN {cd : Addr} {c : Cs} {x : V} {d : PyData} (hd : Ev td σ H (.ref cd)) (hcd : H cd = some (.dK (cV c))) (hy : ∀ H', Ex H H' → Ev ty σ H' x) (hx : Td H x d) (h : d = .none ∨ ∃ i, d = .int i) : EvD (tDGetN td ty ty) σ H (rnD (rho c) d) := fun H1 e Q q =>
  hd H1 e _ fun H2 e2 => ⟨cd, rfl, .inl ⟨_, .inl ((e.trans e2) _ _ hcd)⟩, hy H2 (e.trans e2) H2 (Ex.refl _) _ fun H3 e3 => hy H3 ((e.trans e2).trans e3) H3 (Ex.refl _) _ fun H4 e4 => by
    have e14 := e2.trans (e3.trans e4)
    rcases h with rfl | ⟨i, rfl⟩
    · cases hx
      exact .inr ⟨_, rfl, .inl ((e.trans e14) _ _ hcd), q _ H4 e14 .non⟩
    · cases hx
      refine .inl ⟨_, DGet.k (k := (Sum.inl i : Key)) ((e.trans e14) _ _ hcd), ?_⟩
      rw [cV_val]
      have z := q (.int (rho c i)) H4 e14 (.int _)
      unfold rho at z
      cases ho : aval c i with
      | none => rw [ho] at z; exact z
      | some y => rw [ho] at z; exact z⟩
theorem ev_getI {cd : Addr} {c : Cs} {i : Int} (hd : Ev td σ H (.ref cd)) (hcd : H cd = some (.dK (cV c))) (hy : ∀ H', Ex H H' → Ev ty σ H' (.int i)) : Ev (tDGet2 td ty ty) σ H (.int (rho c i)) := fun H1 e Q q =>
  hd H1 e _ fun H2 e2 => ⟨cd, rfl, .inl ⟨_, .inl ((e.trans e2) _ _ hcd)⟩, hy H2 (e.trans e2) H2 (Ex.refl _) _ fun H3 e3 => hy H3 ((e.trans e2).trans e3) H3 (Ex.refl _) _ fun H4 e4 => by
    have e14 := e2.trans (e3.trans e4)
    refine ⟨_, DGet.k (k := (Sum.inl i : Key)) ((e.trans e14) _ _ hcd), ?_⟩
    rw [cV_val]
    have z := q H4 e14
    unfold rho at z
    cases ho : aval c i with
    | none => rw [ho] at z; exact z
    | some y => rw [ho] at z; exact z⟩
end
section
variable {P : Program} {w : World} {K : PySem.W.Frag} {mg : Str → Option Value} {base : Heap}
abbrev s__law_other : Stmt := topS 29
theorem sc__law_other : FnScope ["_law_made_here", "_law_cells", "_law_shift", "_law_found", "_law_row", "_law_new", "_law_k", "_law_at", "_law_names", "_law_name", "_law_cell"] ["_law_made_here", "_law_cells", "_law_shift"] (fnScope s__law_other) := fnScope_by (by decide +kernel)
def renP (c : Cs) (sh : Int) (rp : Rp) : Rp := (renR (rho c) sh rp.1, rp.2)
def othDs (o : One) (c : Cs) (sh : Int) : List PyData := [.str (Str.ofString "da"), .tuple (o.kinds.map fun b => .str (kindS b)), .str o.kind, .bool true, .tuple ((o.rows.map (renP c sh)).map rpD), .tuple (((List.range o.many).map (nameD o.kinds.length)).map fun d => match d with | .tuple [a, b, .int i, x, y] => .tuple [a, b, .int (rho c i), x, y] | d => d)]
def spOther (K : PySem.W.Frag) : Sp := fun vs H Q _ => ∃ (v : V) (cd : Addr) (c : Cs) (sh : Int) (o : One), vs = [v, .ref cd, .int sh] ∧ Td H v (oneD o) ∧ H cd = some (.dK (cV c)) ∧ OneOk o ∧ ∀ vo H2, Ex H H2 → Td H2 vo (.tuple (othDs o c sh)) → Q vo H2
theorem cut2 {a b c d e : PyData} : cutP [a, b, c, d, e] none (some 2) = [a, b] := by
  unfold cutP
  rw [show (some (2 : Int)) = some ((2 : Nat) : Int) from rfl, HT.sIx_nat, HT.sIx_none] <;> rfl
theorem cut3 {a b c d e : PyData} : cutP [a, b, c, d, e] (some 3) none = [d, e] := by
  unfold cutP
  rw [show (some (3 : Int)) = some ((3 : Nat) : Int) from rfl, HT.sIx_nat, HT.sIx_none] <;> rfl
theorem ok_other (T : ModsI K mg) (c__law_cell_spots : Cal P w K mg base 1 "_law_cell_spots" spSpots []) {f : Addr} {fd : FuncData} (F : Def K mg "_law_other" s__law_other f fd) (b : Binds K fd ["_law_made_here", "_law_cells", "_law_shift"] []) : Cal P w K mg base 2 "_law_other" (spOther K) [] := by
  refine cal0 F b .nil sc__law_other (fun vs H Q E h => ?_) (fun cdv A outer s H vs Q E hr h => ?_)
  · obtain ⟨_, _, _, _, _, rfl, _⟩ := h
    rfl
  · obtain ⟨v, cd, c, sh, o, rfl, hv, hcd, ho, q⟩ := h
    have m_list := T.m_list
    have m_tuple := T.m_tuple
    have m_int := T.m_int
    have hu := hu_of hr
    refine ⟨_, (pss_cons (ps_set (i := 3) sc__law_other.nd rfl (.inl rfl) (pe_lst pa_nil))
      (pss_cons (ps_for PassesOwn.never rfl (pi_tup (pe_ix ix_tup (pv 0) pe_int (fun _ _ => rfl))) (pg_name (i := 4) sc__law_other.nd rfl (.inl rfl)) (pss_cons (ps_set (i := 5) sc__law_other.nd rfl (.inl rfl) (pe_callTy call_list_of (by rfl) m_list Wt.bt_list (pa_cons (pv 4) pa_nil)))
      (pss_cons (ps_for PassesOwn.never rfl (pi_list (C8.pe_c c__law_cell_spots hr (by first | decide | exact Nat.le_refl _ | omega) (by rfl) (pa_cons (pv 4) pa_nil))) (pg_name (i := 6) sc__law_other.nd rfl (.inl rfl)) (pss_one (ps_asg (Wt.pe_dgetN hu (pv 1) (pe_ix ix_tup (pv 4) (pv 6) (fun _ _ => rfl)) (pe_ix ix_tup (pv 4) (pv 6) (fun _ _ => rfl)) ⟨rfl, by rfl, by rfl, rfl⟩) (pg_sub (pv 5) (pv 6) set_list))))
      (pss_cons (ps_if (pt_cmpR op_eq (pe_ix ix_tup (pv 4) pe_int (fun _ _ => rfl)) pe_str (nomark _)) (pss_one (ps_asg (pe_callTy call_tuple_of (by rfl) m_tuple Wt.bt_tuple (pa_cons (pe_lc (own := [("_law_cell", 10)]) (g := (gName 10)) (tt := tYes) rfl sc__law_other.nd (pi_tup (pe_ix ix_tup (pv 4) pe_int (fun _ _ => rfl))) (blkOk_by (N := ["_law_made_here", "_law_cells", "_law_shift", "_law_found", "_law_row", "_law_new", "_law_k", "_law_at", "_law_names", "_law_name", "_law_cell"]) (sc := C8.fnScope s__law_other) (by decide +kernel)) (fun _ _ _ _ _ => pg_name (i := 10) sc__law_other.nd rfl (Or.inl rfl)) (fun _ _ _ _ _ => pts_nil) (fun _ _ _ _ _ => (pe_dget2 hu (pv 1) (pv 10) (pv 10) ⟨rfl, by rfl, by rfl, rfl⟩))) pa_nil)) (pg_sub (pv 5) pe_int set_list))) pss_nil)
      (pss_cons (ps_if (pt_cmpR op_in_seq (pe_ix ix_tup (pv 4) pe_int (fun _ _ => rfl)) (pe_tup (pa_cons pe_str (pa_cons pe_str (pa_cons pe_str pa_nil)))) (by with_unfolding_all rfl)) (pss_cons (ps_set (i := 7) sc__law_other.nd rfl (.inl rfl) (pe_op op_add pe_int (pe_callTy call_int1 (by rfl) m_int Wt.bt_int (pa_cons (pe_cmpR op_eq (pe_ix ix_tup (pv 4) pe_int (fun _ _ => rfl)) pe_str (nomark _)) pa_nil))))
      (pss_one (ps_asg (pe_op op_sub (pv 2) (pe_ix ix_tup (pv 4) (pv 7) (fun _ _ => rfl))) (pg_sub (pv 5) (pv 7) set_list)))) pss_nil)
      (pss_one (ps_expr (pe_bm PySem.F.plainAttrs_list PySem.F.slot_list_append PySem.F.type_list_append mt_append (pv 3) (pa_cons (pe_callTy call_tuple_of (by rfl) m_tuple Wt.bt_tuple (pa_cons (pv 5) pa_nil)) pa_nil)))))))))
      (pss_cons (ps_set (i := 8) sc__law_other.nd rfl (.inl rfl) (pe_callTy call_tuple_of (by rfl) m_tuple Wt.bt_tuple (pa_cons (pe_lc (own := [("_law_name", 9)]) (g := (gName 9)) (tt := tYes) rfl sc__law_other.nd (pi_tup (pe_ix ix_tup (pv 0) pe_int (fun _ _ => rfl))) (blkOk_by (N := ["_law_made_here", "_law_cells", "_law_shift", "_law_found", "_law_row", "_law_new", "_law_k", "_law_at", "_law_names", "_law_name", "_law_cell"]) (sc := C8.fnScope s__law_other) (by decide +kernel)) (fun _ _ _ _ _ => pg_name (i := 9) sc__law_other.nd rfl (Or.inl rfl)) (fun _ _ _ _ _ => pts_nil) (fun _ _ _ _ _ => (pe_op (show OpR _ (binaryOp .Add) (rCatA K) from op_catA) (pe_op (show OpR _ (binaryOp .Add) (rCatA K) from op_catA) (pe_slice (show SlR _ (rSlA K) from sl_tupA) (pv 9) po_none (po_some pe_int)) (pe_tup (pa_cons (pe_dget2 hu (pv 1) (pe_ix (show IxR _ (rIxT K) from ix_tup) (pv 9) pe_int (fun _ _ => rfl)) (pe_ix (show IxR _ (rIxT K) from ix_tup) (pv 9) pe_int (fun _ _ => rfl)) ⟨rfl, by rfl, by rfl, rfl⟩) pa_nil))) (pe_slice (show SlR _ (rSlA K) from sl_tupA) (pv 9) (po_some pe_int) po_none)))) pa_nil)))
      (pss_one (ps_ret (pe_op op_catA (pe_slice sl_tupA (pv 0) po_none (po_some pe_int)) (pe_tup (pa_cons (pe_callTy call_tuple_of (by rfl) m_tuple Wt.bt_tuple (pa_cons (pv 3) pa_nil)) (pa_cons (pv 8) pa_nil))))))))), ?_⟩
    have hfew := ho.few
    have hmany := ho.many
    refine q_asgL (xs := []) (el_lst ea_nil (Nat.zero_le _)) fun fl H1 hf0 e1 hf1 => ?_
    obtain ⟨x4, hx4, ev4⟩ : ∃ x4, Td H x4 (.tuple (o.rows.map rpD)) ∧ ∀ {σ : L2.St} {H'}, Ex H H' → σ[0]? = some (some v) → Ev (tOp (rIxT K) (tVar 0) (tC (.int 4))) σ H' x4 := by
      cases hv with
      | @tup a xs _ h1 h2 =>
        obtain ⟨x, hx, hT⟩ := td_get h2 (i := 4) (d := .tuple (o.rows.map rpD)) rfl
        exact ⟨x, hT, fun e h0 => ev_op (ev_var h0) ev_c (rv_ixT (st_of (e _ _ h1)) (atI_nat (j := 4) hx))⟩
    cases hx4 with
    | @tup ra xs _ hra hxs =>
    have lxs : xs.length = o.rows.length := by rw [hxs.len, List.length_map]
    refine q_forT (ev4 e1 rfl) (st_of (e1 _ _ hra)) (fun i σ' H' => ∃ (y4 y5 y6 y7 y8 y9 y10 : Option V) (vs : List V), σ' = [some v, some (.ref cd), some (.int sh), some (.ref fl), y4, y5, y6, y7, y8, y9, y10] ∧ Ex H H' ∧ H' fl = some (.lst vs) ∧ TdAll H' vs (((o.rows.take i).map (renP c sh)).map rpD))
      (fun H2 e2 => ⟨_, _, _, _, _, _, _, [], rfl, e1.trans e2, e2 _ _ hf1, .nil⟩) (fun i σ' H' _ ⟨_, _, _, _, _, _, _, _, _, e, _, _⟩ => st_of (e _ _ hra)) ?_ ?_
    · rintro i x σ' H2 hx ⟨y4, y5, y6, y7, y8, y9, y10, vs, rfl, e2, hf2, hvs2⟩
      have hi : i < o.rows.length := by
        have := (List.getElem?_eq_some_iff.mp hx).1
        omega
      obtain ⟨⟨r, pl⟩, hrp⟩ : ∃ rp, o.rows[i]? = some rp := ⟨_, List.getElem?_eq_getElem hi⟩
      have hxT : Td H x (rpD (r, pl)) := by
        obtain ⟨y, hy, hT⟩ := td_get hxs (i := i) (d := rpD (r, pl)) (by rw [List.getElem?_map, hrp] <;> rfl)
        rw [hx] at hy
        cases hy
        exact hT
      have lvs : vs.length = i := by rw [hvs2.len, List.length_map, List.length_map, List.length_take]; omega
      have htake : ((o.rows.take (i + 1)).map (renP c sh)).map rpD = ((o.rows.take i).map (renP c sh)).map rpD ++ [rpD (renR (rho c) sh r, pl)] := by
        rw [List.take_succ, hrp]
        simp only [Option.toList_some, List.map_append, List.map_cons, List.map_nil]
        rfl
      have hxat : ∀ {H'} {j : Nat} {d : PyData}, Ex H H' → (rpDs (r, pl))[j]? = some d → ∃ y, Td H y d ∧ ∀ {σ : L2.St} {tk : TE} {H''}, Ex H H'' → σ[4]? = some (some x) → Ev tk σ H'' (.int (j : Int)) → Ev (tOp (rIxT K) (tVar 4) tk) σ H'' y := by
        intro H' j d _ hd
        cases hxT with
        | @tup a us _ h1 h2 =>
          obtain ⟨y, hy, hT⟩ := td_get h2 (i := j) (d := d) hd
          exact ⟨y, hT, fun e h0 hk => ev_op (ev_var h0) hk (rv_ixT (st_of (e _ _ h1)) (atI_nat hy))⟩
      show tSeq _ _ _ ([some v, some (.ref cd), some (.int sh), some (.ref fl), some x, y5, y6, y7, y8, y9, y10] : L2.St) H2
      refine q_asgDL (ds := rpDs (r, pl)) (edl_listT (ev_var rfl) (Td.tx (Tx.of e2) _ _ hxT)) fun nl H3 ws hn0 e3 hn3 hws => ?_
      have e23 := e2.trans e3
      have hn0' : H nl = none := fresh_back e2 hn0
      have hf3 := e3 _ _ hf2
      have nfn : fl ≠ nl := ne_of_none hf2 hn0
      have hvs3 := TdAll.tx (Tx.of e3) _ _ hvs2
      -- cells
      refine q_forDL (ds := (spots r).map fun k : Nat => PyData.int (k : Int)) (edl_callRet (ea_cons (ev_var rfl) ea_nil) fun H4 e4 Q4 q4 => ⟨x, r, pl, rfl, Td.tx (Tx.of (e23.trans e4)) _ _ hxT, q4⟩) fun sl H4 sv hs0 e4 hs4 hsv => ?_
      have e24 := e23.trans e4
      have nsn : sl ≠ nl := (ne_of_none hn3 hs0).symm
      have lsv : sv.length = (spots r).length := by rw [hsv.len, List.length_map]
      refine ⟨fun j σ' H' => ∃ (y6 : Option V) (ws : List V), σ' = [some v, some (.ref cd), some (.int sh), some (.ref fl), some x, some (.ref nl), y6, y7, y8, y9, y10] ∧ Ex H H' ∧ H' fl = some (.lst vs) ∧ TdAll H' vs (((o.rows.take i).map (renP c sh)).map rpD) ∧ H' sl = some (.lst sv) ∧ H' nl = some (.lst ws) ∧ TdAll H' ws (fillS (rho c) (rpDs (r, pl)) ((spots r).take j) (rpDs (r, pl))),
        ⟨_, ws, rfl, e24, e4 _ _ hf3, TdAll.tx (Tx.of e4) _ _ hvs3, hs4, e4 _ _ hn3, TdAll.tx (Tx.of e4) _ _ hws⟩, fun j σ' H' _ ⟨_, _, _, _, _, _, h, _⟩ => sq_of h, ?_, ?_⟩
      · rintro j x6 σ' H5 hx6 ⟨z6, ws5, rfl, e5, hf5, hvs5, hs5, hn5, hws5⟩
        have hj : j < (spots r).length := by
          have := (List.getElem?_eq_some_iff.mp hx6).1
          omega
        obtain ⟨k, hk⟩ : ∃ k, (spots r)[j]? = some k := ⟨_, List.getElem?_eq_getElem hj⟩
        have hx6k : x6 = .int (k : Int) := by
          obtain ⟨y, hy, hT⟩ := td_get hsv (i := j) (d := .int (k : Int)) (by rw [List.getElem?_map, hk] <;> rfl)
          rw [hx6] at hy
          cases hy
          cases hT
          rfl
        subst hx6k
        obtain ⟨d, hd, hdi⟩ := spots_at (pl := pl) (List.mem_of_getElem? hk)
        obtain ⟨y, hyT, evy⟩ := hxat e5 hd
        have lws : ws5.length = (rpDs (r, pl)).length := by rw [hws5.len, fillS_len]
        have hkl := (List.getElem?_eq_some_iff.mp hd).1
        refine s_setD (d := rnD (rho c) d) (ed_getN (cd := cd) (c := c) (x := y) (ev_var rfl) (e5 _ _ hcd) (fun H' e' => evy (e5.trans e') rfl (ev_var rfl)) (Td.tx (Tx.of e5) _ _ hyT) hdi) (fun _ => ev_var rfl) (fun _ _ => ev_var rfl) hn5 (by omega) fun v6 H6 e6 hv6 => ?_
        have e56 := e5.trans e6
        have tx : Tx H6 (upd H6 nl (.lst (ws5.set k v6))) := Tx.lst (e6 _ _ hn5)
        refine ⟨_, ws5.set k v6, rfl, Ex.mut e56 hn0', by rw [upd_ne nfn]; exact e6 _ _ hf5, TdAll.tx ((Tx.of e6).trans tx) _ _ hvs5, by rw [upd_ne nsn]; exact e6 _ _ hs5, upd_same, ?_⟩
        rw [List.take_succ, hk]
        show TdAll _ _ (fillS (rho c) (rpDs (r, pl)) ((spots r).take j ++ [k]) (rpDs (r, pl)))
        rw [fillS_snoc, List.getD_eq_getElem?_getD, hd]
        exact td_set (TdAll.tx ((Tx.of e6).trans tx) _ _ hws5) (Td.tx tx _ _ hv6)
      rintro σ' H5 ⟨z6, ws5, rfl, e5, hf5, hvs5, hs5, hn5, hws5⟩
      rw [lsv, List.take_length] at hws5
      have evw : ∀ {σ : L2.St} {H'}, Ex H H' → σ[4]? = some (some x) → Ev (tOp (rIxT K) (tVar 4) (tC (.int 0))) σ H' (.str (rwW r)) := fun e h0 => ev_ixTs (K := K) (j := 0) (ev_var h0) (Td.tx (Tx.of e) _ _ hxT) ev_c rfl
      -- the rest, whatever the list
      have fin : ∀ {H' : Hp} {D : Ends} {z6 z7 : Option V} {ws : List V}, D.nx = (fun σ' H' => ∃ (y4 y5 y6 y7 y8 y9 y10 : Option V) (vs : List V), σ' = [some v, some (.ref cd), some (.int sh), some (.ref fl), y4, y5, y6, y7, y8, y9, y10] ∧ Ex H H' ∧ H' fl = some (.lst vs) ∧ TdAll H' vs (((o.rows.take (i + 1)).map (renP c sh)).map rpD)) →
          Ex H H' → H' fl = some (.lst vs) → TdAll H' vs (((o.rows.take i).map (renP c sh)).map rpD) → H' nl = some (.lst ws) → TdAll H' ws (withLab sh r (withCall (rho c) r (fillS (rho c) (rpDs (r, pl)) (spots r) (rpDs (r, pl))))) →
          tDrop (tBM K "list" rAppend (tVar 3) (tCons (tCB (fun xs H Q => ∃ p ys, xs = [.ref p] ∧ ((SqL K H p ys ∧ ∀ l, H l = none → Q (.ref l) (upd H l (.tup ys))) ∨ (SqT K H p ys ∧ Q (.ref p) H))) (tCons (tVar 5) tNil)) tNil)) D [some v, some (.ref cd), some (.int sh), some (.ref fl), some x, some (.ref nl), z6, z7, y8, y9, y10] H' := fun {H' D z6 z7 ws} hDn eH hf hvs hn hws => by
        rw [ren_ds] at hws
        refine s_appD (d := rpD (renR (rho c) sh r, pl)) hf (ev_var rfl) (ed_tupleOfL (K := K) (ev_var rfl) hn hws) (by omega) fun v5 H6 e6 hv5 => ?_
        rw [hDn]
        have tx : Tx H6 (upd H6 fl (.lst (vs ++ [v5]))) := Tx.lst (e6 _ _ hf)
        refine ⟨_, _, _, _, _, _, _, vs ++ [v5], rfl, Ex.mut (eH.trans e6) hf0, upd_same, ?_⟩
        rw [htake]
        exact (TdAll.tx ((Tx.of e6).trans tx) _ _ hvs).snoc (Td.tx tx _ _ hv5)
      -- labels
      have labl : ∀ {H' : Hp} {D : Ends} {z6 : Option V} {ws : List V}, D.nx = (fun σ' H' => ∃ (y4 y5 y6 y7 y8 y9 y10 : Option V) (vs : List V), σ' = [some v, some (.ref cd), some (.int sh), some (.ref fl), y4, y5, y6, y7, y8, y9, y10] ∧ Ex H H' ∧ H' fl = some (.lst vs) ∧ TdAll H' vs (((o.rows.take (i + 1)).map (renP c sh)).map rpD)) →
          Ex H H' → H' fl = some (.lst vs) → TdAll H' vs (((o.rows.take i).map (renP c sh)).map rpD) → H' nl = some (.lst ws) → TdAll H' ws (withCall (rho c) r (fillS (rho c) (rpDs (r, pl)) (spots r) (rpDs (r, pl)))) →
          tSeq (tIfS (tTest (tOp (rIn K false) (tOp (rIxT K) (tVar 4) (tC (.int 0))) (tTup (tCons (tC (.str (Str.ofString "label"))) (tCons (tC (.str (Str.ofString "go"))) (tCons (tC (.str (Str.ofString "unless"))) tNil)))))) (tSeq (tAsg (tOp (rI0 fun i j => .int (i + j)) (tC (.int 1)) (tCB (fun xs H Q => (∃ i, xs = [.int i] ∧ Q (.int i) H) ∨ ∃ k, xs = [.bl k] ∧ Q (.int (if k then 1 else 0)) H) (tCons (tOp rEq (tOp (rIxT K) (tVar 4) (tC (.int 0))) (tC (.str (Str.ofString "unless")))) tNil))) (gName 7)) (tAsg (tOp (rI0 fun i j => .int (i - j)) (tVar 2) (tOp (rIxT K) (tVar 4) (tVar 7))) (gSub (tVar 5) (tVar 7) rSetL))) tNext)
            (tDrop (tBM K "list" rAppend (tVar 3) (tCons (tCB (fun xs H Q => ∃ p ys, xs = [.ref p] ∧ ((SqL K H p ys ∧ ∀ l, H l = none → Q (.ref l) (upd H l (.tup ys))) ∨ (SqT K H p ys ∧ Q (.ref p) H))) (tCons (tVar 5) tNil)) tNil))) D [some v, some (.ref cd), some (.int sh), some (.ref fl), some x, some (.ref nl), z6, y7, y8, y9, y10] H' := fun {H' D z6 ws} hDn eH hf hvs hn hws => by
        refine q_if (b := (labOf r).isSome) (inWU (K := K) (c := rwW r) (evw eH rfl) (eu_tup (ea_cons ev_c (ea_cons ev_c (ea_cons ev_c ea_nil))) (by show 3 ≤ 100000; decide)) rfl rfl (lab_w r)) (fun hz H6 e6 => ?_) (fun hz H6 e6 => ?_)
        · obtain ⟨x7, hx7⟩ := Option.isSome_iff_exists.mp hz
          obtain ⟨hat, hnum⟩ := lab_at hx7 pl
          have e06 := eH.trans e6
          obtain ⟨y, hyT, evy⟩ := hxat e06 hat
          cases hyT
          refine q_asg (v := .int (x7.1 : Int)) (ev_is (ev_op ev_c (ev_int1 (eqW (evw e06 rfl) ev_c)) rv_I0) ?_) fun H7 e7 => ?_
          · refine congrArg V.int ?_
            rw [hnum]
            have : decide (V.str (rwW r) = V.str (Str.ofString "unless")) = decide (rwW r = Str.ofString "unless") := by
              by_cases e : rwW r = Str.ofString "unless"
              · rw [decide_eq_true e, decide_eq_true (congrArg V.str e)]
              · rw [decide_eq_false e, decide_eq_false (fun z => e (V.str.inj z))]
            rw [this]
          have e07 := e06.trans e7
          have hn7 := (e6.trans e7) _ _ hn
          have hws7 := TdAll.tx (Tx.of (e6.trans e7)) _ _ hws
          have hlt : x7.1 < ws.length := by
            have h1 := (List.getElem?_eq_some_iff.mp hat).1
            have h2 : ∀ ds : List PyData, (withCall (rho c) r ds).length = ds.length := fun ds => by
              unfold withCall
              cases callOf r with
              | none => rfl
              | some cs => exact List.length_set
            rw [hws.len, h2, fillS_len]
            exact h1
          refine s_setD (d := .int (sh - x7.2)) (ed_int (ev_op (ev_var rfl) (evy e07 rfl (ev_var rfl)) rv_I0)) (fun _ => ev_var rfl) (fun _ _ => ev_var rfl) hn7 hlt fun v8 H8 e8 hv8 => ?_
          have tx : Tx H8 (upd H8 nl (.lst (ws.set x7.1 v8))) := Tx.lst (e8 _ _ hn7)
          refine fin hDn (Ex.mut (e07.trans e8) hn0') (by rw [upd_ne nfn]; exact ((e6.trans e7).trans e8) _ _ hf) (TdAll.tx (((Tx.of (e6.trans e7)).trans (Tx.of e8)).trans tx) _ _ hvs) upd_same ?_
          unfold withLab
          rw [hx7]
          exact td_set (TdAll.tx ((Tx.of e8).trans tx) _ _ hws7) (Td.tx tx _ _ hv8)
        · refine fin hDn (eH.trans e6) (e6 _ _ hf) (TdAll.tx (Tx.of e6) _ _ hvs) (e6 _ _ hn) ?_
          have hnone : labOf r = none := by
            cases h : labOf r with
            | none => rfl
            | some y => rw [h] at hz; cases hz
          unfold withLab
          rw [hnone]
          exact TdAll.tx (Tx.of e6) _ _ hws
      refine q_if (b := (callOf r).isSome) (eqWT (c := rwW r) (evw e5 rfl) ev_c rfl (call_w r)) (fun hz H6 e6 => ?_) (fun hz H6 e6 => ?_)
      · obtain ⟨cs, hcs⟩ := Option.isSome_iff_exists.mp hz
        obtain ⟨hat, hlen⟩ := call_at hcs pl
        have lcs : cs.length ≤ 3 := by
          have h1 := ho.rowsOk.cs r (List.mem_map_of_mem (List.mem_of_getElem? hrp))
          cases r with
          | call oc f n cs2 => cases hcs; exact of_decide_eq_true h1
          | _ => cases hcs
        have e06 := e5.trans e6
        obtain ⟨y, hyT, evy⟩ := hxat e06 hat
        have hlt : 4 < ws5.length := by rw [hws5.len, fillS_len, hlen]; decide
        refine s_setD (k := 4) (d := .tuple ((cs.map PyData.int).map (rnD (rho c)))) (ed_tupDL (edl_lcTD (K := K) (ds := cs.map PyData.int) (f := rnD (rho c)) (ed_of (evy (tk := tC (.int 4)) e06 rfl ev_c) (Td.tx (Tx.of e06) _ _ hyT)) (by rw [List.length_map]; omega) (fun _ => rfl) fun x9 dd H7 e7 hd hx9 => ?_)) (fun _ => ev_var rfl) (fun _ _ => ev_c) (e6 _ _ hn5) hlt fun v8 H8 e8 hv8 => ?_
        · obtain ⟨ci, _, rfl⟩ := List.mem_map.mp hd
          cases hx9
          exact ed_int (ev_getI (cd := cd) (ev_var rfl) ((e06.trans e7) _ _ hcd) (fun _ _ => ev_var rfl))
        · have tx : Tx H8 (upd H8 nl (.lst (ws5.set 4 v8))) := Tx.lst ((e6.trans e8) _ _ hn5)
          refine labl rfl (Ex.mut (e06.trans e8) hn0') (by rw [upd_ne nfn]; exact (e6.trans e8) _ _ hf5) (TdAll.tx ((Tx.of (e6.trans e8)).trans tx) _ _ hvs5) upd_same ?_
          unfold withCall
          rw [hcs]
          exact td_set (TdAll.tx ((Tx.of (e6.trans e8)).trans tx) _ _ hws5) (Td.tx tx _ _ hv8)
      · refine labl rfl (e5.trans e6) (e6 _ _ hf5) (TdAll.tx (Tx.of e6) _ _ hvs5) (e6 _ _ hn5) ?_
        have hnone : callOf r = none := by
          cases h : callOf r with
          | none => rfl
          | some y => rw [h] at hz; cases hz
        unfold withCall
        rw [hnone]
        exact TdAll.tx (Tx.of e6) _ _ hws5
    · rintro σ' H2 ⟨y4, y5, y6, y7, y8, y9, y10, vs, rfl, e2, hf2, hvs2⟩
      rw [lxs, List.take_length] at hvs2
      have hv2 := Td.tx (Tx.of e2) _ _ hv
      refine q_asgD (d := .tuple (((List.range o.many).map (nameD o.kinds.length)).map fun d => match d with | .tuple [a, b, .int i, x, y] => .tuple [a, b, .int (rho c i), x, y] | d => d)) (ed_tupDL (edl_lcTD (K := K) (ds := (List.range o.many).map (nameD o.kinds.length)) (f := fun d => match d with | .tuple [a, b, .int i, x, y] => .tuple [a, b, .int (rho c i), x, y] | d => d) (ed_ixTd (K := K) (j := 5) (ev_var rfl) hv2 ev_c rfl) (by rw [List.length_map, List.length_range]; omega) (fun _ => rfl) fun x dd H3 e3 hd hx => ?_)) fun v8 H3 e3 hv8 => ?_
      · obtain ⟨kk, _, rfl⟩ := List.mem_map.mp hd
        have ei : ∀ {H'}, Ex H3 H' → Ev (tOp (rIxT K) (tVar 9) (tC (.int 2))) _ H' (.int ((o.kinds.length + kk : Nat) : Int)) := fun e => ev_ixTi (K := K) (σ := (wipe [some v, some (.ref cd), some (.int sh), some (.ref fl), y4, y5, y6, y7, y8, y9, y10] [9]).set 9 (some x)) (j := 2) (ev_var rfl) (Td.tx (Tx.of e) _ _ hx) ev_c rfl
        exact ed_catDD (K := K) (ed_catDD (K := K) (ed_slT (K := K) (ev_var rfl) hx eo_none (eo_some ev_c) cut2) (List.cons_ne_nil _ _) (by show 2 ≤ 100; decide) (ed_tup (ead_cons (ed_int (ev_getI (cd := cd) (c := c) (ev_var rfl) ((e2.trans e3) _ _ hcd) (fun H' e' => ei e'))) ead_nil) (by show 1 ≤ 100000; decide)) (List.cons_ne_nil _ _) (by show 1 ≤ 100; decide)) (List.cons_ne_nil _ _) (by show 3 ≤ 100; decide) (ed_slT (K := K) (ev_var rfl) hx (eo_some ev_c) eo_none cut3) (List.cons_ne_nil _ _) (by show 2 ≤ 100; decide)
      have hv3 := Td.tx (Tx.of e3) _ _ hv2
      have hcut : cutP (oneDs o) none (some 4) = [.str (Str.ofString "da"), .tuple (o.kinds.map fun b => .str (kindS b)), .str o.kind, .bool true] := by
        unfold cutP
        rw [show (some (4 : Int)) = some ((4 : Nat) : Int) from rfl, HT.sIx_nat, HT.sIx_none] <;> rfl
      refine s_retD0 (ed_catDD (K := K) (ed_slT (K := K) (ev_var rfl) hv3 eo_none (eo_some ev_c) hcut) (List.cons_ne_nil _ _) (by show 4 ≤ 100; decide) (ed_tup (ead_cons (ed_tupleOfL (K := K) (ev_var rfl) (e3 _ _ hf2) (TdAll.tx (Tx.of e3) _ _ hvs2)) (ead_cons (ed_of (ev_var rfl) hv8) ead_nil)) (by show 2 ≤ 100000; decide)) (List.cons_ne_nil _ _) (by show 2 ≤ 100; decide)) fun vo H4 e4 hvo => q vo H4 ((e2.trans e3).trans e4) hvo
end
end Wt

set_option Elab.async false
set_option linter.all false
set_option maxRecDepth 100000
set_option maxHeartbeats 4000000
namespace Wt
open PySem PySem.Spec PyProof.Rows L2 SX Evl
open C8 (Def Cal cal0 fnScope_by fnScope)
/-! Likeness; a row of the machine held against its row over cells. -/
section
variable {P : Program} {w : World} {K : PySem.W.Frag} {mg : Str → Option Value} {base : Heap}
theorem ev_ty {σ : L2.St} {H : Hp} {n : String} : Ev (tC (.ty n)) σ H (.ty n) := ev_c
/-! ### _law_alike -/
abbrev s__law_alike : Stmt := topS 11
theorem sc__law_alike : FnScope ["_law_one", "_law_other_here", "_law_k"] ["_law_one", "_law_other_here"] (fnScope s__law_alike) := fnScope_by (by decide +kernel)
def spAlike (K : PySem.W.Frag) (n : Nat) : Sp := fun vs H Q _ => ∃ (x y : V) (d : PyData), vs = [x, y] ∧ Dp K H x d ∧ Dp K H y d ∧ d.depth < n ∧ wideD d = true ∧ RetV (.bl true) H Q
/-- isinstance(x, (tuple, list)) -/
theorem ev_isiT {σ : L2.St} {H : Hp} {ta : TE} {x : V} {d : PyData} {b1 b2 : Bool} (ha : Ev ta σ H x) (hx : Dp K H x d) (h1 : kitB (tyN d) "tuple" = some b1) (h2 : kitB (tyN d) "list" = some b2) :
    Ev (tCB (rIsiT K) (tCons ta (tCons (tTup (tCons (tC (.ty "tuple")) (tCons (tC (.ty "list")) tNil))) tNil))) σ H (.bl (b1 || b2)) := fun H1 e Q q =>
  ha H1 e _ fun H2 e2 => (show EvU (tTup (tCons (tC (.ty "tuple")) (tCons (tC (.ty "list")) tNil))) σ H2 [.ty "tuple", .ty "list"] from eu_tup (ea_cons ev_ty (ea_cons ev_ty ea_nil)) (by decide)) H2 (Ex.refl H2) _ fun p H3 hp e3 hp3 => by
    refine ⟨x, p, [.ty "tuple", .ty "list"], .type (tyN d), [.type "tuple", .type "list"], b1 || b2, rfl, hp3, .cons (.ty "tuple") (.cons (.ty "list") .nil), dp_ty (Dp.ex ((e.trans e2).trans e3) d _ hx), ?_, q _ (e2.trans e3)⟩
    refine kitAny_cons (kit_ty h1) (fun hb => ?_) (fun hb => ?_)
    · subst hb
      rw [Bool.false_or]
      exact kitAny_cons (kit_ty h2) (fun hb => by rw [hb]; exact kitAny_nil) (fun hb => by rw [hb])
    · rw [hb] <;> rfl
theorem ok_alike1 (T : ModsL K mg) (n : Nat) (c__law_alike : Cal P w K mg base n "_law_alike" (spAlike K n) []) {f : Addr} {fd : FuncData} (F : Def K mg "_law_alike" s__law_alike f fd) (b : Binds K fd ["_law_one", "_law_other_here"] []) : Cal P w K mg base (n + 1) "_law_alike" (spAlike K (n + 1)) [] := by
  refine cal0 F b .nil sc__law_alike (fun vs H Q E h => ?_) (fun cdv A outer s H vs Q E hr h => ?_)
  · obtain ⟨_, _, _, rfl, _⟩ := h
    rfl
  · obtain ⟨x, y, d, rfl, hx, hy, hdep, hwd, q⟩ := h
    have m_isinstance := T.m_isinstance
    have m_tuple := T.m_tuple
    have m_list := T.m_list
    have m_len := T.m_len
    have m_range := T.m_range
    have m_bool := T.m_bool
    have hu64 := hr.units
    refine ⟨_, (pss_cons (ps_if (PW.pt (pw_and (pt_val (pe_callB call_isiT (by rfl) m_isinstance Wt.bt_isinstance (pa_cons (pv 0) (pa_cons (pe_tup (pa_cons (pe_bltn (v := .ty "tuple") (by rfl) m_tuple Wt.bt_tuple rfl) (pa_cons (pe_bltn (v := .ty "list") (by rfl) m_list Wt.bt_list rfl) pa_nil))) pa_nil)))) (pw_and1 (pt_val (pe_callB call_isiT (by rfl) m_isinstance Wt.bt_isinstance (pa_cons (pv 1) (pa_cons (pe_tup (pa_cons (pe_bltn (v := .ty "tuple") (by rfl) m_tuple Wt.bt_tuple rfl) (pa_cons (pe_bltn (v := .ty "list") (by rfl) m_list Wt.bt_list rfl) pa_nil))) pa_nil))))))) (pss_cons (ps_if (PW.pt (pw_or (pt_cmpR op_ne (pe_callB call_isi (by rfl) m_isinstance Wt.bt_isinstance (pa_cons (pv 0) (pa_cons (pe_bltn (v := .ty "tuple") (by rfl) m_tuple Wt.bt_tuple rfl) pa_nil))) (pe_callB call_isi (by rfl) m_isinstance Wt.bt_isinstance (pa_cons (pv 1) (pa_cons (pe_bltn (v := .ty "tuple") (by rfl) m_tuple Wt.bt_tuple rfl) pa_nil))) (nomark _)) (pw_or1 (pt_cmpR op_ne (pe_callB call_len_seq (by rfl) m_len PySem.boot_len (pa_cons (pv 0) pa_nil)) (pe_callB call_len_seq (by rfl) m_len PySem.boot_len (pa_cons (pv 1) pa_nil)) (nomark _))))) (pss_one (ps_ret pe_bl)) pss_nil)
      (pss_one (ps_ret (pe_cmpR (op_eqD hu64) (pe_lc (own := [("_law_k", 2)]) (g := (gName 2)) rfl sc__law_alike.nd (pi_range1 (by rfl) m_range (pa_cons (pe_callB call_len_seq (by rfl) m_len PySem.boot_len (pa_cons (pv 0) pa_nil)) pa_nil)) (blkOk_by (N := ["_law_one", "_law_other_here", "_law_k"]) (sc := C8.fnScope s__law_alike) (by decide +kernel)) (fun _ _ _ _ _ => pg_name (i := 2) sc__law_alike.nd rfl (Or.inl rfl)) (fun _ _ _ _ _ => pts_one (pt_not (pt_val (C8.pe_c c__law_alike hr (by first | decide | exact Nat.le_refl _ | omega) (by rfl) (pa_cons (pe_ix (show IxR _ (rIx K) from ix_seq) (pv 0) (pv 2) (fun _ _ => rfl)) (pa_cons (pe_ix (show IxR _ (rIx K) from ix_seq) (pv 1) (pv 2) (fun _ _ => rfl)) pa_nil)))))) (fun _ _ _ _ _ => (pv 2))) (pe_lst pa_nil) (nomark _))))) pss_nil)
      (pss_one (ps_ret (pe_and (pe_cmpR op_eq (pv 0) (pv 1) (nomark _)) (pe_one (pe_cmpR op_eq (pe_callB call_isi (by rfl) m_isinstance Wt.bt_isinstance (pa_cons (pv 0) (pa_cons (pe_bltn (v := .ty "bool") (by rfl) m_bool Wt.bt_bool rfl) pa_nil))) (pe_callB call_isi (by rfl) m_isinstance Wt.bt_isinstance (pa_cons (pv 1) (pa_cons (pe_bltn (v := .ty "bool") (by rfl) m_bool Wt.bt_bool rfl) pa_nil))) (nomark _))))))), ?_⟩
    by_cases hs : ∃ ds, d = .list ds ∨ d = .tuple ds
    · obtain ⟨ds, hd⟩ := hs
      obtain ⟨p, xs, pq, ys, rfl, rfl, gx, gy, ax, ay⟩ := like_seq hd hx hy
      have lx := dpa_len ax
      have ly := dpa_len ay
      have hw2 : ds.length ≤ 40000 ∧ wideAll ds = true ∧ PyData.depthAll ds < n := by
        rcases hd with rfl | rfl
        · unfold wideD at hwd
          rw [Bool.and_eq_true] at hwd
          unfold PyData.depth at hdep
          exact ⟨of_decide_eq_true hwd.1, hwd.2, by omega⟩
        · unfold wideD at hwd
          rw [Bool.and_eq_true] at hwd
          unfold PyData.depth at hdep
          exact ⟨of_decide_eq_true hwd.1, hwd.2, by omega⟩
      obtain ⟨bt, bl, kt, kl, hor⟩ : ∃ bt bl : Bool, kitB (tyN d) "tuple" = some bt ∧ kitB (tyN d) "list" = some bl ∧ (bt || bl) = true := by
        rcases hd with rfl | rfl
        · exact ⟨false, true, (show kitB "list" "tuple" = some false by decide +kernel), (show kitB "list" "list" = some true by decide +kernel), rfl⟩
        · exact ⟨true, false, (show kitB "tuple" "tuple" = some true by decide +kernel), (show kitB "tuple" "list" = some false by decide +kernel), rfl⟩
      refine q_when (et_is (b := true) (et_and (a := true) (et_is (et_B (ev_isiT (ev_var rfl) hx kt kl)) hor) fun _ => et_is (et_B (ev_isiT (ev_var rfl) hy kt kl)) hor) rfl) (fun _ H1 e1 => ?_) (fun z => by cases z)
      have hx1 := Dp.ex e1 d _ hx
      have hy1 := Dp.ex e1 d _ hy
      refine q_when (b := false) (et_is (et_or (et_test (ev_op (ev_isi (ev_var rfl) ev_c hx1 kt) (ev_isi (ev_var rfl) ev_c hy1 kt) (rv_ne rfl))) fun _ =>
        et_test (ev_op (ev_lenD (K := K) (ev_var rfl) (gx.imp (ex_l e1) (ex_t e1))) (ev_lenD (K := K) (ev_var rfl) (gy.imp (ex_l e1) (ex_t e1))) (rv_ne rfl))) (by simp [lx, ly])) (fun z => by cases z) (fun _ H3 e3 => ?_)
      have e13 := e1.trans e3
      have gx3 := gx.imp (ex_l e13) (ex_t e13)
      have gy3 := gy.imp (ex_l e13) (ex_t e13)
      refine s_ret (ev_eqNil (K := K) ?_) fun H4 e4 => q.go (e13.trans e4)
      have lc := el_lcR1 (j := 2) (vs := [2]) (n := (xs.length : Int)) (σ := [some (V.ref p), some (V.ref pq), none]) (H := H3) (fun _ => false) (fun _ => V.non)
        (ta := tCons (tCB (rLenS K) (tCons (tVar 0) tNil)) tNil) (te := tVar 2)
        (t := tNot (tB (tCall (spAlike K n) [] C8.E0 (tCons (tOp (rIx K) (tVar 0) (tVar 2)) (tCons (tOp (rIx K) (tVar 1) (tVar 2)) tNil)))))
        (ea_cons (ev_lenD (K := K) (ev_var rfl) gx3) ea_nil) ⟨by omega, by rw [lx]; omega⟩ (fun _ => rfl) (fun i H4 e4 hi => ?_) (fun i H4 e4 hi z => by cases z)
      · rw [Int.toNat_natCast, given_none] at lc
        exact lc
      · have hid : i < ds.length := by omega
        obtain ⟨vx, d1, g1, g2, g3⟩ := dpa_get ax hid
        obtain ⟨vy, d2, k1, k2, k3⟩ := dpa_get ay hid
        rw [g2] at k2
        cases k2
        have e14 := e13.trans e4
        refine et_not (et_B (b := true) ?_)
        refine ev_call (dvs := []) (vs := [vx, vy]) (ea_cons (ev_ixD (ev_var rfl) (ev_var rfl) (gx.imp (ex_l e14) (ex_t e14)) g1) (ea_cons (ev_ixD (ev_var rfl) (ev_var rfl) (gy.imp (ex_l e14) (ex_t e14)) k1) ea_nil)) fun H5 e5 Q5 q5 E5 => ?_
        have e15 := e14.trans e5
        exact ⟨vx, vy, d1, rfl, Dp.ex e15 d1 _ g3, Dp.ex e15 d1 _ k3, Nat.lt_of_le_of_lt (depth_get g2) hw2.2.2, wide_get hw2.2.1 g2, fun H6 e6 => q5 H6 e6⟩
    · have n1 : ∀ ds, d ≠ .list ds := fun ds e => hs ⟨ds, .inl e⟩
      have n2 : ∀ ds, d ≠ .tuple ds := fun ds e => hs ⟨ds, .inr e⟩
      obtain ⟨rfl, hsc⟩ := like_flat n1 n2 hx hy
      obtain ⟨bb, kt, kl, kb⟩ : ∃ bb : Bool, kitB (tyN d) "tuple" = some false ∧ kitB (tyN d) "list" = some false ∧ kitB (tyN d) "bool" = some bb := by
        cases d with
        | none => exact ⟨false, (show kitB "NoneType" "tuple" = some false by decide +kernel), (show kitB "NoneType" "list" = some false by decide +kernel), (show kitB "NoneType" "bool" = some false by decide +kernel)⟩
        | bool _ => exact ⟨true, (show kitB "bool" "tuple" = some false by decide +kernel), (show kitB "bool" "list" = some false by decide +kernel), (show kitB "bool" "bool" = some true by decide +kernel)⟩
        | int _ => exact ⟨false, (show kitB "int" "tuple" = some false by decide +kernel), (show kitB "int" "list" = some false by decide +kernel), (show kitB "int" "bool" = some false by decide +kernel)⟩
        | str _ => exact ⟨false, (show kitB "str" "tuple" = some false by decide +kernel), (show kitB "str" "list" = some false by decide +kernel), (show kitB "str" "bool" = some false by decide +kernel)⟩
        | list ds => exact absurd rfl (n1 ds)
        | tuple ds => exact absurd rfl (n2 ds)
        | dict _ => cases hx
      refine q_when (et_is (b := false) (et_and (a := false) (b := true) (et_B (ev_isiT (ev_var rfl) hx kt kl)) fun z => by cases z) rfl) (fun z => by cases z) (fun _ H1 e1 => ?_)
      have hx1 := Dp.ex e1 d _ hx
      refine s_ret (ev_is (ev_andV (a := true) (b := true) (ev_is (ev_op (ev_var rfl) (ev_var rfl) (rv_eq hsc)) (show V.bl (decide (x = x)) = .bl true by rw [decide_eq_true rfl])) fun _ => ev_is (ev_op (ev_isi (ev_var rfl) ev_c hx1 kb) (ev_isi (ev_var rfl) ev_c hx1 kb) (rv_eq rfl)) (show V.bl (decide (V.bl bb = V.bl bb)) = .bl true by rw [decide_eq_true rfl])) rfl) fun H4 e4 => q.go (e1.trans e4)
theorem ok_alike (T : ModsL K mg) {f : Addr} {fd : FuncData} (F : Def K mg "_law_alike" s__law_alike f fd) (b : Binds K fd ["_law_one", "_law_other_here"] []) : ∀ n, Cal P w K mg base n "_law_alike" (spAlike K n) []
  | 0 => ⟨f, fd, _, [], ⟨fun vs H Q E ⟨_, _, d, _, _, _, h, _⟩ => absurd h (Nat.not_lt_zero _), fun A outer s H args us vs Q E _ _ _ _ ⟨_, _, d, _, _, _, h, _⟩ => absurd h (Nat.not_lt_zero _)⟩, F.mgf, F.kp, b, .nil⟩
  | n + 1 => ok_alike1 T n (ok_alike T F b n) F b
end
end Wt

set_option Elab.async false
set_option linter.all false
set_option maxRecDepth 100000
set_option maxHeartbeats 4000000
namespace Wt
open PySem PySem.Spec PyProof.Rows L2 SX Evl
open C8 (Def Cal cal0 fnScope_by fnScope)
/-! The law. -/
/-- numbers drawn so far: what is left, what is given -/
structure Drawn (n : Int) (j : Nat) (ls : List Int) (c : Cs) : Prop where
  len : ls.length + j = 300
  nd : ls.Nodup
  rng : ∀ x ∈ ls, n ≤ x ∧ x < n + 300
  has : ∀ k, n ≤ k → k < n + j → ∃ x, aval c k = some x
  no : ∀ k x, aval c k = some x → n ≤ k ∧ k < n + j
  inj : ∀ a b x, aval c a = some x → aval c b = some x → a = b
  val : ∀ a x, aval c a = some x → ∃ y z : Int, x = y + 400 * z ∧ (z = 0 ∨ z = 1) ∧ n ≤ y ∧ y < n + 300 ∧ y ∉ ls
  few : c.length ≤ j
theorem Drawn.start (n : Nat) : Drawn (n : Int) 0 ((List.range 300).map fun i : Nat => ((n + i : Nat) : Int)) [] := by
  refine ⟨by rw [List.length_map, List.length_range], ?_, fun x hx => ?_, fun k h1 h2 => by omega, fun k x h => (by cases h), fun a b x h => (by cases h), fun a x h => (by cases h), Nat.le_refl _⟩
  · refine List.Pairwise.map _ (fun a b hab z => hab ?_) List.nodup_range
    omega
  · obtain ⟨i, hi, rfl⟩ := List.mem_map.mp hx
    have := List.mem_range.mp hi
    omega
theorem eraseIdx_map : ∀ (ls : List Int) (k : Nat), (ls.map V.int).eraseIdx k = (ls.eraseIdx k).map V.int
  | [], _ => rfl
  | x :: ls, 0 => rfl
  | x :: ls, k + 1 => by
    show V.int x :: (ls.map V.int).eraseIdx k = V.int x :: (ls.eraseIdx k).map V.int
    rw [eraseIdx_map ls k]
theorem not_erased : ∀ {ls : List Int} {k : Nat} {y : Int}, ls.Nodup → ls[k]? = some y → y ∉ ls.eraseIdx k
  | [], _, _, _, h => by simp at h
  | x :: ls, 0, y, nd, h => by
    cases h
    exact (List.nodup_cons.mp nd).1
  | x :: ls, k + 1, y, nd, h => by
    have nd2 := List.nodup_cons.mp nd
    have h' : ls[k]? = some y := h
    show y ∉ x :: ls.eraseIdx k
    intro hm
    rcases List.mem_cons.mp hm with rfl | hm
    · exact nd2.1 (List.mem_of_getElem? h')
    · exact not_erased nd2.2 h' hm
theorem Drawn.step {n : Int} {j : Nat} {ls : List Int} {c : Cs} (h : Drawn n j ls c) {k : Nat} {y z : Int} (hk : ls[k]? = some y) (hz : z = 0 ∨ z = 1) : Drawn n (j + 1) (ls.eraseIdx k) (aput c (n + (j : Int)) (y + 400 * z)) := by
  have hlt := (List.getElem?_eq_some_iff.mp hk).1
  have hy := List.mem_of_getElem? hk
  have hyr := h.rng y hy
  have hnew : aval c (n + (j : Int)) = none := by
    cases e : aval c (n + (j : Int)) with
    | none => rfl
    | some x => have := h.no _ _ e; omega
  have hnot : y ∉ ls.eraseIdx k := not_erased h.nd hk
  have hsub : ∀ x ∈ ls.eraseIdx k, x ∈ ls := fun x hx => (List.eraseIdx_sublist ls k).subset hx
  have hold : ∀ a x, aval c a = some x → x ≠ y + 400 * z := fun a x ha e => by
    obtain ⟨y', z', e1, hz', hy1, hy2, hn⟩ := h.val a x ha
    have : y' = y := by omega
    exact hn (this ▸ hy)
  refine ⟨?_, h.nd.sublist (List.eraseIdx_sublist ls k), fun x hx => h.rng x (hsub x hx), fun a h1 h2 => ?_, fun a x hx => ?_, fun a b x ha hb => ?_, fun a x hx => ?_, Nat.le_trans (aput_len _ _ _) (Nat.succ_le_succ h.few)⟩
  · rw [List.length_eraseIdx, if_pos hlt]
    have := h.len
    omega
  · rw [aval_put]
    by_cases e : a = n + (j : Int)
    · rw [if_pos e]; exact ⟨_, rfl⟩
    · rw [if_neg e]; exact h.has a h1 (by omega)
  · rw [aval_put] at hx
    by_cases e : a = n + (j : Int)
    · omega
    · rw [if_neg e] at hx
      have := h.no a x hx
      omega
  · rw [aval_put] at ha hb
    by_cases e : a = n + (j : Int)
    · by_cases f : b = n + (j : Int)
      · rw [e, f]
      · rw [if_pos e] at ha
        rw [if_neg f] at hb
        exact absurd (Option.some.inj ha).symm (hold b x hb)
    · rw [if_neg e] at ha
      by_cases f : b = n + (j : Int)
      · rw [if_pos f] at hb
        exact absurd (Option.some.inj hb).symm (hold a x ha)
      · rw [if_neg f] at hb
        exact h.inj a b x ha hb
  · rw [aval_put] at hx
    by_cases e : a = n + (j : Int)
    · rw [if_pos e] at hx
      exact ⟨y, z, (Option.some.inj hx).symm, hz, hyr.1, hyr.2, hnot⟩
    · rw [if_neg e] at hx
      obtain ⟨y', z', e1, e2, e3, e4, e5⟩ := h.val a x hx
      exact ⟨y', z', e1, e2, e3, e4, fun hm => e5 (hsub _ hm)⟩
theorem Drawn.rho_low {n : Int} {ls : List Int} {c : Cs} (h : Drawn n 300 ls c) {k : Int} (hk : k < n) : rho c k = k := by
  unfold rho
  cases e : aval c k with
  | none => rfl
  | some x => have := h.no _ _ e; omega
theorem Drawn.rho_high {n : Int} {ls : List Int} {c : Cs} (h : Drawn n 300 ls c) {k : Int} (h1 : n ≤ k) (h2 : k < n + 300) : aval c k = some (rho c k) ∧ n ≤ rho c k := by
  obtain ⟨x, hx⟩ := h.has k h1 (by omega)
  have : rho c k = x := by unfold rho; rw [hx] <;> rfl
  rw [this]
  obtain ⟨y, z, e, hz, hy, _, _⟩ := h.val k x hx
  exact ⟨hx, by omega⟩
theorem Drawn.rho_inj {n : Int} {ls : List Int} {c : Cs} (h : Drawn n 300 ls c) : ∀ a b, (0 ≤ a ∧ a < n + 300) → (0 ≤ b ∧ b < n + 300) → rho c a = rho c b → a = b := by
  intro a b ha hb e
  rcases (show a < n ∨ n ≤ a by omega) with h1 | h1
  · rcases (show b < n ∨ n ≤ b by omega) with h2 | h2
    · rw [h.rho_low h1, h.rho_low h2] at e
      exact e
    · have z := (h.rho_high h2 hb.2).2
      rw [h.rho_low h1] at e
      omega
  · rcases (show b < n ∨ n ≤ b by omega) with h2 | h2
    · have z := (h.rho_high h1 ha.2).2
      rw [h.rho_low h2] at e
      omega
    · have z1 := (h.rho_high h1 ha.2).1
      have z2 := (h.rho_high h2 hb.2).1
      rw [e] at z1
      exact h.inj a b _ z1 z2
theorem pcs_key (ps : List Int) : ∀ {i : Nat} {k x : Int}, aval (pcs ps i) k = some x → 0 ≤ k ∧ k < i
  | 0, k, x, h => by cases h
  | i + 1, k, x, h => by
    rw [← pcs_succ, aval_put] at h
    split at h
    · omega
    · have := pcs_key ps h
      omega
theorem Drawn.like {n : Nat} {ls : List Int} {c : Cs} (h : Drawn (n : Int) 300 ls c) (ps : List Int) (hl : ps.length = n) : LikeR (fun k => 0 ≤ k ∧ k < (n : Int) + 300) (rho c) ⟨pcs ps ps.length, []⟩ ⟨pcs ps ps.length, []⟩ := by
  refine ⟨fun k hk => ?_, rfl⟩
  rcases (show k < (n : Int) ∨ (n : Int) ≤ k by omega) with h1 | h1
  · rw [h.rho_low h1]
  · have z := (h.rho_high h1 hk.2).2
    have none_of : ∀ j : Int, (n : Int) ≤ j → aval (pcs ps ps.length) j = none := fun j hj => by
      cases e : aval (pcs ps ps.length) j with
      | none => rfl
      | some x => have := pcs_key ps e; omega
    show aval (pcs ps ps.length) (rho c k) = aval (pcs ps ps.length) k
    rw [none_of _ h1, none_of _ z]
theorem FdSame.proj {e e' : Fd} (h : FdSame e e') (w : Wf e) : projD e = projD e' := by
  obtain ⟨ew, ea, er⟩ := e
  obtain ⟨ew', ea', er'⟩ := e'
  obtain ⟨hw, ha, hr⟩ := h
  have hw' : ew' = ew := hw
  subst hw'
  have ha' : ea' = ea := ha
  subst ha'
  cases er with
  | snap c =>
    have hs : shows ⟨ew', ea', .snap c⟩ = false := by
      show (!inV (.str ew') _) = false
      rw [show inV (.str ew') [V.str (Str.ofString "begin"), V.str (Str.ofString "nothing")] = true from w]
      rfl
    have hs' : shows ⟨ew', ea', er'⟩ = false := hs
    unfold projD
    rw [if_neg (by rw [hs]; exact Bool.false_ne_true), if_neg (by rw [hs']; exact Bool.false_ne_true)]
  | flat us =>
    have : Rest.flat us = er' := by
      cases er' with
      | snap _ => exact hr
      | flat _ => exact hr
      | call _ _ _ => exact hr
    rw [← this]
  | call f n xs =>
    have : Rest.call f n xs = er' := by
      cases er' with
      | snap _ => exact hr
      | flat _ => exact hr
      | call _ _ _ => exact hr
    rw [← this]
theorem FdsSame.proj {f f' : List Fd} (h : FdsSame f f') : (∀ e ∈ f, Wf e) → f.map projD = f'.map projD := by
  induction h with
  | nil => exact fun _ => rfl
  | cons h1 _ ih =>
    intro w
    rw [List.map_cons, List.map_cons, h1.proj (w _ (List.mem_cons_self ..)), ih fun e he => w e (List.mem_cons_of_mem _ he)]
section
variable {K : PySem.W.Frag} {σ : L2.St} {H H' : Hp} {ta tb te tf tc tl t0 t1 t2 t3 tv : TE} {t : TT} {tu : TS} {tr tr1 tr2 : TA} {gs : TGs} {D : Ends} {tz : TS} {E : XK} {Q : VK}
/-- [part[:2] + part[2:] * .. for part in found] -/
theorem epl_proj {N : Addr → Prop} {a : Addr} {vs : List V} {f : List Fd} {j : Nat} {ws : List Nat} (h : Ev tl σ H (.ref a)) (hl : H a = some (.lst vs)) (hf : FdAll N H vs f) (wf : ∀ e ∈ f, Wf e) (hz : f.length ≤ 40000) (hw : ∀ x, wipe ((wipe σ ws).set j (some x)) ws = wipe σ ws) (hv : ∀ x, ((wipe σ ws).set j (some x))[j]? = some (some x))
    (q : ∀ p H2 us, H p = none → Ex H H2 → H2 p = some (.lst us) → PjAll H H2 us f → Q (.ref p) H2) : tLc (iList K tl) (gName j) tYes (tProj K (tVar j)) ws σ H Q := h H (Ex.refl H) _ fun H1 e1 => ⟨a, rfl, ⟨vs, sq_of (e1 _ _ hl)⟩, fun Dl hD => by
  have hlen := hf.len
  refine lc_list (xs := vs) (fun i H' => ∃ acc, Ex H1 H' ∧ H' Dl = some (.lst acc) ∧ PjAll H H' acc (f.take i)) ⟨[], Ex.new hD, upd_same, .nil⟩ (fun i H' _ ⟨_, e, _⟩ => sq_of (e _ _ (e1 _ _ hl))) ?_ ?_
  · rintro i x H2 hx ⟨acc, e2, h2, hp⟩
    refine ⟨hw x, ?_⟩
    show tProj K (tVar j) ((wipe σ ws).set j (some x)) H2 _
    obtain ⟨e, he, hV⟩ := hf.get hx
    have hi := (List.getElem?_eq_some_iff.mp hx).1
    refine pj_go (H0 := H) (fun _ => ev_var (hv x)) hV (wf e (List.mem_of_getElem? he)) (e1.trans e2) fun u H3 e3 hu => ⟨acc, e3 _ _ h2, sz_lt (by rw [hp.len, List.length_take]; omega), acc ++ [u], Ex.mut (e2.trans e3) hD, upd_same, ?_⟩
    have tx : Tx H3 (upd H3 Dl (.lst (acc ++ [u]))) := Tx.lst (e3 _ _ h2)
    rw [List.take_succ, he]
    obtain ⟨t, ys, h5, h6, h7⟩ := hu
    exact ((hp.tx (Tx.of e3)).tx tx).snoc ⟨t, ys, h5, tx _ _ h6, h7⟩
  · rintro H2 ⟨acc, e2, h2, hp⟩
    rw [hlen, List.take_length] at hp
    exact q Dl H2 acc (fresh_back e1 hD) (e1.trans e2) h2 hp⟩
theorem q_asgPj {i : Nat} {N : Addr → Prop} {a : Addr} {vs : List V} {f : List Fd} {j : Nat} {ws : List Nat} (h : Ev tl σ H (.ref a)) (hl : H a = some (.lst vs)) (hf : FdAll N H vs f) (wf : ∀ e ∈ f, Wf e) (hz : f.length ≤ 40000) (hw : ∀ x, wipe ((wipe σ ws).set j (some x)) ws = wipe σ ws) (hv : ∀ x, ((wipe σ ws).set j (some x))[j]? = some (some x))
    (q : ∀ p H2 us, H p = none → Ex H H2 → H2 p = some (.lst us) → PjAll H H2 us f → tz D (σ.set i (some (.ref p))) H2) : tSeq (tAsg (tLc (iList K tl) (gName j) tYes (tProj K (tVar j)) ws) (gName i)) tz D σ H := epl_proj (Q := fun v H2 => tz D (σ.set i (some v)) H2) h hl hf wf hz hw hv q
/-- f([..], y) -/
theorem call_pj {sp : Sp} {y : V} {N : Addr → Prop} {a : Addr} {vs : List V} {f : List Fd} {j : Nat} {ws : List Nat} (h : Ev tl σ H (.ref a)) (hl : H a = some (.lst vs)) (hf : FdAll N H vs f) (wf : ∀ e ∈ f, Wf e) (hz : f.length ≤ 40000) (hw : ∀ x, wipe ((wipe σ ws).set j (some x)) ws = wipe σ ws) (hv : ∀ x, ((wipe σ ws).set j (some x))[j]? = some (some x)) (h2 : ∀ H', Ev t2 σ H' y)
    (q : ∀ p H2 us, H p = none → Ex H H2 → H2 p = some (.lst us) → PjAll H H2 us f → ∀ H3, Ex H2 H3 → sp [.ref p, y] H3 Q E) : tCall sp [] E (tCons (tLc (iList K tl) (gName j) tYes (tProj K (tVar j)) ws) (tCons t2 tNil)) σ H Q :=
  epl_proj (Q := fun x H1 => t2 σ H1 fun z H2 => sp ([x, z] ++ []) H2 Q E) h hl hf wf hz hw hv fun p H2 us g1 g2 g3 g4 => h2 H2 H2 (Ex.refl _) _ fun H3 e3 => q p H2 us g1 g2 g3 g4 H3 e3
/-- x, y = a, b -/
theorem q_parQ {i j : Nat} (h : ta σ H (fun x H2 => tb σ H2 fun y H4 => tz D ((σ.set i (some x)).set j (some y)) H4)) : tSeq (tPar i j (tCons ta (tCons tb tNil))) tz D σ H := by
  have key : (fun x H2 => tb σ H2 (fun y H4 => tz D ((σ.set i (some x)).set j (some y)) H4)) = (fun v H1 => (tCons tb tNil) σ H1 fun vs H2 => ∃ a b, v :: vs = [a, b] ∧ tz D ((σ.set i (some a)).set j (some b)) H2) := by
    funext x H2
    show _ = tb σ H2 (fun y H4 => ∃ a b, [x, y] = [a, b] ∧ tz D ((σ.set i (some a)).set j (some b)) H4)
    congr 1
    funext y H4
    refine propext ⟨fun h => ⟨x, y, rfl, h⟩, fun ⟨a, b, e, h⟩ => ?_⟩
    cases e
    exact h
  rw [key] at h
  exact h
theorem call_nest {sp sm : Sp} {v : V} (h3 : Ev t3 σ H v) (k : ∀ H1, Ex H H1 → sm [v] H1 (fun m H2 => tr σ H2 fun vs H3 => sp ((m :: vs) ++ []) H3 Q E) E) : tCall sp [] E (tCons (tCall sm [] E (tCons t3 tNil)) tr) σ H Q := h3 H (Ex.refl H) _ fun H1 e1 => k H1 e1
theorem q_forRng {lo hi : Int} {n j : Nat} (h : EvA tr σ H [.int lo, .int hi]) (b : -(2 ^ 62) ≤ lo ∧ lo < 2 ^ 62 ∧ -(2 ^ 62) ≤ hi ∧ hi < 2 ^ 62) (hn : (hi - lo).toNat = n) (Pv : Nat → L2.St → Hp → Prop) (h0 : ∀ H1, Ex H H1 → Pv 0 σ H1)
    (hs : ∀ i σ' H', i < n → Pv i σ' H' → tu { D with nx := Pv (i + 1), ct := Pv (i + 1), bk := tz D } (σ'.set j (some (.int (lo + i)))) H') (hd : ∀ σ' H', Pv n σ' H' → tz D σ' H') : tSeq (tFor (iRng2 tr) (gName j) tu) tz D σ H :=
  h H (Ex.refl H) _ fun H1 e1 => ⟨lo, hi, rfl, b, by
    rw [hn]
    exact for_range (D := { D with nx := tz D }) Pv (h0 H1 e1) (fun i σ' H' hi hp => hs i σ' H' hi hp) hd⟩
/-- x = f(g(y), ..) -/
theorem q_asgNest {i : Nat} {sp sm : Sp} {v : V} (h3 : Ev t3 σ H v) (k : ∀ H1, Ex H H1 → sm [v] H1 (fun m H2 => tr σ H2 fun vs H3 => sp ((m :: vs) ++ []) H3 (fun y H4 => tz D (σ.set i (some y)) H4) E) E) : tSeq (tAsg (tCall sp [] E (tCons (tCall sm [] E (tCons t3 tNil)) tr)) (gName i)) tz D σ H := h3 H (Ex.refl H) _ fun H1 e1 => k H1 e1
theorem el_rg2 {lo n : Nat} (h1 : ∀ H', Ev t1 σ H' (.int (lo : Int))) (h2 : ∀ H', Ev t2 σ H' (.int ((lo : Int) + (n : Int)))) (b1 : lo ≤ 10000) (b2 : n ≤ 10000) : EvL (tLstRg (tRg2 t1 t2)) σ H (((List.range n).map fun i : Nat => ((lo + i : Nat) : Int)).map V.int) := fun H1 e Q q =>
  h1 H1 H1 (Ex.refl _) _ fun H2 e2 => h2 H2 H2 (Ex.refl H2) _ fun H3 e3 => ⟨(lo : Int), (lo : Int) + (n : Int), rfl, rfl, RgOk.of_le (by omega) (by omega) (by omega) (by omega), fun l hl => by
    have erg : rgV (lo : Int) ((lo : Int) + (n : Int)) = ((List.range n).map fun i : Nat => ((lo + i : Nat) : Int)).map V.int := by
      have := rgV_nat lo (lo + n)
      rw [show lo + n - lo = n by omega, show ((lo + n : Nat) : Int) = (lo : Int) + (n : Int) by omega] at this
      exact this
    have z := q l (upd H3 l (.lst (rgV (lo : Int) ((lo : Int) + (n : Int))))) (fresh_back (e2.trans e3) hl) ((e2.trans e3).trans (Ex.new hl))
    rw [erg] at z ⊢
    exact z upd_same⟩
theorem s_putOp {r : R2} {td tk : TE} (h : ta σ H (fun x H1 => tb σ H1 fun y H2 => r x y H2 fun v H3 => td σ H3 fun o H4 => tk σ H4 fun k H5 => ∃ a H6, o = .ref a ∧ DPut H5 a k v H6 ∧ D.nx σ H6)) : sDPut td tk (tOp r ta tb) D σ H := h
theorem bm_go {T : String} {r : V → List V → Hp → VK → Prop} (h : te σ H fun x H1 => tyV K T x H1 ∧ tr σ H1 fun xs H2 => r x xs H2 Q) : tBM K T r te tr σ H Q := h
theorem op_go {r : R2} (h : ta σ H fun x H1 => tb σ H1 fun y H2 => r x y H2 Q) : tOp r ta tb σ H Q := h
theorem ev_min2 {i j : Int} (ha : Ev ta σ H (.int i)) (hb : Ev tb σ H (.int j)) : Ev (tCB (fun xs H Q => ∃ i j, xs = [.int i, .int j] ∧ Q (.int (if j < i then j else i)) H) (tCons ta (tCons tb tNil))) σ H (.int (if j < i then j else i)) := fun H1 e Q q => ha H1 e _ fun H2 e2 => hb H2 (e.trans e2) _ fun H3 e3 => ⟨i, j, rfl, q H3 (e2.trans e3)⟩
end
section
variable {P : Program} {w : World} {K : PySem.W.Frag} {mg : Str → Option Value} {base : Heap}
abbrev s_law : Stmt := topS 30
theorem sc_law : FnScope ["_law_script", "_law_row", "_law_turn", "_law_made_here", "_law_parts", "_law_many", "_law_left", "_law_cells", "_law_cell", "_law_other_here", "_law_due", "_law_found", "_law_part"] ["_law_script"] (fnScope s_law) := fnScope_by (by decide +kernel)
def spLaw (K : PySem.W.Frag) : Sp := fun vs H Q _ => ∃ (a : Addr) (ns : List Int), vs = [.ref a] ∧ Scr K H a ns ∧ ∀ H', Q (.bl true) H'
theorem ok_law (T : ModsI K mg) (m_min : mg "min" = none) {k : Nat} (hk : 10 ≤ k) (c__law_taken : Cal P w K mg base 1 "_law_taken" (spNext K) []) (c__law_made : Cal P w K mg base k "_law_made" (spMade K) []) (c_machine_of : Cal P w K mg base 3 "machine_of" (spMachine K) []) (c__law_parts_of : Cal P w K mg base 2 "_law_parts_of" (spParts K) []) (c__law_other : Cal P w K mg base 2 "_law_other" (spOther K) []) (c__law_machine : Cal P w K mg base 3 "_law_machine" (spMach K) [])
    (c__law_alike : Cal P w K mg base 7 "_law_alike" (spAlike K 7) [])
    {f : Addr} {fd : FuncData} (F : Def K mg "law" s_law f fd) : FnOk P w K mg base C8.CX0 (k + 1) f fd ["_law_script"] (spLaw K) := by
  refine C8.fn0 F.fn sc_law (fun vs H Q E h => ?_) (fun cdv A outer s H vs Q E hr h => ?_)
  · obtain ⟨_, _, rfl, _⟩ := h
    rfl
  · obtain ⟨a, ns, rfl, hS, q⟩ := h
    have m_len := T.m_len
    have m_list := T.m_list
    have m_range := T.m_range
    have m_int := T.m_int
    have hu := hu_of hr
    have hu64 := hr.units
    refine ⟨_, (pss_cons (ps_set (i := 1) sc_law.nd rfl (.inl rfl) (Wt.pe_dice (pe_lst (pa_cons (pv 0) (pa_cons pe_int (pa_cons pe_int (pa_cons pe_int pa_nil)))))))
      (pss_cons (ps_for PassesOwn.never rfl (pi_range1 (by rfl) m_range (pa_cons pe_int pa_nil)) (pg_name (i := 2) sc_law.nd rfl (.inl rfl)) (pss_cons (ps_set (i := 3) sc_law.nd rfl (.inl rfl) (C8.pe_c c__law_made hr (by first | decide | exact Nat.le_refl _ | omega) (by rfl) (pa_cons (pv 1) (pa_cons pe_int pa_nil))))
      (pss_cons (ps_par (i := 4) (j := 5) rfl sc_law.nd rfl rfl (by decide) (by rfl) (by rfl) (pa_cons (C8.pe_c c__law_parts_of hr (by first | decide | exact Nat.le_refl _ | omega) (by rfl) (pa_cons (pv 1) (pa_cons (pv 3) pa_nil))) (pa_cons (pe_callB call_len_seq (by rfl) m_len PySem.boot_len (pa_cons (pe_ix ix_tup (pv 3) pe_int (fun _ _ => rfl)) pa_nil)) pa_nil)) (by rfl))
      (pss_cons (ps_par (i := 6) (j := 7) rfl sc_law.nd rfl rfl (by decide) (by rfl) (by rfl) (pa_cons (pe_listRg rfl (by rfl) m_list (prg_2 (by rfl) m_range (pv 5) (pe_op op_add (pv 5) pe_int))) (pa_cons pe_dnewK pa_nil)) (by rfl))
      (pss_cons (ps_for PassesOwn.never rfl (pi_range2 (by rfl) m_range (pa_cons (pv 5) (pa_cons (pe_op op_add (pv 5) pe_int) pa_nil))) (pg_name (i := 8) sc_law.nd rfl (.inl rfl)) (pss_one (ps_dput hu (pv 7) (pv 8) (pe_op op_add (pe_bm PySem.F.plainAttrs_list PySem.F.slot_list_pop PySem.F.type_list_pop mt_popAt (pv 6) (pa_cons (C8.pe_c c__law_taken hr (by first | decide | exact Nat.le_refl _ | omega) (by rfl) (pa_cons (pv 1) (pa_cons (pe_callB (call_min2 rfl) (by rfl) m_min PyProof.Rows.boot_min (pa_cons pe_int (pa_cons (pe_callB call_len_seq (by rfl) m_len PySem.boot_len (pa_cons (pv 6) pa_nil)) pa_nil))) pa_nil))) pa_nil)) (pe_op op_mul pe_int (C8.pe_c c__law_taken hr (by first | decide | exact Nat.le_refl _ | omega) (by rfl) (pa_cons (pv 1) (pa_cons pe_int pa_nil))))) rfl)))
      (pss_cons (ps_set (i := 9) sc_law.nd rfl (.inl rfl) (C8.pe_c c__law_other hr (by first | decide | exact Nat.le_refl _ | omega) (by rfl) (pa_cons (pv 3) (pa_cons (pv 7) (pa_cons pe_int pa_nil)))))
      (pss_cons (ps_set (i := 10) sc_law.nd rfl (.inl rfl) (C8.pe_c c__law_machine hr (by first | decide | exact Nat.le_refl _ | omega) (by rfl) (pa_cons (C8.pe_c c_machine_of hr (by first | decide | exact Nat.le_refl _ | omega) (by rfl) (pa_cons (pv 3) pa_nil)) (pa_cons (pv 3) (pa_cons (pv 4) (pa_cons pe_int pa_nil))))))
      (pss_cons (ps_set (i := 11) sc_law.nd rfl (.inl rfl) (C8.pe_c c__law_machine hr (by first | decide | exact Nat.le_refl _ | omega) (by rfl) (pa_cons (C8.pe_c c_machine_of hr (by first | decide | exact Nat.le_refl _ | omega) (by rfl) (pa_cons (pv 9) pa_nil)) (pa_cons (pv 9) (pa_cons (pv 4) (pa_cons pe_int pa_nil))))))
      (pss_cons (ps_if (PW.pt (pw_or (pt_cmpR op_isN (pv 10) pe_non (nomark _)) (pw_or1 (pt_cmpR op_isN (pv 11) pe_non (nomark _))))) (pss_one (ps_ret pe_bl)) pss_nil)
      (pss_cons (ps_setLc (i := 10) (own := [("_law_part", 12)]) (g := (gName 12)) (tt := tYes) rfl sc_law.nd rfl rfl (sw_true rfl rfl rfl (by decide +kernel)) (pi_list (pv 10)) (blkOk_by (N := ["_law_script", "_law_row", "_law_turn", "_law_made_here", "_law_parts", "_law_many", "_law_left", "_law_cells", "_law_cell", "_law_other_here", "_law_due", "_law_found", "_law_part"]) (sc := C8.fnScope s_law) (by decide +kernel)) (fun _ _ _ _ _ => pg_name (i := 12) sc_law.nd rfl (Or.inl rfl)) (fun _ _ _ _ _ => pts_nil) (fun _ _ _ _ _ => (pe_op (show OpR _ (binaryOp .Add) (rCatA K) from op_catA) (pe_slice (show SlR _ (rSlA K) from sl_tupA) (pv 12) po_none (po_some pe_int)) (pe_op (show OpR _ (binaryOp .Mult) (Wt.rRepQ K) from Wt.op_repQ) (pe_slice (show SlR _ (rSlA K) from sl_tupA) (pv 12) (po_some pe_int) po_none) (pe_callTy call_int1 (by rfl) m_int Wt.bt_int (pa_cons (pe_cmpR (show OpR _ _ (rIn K true) from op_notIn_seq) (pe_ix (show IxR _ (rIxT K) from ix_tup) (pv 12) pe_int (fun _ _ => rfl)) (pe_tup (pa_cons pe_str (pa_cons pe_str pa_nil))) (by with_unfolding_all rfl)) pa_nil))))))
      (pss_one (ps_if (pt_not (pt_val (C8.pe_c c__law_alike hr (by first | decide | exact Nat.le_refl _ | omega) (by rfl) (pa_cons (pe_lc (own := [("_law_part", 12)]) (g := (gName 12)) (tt := tYes) rfl sc_law.nd (pi_list (pv 11)) (blkOk_by (N := ["_law_script", "_law_row", "_law_turn", "_law_made_here", "_law_parts", "_law_many", "_law_left", "_law_cells", "_law_cell", "_law_other_here", "_law_due", "_law_found", "_law_part"]) (sc := C8.fnScope s_law) (by decide +kernel)) (fun _ _ _ _ _ => pg_name (i := 12) sc_law.nd rfl (Or.inl rfl)) (fun _ _ _ _ _ => pts_nil) (fun _ _ _ _ _ => (pe_op (show OpR _ (binaryOp .Add) (rCatA K) from op_catA) (pe_slice (show SlR _ (rSlA K) from sl_tupA) (pv 12) po_none (po_some pe_int)) (pe_op (show OpR _ (binaryOp .Mult) (Wt.rRepQ K) from Wt.op_repQ) (pe_slice (show SlR _ (rSlA K) from sl_tupA) (pv 12) (po_some pe_int) po_none) (pe_callTy call_int1 (by rfl) m_int Wt.bt_int (pa_cons (pe_cmpR (show OpR _ _ (rIn K true) from op_notIn_seq) (pe_ix (show IxR _ (rIxT K) from ix_tup) (pv 12) pe_int (fun _ _ => rfl)) (pe_tup (pa_cons pe_str (pa_cons pe_str pa_nil))) (by with_unfolding_all rfl)) pa_nil)))))) (pa_cons (pv 10) pa_nil))))) (pss_one (ps_ret pe_bl)) pss_nil))))))))))))
      (pss_one (ps_ret pe_bl)))), ?_⟩
    refine q_dice (ev_var rfl) hS fun d H1 e1 hD => ?_
    refine q_forR1 (n := 3) (ea_cons ev_c ea_nil) (by decide) (fun _ σ' H' => ∃ y2 y3 y4 y5 y6 y7 y8 y9 y10 y11 y12, σ' = [some (.ref a), some (.ref d), y2, y3, y4, y5, y6, y7, y8, y9, y10, y11, y12] ∧ Dc K H' d a ns)
      (fun H2 e2 => ⟨_, _, _, _, _, _, _, _, _, _, _, rfl, hD.ex e2⟩) ?_ (fun σ' H' _ => s_ret ev_c fun H3 e3 => q H3)
    rintro i σ' H2 hi ⟨y2, y3, y4, y5, y6, y7, y8, y9, y10, y11, y12, rfl, hD2⟩
    refine q_asgCall (ea_cons (ev_var rfl) (ea_cons ev_c ea_nil)) fun H3 e3 => ⟨d, a, ns, rfl, hD2.ex e3, fun v H4 o e4 hv ho => ?_⟩
    have hD4 := hD2.ex (e3.trans e4)
    have ok := ho.rowsOk
    have hparts := ho.parts
    obtain ⟨rs, ers⟩ : ∃ rs, rs = o.rows.map Prod.fst := ⟨_, rfl⟩
    -- parts, many
    refine q_parQ ?_
    refine (ea_cons (ev_var rfl) (ea_cons (ev_var rfl) ea_nil)) H4 (Ex.refl H4) _ fun H5 e5 => ⟨d, a, ns, v, o, rfl, hD4.ex e5, Td.tx (Tx.of e5) _ _ hv, ho, fun pp H6 ps hpp0 e6 hpp hlen hin => ?_⟩
    have e46 := e5.trans e6
    have hv6 := Td.tx (Tx.of e46) _ _ hv
    obtain ⟨x1, hx1, ev1⟩ := ev_ixTd (K := K) (σ := [some (.ref a), some (.ref d), some (.int (i : Int)), some v, y4, y5, y6, y7, y8, y9, y10, y11, y12]) (ta := tVar 3) (tb := tC (.int 1)) (j := 1) (ev_var rfl) hv6 ev_c rfl
    refine (ev_is (w := .int (o.kinds.length : Int)) (ev_lenTd (K := K) ev1 hx1) (by rw [List.length_map])) H6 (Ex.refl H6) _ fun H7 e7 => ?_
    obtain ⟨n, en⟩ : ∃ n, n = o.kinds.length := ⟨_, rfl⟩
    rw [← en]
    have hn3 : n ≤ 3 := by omega
    -- the numbers left, the dict
    refine q_parQ ?_
    have ev5 : ∀ H', Ev (tVar 5) [some (.ref a), some (.ref d), some (.int (i : Int)), some v, some (.ref pp), some (.int (n : Int)), y6, y7, y8, y9, y10, y11, y12] H' (.int (n : Int)) := fun _ => ev_var rfl
    have ev53 : ∀ H', Ev (tOp (rI0 fun i j => .int (i + j)) (tVar 5) (tC (.int 300))) [some (.ref a), some (.ref d), some (.int (i : Int)), some v, some (.ref pp), some (.int (n : Int)), y6, y7, y8, y9, y10, y11, y12] H' (.int ((n : Int) + 300)) := fun H' => ev_op (ev5 H') ev_c rv_I0
    refine (el_rg2 (lo := n) (n := 300) ev5 ev53 (by omega) (by omega)) H7 (Ex.refl H7) _ fun ll H10 hll e10 hl10' => ?_
    have hl10 : H10 ll = some (iL ((List.range 300).map fun i : Nat => ((n + i : Nat) : Int))) := hl10'
    have e610 := e7.trans e10
    have hll0 : H6 ll = none := fresh_back e7 hll
    refine fun cd hcd0 => ?_
    have e11 := Ex.new (o := HO.dK []) hcd0
    have hcd11 : (upd H10 cd (.dK [])) cd = some (.dK (cV [])) := upd_same
    have hl11 := e11 _ _ hl10
    have nlc : ll ≠ cd := ne_of_none hl10 hcd0
    have e611 := e610.trans e11
    have hcd6 : H6 cd = none := fresh_back e610 hcd0
    generalize upd H10 cd (.dK []) = H11 at e11 hcd11 hl11 e611
    have hD6 := hD4.ex e46
    refine q_forRng (lo := (n : Int)) (hi := (n : Int) + 300) (n := 300) (ea_cons (ev_var rfl) (ea_cons (ev_op (ev_var rfl) ev_c rv_I0) ea_nil)) ⟨by omega, by omega, by omega, by omega⟩ (by omega)
      (fun j σ' H' => ∃ (y8 : Option V) (ls : List Int) (c : Cs), σ' = [some (.ref a), some (.ref d), some (.int (i : Int)), some v, some (.ref pp), some (.int (n : Int)), some (.ref ll), some (.ref cd), y8, y9, y10, y11, y12] ∧ Ex H6 H' ∧ H' ll = some (iL ls) ∧ H' cd = some (.dK (cV c)) ∧ Drawn (n : Int) j ls c)
      (fun H12 e12 => ⟨_, _, [], rfl, e611.trans e12, e12 _ _ hl11, e12 _ _ hcd11, Drawn.start n⟩) ?_ ?_
    · rintro j σ' H12 hj ⟨y8', ls, c, rfl, e12, hl12, hc12, hdr⟩
      have hD12 := hD6.ex e12
      have hlen12 := hdr.len
      show sDPut _ _ _ _ ([some (.ref a), some (.ref d), some (.int (i : Int)), some v, some (.ref pp), some (.int (n : Int)), some (.ref ll), some (.ref cd), some (.int ((n : Int) + (j : Int))), y9, y10, y11, y12] : L2.St) H12
      refine s_putOp (bm_go ?_)
      refine (show Ev (tVar 6) _ H12 (.ref ll) from ev_var rfl) H12 (Ex.refl H12) _ fun H13 e13 => ⟨Or.inl ⟨rfl, _, sq_of (e13 _ _ hl12)⟩, ?_⟩
      have hmin : (if (ls.length : Int) < 9 then (ls.length : Int) else 9) ≤ ls.length ∧ 0 < (if (ls.length : Int) < 9 then (ls.length : Int) else 9) ∧ (if (ls.length : Int) < 9 then (ls.length : Int) else 9) < 1073741824 := by
        split <;> omega
      refine (en_next (hD12.ex e13) (ev_var rfl) (ev_min2 ev_c (ev_is (ev_len (K := K) (ev_var rfl) (sq_of (e13 _ _ hl12))) (by rw [List.length_map]))) hmin.2.1 hmin.2.2) H13 (Ex.refl H13) _ fun vz H14 ⟨z, hz, z0, z1⟩ e14 => ?_
      subst hz
      have e1214 := e13.trans e14
      have hlt : z.toNat < ls.length := by omega
      obtain ⟨y, hy⟩ : ∃ y, ls[z.toNat]? = some y := ⟨_, List.getElem?_eq_getElem hlt⟩
      refine ⟨ll, ls.map V.int, z, z.toNat, .int y, rfl, rfl, e1214 _ _ hl12, by omega, by omega, ?_, by rw [List.getElem?_map, hy] <;> rfl, ?_⟩
      · unfold seqIndex?
        rw [List.length_map]
        have h1 : ¬ z < 0 := by omega
        simp only [h1, if_false]
        rw [if_pos (by simp; omega)]
      rw [eraseIdx_map]
      have e15 : Ex H6 (upd H14 ll (.lst ((ls.eraseIdx z.toNat).map V.int))) := Ex.mut (e12.trans e1214) hll0
      have hl15 : (upd H14 ll (.lst ((ls.eraseIdx z.toNat).map V.int))) ll = some (iL (ls.eraseIdx z.toNat)) := upd_same
      have hc15 : (upd H14 ll (.lst ((ls.eraseIdx z.toNat).map V.int))) cd = some (.dK (cV c)) := by rw [upd_ne nlc.symm]; exact e1214 _ _ hc12
      generalize upd H14 ll (.lst ((ls.eraseIdx z.toNat).map V.int)) = H15 at e15 hl15 hc15
      refine op_go ?_
      refine ev_c H15 (Ex.refl H15) _ fun H16 e16 => (en_next (many := 2) ((hD6.ex e15).ex e16) (ev_var rfl) ev_c) H16 (Ex.refl H16) _ fun vz2 H17 ⟨z2, hz2, z20, z21⟩ e17 => ?_
      subst hz2
      refine ⟨400, z2, rfl, rfl, Or.inl ⟨by decide, by decide⟩, y, 400 * z2, rfl, rfl, ?_⟩
      refine (ev_var rfl) H17 (Ex.refl H17) _ fun H18 e18 => (ev_var rfl) H18 (Ex.refl H18) _ fun H19 e19 => ?_
      have e1519 := (e16.trans e17).trans (e18.trans e19)
      refine ⟨cd, _, rfl, DPut.k (k := (Sum.inl ((n : Int) + (j : Int)) : Key)) (e1519 _ _ hc15) (by unfold cV; rw [List.length_map]; have := hdr.few; exact sz_lt (by omega)), ?_⟩
      rw [cV_put]
      exact ⟨_, ls.eraseIdx z.toNat, aput c ((n : Int) + (j : Int)) (y + 400 * z2), rfl, Ex.mut (e15.trans e1519) hcd6, by rw [upd_ne nlc]; exact e1519 _ _ hl15, upd_same, hdr.step hy (by omega)⟩
    rintro σ' H12 ⟨y8', ls, c, rfl, e12, hl12, hc12, hdr⟩
    have hv12 := Td.tx (Tx.of e12) _ _ hv6
    have hpp12 := e12 _ _ hpp
    have hD12 := hD6.ex e12
    refine q_asgCall (ea_cons (ev_var rfl) (ea_cons (ev_var rfl) (ea_cons ev_c ea_nil))) fun H13 e13 => ⟨v, cd, c, 900, o, rfl, Td.tx (Tx.of e13) _ _ hv12, e13 _ _ hc12, ho, fun vo H14 e14 hvo => ?_⟩
    have e1214 := e13.trans e14
    have hv14 := Td.tx (Tx.of e1214) _ _ hv12
    -- the runs
    obtain ⟨F1, res, lF, hrun⟩ := ho.runsN hlen hin 50
    rw [← ers] at hrun ok
    have lF1 : F1 ≤ 6934 := by
      have : (50 + 1 : Int).toNat = 51 := rfl
      rw [this] at lF
      omega
    have hcell : ∀ r ∈ rs, ∀ x ∈ reads r ++ writes r, 0 ≤ x ∧ x < (n : Int) + 300 := fun r hr x hx => by
      rw [ers] at hr
      obtain ⟨rp, h1, rfl⟩ := List.mem_map.mp hr
      have := ho.cells rp h1 x hx
      omega
    obtain ⟨res', hrun', hsame⟩ := ren_run (sh := 900) (A := fun k => 0 ≤ k ∧ k < (n : Int) + 300) hdr.rho_inj hcell F1 hrun (hdr.like ps (by omega)) .nil
    have okq := ren_ok (rho c) 900 ok
    obtain ⟨F2, lF2, hrunX⟩ := runX_of ok F1 hrun
    obtain ⟨F4, lF4, hrunX'⟩ := runX_of okq F1 hrun'
    obtain ⟨hwf, hrl⟩ := runM_wf ok.cs F1 hrun (fun e he => by cases he)
    obtain ⟨hwf', _⟩ := runM_wf okq.cs F1 hrun' (fun e he => by cases he)
    have hrl' : res.length ≤ 10000 := by have : ([] : List Fd).length = 0 := rfl; omega
    have hrl2 : res'.length ≤ 10000 := by rw [← hsame.len]; exact hrl'
    have lps : ps.length ≤ 1000 := by omega
    have eqr : (o.rows.map (renP c 900)).map Prod.fst = rs.map (renR (rho c) 900) := by
      rw [ers, List.map_map, List.map_map] <;> rfl
    refine q_asgNest (ev_var rfl) fun H15 e15 => ⟨v, oneDs o, o.rows, rfl, Td.tx (Tx.of e15) _ _ hv14, rfl, by rw [← ers]; exact ok, fun m1 H16 mvs1 hm10 e16 hm1 hmvs1 => ?_⟩
    have e1416 := e15.trans e16
    refine (ea_cons (ev_var rfl) (ea_cons (ev_var rfl) (ea_cons ev_c ea_nil))) H16 (Ex.refl H16) _ fun H17 e17 => ⟨m1, mvs1, v, pp, oneDs o, o.rows, ps, 50, machine rs, F2, res, rfl, e17 _ _ hm1, ?_, ?_, rfl, ?_, by rw [← ers]; exact machine_ms rs, by rw [← ers]; exact hrunX, by omega, lps, fun l1 H18 vs1 hl10 e18 hl1 hfd1 => ?_⟩
    · rw [← ers] at hmvs1
      exact TdAll.tx (Tx.of e17) _ _ hmvs1
    · exact Td.tx (Tx.of (e1416.trans e17)) _ _ hv14
    · exact (e1214.trans (e1416.trans e17)) _ _ hpp12
    have e1418 := e1416.trans (e17.trans e18)
    have hvo18 := Td.tx (Tx.of e1418) _ _ hvo
    refine q_asgNest (ev_var rfl) fun H19 e19 => ⟨vo, othDs o c 900, o.rows.map (renP c 900), rfl, Td.tx (Tx.of e19) _ _ hvo18, rfl, by rw [eqr]; exact okq, fun m2 H20 mvs2 hm20 e20 hm2 hmvs2 => ?_⟩
    have e1820 := e19.trans e20
    refine (ea_cons (ev_var rfl) (ea_cons (ev_var rfl) (ea_cons ev_c ea_nil))) H20 (Ex.refl H20) _ fun H21 e21 => ⟨m2, mvs2, vo, pp, othDs o c 900, o.rows.map (renP c 900), ps, 50, machine (rs.map (renR (rho c) 900)), F4, res', rfl, e21 _ _ hm2, ?_, ?_, rfl, ?_, by rw [eqr]; exact machine_ms _, by rw [eqr]; exact hrunX', by omega, lps, fun l2 H22 vs2 hl20 e22 hl2 hfd2 => ?_⟩
    · rw [eqr] at hmvs2
      exact TdAll.tx (Tx.of e21) _ _ hmvs2
    · exact Td.tx (Tx.of (e1820.trans e21)) _ _ hvo18
    · exact (e1214.trans (e1418.trans (e1820.trans e21))) _ _ hpp12
    have e1822 := e1820.trans (e21.trans e22)
    have hl1' := e1822 _ _ hl1
    have hfd1' : FdAll (fun _ => True) H22 vs1 res := hfd1.ex (fun _ _ => True.intro) fun b o _ hb => e1822 b o hb
    refine q_when (b := false) (et_is (et_or (a := false) (b := false) (et_isNone (ev_var rfl) rfl) fun _ => et_isNone (ev_var rfl) rfl) rfl) (fun z => by cases z) (fun _ H23 e23 => ?_)
    refine q_asgPj (N := fun _ => True) (f := res) (ev_var rfl) (e23 _ _ hl1') (hfd1'.ex (fun _ z => z) fun b o _ hb => e23 b o hb) hwf (by omega) (fun _ => rfl) (fun _ => rfl) fun l3 H24 us1 hl30 e24 hl3 hpj1 => ?_
    have e1224 := (e1214.trans e1418).trans (e1822.trans (e23.trans e24))
    refine s_when (b := false) (et_is (et_not (et_B (b := true) (fun H25 e25 Q25 q25 => ?_))) rfl) (fun z => by cases z) (fun _ H25 e25 => ⟨_, _, _, _, _, _, _, _, _, _, _, rfl, hD12.ex (e1224.trans e25)⟩)
    have e2225 := (e23.trans e24).trans e25
    refine call_pj (N := fun _ => True) (f := res') (ev_var rfl) (e2225 _ _ hl2) (hfd2.ex (fun _ _ => True.intro) fun b o _ hb => e2225 b o hb) hwf' (by omega) (fun _ => rfl) (fun _ => rfl) (fun _ => ev_var rfl) fun l4 H26 us2 hl40 e26 hl4 hpj2 H27 e27 => ?_
    obtain ⟨hdep, hwid⟩ := projs_list hwf' (by omega)
    refine ⟨.ref l4, .ref l3, .list (res'.map projD), rfl, ?_, ?_, hdep, hwid, fun H28 e28 => q25 H28 ((e26.trans e27).trans e28)⟩
    · exact .lst (sq_of (e27 _ _ hl4)) ((hpj2.tx (Tx.of e27)).dp (e26.trans e27) hwf')
    · rw [← hsame.proj hwf]
      exact .lst (sq_of (((e25.trans e26).trans e27) _ _ hl3)) ((hpj1.tx (Tx.of ((e25.trans e26).trans e27))).dp (e24.trans ((e25.trans e26).trans e27)) hwf)
end
end Wt

set_option Elab.async false
set_option linter.all false
set_option maxRecDepth 100000
set_option maxHeartbeats 4000000
namespace Wt
open PySem PySem.Spec PyProof.Rows L2 SX Evl
open C8 (Def Cal cal0 fnScope_by fnScope)
/-! The end. -/
theorem scr_of {K : PySem.W.Frag} {H : Hp} {a : Addr} {ns : List Int} (hl : ns.length ≤ 63) (o : Only H) (h : SqL K H a (ns.map V.int)) : Scr K H a ns := by
  refine ⟨hl, fun H' f => ?_⟩
  rcases h with (h | ⟨ob, h⟩) | h
  · rcases o a with z | ⟨ob, xs, z⟩
    · rw [z] at h
      cases h
    · rw [z] at h
      cases h
  · exact .inl (.inr ⟨ob, f a ob _ h⟩)
  · exact .inr h
theorem cal_up {P : Program} {w : World} {K : PySem.W.Frag} {mg : Str → Option Value} {base : Heap} {j k : Nat} {x : Str} {sp : Sp} {dvs : List V} (c : Cal P w K mg base j x sp dvs) (h : j ≤ k) : Cal P w K mg base k x sp dvs := by
  obtain ⟨f, fd, ps, ds, F, h1, h2, h3, h4⟩ := c.ex
  exact ⟨f, fd, ps, ds, F.mono h, h1, h2, h3, h4⟩
theorem cal_no {P : Program} {w : World} {K : PySem.W.Frag} {mg : Str → Option Value} {base : Heap} {k : Nat} {x : Str} {st : Stmt} {f : Addr} {fd : FuncData} {ps : List Str} {sp : Sp} (F : Def K mg x st f fd) (b : Binds K fd ps []) (h : ∀ vs H Q E, ¬ sp vs H Q E) : Cal P w K mg base k x sp [] :=
  ⟨f, fd, ps, [], ⟨fun vs H Q E q => absurd q (h vs H Q E), fun A outer s H args us vs Q E _ _ _ _ q => absurd q (h vs H Q E)⟩, F.mgf, F.kp, b, .nil⟩
theorem nest_no {K : PySem.W.Frag} (vs : List V) (H : Hp) (Q : VK) (E : XK) : ¬ spNest K 0 vs H Q E := by
  rintro ⟨_, _, h, _⟩
  exact Nat.lt_irrefl 0 h
def signedT : List (List Nat) := [lt "add", lt "take", lt "times", lt "over", lt "rest", lt "less", lt "same"]
theorem signedT_is : (signedT.map fun z => V.str (S z)) = [V.str (Str.ofString "add"), .str (Str.ofString "take"), .str (Str.ofString "times"), .str (Str.ofString "over"), .str (Str.ofString "rest"), .str (Str.ofString "less"), .str (Str.ofString "same")] := by
  simp only [S_lt, signedT, List.map_cons, List.map_nil]
theorem all_mk {l : PySem.W.OpenLaw} {w : World} {K : PySem.W.Frag} {h : Heap} {mg : Str → Option Value} {fa : Addr} (X : K.In h) (G : h.Ns mainGlobals mg) (hfa : mg "law" = some (.ref fa))
    {od_rows_for_call an_rows_for_call : Option Addr} {sl_rows_for_call : Array (Option Value)} {oc_rows_for_call kV_rows_for_call dc_rows_for_call pm_rows_for_call cd_rows_for_call ct_rows_for_call : Value} {f_rows_for_call : Addr}
    (a_rows_for_call : PySem.W.nsIn K mainGlobals "rows_for_call" = some (some (.ref f_rows_for_call))) (l_rows_for_call : K.lookup f_rows_for_call = some ⟨oc_rows_for_call, od_rows_for_call, .func (PySem.W.fnOf "rows_for_call" "rows_for_call" (C8.fnArgs s_rows_for_call) (C8.fnBody s_rows_for_call) (C8.fnScope s_rows_for_call) .none kV_rows_for_call dc_rows_for_call pm_rows_for_call an_rows_for_call cd_rows_for_call ct_rows_for_call), sl_rows_for_call⟩)
    (c_rows_for_call : PySem.W.codeIn K cd_rows_for_call "rows_for_call" = true) (k_rows_for_call : PySem.W.keepIn K (.ref f_rows_for_call) = true)
    {od_rows_for_way an_rows_for_way : Option Addr} {sl_rows_for_way : Array (Option Value)} {oc_rows_for_way kV_rows_for_way dc_rows_for_way pm_rows_for_way cd_rows_for_way ct_rows_for_way : Value} {f_rows_for_way : Addr}
    (a_rows_for_way : PySem.W.nsIn K mainGlobals "rows_for_way" = some (some (.ref f_rows_for_way))) (l_rows_for_way : K.lookup f_rows_for_way = some ⟨oc_rows_for_way, od_rows_for_way, .func (PySem.W.fnOf "rows_for_way" "rows_for_way" (C8.fnArgs s_rows_for_way) (C8.fnBody s_rows_for_way) (C8.fnScope s_rows_for_way) .none kV_rows_for_way dc_rows_for_way pm_rows_for_way an_rows_for_way cd_rows_for_way ct_rows_for_way), sl_rows_for_way⟩)
    (c_rows_for_way : PySem.W.codeIn K cd_rows_for_way "rows_for_way" = true) (k_rows_for_way : PySem.W.keepIn K (.ref f_rows_for_way) = true)
    {od_rows_for an_rows_for : Option Addr} {sl_rows_for : Array (Option Value)} {oc_rows_for kV_rows_for dc_rows_for pm_rows_for cd_rows_for ct_rows_for : Value} {f_rows_for : Addr}
    (a_rows_for : PySem.W.nsIn K mainGlobals "rows_for" = some (some (.ref f_rows_for))) (l_rows_for : K.lookup f_rows_for = some ⟨oc_rows_for, od_rows_for, .func (PySem.W.fnOf "rows_for" "rows_for" (C8.fnArgs s_rows_for) (C8.fnBody s_rows_for) (C8.fnScope s_rows_for) .none kV_rows_for dc_rows_for pm_rows_for an_rows_for cd_rows_for ct_rows_for), sl_rows_for⟩)
    (c_rows_for : PySem.W.codeIn K cd_rows_for "rows_for" = true) (k_rows_for : PySem.W.keepIn K (.ref f_rows_for) = true)
    {od_with_number an_with_number : Option Addr} {sl_with_number : Array (Option Value)} {oc_with_number kV_with_number dc_with_number pm_with_number cd_with_number ct_with_number : Value} {f_with_number : Addr}
    (a_with_number : PySem.W.nsIn K mainGlobals "with_number" = some (some (.ref f_with_number))) (l_with_number : K.lookup f_with_number = some ⟨oc_with_number, od_with_number, .func (PySem.W.fnOf "with_number" "with_number" (C8.fnArgs s_with_number) (C8.fnBody s_with_number) (C8.fnScope s_with_number) .none kV_with_number dc_with_number pm_with_number an_with_number cd_with_number ct_with_number), sl_with_number⟩)
    (c_with_number : PySem.W.codeIn K cd_with_number "with_number" = true) (k_with_number : PySem.W.keepIn K (.ref f_with_number) = true)
    {od_places_of_labels an_places_of_labels : Option Addr} {sl_places_of_labels : Array (Option Value)} {oc_places_of_labels kV_places_of_labels dc_places_of_labels pm_places_of_labels cd_places_of_labels ct_places_of_labels : Value} {f_places_of_labels : Addr}
    (a_places_of_labels : PySem.W.nsIn K mainGlobals "places_of_labels" = some (some (.ref f_places_of_labels))) (l_places_of_labels : K.lookup f_places_of_labels = some ⟨oc_places_of_labels, od_places_of_labels, .func (PySem.W.fnOf "places_of_labels" "places_of_labels" (C8.fnArgs s_places_of_labels) (C8.fnBody s_places_of_labels) (C8.fnScope s_places_of_labels) .none kV_places_of_labels dc_places_of_labels pm_places_of_labels an_places_of_labels cd_places_of_labels ct_places_of_labels), sl_places_of_labels⟩)
    (c_places_of_labels : PySem.W.codeIn K cd_places_of_labels "places_of_labels" = true) (k_places_of_labels : PySem.W.keepIn K (.ref f_places_of_labels) = true)
    {od_machine_of an_machine_of : Option Addr} {sl_machine_of : Array (Option Value)} {oc_machine_of kV_machine_of dc_machine_of pm_machine_of cd_machine_of ct_machine_of : Value} {f_machine_of : Addr}
    (a_machine_of : PySem.W.nsIn K mainGlobals "machine_of" = some (some (.ref f_machine_of))) (l_machine_of : K.lookup f_machine_of = some ⟨oc_machine_of, od_machine_of, .func (PySem.W.fnOf "machine_of" "machine_of" (C8.fnArgs s_machine_of) (C8.fnBody s_machine_of) (C8.fnScope s_machine_of) .none kV_machine_of dc_machine_of pm_machine_of an_machine_of cd_machine_of ct_machine_of), sl_machine_of⟩)
    (c_machine_of : PySem.W.codeIn K cd_machine_of "machine_of" = true) (k_machine_of : PySem.W.keepIn K (.ref f_machine_of) = true)
    {od__law_taken an__law_taken : Option Addr} {sl__law_taken : Array (Option Value)} {oc__law_taken kV__law_taken dc__law_taken pm__law_taken cd__law_taken ct__law_taken : Value} {f__law_taken : Addr}
    (a__law_taken : PySem.W.nsIn K mainGlobals "_law_taken" = some (some (.ref f__law_taken))) (l__law_taken : K.lookup f__law_taken = some ⟨oc__law_taken, od__law_taken, .func (PySem.W.fnOf "_law_taken" "_law_taken" (C8.fnArgs s__law_taken) (C8.fnBody s__law_taken) (C8.fnScope s__law_taken) .none kV__law_taken dc__law_taken pm__law_taken an__law_taken cd__law_taken ct__law_taken), sl__law_taken⟩)
    (c__law_taken : PySem.W.codeIn K cd__law_taken "_law_taken" = true) (k__law_taken : PySem.W.keepIn K (.ref f__law_taken) = true)
    {od__law_operand an__law_operand : Option Addr} {sl__law_operand : Array (Option Value)} {oc__law_operand kV__law_operand dc__law_operand pm__law_operand cd__law_operand ct__law_operand : Value} {f__law_operand : Addr}
    (a__law_operand : PySem.W.nsIn K mainGlobals "_law_operand" = some (some (.ref f__law_operand))) (l__law_operand : K.lookup f__law_operand = some ⟨oc__law_operand, od__law_operand, .func (PySem.W.fnOf "_law_operand" "_law_operand" (C8.fnArgs s__law_operand) (C8.fnBody s__law_operand) (C8.fnScope s__law_operand) .none kV__law_operand dc__law_operand pm__law_operand an__law_operand cd__law_operand ct__law_operand), sl__law_operand⟩)
    (c__law_operand : PySem.W.codeIn K cd__law_operand "_law_operand" = true) (k__law_operand : PySem.W.keepIn K (.ref f__law_operand) = true)
    {od__law_place an__law_place : Option Addr} {sl__law_place : Array (Option Value)} {oc__law_place kV__law_place dc__law_place pm__law_place cd__law_place ct__law_place : Value} {f__law_place : Addr}
    (a__law_place : PySem.W.nsIn K mainGlobals "_law_place" = some (some (.ref f__law_place))) (l__law_place : K.lookup f__law_place = some ⟨oc__law_place, od__law_place, .func (PySem.W.fnOf "_law_place" "_law_place" (C8.fnArgs s__law_place) (C8.fnBody s__law_place) (C8.fnScope s__law_place) .none kV__law_place dc__law_place pm__law_place an__law_place cd__law_place ct__law_place), sl__law_place⟩)
    (c__law_place : PySem.W.codeIn K cd__law_place "_law_place" = true) (k__law_place : PySem.W.keepIn K (.ref f__law_place) = true)
    {od__law_fresh an__law_fresh : Option Addr} {sl__law_fresh : Array (Option Value)} {oc__law_fresh kV__law_fresh dc__law_fresh pm__law_fresh cd__law_fresh ct__law_fresh : Value} {f__law_fresh : Addr}
    (a__law_fresh : PySem.W.nsIn K mainGlobals "_law_fresh" = some (some (.ref f__law_fresh))) (l__law_fresh : K.lookup f__law_fresh = some ⟨oc__law_fresh, od__law_fresh, .func (PySem.W.fnOf "_law_fresh" "_law_fresh" (C8.fnArgs s__law_fresh) (C8.fnBody s__law_fresh) (C8.fnScope s__law_fresh) .none kV__law_fresh dc__law_fresh pm__law_fresh an__law_fresh cd__law_fresh ct__law_fresh), sl__law_fresh⟩)
    (c__law_fresh : PySem.W.codeIn K cd__law_fresh "_law_fresh" = true) (k__law_fresh : PySem.W.keepIn K (.ref f__law_fresh) = true)
    {od__law_lays an__law_lays : Option Addr} {sl__law_lays : Array (Option Value)} {oc__law_lays kV__law_lays dc__law_lays pm__law_lays cd__law_lays ct__law_lays : Value} {f__law_lays : Addr}
    (a__law_lays : PySem.W.nsIn K mainGlobals "_law_lays" = some (some (.ref f__law_lays))) (l__law_lays : K.lookup f__law_lays = some ⟨oc__law_lays, od__law_lays, .func (PySem.W.fnOf "_law_lays" "_law_lays" (C8.fnArgs s__law_lays) (C8.fnBody s__law_lays) (C8.fnScope s__law_lays) .none kV__law_lays dc__law_lays pm__law_lays an__law_lays cd__law_lays ct__law_lays), sl__law_lays⟩)
    (c__law_lays : PySem.W.codeIn K cd__law_lays "_law_lays" = true) (k__law_lays : PySem.W.keepIn K (.ref f__law_lays) = true)
    {od__law_straight an__law_straight : Option Addr} {sl__law_straight : Array (Option Value)} {oc__law_straight kV__law_straight dc__law_straight pm__law_straight cd__law_straight ct__law_straight : Value} {f__law_straight : Addr}
    (a__law_straight : PySem.W.nsIn K mainGlobals "_law_straight" = some (some (.ref f__law_straight))) (l__law_straight : K.lookup f__law_straight = some ⟨oc__law_straight, od__law_straight, .func (PySem.W.fnOf "_law_straight" "_law_straight" (C8.fnArgs s__law_straight) (C8.fnBody s__law_straight) (C8.fnScope s__law_straight) .none kV__law_straight dc__law_straight pm__law_straight an__law_straight cd__law_straight ct__law_straight), sl__law_straight⟩)
    (c__law_straight : PySem.W.codeIn K cd__law_straight "_law_straight" = true) (k__law_straight : PySem.W.keepIn K (.ref f__law_straight) = true)
    {od__law_choice an__law_choice : Option Addr} {sl__law_choice : Array (Option Value)} {oc__law_choice kV__law_choice dc__law_choice pm__law_choice cd__law_choice ct__law_choice : Value} {f__law_choice : Addr}
    (a__law_choice : PySem.W.nsIn K mainGlobals "_law_choice" = some (some (.ref f__law_choice))) (l__law_choice : K.lookup f__law_choice = some ⟨oc__law_choice, od__law_choice, .func (PySem.W.fnOf "_law_choice" "_law_choice" (C8.fnArgs s__law_choice) (C8.fnBody s__law_choice) (C8.fnScope s__law_choice) .none kV__law_choice dc__law_choice pm__law_choice an__law_choice cd__law_choice ct__law_choice), sl__law_choice⟩)
    (c__law_choice : PySem.W.codeIn K cd__law_choice "_law_choice" = true) (k__law_choice : PySem.W.keepIn K (.ref f__law_choice) = true)
    {od__law_round an__law_round : Option Addr} {sl__law_round : Array (Option Value)} {oc__law_round kV__law_round dc__law_round pm__law_round cd__law_round ct__law_round : Value} {f__law_round : Addr}
    (a__law_round : PySem.W.nsIn K mainGlobals "_law_round" = some (some (.ref f__law_round))) (l__law_round : K.lookup f__law_round = some ⟨oc__law_round, od__law_round, .func (PySem.W.fnOf "_law_round" "_law_round" (C8.fnArgs s__law_round) (C8.fnBody s__law_round) (C8.fnScope s__law_round) .none kV__law_round dc__law_round pm__law_round an__law_round cd__law_round ct__law_round), sl__law_round⟩)
    (c__law_round : PySem.W.codeIn K cd__law_round "_law_round" = true) (k__law_round : PySem.W.keepIn K (.ref f__law_round) = true)
    {od__law_block an__law_block : Option Addr} {sl__law_block : Array (Option Value)} {oc__law_block kV__law_block dc__law_block pm__law_block cd__law_block ct__law_block : Value} {f__law_block : Addr}
    (a__law_block : PySem.W.nsIn K mainGlobals "_law_block" = some (some (.ref f__law_block))) (l__law_block : K.lookup f__law_block = some ⟨oc__law_block, od__law_block, .func (PySem.W.fnOf "_law_block" "_law_block" (C8.fnArgs s__law_block) (C8.fnBody s__law_block) (C8.fnScope s__law_block) .none kV__law_block dc__law_block pm__law_block an__law_block cd__law_block ct__law_block), sl__law_block⟩)
    (c__law_block : PySem.W.codeIn K cd__law_block "_law_block" = true) (k__law_block : PySem.W.keepIn K (.ref f__law_block) = true)
    {od__law_made an__law_made : Option Addr} {sl__law_made : Array (Option Value)} {oc__law_made kV__law_made dc__law_made pm__law_made cd__law_made ct__law_made : Value} {f__law_made : Addr}
    (a__law_made : PySem.W.nsIn K mainGlobals "_law_made" = some (some (.ref f__law_made))) (l__law_made : K.lookup f__law_made = some ⟨oc__law_made, od__law_made, .func (PySem.W.fnOf "_law_made" "_law_made" (C8.fnArgs s__law_made) (C8.fnBody s__law_made) (C8.fnScope s__law_made) .none kV__law_made dc__law_made pm__law_made an__law_made cd__law_made ct__law_made), sl__law_made⟩)
    (c__law_made : PySem.W.codeIn K cd__law_made "_law_made" = true) (k__law_made : PySem.W.keepIn K (.ref f__law_made) = true)
    {od__law_reckon an__law_reckon : Option Addr} {sl__law_reckon : Array (Option Value)} {oc__law_reckon kV__law_reckon dc__law_reckon pm__law_reckon cd__law_reckon ct__law_reckon : Value} {f__law_reckon : Addr}
    (a__law_reckon : PySem.W.nsIn K mainGlobals "_law_reckon" = some (some (.ref f__law_reckon))) (l__law_reckon : K.lookup f__law_reckon = some ⟨oc__law_reckon, od__law_reckon, .func (PySem.W.fnOf "_law_reckon" "_law_reckon" (C8.fnArgs s__law_reckon) (C8.fnBody s__law_reckon) (C8.fnScope s__law_reckon) .none kV__law_reckon dc__law_reckon pm__law_reckon an__law_reckon cd__law_reckon ct__law_reckon), sl__law_reckon⟩)
    (c__law_reckon : PySem.W.codeIn K cd__law_reckon "_law_reckon" = true) (k__law_reckon : PySem.W.keepIn K (.ref f__law_reckon) = true)
    {od__law_came an__law_came : Option Addr} {sl__law_came : Array (Option Value)} {oc__law_came kV__law_came dc__law_came pm__law_came cd__law_came ct__law_came : Value} {f__law_came : Addr}
    (a__law_came : PySem.W.nsIn K mainGlobals "_law_came" = some (some (.ref f__law_came))) (l__law_came : K.lookup f__law_came = some ⟨oc__law_came, od__law_came, .func (PySem.W.fnOf "_law_came" "_law_came" (C8.fnArgs s__law_came) (C8.fnBody s__law_came) (C8.fnScope s__law_came) .none kV__law_came dc__law_came pm__law_came an__law_came cd__law_came ct__law_came), sl__law_came⟩)
    (c__law_came : PySem.W.codeIn K cd__law_came "_law_came" = true) (k__law_came : PySem.W.keepIn K (.ref f__law_came) = true)
    {od__law_worked an__law_worked : Option Addr} {sl__law_worked : Array (Option Value)} {oc__law_worked kV__law_worked dc__law_worked pm__law_worked cd__law_worked ct__law_worked : Value} {f__law_worked : Addr}
    (a__law_worked : PySem.W.nsIn K mainGlobals "_law_worked" = some (some (.ref f__law_worked))) (l__law_worked : K.lookup f__law_worked = some ⟨oc__law_worked, od__law_worked, .func (PySem.W.fnOf "_law_worked" "_law_worked" (C8.fnArgs s__law_worked) (C8.fnBody s__law_worked) (C8.fnScope s__law_worked) .none kV__law_worked dc__law_worked pm__law_worked an__law_worked cd__law_worked ct__law_worked), sl__law_worked⟩)
    (c__law_worked : PySem.W.codeIn K cd__law_worked "_law_worked" = true) (k__law_worked : PySem.W.keepIn K (.ref f__law_worked) = true)
    {od__law_machine an__law_machine : Option Addr} {sl__law_machine : Array (Option Value)} {oc__law_machine kV__law_machine dc__law_machine pm__law_machine cd__law_machine ct__law_machine : Value} {f__law_machine : Addr}
    (a__law_machine : PySem.W.nsIn K mainGlobals "_law_machine" = some (some (.ref f__law_machine))) (l__law_machine : K.lookup f__law_machine = some ⟨oc__law_machine, od__law_machine, .func (PySem.W.fnOf "_law_machine" "_law_machine" (C8.fnArgs s__law_machine) (C8.fnBody s__law_machine) (C8.fnScope s__law_machine) .none kV__law_machine dc__law_machine pm__law_machine an__law_machine cd__law_machine ct__law_machine), sl__law_machine⟩)
    (c__law_machine : PySem.W.codeIn K cd__law_machine "_law_machine" = true) (k__law_machine : PySem.W.keepIn K (.ref f__law_machine) = true)
    {od__law_parts_of an__law_parts_of : Option Addr} {sl__law_parts_of : Array (Option Value)} {oc__law_parts_of kV__law_parts_of dc__law_parts_of pm__law_parts_of cd__law_parts_of ct__law_parts_of : Value} {f__law_parts_of : Addr}
    (a__law_parts_of : PySem.W.nsIn K mainGlobals "_law_parts_of" = some (some (.ref f__law_parts_of))) (l__law_parts_of : K.lookup f__law_parts_of = some ⟨oc__law_parts_of, od__law_parts_of, .func (PySem.W.fnOf "_law_parts_of" "_law_parts_of" (C8.fnArgs s__law_parts_of) (C8.fnBody s__law_parts_of) (C8.fnScope s__law_parts_of) .none kV__law_parts_of dc__law_parts_of pm__law_parts_of an__law_parts_of cd__law_parts_of ct__law_parts_of), sl__law_parts_of⟩)
    (c__law_parts_of : PySem.W.codeIn K cd__law_parts_of "_law_parts_of" = true) (k__law_parts_of : PySem.W.keepIn K (.ref f__law_parts_of) = true)
    {od__law_cell_spots an__law_cell_spots : Option Addr} {sl__law_cell_spots : Array (Option Value)} {oc__law_cell_spots kV__law_cell_spots dc__law_cell_spots pm__law_cell_spots cd__law_cell_spots ct__law_cell_spots : Value} {f__law_cell_spots : Addr}
    (a__law_cell_spots : PySem.W.nsIn K mainGlobals "_law_cell_spots" = some (some (.ref f__law_cell_spots))) (l__law_cell_spots : K.lookup f__law_cell_spots = some ⟨oc__law_cell_spots, od__law_cell_spots, .func (PySem.W.fnOf "_law_cell_spots" "_law_cell_spots" (C8.fnArgs s__law_cell_spots) (C8.fnBody s__law_cell_spots) (C8.fnScope s__law_cell_spots) .none kV__law_cell_spots dc__law_cell_spots pm__law_cell_spots an__law_cell_spots cd__law_cell_spots ct__law_cell_spots), sl__law_cell_spots⟩)
    (c__law_cell_spots : PySem.W.codeIn K cd__law_cell_spots "_law_cell_spots" = true) (k__law_cell_spots : PySem.W.keepIn K (.ref f__law_cell_spots) = true)
    {od__law_other an__law_other : Option Addr} {sl__law_other : Array (Option Value)} {oc__law_other kV__law_other dc__law_other pm__law_other cd__law_other ct__law_other : Value} {f__law_other : Addr}
    (a__law_other : PySem.W.nsIn K mainGlobals "_law_other" = some (some (.ref f__law_other))) (l__law_other : K.lookup f__law_other = some ⟨oc__law_other, od__law_other, .func (PySem.W.fnOf "_law_other" "_law_other" (C8.fnArgs s__law_other) (C8.fnBody s__law_other) (C8.fnScope s__law_other) .none kV__law_other dc__law_other pm__law_other an__law_other cd__law_other ct__law_other), sl__law_other⟩)
    (c__law_other : PySem.W.codeIn K cd__law_other "_law_other" = true) (k__law_other : PySem.W.keepIn K (.ref f__law_other) = true)
    {od__law_alike an__law_alike : Option Addr} {sl__law_alike : Array (Option Value)} {oc__law_alike kV__law_alike dc__law_alike pm__law_alike cd__law_alike ct__law_alike : Value} {f__law_alike : Addr}
    (a__law_alike : PySem.W.nsIn K mainGlobals "_law_alike" = some (some (.ref f__law_alike))) (l__law_alike : K.lookup f__law_alike = some ⟨oc__law_alike, od__law_alike, .func (PySem.W.fnOf "_law_alike" "_law_alike" (C8.fnArgs s__law_alike) (C8.fnBody s__law_alike) (C8.fnScope s__law_alike) .none kV__law_alike dc__law_alike pm__law_alike an__law_alike cd__law_alike ct__law_alike), sl__law_alike⟩)
    (c__law_alike : PySem.W.codeIn K cd__law_alike "_law_alike" = true) (k__law_alike : PySem.W.keepIn K (.ref f__law_alike) = true)
    {od_law an_law : Option Addr} {sl_law : Array (Option Value)} {oc_law kV_law dc_law pm_law cd_law ct_law : Value} {f_law : Addr}
    (a_law : PySem.W.nsIn K mainGlobals "law" = some (some (.ref f_law))) (l_law : K.lookup f_law = some ⟨oc_law, od_law, .func (PySem.W.fnOf "law" "law" (C8.fnArgs s_law) (C8.fnBody s_law) (C8.fnScope s_law) .none kV_law dc_law pm_law an_law cd_law ct_law), sl_law⟩)
    (c_law : PySem.W.codeIn K cd_law "law" = true) (k_law : PySem.W.keepIn K (.ref f_law) = true)
    (z_len : PySem.W.nsIn K mainGlobals "len" = some none)
    (z_enumerate : PySem.W.nsIn K mainGlobals "enumerate" = some none)
    (z_int : PySem.W.nsIn K mainGlobals "int" = some none)
    (z_str : PySem.W.nsIn K mainGlobals "str" = some none)
    (z_bool : PySem.W.nsIn K mainGlobals "bool" = some none)
    (z_tuple : PySem.W.nsIn K mainGlobals "tuple" = some none)
    (z_list : PySem.W.nsIn K mainGlobals "list" = some none)
    (z_range : PySem.W.nsIn K mainGlobals "range" = some none)
    (z_isinstance : PySem.W.nsIn K mainGlobals "isinstance" = some none)
    (z_dict : PySem.W.nsIn K mainGlobals "dict" = some none)
    (z_min : PySem.W.nsIn K mainGlobals "min" = some none)
    {aG : Addr} {odG : Option Addr} {itG : Array Value} {nG : Nat} {slG : Array (Option Value)} (gG : PySem.W.nsIn K mainGlobals "SIGNED" = some (some (.ref aG))) (lG : K.lookup aG = some ⟨.type "tuple", odG, .seq itG nG, slG⟩) (vG : itG.toList.map absS = signedT.map some) :
    ∃ fd : FuncData, (∀ (s : Shared) (v : Value), BindsTo s fd ⟨[v], []⟩ [("_law_script", v)]) ∧ ∀ base : Heap, K.In base → base.Ns mainGlobals mg → FnOk l.prog w K mg base C8.CX0 11 fa fd ["_law_script"] (spLaw K) := by
  have e : f_law = fa := by
    have z := (PySem.W.mg_of X G a_law).symm.trans hfa
    injection z with z
    injection z
  subst e
  have D_rows_for_call : Def K mg "rows_for_call" s_rows_for_call f_rows_for_call _ := ⟨⟨_, _, _, _, _, _, _, _, _, _, rfl, l_rows_for_call, c_rows_for_call⟩, PySem.W.mg_of X G a_rows_for_call, k_rows_for_call⟩
  have b_rows_for_call := C8.Fun.binds D_rows_for_call.fn rfl (ps := ["row"]) fun _ _ _ _ _ _ us hl => match us, hl with | [_], _ => rfl
  have D_rows_for_way : Def K mg "rows_for_way" s_rows_for_way f_rows_for_way _ := ⟨⟨_, _, _, _, _, _, _, _, _, _, rfl, l_rows_for_way, c_rows_for_way⟩, PySem.W.mg_of X G a_rows_for_way, k_rows_for_way⟩
  have b_rows_for_way := C8.Fun.binds D_rows_for_way.fn rfl (ps := ["row"]) fun _ _ _ _ _ _ us hl => match us, hl with | [_], _ => rfl
  have D_rows_for : Def K mg "rows_for" s_rows_for f_rows_for _ := ⟨⟨_, _, _, _, _, _, _, _, _, _, rfl, l_rows_for, c_rows_for⟩, PySem.W.mg_of X G a_rows_for, k_rows_for⟩
  have b_rows_for := C8.Fun.binds D_rows_for.fn rfl (ps := ["row"]) fun _ _ _ _ _ _ us hl => match us, hl with | [_], _ => rfl
  have D_with_number : Def K mg "with_number" s_with_number f_with_number _ := ⟨⟨_, _, _, _, _, _, _, _, _, _, rfl, l_with_number, c_with_number⟩, PySem.W.mg_of X G a_with_number, k_with_number⟩
  have b_with_number := C8.Fun.binds D_with_number.fn rfl (ps := ["row", "labels"]) fun _ _ _ _ _ _ us hl => match us, hl with | [_, _], _ => rfl
  have D_places_of_labels : Def K mg "places_of_labels" s_places_of_labels f_places_of_labels _ := ⟨⟨_, _, _, _, _, _, _, _, _, _, rfl, l_places_of_labels, c_places_of_labels⟩, PySem.W.mg_of X G a_places_of_labels, k_places_of_labels⟩
  have b_places_of_labels := C8.Fun.binds D_places_of_labels.fn rfl (ps := ["rows"]) fun _ _ _ _ _ _ us hl => match us, hl with | [_], _ => rfl
  have D_machine_of : Def K mg "machine_of" s_machine_of f_machine_of _ := ⟨⟨_, _, _, _, _, _, _, _, _, _, rfl, l_machine_of, c_machine_of⟩, PySem.W.mg_of X G a_machine_of, k_machine_of⟩
  have b_machine_of := C8.Fun.binds D_machine_of.fn rfl (ps := ["one"]) fun _ _ _ _ _ _ us hl => match us, hl with | [_], _ => rfl
  have D__law_taken : Def K mg "_law_taken" s__law_taken f__law_taken _ := ⟨⟨_, _, _, _, _, _, _, _, _, _, rfl, l__law_taken, c__law_taken⟩, PySem.W.mg_of X G a__law_taken, k__law_taken⟩
  have b__law_taken := C8.Fun.binds D__law_taken.fn rfl (ps := ["_law_row", "_law_many"]) fun _ _ _ _ _ _ us hl => match us, hl with | [_, _], _ => rfl
  have D__law_operand : Def K mg "_law_operand" s__law_operand f__law_operand _ := ⟨⟨_, _, _, _, _, _, _, _, _, _, rfl, l__law_operand, c__law_operand⟩, PySem.W.mg_of X G a__law_operand, k__law_operand⟩
  have b__law_operand := C8.Fun.binds D__law_operand.fn rfl (ps := ["_law_row", "_law_s"]) fun _ _ _ _ _ _ us hl => match us, hl with | [_, _], _ => rfl
  have D__law_place : Def K mg "_law_place" s__law_place f__law_place _ := ⟨⟨_, _, _, _, _, _, _, _, _, _, rfl, l__law_place, c__law_place⟩, PySem.W.mg_of X G a__law_place, k__law_place⟩
  have b__law_place := C8.Fun.binds D__law_place.fn rfl (ps := ["_law_row", "_law_s"]) fun _ _ _ _ _ _ us hl => match us, hl with | [_, _], _ => rfl
  have D__law_fresh : Def K mg "_law_fresh" s__law_fresh f__law_fresh _ := ⟨⟨_, _, _, _, _, _, _, _, _, _, rfl, l__law_fresh, c__law_fresh⟩, PySem.W.mg_of X G a__law_fresh, k__law_fresh⟩
  have b__law_fresh := C8.Fun.binds D__law_fresh.fn rfl (ps := ["_law_row", "_law_s"]) fun _ _ _ _ _ _ us hl => match us, hl with | [_, _], _ => rfl
  have D__law_lays : Def K mg "_law_lays" s__law_lays f__law_lays _ := ⟨⟨_, _, _, _, _, _, _, _, _, _, rfl, l__law_lays, c__law_lays⟩, PySem.W.mg_of X G a__law_lays, k__law_lays⟩
  have b__law_lays := C8.Fun.binds D__law_lays.fn rfl (ps := ["_law_row", "_law_s", "_law_middle_here"]) fun _ _ _ _ _ _ us hl => match us, hl with | [_, _, _], _ => rfl
  have D__law_straight : Def K mg "_law_straight" s__law_straight f__law_straight _ := ⟨⟨_, _, _, _, _, _, _, _, _, _, rfl, l__law_straight, c__law_straight⟩, PySem.W.mg_of X G a__law_straight, k__law_straight⟩
  have b__law_straight := C8.Fun.binds D__law_straight.fn rfl (ps := ["_law_row", "_law_s"]) fun _ _ _ _ _ _ us hl => match us, hl with | [_, _], _ => rfl
  have D__law_choice : Def K mg "_law_choice" s__law_choice f__law_choice _ := ⟨⟨_, _, _, _, _, _, _, _, _, _, rfl, l__law_choice, c__law_choice⟩, PySem.W.mg_of X G a__law_choice, k__law_choice⟩
  have b__law_choice := C8.Fun.binds D__law_choice.fn rfl (ps := ["_law_row", "_law_s", "_law_deep"]) fun _ _ _ _ _ _ us hl => match us, hl with | [_, _, _], _ => rfl
  have D__law_round : Def K mg "_law_round" s__law_round f__law_round _ := ⟨⟨_, _, _, _, _, _, _, _, _, _, rfl, l__law_round, c__law_round⟩, PySem.W.mg_of X G a__law_round, k__law_round⟩
  have b__law_round := C8.Fun.binds D__law_round.fn rfl (ps := ["_law_row", "_law_s", "_law_deep"]) fun _ _ _ _ _ _ us hl => match us, hl with | [_, _, _], _ => rfl
  have D__law_block : Def K mg "_law_block" s__law_block f__law_block _ := ⟨⟨_, _, _, _, _, _, _, _, _, _, rfl, l__law_block, c__law_block⟩, PySem.W.mg_of X G a__law_block, k__law_block⟩
  have b__law_block := C8.Fun.binds D__law_block.fn rfl (ps := ["_law_row", "_law_s", "_law_deep"]) fun _ _ _ _ _ _ us hl => match us, hl with | [_, _, _], _ => rfl
  have D__law_made : Def K mg "_law_made" s__law_made f__law_made _ := ⟨⟨_, _, _, _, _, _, _, _, _, _, rfl, l__law_made, c__law_made⟩, PySem.W.mg_of X G a__law_made, k__law_made⟩
  have b__law_made := C8.Fun.binds D__law_made.fn rfl (ps := ["_law_row", "_law_deep"]) fun _ _ _ _ _ _ us hl => match us, hl with | [_, _], _ => rfl
  have D__law_reckon : Def K mg "_law_reckon" s__law_reckon f__law_reckon _ := ⟨⟨_, _, _, _, _, _, _, _, _, _, rfl, l__law_reckon, c__law_reckon⟩, PySem.W.mg_of X G a__law_reckon, k__law_reckon⟩
  have b__law_reckon := C8.Fun.binds D__law_reckon.fn rfl (ps := ["_law_word", "_law_one", "_law_other_here"]) fun _ _ _ _ _ _ us hl => match us, hl with | [_, _, _], _ => rfl
  have D__law_came : Def K mg "_law_came" s__law_came f__law_came _ := ⟨⟨_, _, _, _, _, _, _, _, _, _, rfl, l__law_came, c__law_came⟩, PySem.W.mg_of X G a__law_came, k__law_came⟩
  have b__law_came := C8.Fun.binds D__law_came.fn rfl (ps := ["_law_file", "_law_name", "_law_worths"]) fun _ _ _ _ _ _ us hl => match us, hl with | [_, _, _], _ => rfl
  have D__law_worked : Def K mg "_law_worked" s__law_worked f__law_worked _ := ⟨⟨_, _, _, _, _, _, _, _, _, _, rfl, l__law_worked, c__law_worked⟩, PySem.W.mg_of X G a__law_worked, k__law_worked⟩
  have b__law_worked := C8.Fun.binds D__law_worked.fn rfl (ps := ["_law_row", "_law_middle_here", "_law_pile", "_law_keeps"]) fun _ _ _ _ _ _ us hl => match us, hl with | [_, _, _, _], _ => rfl
  have D__law_machine : Def K mg "_law_machine" s__law_machine f__law_machine _ := ⟨⟨_, _, _, _, _, _, _, _, _, _, rfl, l__law_machine, c__law_machine⟩, PySem.W.mg_of X G a__law_machine, k__law_machine⟩
  have b__law_machine := C8.Fun.binds D__law_machine.fn rfl (ps := ["_law_rows", "_law_made_here", "_law_parts", "_law_most"]) fun _ _ _ _ _ _ us hl => match us, hl with | [_, _, _, _], _ => rfl
  have D__law_parts_of : Def K mg "_law_parts_of" s__law_parts_of f__law_parts_of _ := ⟨⟨_, _, _, _, _, _, _, _, _, _, rfl, l__law_parts_of, c__law_parts_of⟩, PySem.W.mg_of X G a__law_parts_of, k__law_parts_of⟩
  have b__law_parts_of := C8.Fun.binds D__law_parts_of.fn rfl (ps := ["_law_row", "_law_made_here"]) fun _ _ _ _ _ _ us hl => match us, hl with | [_, _], _ => rfl
  have D__law_cell_spots : Def K mg "_law_cell_spots" s__law_cell_spots f__law_cell_spots _ := ⟨⟨_, _, _, _, _, _, _, _, _, _, rfl, l__law_cell_spots, c__law_cell_spots⟩, PySem.W.mg_of X G a__law_cell_spots, k__law_cell_spots⟩
  have b__law_cell_spots := C8.Fun.binds D__law_cell_spots.fn rfl (ps := ["_law_row"]) fun _ _ _ _ _ _ us hl => match us, hl with | [_], _ => rfl
  have D__law_other : Def K mg "_law_other" s__law_other f__law_other _ := ⟨⟨_, _, _, _, _, _, _, _, _, _, rfl, l__law_other, c__law_other⟩, PySem.W.mg_of X G a__law_other, k__law_other⟩
  have b__law_other := C8.Fun.binds D__law_other.fn rfl (ps := ["_law_made_here", "_law_cells", "_law_shift"]) fun _ _ _ _ _ _ us hl => match us, hl with | [_, _, _], _ => rfl
  have D__law_alike : Def K mg "_law_alike" s__law_alike f__law_alike _ := ⟨⟨_, _, _, _, _, _, _, _, _, _, rfl, l__law_alike, c__law_alike⟩, PySem.W.mg_of X G a__law_alike, k__law_alike⟩
  have b__law_alike := C8.Fun.binds D__law_alike.fn rfl (ps := ["_law_one", "_law_other_here"]) fun _ _ _ _ _ _ us hl => match us, hl with | [_, _], _ => rfl
  have D_law : Def K mg "law" s_law f_law _ := ⟨⟨_, _, _, _, _, _, _, _, _, _, rfl, l_law, c_law⟩, PySem.W.mg_of X G a_law, k_law⟩
  have b_law := C8.Fun.binds D_law.fn rfl (ps := ["_law_script"]) fun _ _ _ _ _ _ us hl => match us, hl with | [_], _ => rfl
  have TL : ModsL K mg := ⟨PySem.W.mg_none_of X G z_len, PySem.W.mg_none_of X G z_int, PySem.W.mg_none_of X G z_str, PySem.W.mg_none_of X G z_bool, PySem.W.mg_none_of X G z_tuple, PySem.W.mg_none_of X G z_list, PySem.W.mg_none_of X G z_range, PySem.W.mg_none_of X G z_isinstance⟩
  have TM : ModsM K mg aG := ⟨PySem.W.mg_none_of X G z_len, PySem.W.mg_none_of X G z_enumerate, ⟨_, PySem.W.mg_of X G gG, rfl⟩, fun H => signedT_is ▸ tup_written lG vG (by decide) H⟩
  refine ⟨PySem.W.fnOf "law" "law" (C8.fnArgs s_law) (C8.fnBody s_law) (C8.fnScope s_law) .none kV_law dc_law pm_law an_law cd_law ct_law, fun s v => .of_eq rfl, fun base _ _ => ?_⟩
  have cfc := ok_rows_for_call (P := l.prog) (w := w) (base := base) TM D_rows_for_call b_rows_for_call
  have cfw := ok_rows_for_way (P := l.prog) (w := w) (base := base) TM D_rows_for_way b_rows_for_way
  have cf := ok_rows_for TM cfc cfw D_rows_for b_rows_for
  have cwn := ok_with_number (P := l.prog) (w := w) (base := base) TM D_with_number b_with_number
  have cpl := ok_labels (P := l.prog) (w := w) (base := base) TM D_places_of_labels b_places_of_labels
  have cm := ok_machine_of TM cf cpl cwn D_machine_of b_machine_of
  have ct := cal_next (ok_taken0 (P := l.prog) (w := w) (base := base) TL D__law_taken b__law_taken)
  have co := ok_operand TL ct D__law_operand b__law_operand
  have cp := ok_place TL ct D__law_place b__law_place
  have cfr := ok_fresh TL ct D__law_fresh b__law_fresh
  have cl := ok_lays TL cp D__law_lays b__law_lays
  have cs := ok_straight TL ct co cfr cp cl D__law_straight b__law_straight
  have ch0 : Cal l.prog w K mg base 4 "_law_choice" (spNest K 0) [] := cal_no D__law_choice b__law_choice nest_no
  have cr0 : Cal l.prog w K mg base 4 "_law_round" (spNest K 0) [] := cal_no D__law_round b__law_round nest_no
  have cb0 := ok_block TL (by decide) ct cs ch0 cr0 D__law_block b__law_block
  have ch1 := ok_choice TL (by decide) (by decide) ct co cp cb0 D__law_choice b__law_choice
  have cr1 := ok_round TL (by decide) (by decide) ct cl cp cb0 D__law_round b__law_round
  have cb1 := ok_block TL (by decide) ct cs ch1 cr1 D__law_block b__law_block
  have ch2 := ok_choice TL (by decide) (by decide) ct co cp cb1 D__law_choice b__law_choice
  have cr2 := ok_round TL (by decide) (by decide) ct cl cp cb1 D__law_round b__law_round
  have cb2 := ok_block TL (by decide) ct cs ch2 cr2 D__law_block b__law_block
  have cmd := ok_made TL (by decide) ct co cl cp cb2 D__law_made b__law_made
  have TI : ModsI K mg := ⟨TL, PySem.W.mg_none_of X G z_dict⟩
  have crk := ok_reckon (P := l.prog) (w := w) (base := base) TI D__law_reckon b__law_reckon
  have ccm := ok_came (P := l.prog) (w := w) (base := base) TI D__law_came b__law_came
  have cwo := ok_worked TI crk ccm D__law_worked b__law_worked
  have cma := ok_mach TI cwo D__law_machine b__law_machine
  have cpt := ok_parts TI ct D__law_parts_of b__law_parts_of
  have csp := ok_spots (P := l.prog) (w := w) (base := base) TI D__law_cell_spots b__law_cell_spots
  have cot := ok_other TI csp D__law_other b__law_other
  have ca := ok_alike (P := l.prog) (w := w) (base := base) TL D__law_alike b__law_alike 7
  exact ok_law TI (PySem.W.mg_none_of X G z_min) (k := 10) (by decide) ct (cal_up cmd (by decide)) cm cpt cot cma ca D_law
end Wt
open PySem PySem.W PyProof.Rows
set_option maxRecDepth 100000 in
set_option maxHeartbeats 0 in
theorem PySem.Challenge.cw_wholetongue_k49_whole_cells_by_other_num_holds : PySem.Challenge.rw_wholetongue_k49_whole_cells_by_other_num.Holds := by
  w_on; o_law; k_head; (case hw => w_witness2)
  k_fill
  refine L2.walk_of (l := PySem.Challenge.rw_wholetongue_k49_whole_cells_by_other_num) (n := 63) (k := 11) (x := "_law_script") (CX := fun _ => C8.CX0) (sp := fun w => Wt.spLaw _) rfl (by decide) rfl ⟨rfl, by decide, by decide⟩ (fun w h Y => PySem.W.kIn_of Y) ?F (fun _ _ a ns hl ho hS => ⟨a, ns, rfl, Wt.scr_of hl ho hS, fun _ => rfl⟩) (fun _ _ _ _ _ h => h)
  case F =>
    intro w mg fa h KX G hmg
    refine' Wt.all_mk KX G hmg ?a_rows_for_call ?l_rows_for_call ?c_rows_for_call ?k_rows_for_call ?a_rows_for_way ?l_rows_for_way ?c_rows_for_way ?k_rows_for_way ?a_rows_for ?l_rows_for ?c_rows_for ?k_rows_for ?a_with_number ?l_with_number ?c_with_number ?k_with_number ?a_places_of_labels ?l_places_of_labels ?c_places_of_labels ?k_places_of_labels ?a_machine_of ?l_machine_of ?c_machine_of ?k_machine_of ?a__law_taken ?l__law_taken ?c__law_taken ?k__law_taken ?a__law_operand ?l__law_operand ?c__law_operand ?k__law_operand ?a__law_place ?l__law_place ?c__law_place ?k__law_place ?a__law_fresh ?l__law_fresh ?c__law_fresh ?k__law_fresh ?a__law_lays ?l__law_lays ?c__law_lays ?k__law_lays ?a__law_straight ?l__law_straight ?c__law_straight ?k__law_straight ?a__law_choice ?l__law_choice ?c__law_choice ?k__law_choice ?a__law_round ?l__law_round ?c__law_round ?k__law_round ?a__law_block ?l__law_block ?c__law_block ?k__law_block ?a__law_made ?l__law_made ?c__law_made ?k__law_made ?a__law_reckon ?l__law_reckon ?c__law_reckon ?k__law_reckon ?a__law_came ?l__law_came ?c__law_came ?k__law_came ?a__law_worked ?l__law_worked ?c__law_worked ?k__law_worked ?a__law_machine ?l__law_machine ?c__law_machine ?k__law_machine ?a__law_parts_of ?l__law_parts_of ?c__law_parts_of ?k__law_parts_of ?a__law_cell_spots ?l__law_cell_spots ?c__law_cell_spots ?k__law_cell_spots ?a__law_other ?l__law_other ?c__law_other ?k__law_other ?a__law_alike ?l__law_alike ?c__law_alike ?k__law_alike ?a_law ?l_law ?c_law ?k_law ?z_len ?z_enumerate ?z_int ?z_str ?z_bool ?z_tuple ?z_list ?z_range ?z_isinstance ?z_dict ?z_min ?gG ?lG ?vG
    (case a_rows_for_call => k_is); (case l_rows_for_call => k_is); (case c_rows_for_call => k_is); (case k_rows_for_call => k_is)
    (case a_rows_for_way => k_is); (case l_rows_for_way => k_is); (case c_rows_for_way => k_is); (case k_rows_for_way => k_is)
    (case a_rows_for => k_is); (case l_rows_for => k_is); (case c_rows_for => k_is); (case k_rows_for => k_is)
    (case a_with_number => k_is); (case l_with_number => k_is); (case c_with_number => k_is); (case k_with_number => k_is)
    (case a_places_of_labels => k_is); (case l_places_of_labels => k_is); (case c_places_of_labels => k_is); (case k_places_of_labels => k_is)
    (case a_machine_of => k_is); (case l_machine_of => k_is); (case c_machine_of => k_is); (case k_machine_of => k_is)
    (case a__law_taken => k_is); (case l__law_taken => k_is); (case c__law_taken => k_is); (case k__law_taken => k_is)
    (case a__law_operand => k_is); (case l__law_operand => k_is); (case c__law_operand => k_is); (case k__law_operand => k_is)
    (case a__law_place => k_is); (case l__law_place => k_is); (case c__law_place => k_is); (case k__law_place => k_is)
    (case a__law_fresh => k_is); (case l__law_fresh => k_is); (case c__law_fresh => k_is); (case k__law_fresh => k_is)
    (case a__law_lays => k_is); (case l__law_lays => k_is); (case c__law_lays => k_is); (case k__law_lays => k_is)
    (case a__law_straight => k_is); (case l__law_straight => k_is); (case c__law_straight => k_is); (case k__law_straight => k_is)
    (case a__law_choice => k_is); (case l__law_choice => k_is); (case c__law_choice => k_is); (case k__law_choice => k_is)
    (case a__law_round => k_is); (case l__law_round => k_is); (case c__law_round => k_is); (case k__law_round => k_is)
    (case a__law_block => k_is); (case l__law_block => k_is); (case c__law_block => k_is); (case k__law_block => k_is)
    (case a__law_made => k_is); (case l__law_made => k_is); (case c__law_made => k_is); (case k__law_made => k_is)
    (case a__law_reckon => k_is); (case l__law_reckon => k_is); (case c__law_reckon => k_is); (case k__law_reckon => k_is)
    (case a__law_came => k_is); (case l__law_came => k_is); (case c__law_came => k_is); (case k__law_came => k_is)
    (case a__law_worked => k_is); (case l__law_worked => k_is); (case c__law_worked => k_is); (case k__law_worked => k_is)
    (case a__law_machine => k_is); (case l__law_machine => k_is); (case c__law_machine => k_is); (case k__law_machine => k_is)
    (case a__law_parts_of => k_is); (case l__law_parts_of => k_is); (case c__law_parts_of => k_is); (case k__law_parts_of => k_is)
    (case a__law_cell_spots => k_is); (case l__law_cell_spots => k_is); (case c__law_cell_spots => k_is); (case k__law_cell_spots => k_is)
    (case a__law_other => k_is); (case l__law_other => k_is); (case c__law_other => k_is); (case k__law_other => k_is)
    (case a__law_alike => k_is); (case l__law_alike => k_is); (case c__law_alike => k_is); (case k__law_alike => k_is)
    (case a_law => k_is); (case l_law => k_is); (case c_law => k_is); (case k_law => k_is)
    (case z_len => k_is)
    (case z_enumerate => k_is)
    (case z_int => k_is)
    (case z_str => k_is)
    (case z_bool => k_is)
    (case z_tuple => k_is)
    (case z_list => k_is)
    (case z_range => k_is)
    (case z_isinstance => k_is)
    (case z_dict => k_is)
    (case z_min => k_is)
    (case gG => k_is); (case lG => k_is); (case vG => decide +kernel)
