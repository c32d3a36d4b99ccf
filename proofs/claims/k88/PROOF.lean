import PyProof.Rows.All
import Wide.All
import OpenK.AllK
import Wide.FinOn
import HandS.ForMost
import HandS.Codes
import HandS.Evl
import HandS.IsInst
import KE.GoesEnumKw
import KE.GoesMore
import HandS.SortKw
import HandS.Walk
import HandS.ExcOwn
import HandS.ExcInit
import HandS.ExcField
import HandS.Lambda
import HandS.CallLocal
import HandS.TupAny
import KE.GoesEnum
import HandS.DictComp
import PyProof.EqAt
import HandS.Style
import HandS.TryOnly
import HandS.Rev
import HandS.Defaults
import HandS.MakeKwOnly
import HandS.EndTab
import PySem.Challenge.RW_wholetongue_k88_images_made_by_hand
set_option Elab.async false
set_option linter.all false
set_option maxRecDepth 100000
set_option Elab.async false
set_option linter.all false
set_option maxRecDepth 100000
set_option maxHeartbeats 4000000
namespace Wt
open PySem PySem.Spec PyProof.Rows L2 SX Evl
theorem bt_int:bootBuiltins "int"=some (.type "int"):=by decide +kernel
theorem bt_str:bootBuiltins "str"=some (.type "str"):=by decide +kernel
theorem bt_bool:bootBuiltins "bool"=some (.type "bool"):=by decide +kernel
theorem bt_list:bootBuiltins "list"=some (.type "list"):=by decide +kernel
theorem bt_tuple:bootBuiltins "tuple"=some (.type "tuple"):=by decide +kernel
theorem bt_isinstance:bootBuiltins "isinstance"=some (.builtin "isinstance"):=by decide +kernel
mutual
theorem Dp.ex {K:PySem.W.Frag} {H H':Hp} (e:Ex H H'):∀ (d:PyData) (v:V),Dp K H v d→Dp K H' v d
 | .none,_,h=>by
  cases h
  exact .non
 | .bool b,_,h=>by
  cases h
  exact .bl b
 | .int i,_,h=>by
  cases h
  exact .int i
 | .str x,_,h=>by
  cases h
  exact .str x
 | .list ds,_,h=>by
  cases h with
  | lst h1 h2=>exact .lst (ex_l e h1) (DpAll.ex e ds _ h2)
 | .tuple ds,_,h=>by
  cases h with
  | tup h1 h2=>exact .tup (ex_t e h1) (DpAll.ex e ds _ h2)
 | .dict kvs,_,h=>by cases h
theorem DpAll.ex {K:PySem.W.Frag} {H H':Hp} (e:Ex H H'):∀ (ds:List PyData) (vs:List V),DpAll K H vs ds→DpAll K H' vs ds
 | [],_,h=>by
  cases h
  exact .nil
 | d::ds,_,h=>by
  cases h with
  | cons h1 h2=>exact .cons (Dp.ex e d _ h1) (DpAll.ex e ds _ h2)
end
theorem zbr {K:PySem.W.Frag} {H:Hp}:∀ {vs:List V} {ds:List PyData},DpAll K H vs ds→vs.length=ds.length
 | _,_, .nil=>rfl
 | _,_, .cons _ h=>congrArg (·+1) (zbr h)
theorem zcD {K:PySem.W.Frag} {H:Hp}:∀ {vs:List V} {ds:List PyData} {i:Nat},DpAll K H vs ds→i<ds.length→∃ v d,vs[i]?=some v∧ds[i]?=some d∧Dp K H v d
 | _,_,_, .nil,h=>absurd h (Nat.not_lt_zero _)
 | _,_,0, .cons h _,_=>⟨_,_,rfl,rfl,h⟩
 | _,_,i+1, .cons _ t,h=>by
  obtain ⟨v,d,h1,h2,h3⟩:=zcD t (i:=i) (Nat.lt_of_succ_lt_succ h)
  exact ⟨v,d,h1,h2,h3⟩
/-- what stands in tuples alone: it stays whatever else changes -/
def Tx (H H':Hp):Prop:=∀ a xs,H a=some (.tup xs)→H' a=some (.tup xs)
theorem Tx.refl (H:Hp):Tx H H:=fun _ _ h=>h
theorem Tx.trans {H H1 H2:Hp} (a:Tx H H1) (b:Tx H1 H2):Tx H H2:=fun x xs h=>b x xs (a x xs h)
theorem Tx.of {H H':Hp} (e:Ex H H'):Tx H H':=fun a xs h=>e a _ h
theorem Tx.lst {H:Hp} {l:Addr} {xs ys:List V} (h:H l=some (.lst xs)):Tx H (upd H l (.lst ys)):=fun a zs q=>by
 rw[upd_ne (ne_of q h (by intro z;cases z))]
 exact q
theorem Tx.dK {H:Hp} {l:Addr} {ks ls:List (Key×V)} (h:H l=some (.dK ks)):Tx H (upd H l (.dK ls)):=fun a zs q=>by
 rw[upd_ne (ne_of q h (by intro z;cases z))]
 exact q
mutual
inductive Td (H:Hp):V→PyData→Prop
 | non:Td H .non .none
 | bl (b:Bool):Td H (.bl b) (.bool b)
 | int (i:Int):Td H (.int i) (.int i)
 | str (x:Str):Td H (.str x) (.str x)
 | tup {a:Addr} {xs:List V} {ds:List PyData}:H a=some (.tup xs)→TdAll H xs ds→Td H (.ref a) (.tuple ds)
inductive TdAll (H:Hp):List V→List PyData→Prop
 | nil:TdAll H [] []
 | cons {v:V} {vs:List V} {d:PyData} {ds:List PyData}:Td H v d→TdAll H vs ds→TdAll H (v::vs) (d::ds)
end
mutual
theorem Td.tx {H H':Hp} (e:Tx H H'):∀ (d:PyData) (v:V),Td H v d→Td H' v d
 | .none,_,h=>by
  cases h
  exact .non
 | .bool b,_,h=>by
  cases h
  exact .bl b
 | .int i,_,h=>by
  cases h
  exact .int i
 | .str x,_,h=>by
  cases h
  exact .str x
 | .list ds,_,h=>by cases h
 | .tuple ds,_,h=>by
  cases h with
  | tup h1 h2=>exact .tup (e _ _ h1) (TdAll.tx e ds _ h2)
 | .dict kvs,_,h=>by cases h
theorem TdAll.tx {H H':Hp} (e:Tx H H'):∀ (ds:List PyData) (vs:List V),TdAll H vs ds→TdAll H' vs ds
 | [],_,h=>by
  cases h
  exact .nil
 | d::ds,_,h=>by
  cases h with
  | cons h1 h2=>exact .cons (Td.tx e d _ h1) (TdAll.tx e ds _ h2)
end
mutual
theorem Td.dp {K:PySem.W.Frag} {H:Hp}:∀ (d:PyData) (v:V),Td H v d→Dp K H v d
 | .none,_,h=>by
  cases h
  exact .non
 | .bool b,_,h=>by
  cases h
  exact .bl b
 | .int i,_,h=>by
  cases h
  exact .int i
 | .str x,_,h=>by
  cases h
  exact .str x
 | .list ds,_,h=>by cases h
 | .tuple ds,_,h=>by
  cases h with
  | tup h1 h2=>exact .tup (st_of h1) (TdAll.dp ds _ h2)
 | .dict kvs,_,h=>by cases h
theorem TdAll.dp {K:PySem.W.Frag} {H:Hp}:∀ (ds:List PyData) (vs:List V),TdAll H vs ds→DpAll K H vs ds
 | [],_,h=>by
  cases h
  exact .nil
 | d::ds,_,h=>by
  cases h with
  | cons h1 h2=>exact .cons (Td.dp d _ h1) (TdAll.dp ds _ h2)
end
theorem TdAll.app {H:Hp}:∀ {vs:List V} {ds:List PyData} {us:List V} {es:List PyData},TdAll H vs ds→TdAll H us es→TdAll H (vs++us) (ds++es)
 | _,_,_,_, .nil,h=>h
 | _,_,_,_, .cons h t,g=> .cons h (t.app g)
theorem TdAll.snoc {H:Hp} {vs:List V} {ds:List PyData} {v:V} {d:PyData} (h:TdAll H vs ds) (g:Td H v d):TdAll H (vs++[v]) (ds++[d]):=h.app (.cons g .nil)
theorem TdAll.len {H:Hp}:∀ {vs:List V} {ds:List PyData},TdAll H vs ds→vs.length=ds.length
 | _,_, .nil=>rfl
 | _,_, .cons _ h=>congrArg (·+1) h.len
def EvN (te:TE) (σ:L2.St) (H:Hp) (P:V→Prop):Prop:=∀ H1,Ex H H1→∀ Q:VK,(∀ v H2,P v→Ex H1 H2→Q v H2)→te σ H1 Q
def SpN (sp:Sp) (vs:List V) (H:Hp) (P:V→Prop):Prop:=∀ H1,Ex H H1→∀ Q:VK,(∀ v H2,P v→Ex H1 H2→Q v H2)→∀ E:XK,sp vs H1 Q E
section
variable {K:PySem.W.Frag} {σ:L2.St} {H H':Hp} {ta tb te tx:TE} {t u:TT} {x y z v:V} {r:R2} {P P2:V→Prop}
theorem EvN.of (h:Ev te σ H v):EvN te σ H (·=v):=fun H1 e Q q=>h H1 e Q fun H2 e2=>q v H2 rfl e2
theorem EvN.mono (e:Ex H H') (h:EvN te σ H P):EvN te σ H' P:=fun H1 e1 Q q=>h H1 (e.trans e1) Q q
theorem EvN.imp (h:EvN te σ H P) (i:∀ v,P v→P2 v):EvN te σ H P2:=fun H1 e Q q=>h H1 e Q fun v H2 p e2=>q v H2 (i v p) e2
theorem ziL (ha:EvN ta σ H P) (hb:∀ x,P x→EvN tb σ H P2) {P3:V→Prop} (hr:∀ x y H1,P x→P2 y→Ex H H1→∀ Q:VK,(∀ z H2,P3 z→Ex H1 H2→Q z H2)→r x y H1 Q):EvN (tOp r ta tb) σ H P3:=fun H1 e Q q =>
 ha H1 e _ fun x H2 px e2=>hb x px H2 (e.trans e2) _ fun y H3 py e3=>hr x y H3 px py ((e.trans e2).trans e3) Q fun z H4 pz e4=>q z H4 pz ((e2.trans e3).trans e4)
/-- both operands,then a value -/
theorem zhD (ha:EvN ta σ H P) (hb:∀ x,P x→EvN tb σ H P2) {P3:V→Prop} (hr:∀ x y,P x→P2 y→∃ z,P3 z∧RV r x y H z):EvN (tOp r ta tb) σ H P3:=ziL ha hb fun x y H1 px py e Q q=>by
 obtain ⟨z,pz,rz⟩:=hr x y px py
 exact rz H1 e Q fun H2 e2=>q z H2 pz e2
theorem zgr {sp:Sp} {dvs vs:List V} {E:XK} {ta:TA} (h:EvA ta σ H vs) (hs:SpN sp (vs++dvs) H P):EvN (tCall sp dvs E ta) σ H P:=fun H1 e Q q =>
 h H1 e _ fun H2 e2=>hs H2 (e.trans e2) Q (fun v H3 p e3=>q v H3 p (e2.trans e3)) E
variable {D:Ends} {tu tw tz:TS} {g:TG}
end
/-- B tells of the same heap otherwise -/
structure zd9 (A B:Hp):Prop where
 free:∀ b,A b=none→B b=none
 tups:∀ b xs,A b=some (.tup xs)→B b=some (.tup xs)
 frzs:∀ b o u,A b=some (.frz o u)→B b=some (.frz o u)
 tbls:∀ b ps,A b=some (.tbl ps)→B b=some (.tbl ps)
section
variable {P:Program} {w:World} {K:PySem.W.Frag} {mg:Str→Option Value} {base:Heap}
theorem zeW {k:Nat} {f:Addr} {fd:FuncData} {ps:List Str} {sp sp':Sp} (F:FnOk P w K mg base CX0 k f fd ps sp) (hlen:∀ vs H Q E,sp' vs H Q E→vs.length=ps.length)
  (h:∀ vs H Q E,sp' vs H Q E→∀ hp:Heap,HOk P w H hp→∃ (H1:Hp) (Q1:VK),zd9 H H1∧HOk P w H1 hp∧sp vs H1 Q1 E ∧
   ∀ v H2 (hp2:Heap),HOk P w H2 hp2→Q1 v H2→∃ H3,zd9 H2 H3∧HOk P w H3 hp2∧Q v H3):FnOk P w K mg base CX0 k f fd ps sp':=by
 refine ⟨hlen,fun A outer s H args us vs Q E hr e0 hb hv hs=>?_⟩
 obtain ⟨H1,Q1,al,ok1,hs1,back⟩:=h vs H Q E hs s.heap e0.hok
 have e1:Env0 P w K mg base A outer s H1:=⟨e0.frames,e0.mod,fun b o e=>⟨(e0.bs b o e).1,al.free b (e0.bs b o e).2⟩,e0.bsz,e0.funs,fun b hb=>al.free b (e0.frf b hb),ok1,e0.bare⟩
 refine codeAny_mono (F.run A outer s H1 args us vs Q1 E hr e1 hb hv hs1) fun r s' hr'=>?_
 cases r with
 | error e=>exact hr'
 | ok fl =>
  cases fl with
  | ret u =>
   obtain ⟨v,H2,os,br,un,ok2,rv,q⟩:=hr'
   obtain ⟨H3,al2,ok3,q3⟩:=back v H2 s'.heap ok2 q
   exact ⟨v,H3,os,br,⟨fun b o e n h1 h2=>un.keep b o e (al.free b n) h1 h2,fun b o e n h1 h2=>un.slot b o e (al.free b n) h1 h2,fun b o e n h1=>al2.free b (un.free b o e (al.free b n) h1),un.there,
    fun b xs e=>al2.tups b xs (un.tups b xs (al.tups b xs e)),fun b o u e=>al2.frzs b o u (un.frzs b o u (al.frzs b o u e)),fun b ps e=>by
     obtain ⟨more,e2⟩:=un.tbls b ps (al.tbls b ps e)
     exact ⟨more,al2.tbls b _ e2⟩⟩,ok3,rv,q3⟩
  | _=>exact hr'.elim
/-- one changing object told otherwise -/
theorem zc5 {H:Hp} {d:Addr} {o o2:HO} (h:H d=some o) (m:Mut (some o)) (h1:∀ xs,o2≠ .tup xs) (h2:∀ ob u,o2≠ .frz ob u) (h3:∀ ps,o2≠ .tbl ps):zd9 H (upd H d o2) where
 free:=fun b n=>by
  rw[upd_ne (ne_of_none h n).symm]
  exact n
 tups:=fun b xs e=>by
  rw[upd_ne (ne_of e h (by intro z;subst z;exact m))]
  exact e
 frzs:=fun b ob u e=>by
  rw[upd_ne (ne_of e h (by intro z;subst z;exact m))]
  exact e
 tbls:=fun b ps e=>by
  rw[upd_ne (ne_of e h (by intro z;subst z;exact m))]
  exact e
theorem zge {H:Hp} {hp:Heap} {d:Addr} {o o2:HO} (ok:HOk P w H hp) (h:H d=some o) (m:Mut (some o)) (new:ObjOk P w (upd H d o2) hp d o2):HOk P w (upd H d o2) hp:=fun b u e=>by
 by_cases hb:b=d
 ·subst hb
  rw[upd_same] at e
  cases e
  exact new
 ·rw[upd_ne hb] at e
  refine (ok b u e).stay (fun c z _ q=>q) (fun c q=>?_) (fun c xs q=>?_)
  ·rw[upd_ne (ne_of q h (by intro z;subst z;exact m))]
   exact q
  ·rw[upd_ne (ne_of q h (by intro z;subst z;exact m))]
   exact q
end
def zgU (d a:Addr) (h:Heap):Prop:=∃ (i m r:Int) (t1 t2 t3:Tok) (n:Nat),h.get? d=some { cls:= .type "list",data:= .seq #[.ref a, .int i t1, .int m t2, .int r t3] n }∧0≤i∧0≤m∧m<2147483647
/-- a dice over the script at a -/
def zcf (d a:Addr):HO:= .ext (zgU d a)
theorem zgg {P:Program} {w:World} {H:Hp} {hp:Heap} {d a:Addr} (h:zgU d a hp):ObjOk P w H hp d (zcf d a):=by
 refine ⟨h,?_,?_⟩
 ·obtain ⟨i,m,r,t1,t2,t3,n,e,_⟩:=h
  exact ⟨_,e⟩
 ·rintro h1 h2 ⟨i,m,r,t1,t2,t3,n,e,z⟩ k
  exact ⟨i,m,r,t1,t2,t3,n,k _ e,z⟩
theorem zgM {P:Program} {w:World} {H:Hp} {hp:Heap} {d a:Addr} {i m r:Int} (ok:HOk P w H hp) (h:H d=some (.lst [.ref a, .int i, .int m, .int r])) (h0:0≤i) (h1:0≤m) (h2:m<2147483647):zgU d a hp:=by
 obtain ⟨_,its,n,rv,e⟩:=(show ObjOk P w H hp d (.lst [.ref a, .int i, .int m, .int r]) from ok d _ h)
 cases rv with
 | cons ra rest =>
  cases ra
  cases rest with
  | cons ri rest =>
   obtain ⟨t1,rfl⟩:=ri
   cases rest with
   | cons rm rest =>
    obtain ⟨t2,rfl⟩:=rm
    cases rest with
    | cons rr rest =>
     obtain ⟨t3,rfl⟩:=rr
     cases rest
     exact ⟨i,m,r,t1,t2,t3,n,e,h0,h1,h2⟩
theorem zfN {P:Program} {w:World} {H:Hp} {hp:Heap} {d a:Addr} (ok:HOk P w H hp) (h:H d=some (zcf d a)):∃ i m r,0≤i∧0≤m∧m<2147483647 ∧
  zd9 H (upd H d (.lst [.ref a, .int i, .int m, .int r]))∧HOk P w (upd H d (.lst [.ref a, .int i, .int m, .int r])) hp:=by
 obtain ⟨⟨i,m,r,t1,t2,t3,n,e,z0,z1,z2⟩,_⟩:=(show ObjOk P w H hp d (zcf d a) from ok d _ h)
 refine ⟨i,m,r,z0,z1,z2,zc5 h True.intro (fun _ z=>nomatch z) (fun _ _ z=>nomatch z) (fun _ z=>nomatch z),zge ok h True.intro ⟨(by show 4≤sizeLine;decide),[.ref a, .int i t1, .int m t2, .int r t3],n,?_,e⟩⟩
 exact .cons rfl (.cons ⟨_,rfl⟩ (.cons ⟨_,rfl⟩ (.cons ⟨_,rfl⟩ .nil)))
theorem zeN {P:Program} {w:World} {H:Hp} {hp:Heap} {d a:Addr} {i m r:Int} (ok:HOk P w H hp) (h:H d=some (.lst [.ref a, .int i, .int m, .int r])) (h0:0≤i) (h1:0≤m) (h2:m<2147483647) :
  zd9 H (upd H d (zcf d a))∧HOk P w (upd H d (zcf d a)) hp :=
 ⟨zc5 h True.intro (fun _ z=>nomatch z) (fun _ _ z=>nomatch z) (fun _ z=>nomatch z),zge ok h True.intro (zgg (zgM ok h h0 h1 h2))⟩
/-- a new list,known by what is true of its items -/
def ziC (te:TE) (σ:L2.St) (H:Hp) (P:List V→Prop):Prop:=∀ H1,Ex H H1→∀ Q:VK,(∀ p H2 xs,P xs→H1 p=none→Ex H1 H2→H2 p=some (.lst xs)→Q (.ref p) H2)→te σ H1 Q
section
variable {K:PySem.W.Frag} {σ:L2.St} {H H':Hp} {ta tb te tx:TE} {t u:TT} {x y z v:V}
theorem zgK {kvs:List (Key×V)} {a:Addr} {k:Str} (ha:Ev ta σ H (.ref a)) (hb:Ev tb σ H (.str k)) (h:H a=some (.dK kvs)) (hv:valV kvs (Sum.inr k:Key)=some v):Ev (tDGet ta tb) σ H v:=fun H1 e Q q =>
 ha H1 e _ fun H2 e2=>hb H2 (e.trans e2) _ fun H3 e3=>⟨a,v,rfl,by
  have g:=DGet.k (k:=(Sum.inr k:Key)) (((e.trans e2).trans e3) a _ h)
  rw[hv] at g
  exact g,q H3 (e2.trans e3)⟩
end
section
variable {K:PySem.W.Frag} {σ:L2.St} {H H':Hp} {ta tb te tx t1 t2:TE} {t u:TT} {x y z v:V} {P:V→Prop} {L:List V→Prop} {D:Ends} {tz:TS}
theorem ziC.of {xs:List V} (h:EvL te σ H xs):ziC te σ H (·=xs):=fun H1 e Q q=>h H1 e Q fun p H2 hp e2 h2=>q p H2 xs rfl hp e2 h2
end
section
variable {K:PySem.W.Frag} {σ:L2.St} {H H':Hp} {ta tb te tx t1 t2:TE} {t u:TT} {x y z v:V} {P:V→Prop} {L:List V→Prop} {D:Ends} {tz tu:TS}
theorem zer {l:Addr} {xs zs:List V} (ha:Ev ta σ H (.ref l)) (hl:H l=some (.lst xs)) (hb:EvL tb σ H zs) (hz:xs.length+zs.length≤100000):EvL (tOp rCat ta tb) σ H (xs++zs):=fun H1 e Q q =>
 ha H1 e _ fun H2 e2=>hb H2 (e.trans e2) _ fun p H3 hp e3 h3=>⟨l,p,xs,zs,rfl,rfl,e3 l _ (e2 l _ (e l _ hl)),h3,sz_of hz,fun c hc=>q c _ (fresh_back (e2.trans e3) hc) ((e2.trans e3).trans (Ex.new hc)) upd_same⟩
end
def lt (s:String):List Nat:=(Str.ofString s).cps.toList
/-- data in tuples -/
def EvD (te:TE) (σ:L2.St) (H:Hp) (d:PyData):Prop:=∀ H1,Ex H H1→∀ Q:VK,(∀ v H2,Ex H1 H2→Td H2 v d→Q v H2)→te σ H1 Q
def EAD (ta:TA) (σ:L2.St) (H:Hp) (ds:List PyData):Prop:=∀ H1,Ex H H1→∀ Q:List V→Hp→Prop,(∀ vs H2,Ex H1 H2→TdAll H2 vs ds→Q vs H2)→ta σ H1 Q
/-- a new list of data -/
def zbC (te:TE) (σ:L2.St) (H:Hp) (ds:List PyData):Prop:=∀ H1,Ex H H1→∀ Q:VK,(∀ p H2 vs,H1 p=none→Ex H1 H2→H2 p=some (.lst vs)→TdAll H2 vs ds→Q (.ref p) H2)→te σ H1 Q
section
variable {K:PySem.W.Frag} {σ:L2.St} {H H':Hp} {ta tb te tx:TE} {tr:TA} {t u:TT} {v w:V} {d:PyData} {ds es:List PyData} {D:Ends} {tu tw tz:TS} {g:TG}
theorem zaA (h:Ev te σ H v) (hv:Td H v d):EvD te σ H d:=fun H1 e Q q=>h H1 e Q fun H2 e2=>q v H2 e2 (Td.tx (Tx.of (e.trans e2)) _ _ hv)
theorem zac {x:Str} (h:Ev te σ H (.str x)):EvD te σ H (.str x):=zaA h (.str x)
theorem zae {i:Int} (h:Ev te σ H (.int i)):EvD te σ H (.int i):=zaA h (.int i)
theorem zfR {b:Bool} (h:Ev te σ H (.bl b)):EvD te σ H (.bool b):=zaA h (.bl b)
theorem zir (h:Ev te σ H .non):EvD te σ H .none:=zaA h .non
theorem EvD.mono (e:Ex H H') (h:EvD te σ H d):EvD te σ H' d:=fun H1 e1 Q q=>h H1 (e.trans e1) Q q
theorem zbC.mono (e:Ex H H') (h:zbC te σ H ds):zbC te σ H' ds:=fun H1 e1 Q q=>h H1 (e.trans e1) Q q
theorem zef {d2:PyData} (h:EvD te σ H d) (e:d=d2):EvD te σ H d2:=e▸h
theorem zab:EAD tNil σ H []:=fun H1 _ Q q=>q [] H1 (Ex.refl _) .nil
theorem zaa (h:EvD te σ H d) (hr:EAD tr σ H ds):EAD (tCons te tr) σ H (d::ds):=fun H1 e Q q =>
 h H1 e _ fun v H2 e2 hv=>hr H2 (e.trans e2) _ fun vs H3 e3 hvs=>q (v::vs) H3 (e2.trans e3) (.cons (Td.tx (Tx.of e3) _ _ hv) hvs)
theorem zaf {tr:TA} (h:EAD tr σ H ds) (hl:ds.length≤100000):EvD (tTup tr) σ H (.tuple ds):=fun H1 e Q q =>
 h H1 e _ fun vs H2 e2 hvs=>⟨sz_of (by rw[hvs.len];exact hl),fun p hp=>q (.ref p) _ (e2.trans (Ex.new hp)) (.tup upd_same (TdAll.tx (Tx.of (Ex.new hp)) _ _ hvs))⟩
theorem zat {tr:TA} (h:EAD tr σ H ds) (hl:ds.length≤100000):zbC (tLst tr) σ H ds:=fun H1 e Q q =>
 h H1 e _ fun vs H2 e2 hvs=>⟨sz_of (by rw[hvs.len];exact hl),fun p hp=>q p _ vs (fresh_back e2 hp) (e2.trans (Ex.new hp)) upd_same (TdAll.tx (Tx.of (Ex.new hp)) _ _ hvs)⟩
theorem zg5 {l:Addr} {xs:List V} (ha:Ev ta σ H (.ref l)) (hl:H l=some (.lst xs)) (hx:TdAll H xs ds) (hb:zbC tb σ H es) (hz:ds.length+es.length≤100000):zbC (tOp rCat ta tb) σ H (ds++es):=fun H1 e Q q =>
 ha H1 e _ fun H2 e2=>hb H2 (e.trans e2) _ fun p H3 ys hp e3 h3 hy=>⟨l,p,xs,ys,rfl,rfl,e3 l _ (e2 l _ (e l _ hl)),h3,sz_of (by rw[hx.len,hy.len];exact hz),fun c hc =>
  q c _ _ (fresh_back (e2.trans e3) hc) ((e2.trans e3).trans (Ex.new hc)) upd_same (TdAll.tx (Tx.of (Ex.new hc)) _ _ ((TdAll.tx (Tx.of ((e.trans e2).trans e3)) _ _ hx).app hy))⟩
theorem zb9 {i:Nat} (h:EvD te σ H d) (k:∀ v H1,Ex H H1→Td H1 v d→tz D (σ.set i (some v)) H1):tSeq (tAsg te (gName i)) tz D σ H:=h H (Ex.refl H) _ k
theorem zbp {i:Nat} (h:zbC te σ H ds) (k:∀ p H1 vs,H p=none→Ex H H1→H1 p=some (.lst vs)→TdAll H1 vs ds→tz D (σ.set i (some (.ref p))) H1):tSeq (tAsg te (gName i)) tz D σ H:=h H (Ex.refl H) _ k
/-- int(truth) -/
theorem zgx {b:Bool} (h:Ev te σ H (.bl b)) {r:List V→Hp→VK→Prop} (hr:∀ H1 Q,Q (.int (if b=true then 1 else 0)) H1→r [.bl b] H1 Q):Ev (tCB r (tCons te tNil)) σ H (.int (if b=true then 1 else 0)) :=
 ev_cb (ea_cons h ea_nil) fun H1 _ Q q=>hr H1 Q (q H1 (Ex.refl H1))
/-- [e for k in range(n)],e known by what is true of it: just n of them -/
theorem zgi {j:Nat} {vs:List Nat} {n:Nat} {P:V→Prop} (h:Ev ta σ H (.int (n:Int))) (hN:n≤10000) (hw:∀ x,wipe ((wipe σ vs).set j (some x)) vs=wipe σ vs)
  (he:∀ (i:Nat) H1,Ex H H1→EvN te ((wipe σ vs).set j (some (.int (i:Int)))) H1 P):ziC (tLc (iRng1 (tCons ta tNil)) (gName j) tYes te vs) σ H (fun xs=>xs.length=n∧∀ x∈xs,P x):=fun H0 e Q q =>
 h H0 e _ fun H1 e1=>by
  refine ⟨(n:Int),rfl,by omega,by omega,fun Dl hD=>?_⟩
  refine lc_range (lo:=0) (n:=(n:Int).toNat) (fun i H2=>∃ xs,Ex H1 H2∧H2 Dl=some (.lst xs)∧xs.length=i∧∀ x∈xs,P x) ⟨[],Ex.new hD,upd_same,rfl,fun _ h=>absurd h (by simp)⟩ ?_ ?_
  ·rintro i H2 hi ⟨xs,e2,h2,hl,hP⟩
   have e0:(0:Int)+(i:Int)=(i:Int):=Int.zero_add _
   show wipe ((wipe σ vs).set j (some (.int ((0:Int)+(i:Int))))) vs=wipe σ vs∧tYes ((wipe σ vs).set j (some (.int ((0:Int)+(i:Int))))) H2 _
   rw[e0]
   refine ⟨hw _,?_⟩
   show te ((wipe σ vs).set j (some (.int (i:Int)))) H2 _
   refine he i H2 ((e.trans e1).trans e2) H2 (Ex.refl H2) _ fun y H3 py e3=>⟨xs,e3 Dl _ h2,sz_lt (by omega),xs++[y],?_,upd_same,by rw[List.length_append,hl]<;>rfl,fun x hx=>?_⟩
   ·exact Ex.mut (e2.trans e3) hD
   ·rcases List.mem_append.mp hx with h|h
    ·exact hP x h
    ·rw[List.mem_singleton.mp h]
     exact py
  ·rintro H2 ⟨xs,e2,h2,hl,hP⟩
   exact q Dl H2 xs ⟨by omega,hP⟩ (fresh_back e1 hD) (e1.trans e2) h2
end
section
variable {K:PySem.W.Frag} {σ:L2.St} {H H':Hp} {ta tb te tx tl:TE} {tr:TA} {t u:TT} {v w:V} {d:PyData} {ds es:List PyData} {D:Ends} {tu tw tz:TS} {g:TG} {L:List V→Prop} {P:V→Prop}
theorem zeF {es:List PyData} (h:zbC te σ H ds) (e:ds=es):zbC te σ H es:=e▸h
theorem zf1 {l:Addr} {xs:List V} (hl:H l=some (.lst xs)) (ha:Ev ta σ H (.ref l)) (h:EvD te σ H d) (hz:xs.length<100000) (k:∀ v H1,Ex H H1→Td H1 v d→D.nx σ (upd H1 l (.lst (xs++[v])))):tDrop (tBM K "list" rAppend ta (tCons te tNil)) D σ H:=ha H (Ex.refl H) _ fun H1 e1 =>
 ⟨Or.inl ⟨rfl,xs,sq_of (e1 l _ hl)⟩,h H1 e1 _ fun v H2 e2 hv=>⟨l,xs,v,rfl,rfl,e2 l _ (e1 l _ hl),sz_lt hz,k v H2 (e1.trans e2) hv⟩⟩
theorem zib {l:Addr} {xs:List V} (hl:H l=some (.lst xs)) (ha:Ev ta σ H (.ref l)) (h:EvD te σ H d) (hz:xs.length<100000) (k:∀ v H1,Ex H H1→Td H1 v d→tz D σ (upd H1 l (.lst (xs++[v])))):tSeq (tDrop (tBM K "list" rAppend ta (tCons te tNil))) tz D σ H:=zf1 (D:={ D with nx:=tz D }) hl ha h hz k
theorem TdAll.at {vs:List V} {i:Nat} {x:V} (h:TdAll H vs ds) (hx:vs[i]?=some x):∃ d,ds[i]?=some d∧Td H x d:=by
 induction i generalizing vs ds with
 | zero =>
  cases h with
  | nil=>cases hx
  | cons a b =>
   cases hx
   exact ⟨_,rfl,a⟩
 | succ i ih =>
  cases h with
  | nil=>cases hx
  | cons a b=>exact ih b hx
end
open C8 (Def Cal cal0 fnScope_by fnScope)
def zaz (i:Nat):Stmt:=PySem.Challenge.pw_wholetongue_k88_images_made_by_hand.main.body.getD i (.Pass ⟨0,0,0,0⟩)
structure zcC (K:PySem.W.Frag) (mg:Str→Option Value):Prop where
 m_len:mg "len"=none
 m_int:mg "int"=none
 m_str:mg "str"=none
 m_bool:mg "bool"=none
 m_tuple:mg "tuple"=none
 m_list:mg "list"=none
 m_range:mg "range"=none
 m_isinstance:mg "isinstance"=none
/-- what is locked stays -/
def Fx (H H':Hp):Prop:=∀ b o u,H b=some (.frz o u)→H' b=some (.frz o u)
theorem Fx.of {H H':Hp} (e:Ex H H'):Fx H H':=fun b o u h=>e b _ h
theorem Fx.trans {H H1 H2:Hp} (a:Fx H H1) (b:Fx H1 H2):Fx H H2:=fun x o u h=>b x o u (a x o u h)
theorem Fx.mut {H:Hp} {d:Addr} {o o2:HO} (h:H d=some o) (m:Mut (some o)):Fx H (upd H d o2):=fun b ob u q=>by
 rw[upd_ne (ne_of q h (by intro z;subst z;exact m))]
 exact q
/-- the script: locked,or of the written part -/
def Scr (K:PySem.W.Frag) (H:Hp) (a:Addr) (ns:List Int):Prop:=ns.length≤63∧∀ H',Fx H H'→SqL K H' a (ns.map V.int)
theorem Scr.fx {K:PySem.W.Frag} {H H':Hp} {a:Addr} {ns:List Int} (f:Fx H H') (h:Scr K H a ns):Scr K H' a ns:=⟨h.1,fun H2 f2=>h.2 H2 (f.trans f2)⟩
theorem Scr.ex {K:PySem.W.Frag} {H H':Hp} {a:Addr} {ns:List Int} (e:Ex H H') (h:Scr K H a ns):Scr K H' a ns:=h.fx (Fx.of e)
theorem Scr.sq {K:PySem.W.Frag} {H:Hp} {a:Addr} {ns:List Int} (h:Scr K H a ns):SqL K H a (ns.map V.int):=h.2 H fun _ _ _ q=>q
def Exd (d:Addr) (H H':Hp):Prop:=∀ b o,b≠d→H b=some o→H' b=some o
section
variable {K:PySem.W.Frag}
def zew (K:PySem.W.Frag):Sp:=fun vs H Q _=>∃ (a:Addr) (ns:List Int),vs=[.ref a]∧Scr K H a ns∧∀ p H2 m,H p=none→Ex H H2→0≤m→m<2147483647→H2 p=some (.lst [.ref a, .int 0, .int m, .int 0])→Q (.ref p) H2
/-- .. as a dice -/
def zf0 (K:PySem.W.Frag):Sp:=fun vs H Q _=>∃ (a:Addr) (ns:List Int),vs=[.ref a]∧Scr K H a ns∧∀ p H2,H p=none→Ex H H2→H2 p=some (zcf p a)→Q (.ref p) H2
def zeA (K:PySem.W.Frag):Sp:=fun vs H Q _=>∃ (d a:Addr) (ns:List Int) (many i m r:Int),vs=[.ref d, .int many]∧0<many∧many<1073741824∧H d=some (.lst [.ref a, .int i, .int m, .int r])∧0≤i∧0≤m∧m<2147483647∧Scr K H a ns ∧
 ∀ z H2 i' m' r',0≤z→z<many→0≤i'→0≤m'→m'<2147483647→H2 d=some (.lst [.ref a, .int i', .int m', .int r'])→Exd d H H2→Q (.int z) H2
/-- .. over a dice: some number below what is handed in,nothing else is told -/
def zcX (K:PySem.W.Frag):Sp:=fun vs H Q _=>∃ (d a:Addr) (ns:List Int) (many:Int),vs=[.ref d, .int many]∧0<many∧many<1073741824∧H d=some (zcf d a)∧Scr K H a ns ∧
 ∀ z H2,0≤z→z<many→Ex H H2→Q (.int z) H2
/-- the dice at d over the script at a -/
structure Dc (K:PySem.W.Frag) (H:Hp) (d a:Addr) (ns:List Int):Prop where
 o:H d=some (zcf d a)
 s:Scr K H a ns
theorem Dc.ex {H H':Hp} {d a:Addr} {ns:List Int} (h:Dc K H d a ns) (e:Ex H H'):Dc K H' d a ns:=⟨e d _ h.o,h.s.ex e⟩
theorem zgz {H:Hp} {d a:Addr} {ns:List Int} {many:Int} (h:Dc K H d a ns) (m0:0<many) (m1:many<1073741824):SpN (zcX K) [.ref d, .int many] H (fun v=>∃ z:Int,v= .int z∧0≤z∧z<many) :=
 fun H1 e Q q E=>⟨d,a,ns,many,rfl,m0,m1,e d _ h.o,h.s.ex e,fun z H2 z0 z1 e2=>q _ H2 ⟨z,rfl,z0,z1⟩ e2⟩
theorem zgB {H:Hp} {σ:L2.St} {E:XK} {ta tb:TE} {d a:Addr} {ns:List Int} {many:Int} (h:Dc K H d a ns) (ha:Ev ta σ H (.ref d)) (hb:Ev tb σ H (.int many)) (m0:0<many:=by decide) (m1:many<1073741824:=by decide) :
  EvN (tCall (zcX K) [] E (tCons ta (tCons tb tNil))) σ H (fun v=>∃ z:Int,v= .int z∧0≤z∧z<many):=zgr (ea_cons ha (ea_cons hb ea_nil)) (zgz h m0 m1)
end
def tyN:PyData→String
 | .none=>"NoneType"
 | .bool _=>"bool"
 | .int _=>"int"
 | .str _=>"str"
 | .list _=>"list"
 | .tuple _=>"tuple"
 | .dict _=>"dict"
theorem ziK {K:PySem.W.Frag} {H:Hp} {v:V} {d:PyData} (h:Dp K H v d):TyX K H v (.type (tyN d)):=by
 cases h with
 | non=>exact .base .non
 | bl b=>exact .base (.bl b)
 | int i=>exact .base (.int i)
 | str x=>exact .base (.str x)
 | lst h1 _ =>
  rcases h1 with (h1|⟨o,h1⟩)|⟨o,its,n,h1,h2,_⟩
  ·exact .base (.lst h1)
  ·exact .base (.frz h1)
  ·exact .kList h1 h2
 | tup h1 _ =>
  rcases h1 with (h1|⟨o,h1⟩)|⟨o,its,n,h1,h2,_⟩
  ·exact .base (.tup h1)
  ·exact .fTuple h1
  ·exact .kTuple h1 h2
mutual
def zaF:PyData→Bool
 | .list xs=>decide (xs.length≤40000)&&wideAll xs
 | .tuple xs=>decide (xs.length≤40000)&&wideAll xs
 | .dict _=>false
 | .none=>true
 | .bool _=>true
 | .int _=>true
 | .str _=>true
def wideAll:List PyData→Bool
 | []=>true
 | d::ds=>zaF d&&wideAll ds
end
theorem zc7:∀ {ds:List PyData} {i:Nat} {d:PyData},wideAll ds=true→ds[i]?=some d→zaF d=true
 | [],_,_,_,h=>by simp at h
 | x::ds,0,d,h,e=>by
  have e2:x=d:=Option.some.inj e
  subst e2
  unfold wideAll at h
  exact (Bool.and_eq_true_iff.mp h).1
 | x::ds,i+1,d,h,e=>by
  unfold wideAll at h
  exact zc7 (Bool.and_eq_true_iff.mp h).2 e
theorem zb4:∀ {ds:List PyData} {i:Nat} {d:PyData},ds[i]?=some d→d.depth≤PyData.depthAll ds
 | [],_,_,h=>by simp at h
 | x::ds,0,d,e=>by
  have e2:x=d:=Option.some.inj e
  subst e2
  unfold PyData.depthAll
  exact Nat.le_max_left _ _
 | x::ds,i+1,d,e=>by
  unfold PyData.depthAll
  exact Nat.le_trans (zb4 (ds:=ds) (i:=i) e) (Nat.le_max_right _ _)
section
variable {K:PySem.W.Frag} {σ:L2.St} {H H':Hp} {ta tb te tx:TE} {t u:TT} {x y z v:V}
theorem zaq {d:PyData} {n:String} {b:Bool} (ha:Ev ta σ H x) (hb:Ev tb σ H (.ty n)) (hx:Dp K H x d) (hk:kitB (tyN d) n=some b):Ev (tCB (rIsi K) (tCons ta (tCons tb tNil))) σ H (.bl b) :=
 ev_cb (ea_cons ha (ea_cons hb ea_nil)) fun H1 e Q q=>⟨x, .ty n, .type (tyN d), .type n,b,rfl, .ty n,ziK (Dp.ex e d x hx),kit_ty hk,q H1 (Ex.refl H1)⟩
theorem zcG {p:Addr} {xs:List V} (ha:Ev ta σ H (.ref p)) (h:SqL K H p xs∨SqT K H p xs):Ev (tCB (rLenS K) (tCons ta tNil)) σ H (.int (xs.length:Int)):=fun H1 e Q q =>
 ha H1 e _ fun H2 e2=>⟨p,xs,rfl,h.imp (ex_l (e.trans e2)) (ex_t (e.trans e2)),q H2 e2⟩
theorem zfZ {p:Addr} {xs:List V} {i:Nat} (ha:Ev ta σ H (.ref p)) (hb:Ev tb σ H (.int (i:Int))) (h:SqL K H p xs∨SqT K H p xs) (hv:xs[i]?=some v):Ev (tOp (rIx K) ta tb) σ H v :=
 ev_op ha hb fun H1 e Q q=>by
  rcases h with h|h
  ·exact .inl ⟨p,xs,(i:Int),v,rfl,rfl,ex_l e h,atI_nat hv,q H1 (Ex.refl H1)⟩
  ·exact .inr (.inl ⟨p,xs,(i:Int),v,rfl,rfl,ex_t e h,atI_nat hv,q H1 (Ex.refl H1)⟩)
theorem zdN (n:Nat) (v:Nat→V):given n (fun _=>false) v=[]:=by
 unfold given
 have e:(List.range n).filter (fun _=>false)=[]:=by simp
 rw[e]<;>rfl
/-- [..]==[] where nothing was given -/
theorem zfq (ha:EvL ta σ H []):Ev (tOp (rEqD K) ta (tLst tNil)) σ H (.bl true):=ev_opLL ha (el_lst ea_nil (Nat.zero_le _)) fun p q H1 h1 h2 _ H2 e2 Q q2 =>
 ⟨.list [], .list [], .lst (sq_of (e2 p _ h1)) .nil, .lst (sq_of (e2 q _ h2)) .nil,by decide +kernel,by decide +kernel,by
  have e:PyData.eqv (.list []) (.list [])=true:=by decide +kernel
  rw[e]
  exact q2 H2 (Ex.refl H2)⟩
end
section
variable {K:PySem.W.Frag}
/-- two of the same data,a list or a tuple -/
theorem zfm {H:Hp} {x y:V} {ds:List PyData} {d:PyData} (hd:d= .list ds∨d= .tuple ds) (hx:Dp K H x d) (hy:Dp K H y d) :
  ∃ p xs q ys,x= .ref p∧y= .ref q∧(SqL K H p xs∨SqT K H p xs)∧(SqL K H q ys∨SqT K H q ys)∧DpAll K H xs ds∧DpAll K H ys ds:=by
 rcases hd with rfl|rfl
 ·cases hx with
  | lst h1 h2 =>
   cases hy with
   | lst g1 g2=>exact ⟨_,_,_,_,rfl,rfl, .inl h1, .inl g1,h2,g2⟩
 ·cases hx with
  | tup h1 h2 =>
   cases hy with
   | tup g1 g2=>exact ⟨_,_,_,_,rfl,rfl, .inr h1, .inr g1,h2,g2⟩
theorem zeP {H:Hp} {x y:V} {d:PyData} (h1:∀ ds,d≠ .list ds) (h2:∀ ds,d≠ .tuple ds) (hx:Dp K H x d) (hy:Dp K H y d):x=y∧scal x y=true:=by
 cases hx with
 | non=>cases hy;exact ⟨rfl,rfl⟩
 | bl b=>cases hy;exact ⟨rfl,rfl⟩
 | int i=>cases hy;exact ⟨rfl,rfl⟩
 | str z=>cases hy;exact ⟨rfl,rfl⟩
 | lst _ _=>exact absurd rfl (h1 _)
 | tup _ _=>exact absurd rfl (h2 _)
end
open C8 (Def fnBody fnScope)
section
variable {K:PySem.W.Frag} {σ:L2.St} {H H':Hp} {ta tb te tx:TE} {t:TA} {x y z v:V} {D:Ends} {tz:TS}
theorem zad {a C dx:Addr} {fs:List (Str×V)} {f:Str} (ha:Ev ta σ H (.ref a)) (h:H a=some (.ins C dx fs)) (c:Cls K C) (n:NoAttr K C f) (l:fs.lookup f=some v):Ev (tFld K ta f) σ H v:=fun H1 e Q q =>
 ha H1 e _ fun H2 e2=>⟨a,C,dx,fs,v,rfl,e2 _ _ (e _ _ h),c,n,l,q H2 e2⟩
/-- o.m() where nothing but new things come of it -/
theorem zee {C a dx:Addr} {fs:List (Str×V)} {m:Str} {sp:Sp} {E:XK} {vs:List V} (ha:Ev ta σ H (.ref a)) (h:H a=some (.ins C dx fs)) (l:fs.lookup m=none) (ht:EvA t σ H vs) (hs:∀ H1,Ex H H1→∀ Q:VK,(∀ H2,Ex H1 H2→Q v H2)→sp (.ref a::(vs++[])) H1 Q E) :
  Ev (tMeth C m sp [] E ta t) σ H v:=fun H1 e Q q=>ha H1 e _ fun H2 e2=>⟨a,dx,fs,rfl,e2 _ _ (e _ _ h),l,ht H2 (e.trans e2) _ fun H3 e3=>hs H3 ((e.trans e2).trans e3) Q fun H4 e4=>q H4 ((e2.trans e3).trans e4)⟩
end
def EvR (te:TE) (σ:L2.St) (H:Hp) (R:PyData→Prop):Prop:=∀ H1,Ex H H1→∀ Q:VK,(∀ v H2 d,R d→Ex H1 H2→Td H2 v d→Q v H2)→te σ H1 Q
def EAR (ta:TA) (σ:L2.St) (H:Hp) (R:List PyData→Prop):Prop:=∀ H1,Ex H H1→∀ Q:List V→Hp→Prop,(∀ vs H2 ds,R ds→Ex H1 H2→TdAll H2 vs ds→Q vs H2)→ta σ H1 Q
/-- a new list -/
def zha (te:TE) (σ:L2.St) (H:Hp) (R:List PyData→Prop):Prop:=∀ H1,Ex H H1→∀ Q:VK,(∀ p H2 vs ds,R ds→H1 p=none→Ex H1 H2→H2 p=some (.lst vs)→TdAll H2 vs ds→Q (.ref p) H2)→te σ H1 Q
theorem za9 {H:Hp}:∀ {us:List V} {ds:List PyData} {i:Nat} {d:PyData},TdAll H us ds→ds[i]?=some d→∃ v,us[i]?=some v∧Td H v d
 | _,_,_,_, .nil,h=>by simp at h
 | _,_,0,_, .cons a b,h=>⟨_,rfl,by
  cases Option.some.inj h
  exact a⟩
 | _,_,i+1,_, .cons a b,h=>za9 (i:=i) b h
theorem zeI {xs:List V} {k:Nat} (h:k≤xs.length):cutV xs (some (k:Int)) none=xs.drop k:=by
 have h1:HT.sIx xs.length 0 (some (k:Int))=k:=by
  rw[HT.sIx_nat]
  omega
 have h2:HT.sIx xs.length xs.length none=xs.length:=rfl
 unfold cutV
 rw[h1,h2]
 exact List.take_of_length_le (by rw[List.length_drop];omega)
theorem zeX {H:Hp}:∀ {n:Nat} {us:List V} {ds:List PyData},TdAll H us ds→TdAll H (us.drop n) (ds.drop n)
 | 0,_,_,h=>h
 | _+1,_,_, .nil=> .nil
 | n+1,_,_, .cons a b=>zeX (n:=n) b
section
variable {K:PySem.W.Frag} {σ:L2.St} {H H':Hp} {ta tb te tx tl:TE} {tr:TA} {t u:TT} {v w:V} {R R2:PyData→Prop} {L:List PyData→Prop} {D:Ends} {tu tw tz:TS} {P:V→Prop}
theorem EvR.imp (h:EvR te σ H R) (i:∀ d,R d→R2 d):EvR te σ H R2:=fun H1 e Q q=>h H1 e Q fun v H2 d r=>q v H2 d (i d r)
theorem EvR.mono (e:Ex H H') (h:EvR te σ H R):EvR te σ H' R:=fun H1 e1 Q q=>h H1 (e.trans e1) Q q
theorem EAR.imp {L2:List PyData→Prop} (h:EAR tr σ H L) (i:∀ d,L d→L2 d):EAR tr σ H L2:=fun H1 e Q q=>h H1 e Q fun v H2 d r=>q v H2 d (i d r)
end
set_option maxHeartbeats 4000000 in
theorem zaP {v:Value} {o:Obj} {H:Heap→Prop} (B:Begins v o H) :
  Meets (Builtin.«enumerate.__new__» ⟨[.type "enumerate",v],[]⟩) (fun _ R s=>H s.heap ∧
   R (.ok (.ret (.ref (s.heap.push o).objs.size))) { s with heap:=(s.heap.push o).push { cls:= .type "enumerate",data:= .fields #[.none, .bool false, .ref s.heap.objs.size,rawInt 0, .none, .none] } }) :=
 .of_wp fun prog w A R s h=>by
  obtain ⟨hp,g,d,tk,os⟩:=s;obtain ⟨h1,h⟩:=h
  have hsub:=sub_enumerate
  have q1:∀ {A':Around} {E:Value→Shared→Prop} {Q:Value→Shared→Prop},Q (.ref hp.objs.size) ⟨hp.push o,g,d,tk,os⟩→wpAny (model prog w) A' (pyIter v) Q E ⟨hp,g,d,tk,os⟩ :=
   fun q=>B.iter prog w _ _ ⟨hp,g,d,tk,os⟩ _ h1 q
  wp_walk using q1
  refine wpAny_stack_any fun st=>wpAny_pure ?_
  split
  ·rename_i c _ _ _ _ _
   cases (c==Value.type "enumerate")
   ·wp_walk using q1
    exact ⟨_,rfl,h⟩
   ·wp_walk using q1
    exact ⟨_,rfl,h⟩
  ·wp_walk using q1
   exact ⟨_,rfl,h⟩
section
variable {prog:Program} {w:World} {A:Around} {E:Value→Shared→Prop} {s:Shared}
theorem zcm {v:Value} {o:Obj} {H:Heap→Prop} {Q:Value→Shared→Prop} (B:Begins v o H) (h1:H s.heap)
  (h:∀ h',IsEnum h' (s.heap.objs.size+1) s.heap.objs.size 0 .none→h'.get? s.heap.objs.size=some o→h'.objs.size=s.heap.objs.size+2 →
   (∀ b o,s.heap.get? b=some o→h'.get? b=some o)→Q (.ref (s.heap.objs.size+1)) { s with heap:=h' }) :
  wpAny (model prog w) A (call (.type "enumerate") [v]) Q E s:=by
 refine callType_new F.called_enumerate (by decide) (F.typeCall_enumerate_1 _) (F.newCall_enumerate_1 _) (fun obj=>F.args_object_init_2 obj _) F.entry_enumerate_new
  (zaP B) ⟨h1,?_⟩
 have hz:(s.heap.push o).objs.size=s.heap.objs.size+1:=Heap.size_push ..
 show _∧_
 rw[hz]
 have he:IsEnum ((s.heap.push o).push { cls:= .type "enumerate",data:= .fields #[.none, .bool false, .ref s.heap.objs.size,rawInt 0, .none, .none] }) (s.heap.objs.size+1) s.heap.objs.size 0 .none:=by
  have:=Heap.get?_push_size (s.heap.push o) (o:={ cls:= .type "enumerate",data:= .fields #[.none, .bool false, .ref s.heap.objs.size,rawInt 0, .none, .none] }) rfl
  rw[hz] at this;exact this
 refine ⟨⟨_,he,rfl⟩,h _ he (Heap.get?_push_of_some _ (Heap.get?_push_size _ B.free)) (by rw[Heap.size_push,hz]) fun b o x=>Heap.get?_push_of_some _ (Heap.get?_push_of_some _ x)⟩
end
/-- the tuple at a,each item in a new pair behind its number -/
def ziX (K:PySem.W.Frag) (a:Addr):It :=
 ⟨fun i H=>∃ (xs:List V) (x:V),SqT K H a xs∧xs[i]?=some x,fun i H v H'=>∃ T x,v= .ref T∧H T=none∧H'=upd H T (.tup [.int (i:Nat),x])∧∀ xs,SqT K H a xs→xs[i]?=some x,fun i H=>∃ xs:List V,SqT K H a xs∧xs.length≤i⟩
theorem zdw {P:Program} {w:World} {K:PySem.W.Frag} {elts:List Expr} {kk:Nat} {tpos:Pos} (a e it:Addr) (hai:a≠it) (hae:a≠e) :
  Turn P w K (.Tuple elts kk tpos) (ziX K a) [e,it] e (fun i h=>(∃ old,IsEnum h e it ((i:Nat):Int) old)∧h.IsTupleIter it a i∧e≠it) where
 mem:=List.mem_cons_self ..
 obj:=by
  rintro i h ⟨⟨old,he⟩,⟨o,ho,hc,hd⟩,_⟩ b hb
  rcases List.mem_cons.mp hb with rfl|hb
  ·exact ⟨_,he,fun v q=>nomatch q⟩
  ·rw[List.mem_singleton.mp hb]
   exact ⟨o,ho,fun v q=>by rw[hd] at q;cases q⟩
 keep:=by
  rintro i h h2 ⟨⟨old,he⟩,hi,hne⟩ kp
  exact ⟨⟨old,kp e (List.mem_cons_self ..) _ he⟩,hi.at fun o q=>kp it (List.mem_cons_of_mem _ (List.mem_singleton.mpr rfl)) o q,hne⟩
 item:=by
  intro X hP hw hK hc i pins s σ H E I hf st hg
  subst hP hw hK
  obtain ⟨⟨old,he⟩,hit,hne⟩:=st
  obtain ⟨xs,x,hq,hx⟩:=hg
  obtain ⟨its,rv,p,hz⟩:=I.tuple hq
  obtain ⟨u,hu,ru⟩:=rv.get hx
  have hel:e<s.heap.objs.size:=Heap.lt_size he
  have hil:it<s.heap.objs.size:=by
   obtain ⟨_,q,_⟩:=hit
   exact Heap.lt_size q
  have hlt:i<its.toArray.size:=by
   have:=(List.getElem?_eq_some_iff.mp hu).1
   rw[List.size_toArray]
   exact this
  refine wpAny_pyNext_enum_itemC (Draws.tuple (prog:=X.prog) (w:=X.w) (A:=X.A.in1) (show X.A.in1.handled=none from I.ok.hd hc) it a hai its.toArray) he ⟨hit,show s.heap.IsTuple a its.toArray from p⟩ hlt hne (fun m=>?_) fun y h2 tk hy ho st2 hT hsz hk=>?_
  ·rcases List.mem_cons.mp m with z|z
   ·exact hne z
   ·exact hae (List.mem_singleton.mp z).symm
  have hyu:y=u:=by
   have z:its[i]?=some y:=by simpa using hy
   rw[hu] at z
   exact (Option.some.inj z).symm
  subst hyu
  refine ⟨_,rfl,wpAny_letOwnedTupleGo_enum (s:={ s with heap:=h2,toks:=tk+1 }) ho fun h3 he3 sb=>?_⟩
  have hT2:=(sb.2 s.heap.objs.size (Nat.ne_of_gt hel)).trans hT
  have new:ObjOk X.prog X.w (upd H s.heap.objs.size (.tup [.int (i:Nat),x])) h3 s.heap.objs.size (.tup [.int (i:Nat),x]) :=
   ⟨by show 2≤sizeLine;decide,[.int (i:Nat) tk,y], .cons ⟨_,rfl⟩ (.cons ru .nil),⟨_,hT2,rfl,_,rfl⟩⟩
  have I1:=I.turnedNew (h':=h3) (t':=tk+1) (ch:=[e,it]) (fun b ob hb q=>by
   have n1:b≠e:=fun z=>hb (z▸List.mem_cons_self ..)
   have n2:b≠it:=fun z=>hb (z▸List.mem_cons_of_mem _ (List.mem_singleton.mpr rfl))
   exact (sb.2 b n1).trans (hk b ob n1 n2 q)) hf (Nat.le_refl _) new
  refine ⟨.ref s.heap.objs.size,_,I1,rfl,⟨_,x,rfl,I.hok.fresh (Nat.le_refl _),rfl,fun ys hy2=>?_⟩,⟨⟨y,?_⟩,?_,hne⟩,fun b hb=>?_⟩
  ·rw[I.tuple_inj hy2 hq]
   exact hx
  ·have e1:((i+1:Nat):Int)=(i:Int)+1:=by omega
   rw[e1]
   exact he3
  ·exact st2.1.at fun o q=>(sb.2 it (Ne.symm hne)).trans q
  ·have hb2:b<s.heap.objs.size:=by
    rcases List.mem_cons.mp hb with rfl|z
    ·exact hel
    ·rw[List.mem_singleton.mp z]
     exact hil
   rw[upd_ne (Nat.ne_of_lt hb2)]
   exact (hf b hb).1
 done:=by
  intro X hP hw hK hc i pins s σ H E I hf st hg
  subst hP hw hK
  obtain ⟨⟨old,he⟩,hit,hne⟩:=st
  obtain ⟨xs,hq,hx⟩:=hg
  obtain ⟨its,rv,p,hz⟩:=I.tuple hq
  obtain ⟨f0,f1,f2,f3,f4,f5⟩:=hf it (List.mem_cons_of_mem _ (List.mem_singleton.mpr rfl))
  have hl:=rv.length
  have hT:s.TypeIs (.ref e) "enumerate":=⟨_,he,rfl⟩
  have hnone:its.toArray[i]?=none:=by
   simp
   omega
  unfold pyNext
  refine wpAny_bind (wpAny_attempt (wpAny_callSpecial?_slot (name:=Str.ofString "__next__") hT PySem.F.slot_enumerate_next
   (wpAny_call_entry PySem.F.slot_enumerate_next hT PySem.F.entry_enumerate_next ?_ (PySem.F.args_enumerate_next_1 _))))
  show wpAny _ _ (field (.ref e) 2 >>= _) _ _ _
  refine wpAny_bind (wpAny_field he rfl (x:= .ref it) rfl (wpAny_bind (wpAny_nextOf_tuple_end (I.ok.hd hc) hit (show s.heap.IsTuple a its.toArray from p) hnone fun h2 x2 hE2 hx2=>?_)))
  obtain ⟨o2,ho2,hc2⟩:=hx2
  exact wpAny_bind (wpAny_isInstance (T:="StopIteration") (b:=true) ⟨o2,ho2,hc2⟩ isSubtype_stop
   (wpAny_pure ⟨rfl,I.turned (t':=s.toks) (fun b o hb q=>hE2 b o hb q) f0 f1 f3 f4 f5⟩))
 self:=by
  rintro A i s Q E ⟨⟨_,he⟩,_⟩ h
  exact wpAny_pyIter_enum he h
def zdi (K:PySem.W.Frag) (ta:TA):TI:=fun σ H R=>ta σ H fun vs H1=>∃ a xs,vs=[.ref a]∧SqT K H1 a xs∧R (ziX K a) H1
theorem pi_enumT {X:Cx} {e:Expr} {ta:TA} {p pos tpos:Pos} {elts:List Expr} {kk:Nat} (hg:Gl X "enumerate") (hm:X.mg "enumerate"=none) (ha:PA X [e] ta) (hs:starEach [e] X.env=[(false,eval e X.env)]:=by rfl) :
  PI X (.Tuple elts kk tpos) (.Call (.Name "enumerate" p) [e] [] pos) (zdi X.K ta):=by
 refine ⟨fun pins s σ H R I h=>?_⟩
 refine Call_ (ld_blt I hg hm boot_enumerate (PyProof.Rows.callWith_type1 (thn (ha.run pos pins s σ H _ I h) fun us s1 ⟨vs,H1,I1,r1,q1⟩=>?_) hs rfl))
 obtain ⟨a,xs,ex,hq,q⟩:=q1
 subst ex
 cases r1 with
 | cons r rr =>
  cases rr
  cases r
  obtain ⟨its,rv,p',hz⟩:=I1.tuple hq
  have p2:s1.heap.IsTuple a its.toArray:=p'
  refine zcm (begins_tuple a its.toArray) p2 fun h' he hit hsz hk=>wpAny_pyIter_enum he ?_
  have I2:Inv X pins σ H1 { s1 with heap:=h' }:=I1.kept (t':=s1.toks) hk
  have hal:a<s1.heap.objs.size:=by
   obtain ⟨o,ho,_⟩:=p2
   exact Heap.lt_size ho
  refine ⟨s1.heap.objs.size+1,[s1.heap.objs.size+1,s1.heap.objs.size],_,_,H1,rfl,I2,zdw a (s1.heap.objs.size+1) s1.heap.objs.size (Nat.ne_of_lt hal) (Nat.ne_of_lt (Nat.lt_succ_of_lt hal)),⟨⟨.none,he⟩,⟨_,hit,rfl,rfl⟩,Nat.succ_ne_self _⟩,fun b hb=>?_,q⟩
  have e':b=s1.heap.objs.size+1∨b=s1.heap.objs.size:=by simpa using hb
  have hle:s1.heap.objs.size≤b:=by
   rcases e' with z|z
   ·rw[z];exact Nat.le_add_right _ _
   ·rw[z];exact Nat.le_refl _
  exact I1.fpOk hle (I1.hok.fresh hle)
theorem zbG {K:PySem.W.Frag} {a:Addr} {xs:List V}:Walk (ziX K a) xs.length (fun H=>SqT K H a xs) (YPair (fun i=>some (.int (i:Nat))) (fun i=>xs[i]?)):=by
 refine ⟨fun i _ hi q=>⟨xs,xs[i],q,by simp[hi]⟩,fun _ q=>⟨xs,q,Nat.le_refl _⟩,?_⟩
 rintro i H v H' hi q ⟨T,x,rfl,hT,rfl,h⟩
 exact ⟨T,_,x,rfl,hT,rfl,rfl,h xs q⟩
/-- a new list of data -/
def zgH (ds:List PyData) (H:Hp) (Q:VK):Prop:=∀ p H2 vs,H p=none→Ex H H2→H2 p=some (.lst vs)→TdAll H2 vs ds→Q (.ref p) H2
section
variable {K:PySem.W.Frag} {σ:L2.St} {H H':Hp} {ta tb te tl t0 t1 t2 tv:TE} {tr:TA} {D:Ends} {tz tu:TS} {E:XK} {R:PyData→Prop}
/-- t[j],t a tuple of data -/
theorem zbe {v:V} {ds:List PyData} {j:Nat} {d:PyData} (ha:Ev ta σ H v) (hv:Td H v (.tuple ds)) (hb:Ev tb σ H (.int (j:Int))) (hj:ds[j]?=some d):∃ x,Td H x d∧Ev (tOp (rIxT K) ta tb) σ H x:=by
 cases hv with
 | @tup a xs _ h1 h2 =>
  obtain ⟨x,hx,hT⟩:=za9 h2 hj
  exact ⟨x,hT,ev_op ha hb (rv_ixT (st_of h1) (atI_nat hx))⟩
theorem zes {v:V} {ds:List PyData} {j:Nat} {d:PyData} (ha:Ev ta σ H v) (hv:Td H v (.tuple ds)) (hb:Ev tb σ H (.int (j:Int))) (hj:ds[j]?=some d):EvD (tOp (rIxT K) ta tb) σ H d:=by
 obtain ⟨x,hT,h⟩:=zbe (K:=K) ha hv hb hj
 exact zaA h hT
theorem zgm {v:V} {ds:List PyData} {j:Nat} {x:Str} (ha:Ev ta σ H v) (hv:Td H v (.tuple ds)) (hb:Ev tb σ H (.int (j:Int))) (hj:ds[j]?=some (.str x)):Ev (tOp (rIxT K) ta tb) σ H (.str x):=by
 obtain ⟨x,hT,h⟩:=zbe (K:=K) ha hv hb hj
 cases hT
 exact h
theorem zbT {v:V} {ds:List PyData} {j:Nat} {x:Int} (ha:Ev ta σ H v) (hv:Td H v (.tuple ds)) (hb:Ev tb σ H (.int (j:Int))) (hj:ds[j]?=some (.int x)):Ev (tOp (rIxT K) ta tb) σ H (.int x):=by
 obtain ⟨x,hT,h⟩:=zbe (K:=K) ha hv hb hj
 cases hT
 exact h
/-- for i,x in enumerate(t) -/
theorem zbE {a:Addr} {xs:List V} {i j:Nat} (h:Ev tl σ H (.ref a)) (hx:SqT K H a xs) (Pv:Nat→L2.St→Hp→Prop) (h0:∀ H1,Ex H H1→Pv 0 σ H1) (hl:∀ k σ' H',k≤xs.length→Pv k σ' H'→SqT K H' a xs)
  (hs:∀ k x σ' H' H1,xs[k]?=some x→Pv k σ' H'→Ex H' H1→tu { D with nx:=Pv (k+1),ct:=Pv (k+1),bk:=tz D } ((σ'.set i (some (.int (k:Int)))).set j (some x)) H1) (hd:∀ σ' H',Pv xs.length σ' H'→tz D σ' H') :
  tSeq (tFor (zdi K (tCons tl tNil)) (gTup K 2 (gCons (gName i) (gCons (gName j) gNil))) tu) tz D σ H:=h H (Ex.refl H) _ fun H1 e1=>⟨a,xs,rfl,ex_t e1 hx,by
 refine for_it (D:={ D with nx:=tz D }) (zbG (K:=K) (a:=a) (xs:=xs)) Pv (h0 H1 e1) (fun k σ' H' hk p=>hl k σ' H' hk p) ?_ hd
 rintro k v σ' H2 H3 hk p ⟨T,x,y,rfl,hT,rfl,hx1,hy⟩
 cases hx1
 exact ⟨T,[.int (k:Int),y],rfl,st_of upd_same,rfl, .int (k:Int),[y],rfl,y,[],rfl,rfl,hs k y σ' H2 _ hy p (Ex.new hT)⟩⟩
/-- [e for x in t] over a tuple of data -/
theorem zgt {a:Addr} {xs:List V} {ds:List PyData} {j:Nat} {vs:List Nat} {f:PyData→PyData} (h:Ev tl σ H (.ref a)) (hx:H a=some (.tup xs)) (hT:TdAll H xs ds) (hz:ds.length≤40000) (hw:∀ x,wipe ((wipe σ vs).set j (some x)) vs=wipe σ vs)
  (he:∀ (x:V) (d:PyData) H1,Ex H H1→d∈ds→Td H1 x d→EvD te ((wipe σ vs).set j (some x)) H1 (f d)):zbC (tLc (iTup K tl) (gName j) tYes te vs) σ H (ds.map f):=fun H0 e Q q=>h H0 e _ fun H1 e1=>⟨a,rfl,⟨xs,st_of ((e.trans e1) _ _ hx)⟩,fun Dl hD=>by
 have hx1:=(e.trans e1) _ _ hx
 have hT1:=TdAll.tx (Tx.of (e.trans e1)) _ _ hT
 refine lc_it (walk_tup (K:=K) (a:=a) (xs:=xs)) (fun i H'=>∃ acc,Ex H1 H'∧H' Dl=some (.lst acc)∧TdAll H' acc ((ds.take i).map f)) ⟨[],Ex.new hD,upd_same, .nil⟩ (fun _ H' _ ⟨_,e2,_⟩=>st_of (e2 _ _ hx1)) ?_ ?_
 ·rintro i x H2 H3 hi ⟨acc,e2,hDl,hA⟩ ⟨rfl,hxi⟩
  refine ⟨hw x,?_⟩
  have hlen:=hT1.len
  have hi2:i<ds.length:=by omega
  have hd:ds[i]?=some ds[i]:=List.getElem?_eq_getElem hi2
  obtain ⟨v,hv,hTv⟩:=za9 hT1 hd
  rw[hxi] at hv
  cases hv
  show te ((wipe σ vs).set j (some x)) H3 _
  refine he x ds[i] H3 ((e.trans e1).trans e2) (List.getElem_mem hi2) (Td.tx (Tx.of e2) _ _ hTv) H3 (Ex.refl _) _ fun y H4 e4 hy=>?_
  have hal:=hA.len
  rw[List.length_map,List.length_take] at hal
  refine ⟨acc,e4 _ _ hDl,sz_lt (by omega),acc++[y],Ex.mut (e2.trans e4) hD,upd_same,?_⟩
  have tx:Tx H4 (upd H4 Dl (.lst (acc++[y]))):=Tx.lst (e4 _ _ hDl)
  rw[List.take_succ,hd,List.map_append]
  exact (TdAll.tx ((Tx.of e4).trans tx) _ _ hA).snoc (Td.tx tx _ _ hy)
 ·rintro H2 ⟨acc,e2,hDl,hA⟩
  rw[hT1.len,List.take_length] at hA
  exact q Dl H2 acc (fresh_back e1 hD) (e1.trans e2) hDl hA⟩
theorem zgH.go {ds:List PyData} {Q:VK} (k:zgH ds H Q) (e:Ex H H'):zgH ds H' Q:=fun p H2 vs hp e2 h hT=>k p H2 vs (fresh_back e hp) (e.trans e2) h hT
/-- a comprehension of a dict over a walk -/
theorem zfp {J:It} {n:Nat} {G:Hp→Prop} {Y:Nat→Hp→V→Hp→Prop} (w:Walk J n G Y) {g:TG} {tt:TT} {tk tv:TE} {vs:List Nat} {σ:L2.St} {H1:Hp} {D:Addr} {Qd:Hp→Prop} (Pv:Nat→Hp→Prop) (h0:Pv 0 (upd H1 D (.dK []))) (hG:∀ i H,i≤n→Pv i H→G H)
  (hs:∀ i x H H',i<n→Pv i H→Y i H x H'→g x (wipe σ vs) H' fun σ2 H2=>wipe σ2 vs=wipe σ vs∧tt σ2 H2 fun b H3 =>
   if b=true then tk σ2 H3 fun y H4=>tv σ2 H4 fun z H5=>∃ kvs k,y=kV k∧H5 D=some (.dK kvs)∧kvs.length<sizeLine∧Pv (i+1) (upd H5 D (.dK (putK kvs k z))) else Pv (i+1) H3) (hd:∀ H,Pv n H→Qd H) :
  ∃ W:Nat→Nat→Hp→Prop,(∃ m,W 0 m (upd H1 D (.dK [])))∧∀ i m H,W i m H →
   (J.stop i H∧Qd H)∨(J.go i H∧∃ Nx:Hp→Prop,(∀ H',Nx H'→∃ m',m'<m∧W (i+1) m' H')∧∀ x H',J.yld i H x H'→g x (wipe σ vs) H' fun σ2 H2=>wipe σ2 vs=wipe σ vs∧tt σ2 H2 fun b H3 =>
    if b=true then tk σ2 H3 fun y H4=>tv σ2 H4 fun z H5=>∃ kvs k,y=kV k∧H5 D=some (.dK kvs)∧kvs.length<sizeLine∧Nx (upd H5 D (.dK (putK kvs k z))) else Nx H3):=by
 refine ⟨fun i m H=>m=n-i∧i≤n∧Pv i H,⟨n,by simp,Nat.zero_le _,h0⟩,?_⟩
 rintro i m H ⟨rfl,hi,p⟩
 have q:=hG i H hi p
 by_cases hlt:i<n
 ·refine .inr ⟨w.goes i H hlt q,Pv (i+1),fun H' p'=>⟨n-(i+1),by omega,rfl,hlt,p'⟩,fun x H' y=>hs i x H H' hlt p (w.yields i H x H' hlt q y)⟩
 ·have e:i=n:=by omega
  subst e
  exact .inl ⟨w.stops H q,hd H p⟩
theorem zbZ {kvs:List (Key×V)} {k:Key} {v:V} (h:k∉kvs.map Prod.fst):putK kvs k v=kvs++[(k,v)]:=by
 unfold putK
 rw[if_neg]
 intro z
 obtain ⟨p,hp,e⟩:=List.any_eq_true.mp z
 exact h (List.mem_map.mpr ⟨p,hp,of_decide_eq_true e⟩)
theorem zcU {kvs:List (Key×V)} {a:Addr} {k:Int} {v:V} (ha:Ev ta σ H (.ref a)) (hb:Ev tb σ H (.int k)) (h:H a=some (.dK kvs)) (hv:valV kvs (Sum.inl k:Key)=some v):Ev (tDGet ta tb) σ H v:=fun H1 e Q q =>
 ha H1 e _ fun H2 e2=>hb H2 (e.trans e2) _ fun H3 e3=>⟨a,v,rfl,by
  have g:=DGet.k (k:=(Sum.inl k:Key)) ((e2.trans e3) a _ (e a _ h))
  rw[hv] at g
  exact g,q H3 (e2.trans e3)⟩
theorem za3 {v:V} {b:Bool} (h:Ev te σ H v) (e:(!decide (v= .non))=b):EvT (tTest (tOp (fun x y H Q=>y= .non∧Q (.bl (!decide (x= .non))) H) te (tC .non))) σ H b:=et_test (ev_is (ev_op h ev_c fun H1 _ Q q=>⟨rfl,q H1 (Ex.refl H1)⟩) (congrArg V.bl e))
theorem zeR {v:V} {b:Bool} (h:Ev te σ H v) (e:decide (v= .non)=b):EvT (tTest (tOp (fun x y H Q=>y= .non∧Q (.bl (decide (x= .non))) H) te (tC .non))) σ H b:=et_test (ev_is (ev_op h ev_c fun H1 _ Q q=>⟨rfl,q H1 (Ex.refl H1)⟩) (congrArg V.bl e))
theorem zfV {a b c:Str} {r:Bool} (ha:Ev ta σ H (.str a)) (hb:Ev tb σ H (.str b)) (e:a=c) (h:decide (c=b)=r):EvT (tTest (tOp rEq ta tb)) σ H r:=by
 subst e h
 refine et_test (ev_is (ev_op ha hb (rv_eq rfl)) (congrArg V.bl ?_))
 by_cases z:a=b
 ·subst z
  rw[decide_eq_true rfl,decide_eq_true rfl]
 ·rw[decide_eq_false z,decide_eq_false fun y=>z (V.str.inj y)]
theorem inWT {p:Addr} {xs:List V} {a c:Str} {r:Bool} (ha:Ev ta σ H (.str a)) (hb:Ev tb σ H (.ref p)) (hp:SqT K H p xs) (hf:xs.all flatV=true) (e:a=c) (h:inV (.str c) xs=r):EvT (tTest (tOp (rIn K false) ta tb)) σ H r:=by
 subst e h
 exact et_test (ev_op ha hb (rv_isT hp rfl hf))
theorem inWU {xs:List V} {a c:Str} {r:Bool} (ha:Ev ta σ H (.str a)) (hb:EvU tb σ H xs) (hf:xs.all flatV=true) (e:a=c) (h:inV (.str c) xs=r):EvT (tTest (tOp (rIn K false) ta tb)) σ H r:=by
 subst e h
 exact et_test (ev_inU ha hb rfl hf)
theorem zaV {f h:Hp→Prop} (x:f H):tYes σ H (fun b H3=>if b=true then f H3 else h H3):=by
 show (if true=true then f H else h H)
 rw[if_pos rfl]
 exact x
/-- a cut of data -/
def zbi (ds:List PyData) (lo hi:Option Int):List PyData:=(ds.drop (HT.sIx ds.length 0 lo)).take (HT.sIx ds.length ds.length hi-HT.sIx ds.length 0 lo)
theorem zde {H:Hp}:∀ {n:Nat} {us:List V} {ds:List PyData},TdAll H us ds→TdAll H (us.take n) (ds.take n)
 | 0,_,_,_=> .nil
 | _+1,_,_, .nil=> .nil
 | n+1,_,_, .cons a b=> .cons a (zde (n:=n) b)
theorem zhK {xs:List V} {ds:List PyData} (h:TdAll H xs ds) (lo hi:Option Int):TdAll H (cutV xs lo hi) (zbi ds lo hi):=by
 unfold cutV zbi
 rw[h.len]
 exact zde (zeX h)
theorem zcT {v:V} {ds es:List PyData} {lo hi:Option Int} {tlo thi:TO} (ha:Ev ta σ H v) (hv:Td H v (.tuple ds)) (hlo:EvO tlo σ H lo) (hhi:EvO thi σ H hi) (e:zbi ds lo hi=es):EvD (tSl (rSlA K) ta tlo thi) σ H (.tuple es):=fun H1 e1 Q q =>
 ha H1 e1 _ fun H2 e2=>hlo H2 (e1.trans e2) _ fun H3 e3=>hhi H3 ((e1.trans e2).trans e3) _ fun H4 e4=>by
  subst e
  have e14:=((e1.trans e2).trans e3).trans e4
  have hv4:=Td.tx (Tx.of e14) _ _ hv
  cases hv4 with
  | @tup a xs _ h1 h2 =>
   refine ⟨a,xs,rfl,st_of h1,fun hw=>?_,fun _ p hp=>q _ _ (((e2.trans e3).trans e4).trans (Ex.new hp)) (.tup upd_same (TdAll.tx (Tx.of (Ex.new hp)) _ _ (zhK h2 lo hi)))⟩
   refine q _ H4 ((e2.trans e3).trans e4) (.tup h1 ?_)
   have:zbi ds lo hi=ds:=by
    unfold zbi
    rw[← h2.len,hw.1,hw.2,List.drop_zero,Nat.sub_zero,h2.len]
    exact List.take_length ..
   rw[this]
   exact h2
/-- a <= b<c -/
theorem zfU {i j k:Int} (ha:Ev ta σ H (.int i)) (hb:Ev tb σ H (.int j)) (hc:Ev te σ H (.int k)):Ev (tChain (rI0 fun i j=> .bl (decide (i≤j))) (rI0 fun i j=> .bl (decide (i<j))) ta tb te) σ H (.bl (decide (i≤j)&&decide (j<k))):=fun H1 e Q q =>
 ha H1 e _ fun H2 e2=>hb H2 (e.trans e2) _ fun H3 e3=>⟨i,j,rfl,rfl,decide (i≤j),rfl,by
  by_cases h:i≤j
  ·rw[decide_eq_true h,if_pos rfl]
   refine hc H3 ((e.trans e2).trans e3) _ fun H4 e4=>⟨j,k,rfl,rfl,?_⟩
   have:=q H4 ((e2.trans e3).trans e4)
   rw[decide_eq_true h,Bool.true_and] at this
   exact this
  ·rw[decide_eq_false h,if_neg Bool.false_ne_true]
   have:=q H3 (e2.trans e3)
   rw[decide_eq_false h,Bool.false_and] at this
   exact this⟩
theorem zc4 {ds1 ds2:List PyData} (ha:EvD ta σ H (.tuple ds1)) (h1:ds1≠[]) (l1:ds1.length≤100) (hb:EvD tb σ H (.tuple ds2)) (h2:ds2≠[]) (l2:ds2.length≤100):EvD (tOp (rCatA K) ta tb) σ H (.tuple (ds1++ds2)):=fun H1 e Q q=>ha H1 e _ fun u H2 e2 hu=>hb H2 (e.trans e2) _ fun v H3 e3 hw=>by
 have hv3:=Td.tx (Tx.of e3) _ _ hu
 cases hv3 with
 | @tup a xs _ hx1 hx2 =>
  cases hw with
  | @tup b ys _ hy1 hy2 =>
   have lx:=hx2.len
   have ly:=hy2.len
   have nx:xs≠[]:=fun z=>h1 (by rw[z] at hx2;cases hx2;rfl)
   have ny:ys≠[]:=fun z=>h2 (by rw[z] at hy2;cases hy2;rfl)
   exact ⟨a,b,xs,ys,rfl,rfl,st_of hx1,st_of hy1,sz_of (by omega),fun z=>absurd z nx,fun _ z=>absurd z ny,fun _ _ p hp=>q _ _ ((e2.trans e3).trans (Ex.new hp)) (.tup upd_same (TdAll.tx (Tx.of (Ex.new hp)) _ _ (hx2.app hy2)))⟩
end
/-- tuple(..) -/
abbrev ziE (K:PySem.W.Frag):List V→Hp→VK→Prop:=fun xs H Q=>∃ p ys,xs=[.ref p]∧((SqL K H p ys∧∀ l,H l=none→Q (.ref l) (upd H l (.tup ys)))∨(SqT K H p ys∧Q (.ref p) H))
def EvP (te:TE) (σ:L2.St) (H:Hp) (P:V→Hp→Prop):Prop:=∀ H1,Ex H H1→∀ Q:VK,(∀ v H2,Ex H1 H2→P v H2→Q v H2)→te σ H1 Q
/-- a list of data at l of which something is true -/
def zd4 (H:Hp) (l:Addr) (L:List PyData→Prop):Prop:=∃ vs ds,H l=some (.lst vs)∧TdAll H vs ds∧L ds
theorem zd4.ex {H H':Hp} {l:Addr} {L:List PyData→Prop} (h:zd4 H l L) (e:Ex H H'):zd4 H' l L:=by
 obtain ⟨vs,ds,h1,h2,h3⟩:=h
 exact ⟨vs,ds,e _ _ h1,TdAll.tx (Tx.of e) _ _ h2,h3⟩
theorem zd4.imp {H:Hp} {l:Addr} {L L2:List PyData→Prop} (h:zd4 H l L) (i:∀ ds,L ds→L2 ds):zd4 H l L2:=by
 obtain ⟨vs,ds,h1,h2,h3⟩:=h
 exact ⟨vs,ds,h1,h2,i ds h3⟩
theorem zd4.dK {H:Hp} {l p:Addr} {L:List PyData→Prop} {ks ls:List (Key×V)} (h:zd4 H l L) (hp:H p=some (.dK ks)):zd4 (upd H p (.dK ls)) l L:=by
 obtain ⟨vs,ds,h1,h2,h3⟩:=h
 exact ⟨vs,ds,by rw[upd_ne (ne_of h1 hp (by intro z;cases z))];exact h1,TdAll.tx (Tx.dK hp) _ _ h2,h3⟩
theorem zd4.lst {H:Hp} {l p:Addr} {L:List PyData→Prop} {xs ys:List V} (h:zd4 H l L) (hp:H p=some (.lst xs)) (hn:l≠p):zd4 (upd H p (.lst ys)) l L:=by
 obtain ⟨vs,ds,h1,h2,h3⟩:=h
 exact ⟨vs,ds,by rw[upd_ne hn];exact h1,TdAll.tx (Tx.lst hp) _ _ h2,h3⟩
section
variable {K:PySem.W.Frag} {σ:L2.St} {H H' H0:Hp} {ta tb te tx tl:TE} {tr:TA} {t u:TT} {v w:V} {R R2:PyData→Prop} {L L1 L2:List PyData→Prop} {D:Ends} {tu tw tz:TS} {P P2:V→Hp→Prop} {trs:List (TE×TE)}
theorem EvP.imp (h:EvP te σ H P) (i:∀ v H',P v H'→P2 v H'):EvP te σ H P2:=fun H1 e Q q=>h H1 e Q fun v H2 e2 p=>q v H2 e2 (i v H2 p)
theorem EvP.mono (e:Ex H H') (h:EvP te σ H P):EvP te σ H' P:=fun H1 e1 Q q=>h H1 (e.trans e1) Q q
theorem zha.imp (h:zha te σ H L) (i:∀ ds,L ds→L1 ds):zha te σ H L1:=fun H1 e Q q=>h H1 e Q fun p H2 vs ds r=>q p H2 vs ds (i ds r)
theorem zha.mono (e:Ex H H') (h:zha te σ H L):zha te σ H' L:=fun H1 e1 Q q=>h H1 (e.trans e1) Q q
theorem zcd {H:Hp} {xs:List V} {ds:List PyData} (h:TdAll H xs ds):∀ k,TdAll H (List.replicate k xs).flatten (List.replicate k ds).flatten
 | 0=> .nil
 | k+1=>by
  rw[List.replicate_succ,List.replicate_succ,List.flatten_cons,List.flatten_cons]
  exact h.app (zcd h k)
theorem zeD {ds:List PyData} {k:Nat} {i:Int} (ha:zbC ta σ H ds) (hb:Ev tb σ H (.int i)) (hi:i=(k:Int)) (hz:ds.length*k≤100000) (hk:k≤100000):zbC (tOp rRep ta tb) σ H (List.replicate k ds).flatten:=fun H1 e Q q =>
 ha H1 e _ fun l H2 xs hl0 e2 hl hT=>hb H2 (e.trans e2) _ fun H3 e3=>⟨l,i,xs,rfl,rfl,e3 l _ hl,by subst hi;omega,by subst hi;omega,by
  subst hi
  rw[hT.len]
  exact sz_of hz,fun c hc=>q c _ _ (fresh_back (e2.trans e3) hc) ((e2.trans e3).trans (Ex.new hc)) upd_same (by
   subst hi
   exact TdAll.tx (Tx.of (e3.trans (Ex.new hc))) _ _ (zcd hT k))⟩
theorem zeV {ds:List PyData} {k:Nat} (h:k≤ds.length):zbi ds (some (k:Int)) none=ds.drop k:=by
 have h1:HT.sIx ds.length 0 (some (k:Int))=k:=by
  rw[HT.sIx_nat]
  omega
 have h2:HT.sIx ds.length ds.length none=ds.length:=rfl
 unfold zbi
 rw[h1,h2]
 exact List.take_of_length_le (by rw[List.length_drop];omega)
theorem zgD {ds:List PyData} {k:Nat} (h:k≤ds.length):zbi ds none (some (k:Int))=ds.take k:=by
 have h1:HT.sIx ds.length 0 none=0:=rfl
 have h2:HT.sIx ds.length ds.length (some (k:Int))=k:=by
  rw[HT.sIx_nat]
  omega
 unfold zbi
 rw[h1,h2]
 rfl
theorem zhp {v:V} {ds:List PyData} {k:Nat} (ha:Ev ta σ H v) (hv:Td H v (.tuple ds)) (h:k≤ds.length):EvD (tSl (rSlA K) ta (tPart (tC (.int (k:Int)))) tNoPart) σ H (.tuple (ds.drop k)):=zcT ha hv (eo_some ev_c) eo_none (zeV h)
theorem zec {v:V} {ds:List PyData} {k:Nat} (ha:Ev ta σ H v) (hv:Td H v (.tuple ds)) (h:k≤ds.length):EvD (tSl (rSlA K) ta tNoPart (tPart (tC (.int (k:Int))))) σ H (.tuple (ds.take k)):=zcT ha hv eo_none (eo_some ev_c) (zgD h)
end
def ziv (K:PySem.W.Frag) (ta:TE) (f:Str):TG:=fun v σ H Q=>ta σ H fun x H1=>∃ a C dx fs,x= .ref a∧H1 a=some (.ins C dx fs)∧Cls K C∧NoAttr K C f∧fs.length<1000∧Q σ (upd H1 a (.ins C dx (putF f v fs)))
theorem pg_fld {X:Cx} {o:Expr} {ta:TE} {f:Str} {pos:Pos} (ho:PE X o ta):PG X (.Attribute o f pos) (ziv X.K ta f):=by
 refine ⟨fun pins s σ H v u Q I r h=>?_⟩
 rw[assign_Attribute]
 refine wpAny_bind (wpAny_holding (thn (ho.run pins s σ H _ I h) fun ov s1 ⟨x,H1,I1,r1,a,C,dx,fs,ex,ea,c,n,l,q1⟩=>?_))
 subst ex
 obtain rfl:ov=Value.ref a:=r1
 refine wpAny_bind (wpAny_standAt (wpAny_bind (wpAny_holding (setattr_ok I1 ea c n l r fun s2 I2=>?_))))
 exact wpAny_release ⟨σ,_,I2,q1⟩
def rEq0 (K:PySem.W.Frag):R2:=fun x y H Q=>∃ a b xs,x= .ref a∧y= .ref b∧SqL K H a xs∧SqL K H b []∧Q (.bl xs.isEmpty) H
theorem op_eq0 {X:Cx} (hu:X.A.units+1<cLine):OpR X (compareOp .Eq) (rEq0 X.K):=by
 intro pins s σ H x y v u Q I rx ry h
 obtain ⟨a,b,xs,rfl,rfl,ha,hb,q⟩:=h
 cases rx
 cases ry
 have hu1:X.A.units<cLine:=by omega
 obtain ⟨its,r,pl,hz⟩:=I.list ha
 obtain ⟨its2,r2,pl2,hz2⟩:=I.list hb
 cases r2
 cases r with
 | nil=>exact SeqAt.RcAt.lists (e:=fun _=>true) pl.isList pl2.isList rfl hu1 (fun j h1 h2=>absurd h2 (Nat.not_lt_zero _)) X.prog X.w _ _ ⟨.bl true,H,I,rfl,q⟩
 | cons r1 r2=>exact SeqAt.RcAt.lists_lengths pl.isList pl2.isList (by simp) hu1 X.prog X.w _ _ ⟨.bl false,H,I,rfl,q⟩
section
variable {K:PySem.W.Frag} {σ:L2.St} {H:Hp} {ta:TE}
theorem zgb {a:Addr} {xs:List V} (h:Ev ta σ H (.ref a)) (hx:H a=some (.lst xs)):EvT (tTest (tOp (rEq0 K) ta (tLst tNil))) σ H xs.isEmpty:=et_test fun H1 e Q q=>h H1 e _ fun H2 e2=>el_lst ea_nil (Nat.zero_le _) H2 (Ex.refl _) _ fun p H3 hp0 e3 hp=>⟨a,p,xs,rfl,rfl,sq_of ((e.trans (e2.trans e3)) _ _ hx),sq_of hp,q H3 (e2.trans e3)⟩
end
/-- a caller that waits -/
structure CS where
 num:Nat
 call:Nat
 pc:Nat
 cells:List Int
 pile:List Int
structure MS where
 num:Nat
 pc:Nat
 cells:List Int
 pile:List Int
 callers:List CS
 call:Nat
 calls:Nat
 began:Nat
 spoken:List PyData
 kept:List Int
 ended:Option (List PyData)
structure Pl where
 pc:Nat
 file:Str
 row:Nat
 col:Nat
structure Df where
 file:Str
 name:Str
 pc:Nat
 fin:Nat
 kinds:List PyData
 kind:Str
 out:Bool
 cells:Nat
structure Kd where
 file:Str
 name:Str
 kind:Str
 worth:Int
 out:Bool
structure Img where
 code:List Int
 places:List Pl
 defs:List Df
 most:Nat
def Pl.d (p:Pl):PyData:= .tuple [.str p.file, .tuple [.int p.row, .int p.col]]
def Pl.row3 (p:Pl):PyData:= .tuple [.int p.pc, .str p.file, .tuple [.int p.row, .int p.col]]
def Df.d (x:Df):PyData:= .tuple [.str x.file, .str x.name, .int x.pc, .int x.fin, .tuple x.kinds, .str x.kind, .bool x.out, .int x.cells]
def Kd.d (k:Kd):PyData:= .tuple [.str k.file, .str k.name, .str k.kind, .int k.worth, .bool k.out]
def endD:Option (List PyData)→PyData
 | none=> .none
 | some ds=> .tuple ds
/-- the numbers of defs by where they begin (a later one of the same place wins) -/
def zaC (ds:List Df):List (Nat×Nat):=ds.zipIdx.map fun p=>(p.1.pc,p.2)
def zaH (im:Img) (a:Nat):Option Pl:=im.places.find? fun p=>decide (p.pc=a)
def zfW (w:Str) (p:Pl):List PyData:=[.str (Str.ofString "fault"), .str w, .str p.file, .int p.row, .int p.col]
def zex (im:Img) (w:Str) (st:MS):Option MS:=(zaH im st.pc).map fun p=>{ st with ended:=some (zfW w p) }
def zdb (p:List Int):Option (List Int×Int) :=
 match p.reverse with
 | []=>none
 | y::r=>some (r.reverse,y)
theorem zaO {p q:List Int} {y:Int} (h:zdb p=some (q,y)):p=q++[y]:=by
 unfold zdb at h
 cases e:p.reverse with
 | nil=>rw[e] at h;cases h
 | cons a r =>
  rw[e] at h
  cases h
  have:=congrArg List.reverse e
  rw[List.reverse_reverse,List.reverse_cons] at this
  exact this
def zeo (st:MS) (v:Int):Option MS:=if st.pile.length<90000 then some { st with pile:=st.pile++[v] } else none
/-- a kind's worth as it is told -/
def zbx (kind:Str) (w:Int):PyData:=if kind=Str.ofString "yes" then .bool (decide (w=1)) else .int w
def zaL:Nat→Int→Int→Int
 | 7,x,y=>x+y
 | 8,x,y=>x-y
 | _,x,y=>x*y
def zct:Int:=1000000000000
def inM (x:Int):Bool:=decide (-zct≤x)&&decide (x≤zct)
/-- what is too great is left out here -/
def zek (n:Nat) (st:MS):Option MS :=
 match zdb st.pile with
 | none=>none
 | some (p,y) =>
  match zdb p with
  | none=>none
  | some (q,x)=>if (inM x&&inM y&&inM (zaL n x y)&&decide (q.length<90000))=true then some { st with pile:=q++[zaL n x y],pc:=st.pc+1 } else none
def zdk (n:Nat) (has:Int) (st:MS):Option MS :=
 match n with
 | 2=>zeo st has
 | 3=>if 0≤has then (st.cells[has.toNat]?).bind (zeo st) else none
 | 4=>(zdb st.pile).bind fun (p,y)=>if 0≤has∧has.toNat<st.cells.length then some { st with pile:=p,cells:=st.cells.set has.toNat y } else none
 | 5=>if 0≤has then (st.kept[has.toNat]?).bind (zeo st) else none
 | 6=>(zdb st.pile).bind fun (p,y)=>if 0≤has∧has.toNat<st.kept.length then some { st with pile:=p,kept:=st.kept.set has.toNat y } else none
 | 18=>(zdb st.pile).bind fun (p,y)=>if st.spoken.length<90000 then some { st with pile:=p,spoken:=st.spoken++[if has=1 then .bool (decide (y=1)) else .int y] } else none
 | _=>none
def zeQ (x:Int):Option Nat:=if 0≤x then some x.toNat else none
theorem zbo {x:Int} {n:Nat} (h:zeQ x=some n):x=(n:Int):=by
 unfold zeQ at h
 by_cases e:0≤x
 ·rw[if_pos e] at h
  cases h
  omega
 ·rw[if_neg e] at h
  cases h
/-- the pile that is left,and what is given -/
def zgp (im:Img) (st:MS):Option MS :=
 match im.code[st.pc+1]?.bind zeQ,im.code[st.pc+2]?.bind zeQ,im.code[st.pc+3]?.bind zeQ with
 | some a,some many,some cells =>
  if st.callers.length+1<32∧many≤st.pile.length∧many≤cells∧cells≤1000∧st.pile.length≤90000∧st.cells.length≤90000 then
   ((zaC im.defs).lookup a).map fun n =>
    { st with callers:=st.callers++[⟨st.num,st.call,st.pc,st.cells,st.pile.take (st.pile.length-many)⟩],calls:=st.calls+1,call:=st.calls+1,num:=n,pc:=a,cells:=st.pile.drop (st.pile.length-many)++List.replicate (cells-many) 0,pile:=[] }
  else none
 | _,_,_=>none
def ziw (p:List CS):Option (List CS×CS) :=
 match p.reverse with
 | []=>none
 | y::r=>some (r.reverse,y)
theorem zfw {p q:List CS} {y:CS} (h:ziw p=some (q,y)):p=q++[y]:=by
 unfold ziw at h
 cases e:p.reverse with
 | nil=>rw[e] at h;cases h
 | cons a r =>
  rw[e] at h
  cases h
  have:=congrArg List.reverse e
  rw[List.reverse_reverse,List.reverse_cons] at this
  exact this
/-- a worth is given (give 1) -/
def zgY (im:Img) (st:MS):Option MS :=
 match zdb st.pile with
 | none=>none
 | some (p,y) =>
  match st.callers with
  | []=>(im.defs[st.num]?).map fun x=>{ st with pile:=p,ended:=some [.str (Str.ofString "end"),zbx x.kind y] }
  | _::_ =>
   match ziw st.callers with
   | none=>none
   | some (cs,c)=>if c.pile.length<90000 then some { st with callers:=cs,num:=c.num,call:=c.call,pc:=c.pc+4,cells:=c.cells,pile:=c.pile++[y] } else none
def zdl (n:Int):Bool:=decide (n=7)||decide (n=8)||decide (n=9)
def zcQ (n:Int):Bool:=decide (n=2)||decide (n=3)||decide (n=4)||decide (n=5)||decide (n=6)||decide (n=18)
def doC (im:Img) (st:MS):Option MS :=
 match im.code[st.pc]? with
 | none=>none
 | some n =>
  if zdl n=true then zek n.toNat st
  else if n=16 then zgp im st
  else if n=17 then (if im.code[st.pc+1]?=some 1 then zgY im st else none)
  else if zcQ n=true then (im.code[st.pc+1]?).bind fun has=>zdk n.toNat has { st with pc:=st.pc+2 }
  else none
/-- codes are done until a row begins or it has ended: so many of them -/
inductive zd5 (im:Img):Nat→MS→MS→Prop
 | stop {st:MS} (h:st.ended.isSome=true):zd5 im 0 st st
 | row {st:MS} (h:st.ended=none) (c:im.code[st.pc]?=some 1):zd5 im 0 st st
 | step {st st1 st2:MS} {k:Nat} {n:Int} (h:st.ended=none) (c:im.code[st.pc]?=some n) (hn:n≠1) (d:doC im st=some st1) (r:zd5 im k st1 st2):zd5 im (k+1) st st2
def zba (im:Img) (st:MS):Option MS:=if st.ended.isSome=true∨st.began≠im.most then some st else zex im (Str.ofString "tired") st
def zfk (im:Img) (st st':MS):Prop:=∃ k st1,zd5 im k st st1∧zba im st1=some st'
def zfe (st:MS):MS:={ st with began:=st.began+1,pc:=st.pc+1 }
/-- a machine as it is made -/
def zbB (ds:List Df) (f n:Str):Option Nat:=ds.findIdx? fun x=>decide (x.file=f)&&decide (x.name=n)&&x.out&&x.kinds.isEmpty
def zch (num:Nat) (x:Df) (kept:List Int):MS:=⟨num,x.pc,List.replicate x.cells 0,[],[],0,0,0,[],kept,none⟩
/-- rows are done until it has ended -/
inductive zeG (im:Img):Nat→MS→MS→Prop
 | stop {st:MS} (h:st.ended.isSome=true):zeG im 0 st st
 | row {st st1 st2:MS} {k:Nat} (h:st.ended=none) (g:zfk im (zfe st) st1) (r:zeG im k st1 st2):zeG im (k+1) st st2
open PySem.Builtin.Str (occurrences partsBetween strKind)
section
variable {K:PySem.W.Frag} {σ:L2.St} {H H':Hp} {ta tb te tx:TE}
/-- a <= b <= c of numbers -/
theorem zci {i j k:Int} (ha:Ev ta σ H (.int i)) (hb:Ev tb σ H (.int j)) (hc:Ev te σ H (.int k)):Ev (tChain (rI0 fun i j=> .bl (decide (i≤j))) (rI0 fun i j=> .bl (decide (i≤j))) ta tb te) σ H (.bl (decide (i≤j)&&decide (j≤k))):=fun H1 e Q q =>
 ha H1 e _ fun H2 e2=>hb H2 (e.trans e2) _ fun H3 e3=>⟨i,j,rfl,rfl,decide (i≤j),rfl,by
  by_cases h:i≤j
  ·rw[decide_eq_true h,if_pos rfl]
   refine hc H3 ((e.trans e2).trans e3) _ fun H4 e4=>⟨j,k,rfl,rfl,?_⟩
   have:=q H4 ((e2.trans e3).trans e4)
   rw[decide_eq_true h,Bool.true_and] at this
   exact this
  ·rw[decide_eq_false h,if_neg Bool.false_ne_true]
   have:=q H3 (e2.trans e3)
   rw[decide_eq_false h,Bool.false_and] at this
   exact this⟩
end
/-- all but these stays,and nothing goes away -/
structure Kp (l:List Addr) (H H2:Hp):Prop where
 keep:∀ b o,b∉l→H b=some o→H2 b=some o
 there:∀ b,H2 b=none→H b=none
theorem Kp.of {l:List Addr} {H H2:Hp} (e:Ex H H2):Kp l H H2:=⟨fun b o _ h=>e b o h,fun b h=>fresh_back e h⟩
theorem Kp.refl (l:List Addr) (H:Hp):Kp l H H:= .of (Ex.refl H)
theorem Kp.upd {l:List Addr} {H:Hp} {p:Addr} {o o2:HO} (hp:p∈l) (h:H p=some o):Kp l H (upd H p o2):=⟨fun b u n hb=>by
 rw[upd_ne fun z=>n (by rw[z];exact hp)]
 exact hb,fun b hb=>by
 by_cases e:b=p
 ·subst e
  rw[upd_same] at hb
  cases hb
 ·rw[upd_ne e] at hb
  exact hb⟩
abbrev iL (p:List Int):HO:= .lst (p.map V.int)
structure CA where
 a:Addr
 dx:Addr
 lc:Addr
 lp:Addr
structure MA where
 dx:Addr
 lc:Addr
 dp:Addr
 ld:Addr
 dn:Addr
 lk:Addr
 lcl:Addr
 lpl:Addr
 lca:Addr
 lsp:Addr
 ve:V
 cs:List CA
def zap (im:Img) (A:MA) (st:MS):List (Str×V):=[("number", .int st.num),("most", .int im.most),("code", .ref A.lc),("places", .ref A.dp),("defs", .ref A.ld),("numbers", .ref A.dn),("kept", .ref A.lk),("at", .int st.pc),("cells", .ref A.lcl),("pile", .ref A.lpl),("callers", .ref A.lca),("call", .int st.call),("calls", .int st.calls),("began", .int st.began),("spoken", .ref A.lsp),("ended",A.ve)]
def clrF (c:CS) (p:CA):List (Str×V):=[("number", .int c.num),("call", .int c.call),("at", .int c.pc),("cells", .ref p.lc),("pile", .ref p.lp)]
def own (m:Addr) (A:MA):List Addr:=[m,A.lk,A.lcl,A.lpl,A.lca,A.lsp]
def roC (cs:List CA):List Addr:=cs.flatMap fun c=>[c.a,c.lc,c.lp]
def ro (A:MA):List Addr:=A.lc::A.dp::A.ld::A.dn::roC A.cs
/-- the places' dict,a dict from places of defs to their numbers -/
def PlO (H:Hp) (d:Addr) (ps:List Pl):Prop:=∃ kvs:List (Key×V),H d=some (.dK kvs)∧kvs.map (·.1)=ps.map (fun p=>(Sum.inl (p.pc:Int):Key))∧TdAll H (kvs.map (·.2)) (ps.map Pl.d)
def zeq (l:List (Nat×Nat)):List (Key×V):=l.map fun p=>((Sum.inl (p.1:Int):Key),V.int (p.2:Int))
/-- a caller in the heap -/
structure zdP (H:Hp) (CC:Addr) (p:CA) (c:CS):Prop where
 ho:H p.a=some (.ins CC p.dx (clrF c p))
 hc:H p.lc=some (iL c.cells)
 hp:H p.lp=some (iL c.pile)
inductive zax (H:Hp) (CC:Addr):List CA→List CS→Prop
 | nil:zax H CC [] []
 | cons {p:CA} {c:CS} {ps:List CA} {cs:List CS} (h:zdP H CC p c) (r:zax H CC ps cs):zax H CC (p::ps) (c::cs)
theorem zdP.keep {H H':Hp} {CC:Addr} {p:CA} {c:CS} (h:zdP H CC p c) (k:∀ b∈[p.a,p.lc,p.lp],∀ o,H b=some o→H' b=some o):zdP H' CC p c:=⟨k _ (by simp) _ h.ho,k _ (by simp) _ h.hc,k _ (by simp) _ h.hp⟩
theorem zax.keep {H H':Hp} {CC:Addr}:∀ {ps:List CA} {cs:List CS},zax H CC ps cs→(∀ b∈roC ps,∀ o,H b=some o→H' b=some o)→zax H' CC ps cs
 | _,_, .nil,_=> .nil
 | p::ps,_, .cons h r,k=> .cons (h.keep fun b hb=>k b (by unfold roC;rw[List.flatMap_cons];exact List.mem_append_left _ hb)) (r.keep fun b hb=>k b (by unfold roC;rw[List.flatMap_cons];exact List.mem_append_right _ hb))
theorem zax.len {H:Hp} {CC:Addr}:∀ {ps:List CA} {cs:List CS},zax H CC ps cs→ps.length=cs.length
 | _,_, .nil=>rfl
 | _,_, .cons _ r=>congrArg Nat.succ r.len
theorem zax.snoc {H:Hp} {CC:Addr} {p:CA} {c:CS} (h:zdP H CC p c):∀ {ps:List CA} {cs:List CS},zax H CC ps cs→zax H CC (ps++[p]) (cs++[c])
 | _,_, .nil=> .cons h .nil
 | _,_, .cons g r=> .cons g (zax.snoc h r)
theorem zax.last {H:Hp} {CC:Addr} {c:CS}:∀ {ps:List CA} {cs:List CS},zax H CC ps (cs++[c])→∃ qs p,ps=qs++[p]∧zax H CC qs cs∧zdP H CC p c
 | [],cs,h=>by
  have:=h.len
  rw[List.length_append] at this
  cases this
 | [p],[], .cons g r=>⟨[],p,rfl, .nil,g⟩
 | p::q::ps,[],h=>by
  have:=h.len
  cases this
 | p::ps,c0::cs, .cons g r=>by
  obtain ⟨qs,p2,e,h1,h2⟩:=zax.last r
  exact ⟨p::qs,p2,by rw[e]<;>rfl, .cons g h1,h2⟩
/-- what of a machine never changes -/
structure RoO (H:Hp) (CC:Addr) (im:Img) (A:MA) (cs:List CS):Prop where
 code:H A.lc=some (iL im.code)
 pl:PlO H A.dp im.places
 defs:∃ dv,H A.ld=some (.lst dv)∧TdAll H dv (im.defs.map Df.d)
 nums:H A.dn=some (.dK (zeq (zaC im.defs)))
 clrs:zax H CC A.cs cs
theorem RoO.keep {H H':Hp} {CC:Addr} {im:Img} {A:MA} {cs:List CS} (h:RoO H CC im A cs) (k:∀ b∈ro A,∀ o,H b=some o→H' b=some o) (t:Tx H H'):RoO H' CC im A cs where
 code:=k _ (by simp[ro]) _ h.code
 pl:=by
  obtain ⟨kvs,h1,h2,h3⟩:=h.pl
  exact ⟨kvs,k _ (by simp[ro]) _ h1,h2,TdAll.tx t _ _ h3⟩
 defs:=by
  obtain ⟨dv,h1,h2⟩:=h.defs
  exact ⟨dv,k _ (by simp[ro]) _ h1,TdAll.tx t _ _ h2⟩
 nums:=k _ (by simp[ro]) _ h.nums
 clrs:=h.clrs.keep fun b hb=>k b (by simp[ro,hb])
structure Mac (H:Hp) (C CC:Addr) (im:Img) (m:Addr) (A:MA) (st:MS):Prop where
 o:H m=some (.ins C A.dx (zap im A st))
 r:RoO H CC im A st.callers
 kept:H A.lk=some (iL st.kept)
 cells:H A.lcl=some (iL st.cells)
 pile:H A.lpl=some (iL st.pile)
 clrs:H A.lca=some (.lst (A.cs.map fun c=>V.ref c.a))
 spok:∃ sv,H A.lsp=some (.lst sv)∧TdAll H sv st.spoken
 ended:Td H A.ve (endD st.ended)
 nd:(own m A).Nodup
 dis:∀ a∈ro A,a∉own m A
section
variable {H H':Hp} {C CC m:Addr} {im:Img} {A:MA} {st:MS}
theorem Mac.keep (h:Mac H C CC im m A st) (k:∀ b∈own m A++ro A,∀ o,H b=some o→H' b=some o) (t:Tx H H'):Mac H' C CC im m A st where
 o:=k _ (by simp[own]) _ h.o
 r:=h.r.keep (fun b hb=>k b (List.mem_append_right _ hb)) t
 kept:=k _ (by simp[own]) _ h.kept
 cells:=k _ (by simp[own]) _ h.cells
 pile:=k _ (by simp[own]) _ h.pile
 clrs:=k _ (by simp[own]) _ h.clrs
 spok:=by
  obtain ⟨sv,h1,h2⟩:=h.spok
  exact ⟨sv,k _ (by simp[own]) _ h1,TdAll.tx t _ _ h2⟩
 ended:=Td.tx t _ _ h.ended
 nd:=h.nd
 dis:=h.dis
theorem Mac.ex (h:Mac H C CC im m A st) (e:Ex H H'):Mac H' C CC im m A st:=h.keep (fun b _ o q=>e b o q) (Tx.of e)
/-- what is a machine's own is no tuple -/
theorem Mac.notup (h:Mac H C CC im m A st) {b:Addr} {xs:List V} (hb:H b=some (.tup xs)):b∉own m A:=fun z=>by
 simp only[own,List.mem_cons,List.not_mem_nil,or_false] at z
 obtain ⟨sv,hs,_⟩:=h.spok
 rcases z with rfl|rfl|rfl|rfl|rfl|rfl
 ·rw[h.o] at hb;cases hb
 ·rw[h.kept] at hb;cases hb
 ·rw[h.cells] at hb;cases hb
 ·rw[h.pile] at hb;cases hb
 ·rw[h.clrs] at hb;cases hb
 ·rw[hs] at hb;cases hb
theorem Mac.known (h:Mac H C CC im m A st) {b:Addr} (hb:b∈own m A):H b≠none:=fun z=>by
 simp only[own,List.mem_cons,List.not_mem_nil,or_false] at hb
 obtain ⟨sv,hs,_⟩:=h.spok
 rcases hb with rfl|rfl|rfl|rfl|rfl|rfl
 ·rw[h.o] at z;cases z
 ·rw[h.kept] at z;cases z
 ·rw[h.cells] at z;cases z
 ·rw[h.pile] at z;cases z
 ·rw[h.clrs] at z;cases z
 ·rw[hs] at z;cases z
theorem zax.known {ps:List CA} {cs:List CS} (h:zax H CC ps cs) {b:Addr} (hb:b∈roC ps):H b≠none:=fun z=>by
 induction h with
 | nil=>cases hb
 | cons g r ih =>
  unfold roC at hb
  rw[List.flatMap_cons] at hb
  rcases List.mem_append.mp hb with hb|hb
  ·simp only[List.mem_cons,List.not_mem_nil,or_false] at hb
   rcases hb with rfl|rfl|rfl
   ·rw[g.ho] at z;cases z
   ·rw[g.hc] at z;cases z
   ·rw[g.hp] at z;cases z
  ·exact ih hb
theorem Mac.knownR (h:Mac H C CC im m A st) {b:Addr} (hb:b∈ro A):H b≠none:=fun z=>by
 simp only[ro,List.mem_cons] at hb
 obtain ⟨kvs,h1,_⟩:=h.r.pl
 obtain ⟨dv,h2,_⟩:=h.r.defs
 rcases hb with rfl|rfl|rfl|rfl|hb
 ·rw[h.r.code] at z;cases z
 ·rw[h1] at z;cases z
 ·rw[h2] at z;cases z
 ·rw[h.r.nums] at z;cases z
 ·exact h.r.clrs.known hb z
/-- how the heap and a machine's places go on -/
structure Stp (m:Addr) (H H':Hp) (A A':MA):Prop where
 k:Kp (own m A) H H'
 o:∀ a∈own m A',a∈own m A∨H a=none
 r:∀ a∈ro A',a∈ro A∨H a=none
theorem Stp.refl (m:Addr) (H:Hp) (A:MA):Stp m H H A A:=⟨.refl _ _,fun _ h=> .inl h,fun _ h=> .inl h⟩
theorem Stp.of {m:Addr} (e:Ex H H') (A:MA):Stp m H H' A A:=⟨.of e,fun _ h=> .inl h,fun _ h=> .inl h⟩
theorem Stp.trans {H1 H2:Hp} {A1 A2:MA} (a:Stp m H H1 A A1) (b:Stp m H1 H2 A1 A2):Stp m H H2 A A2 where
 k:=⟨fun x o n h=>b.k.keep x o (fun z=>by
   rcases a.o x z with y|y
   ·exact n y
   ·rw[h] at y;cases y) (a.k.keep x o n h),fun x h=>a.k.there x (b.k.there x h)⟩
 o:=fun x hx=>by
  rcases b.o x hx with y|y
  ·exact a.o x y
  ·exact .inr (a.k.there x y)
 r:=fun x hx=>by
  rcases b.r x hx with y|y
  ·exact a.r x y
  ·exact .inr (a.k.there x y)
theorem Stp.tx (h:Mac H C CC im m A st) {A':MA} (s:Stp m H H' A A'):Tx H H':=fun b xs hb=>s.k.keep b _ (h.notup hb) hb
end
section
variable {H H':Hp} {C CC m:Addr} {im:Img} {A:MA} {st st2:MS}
theorem zaR (nd:(own m A).Nodup):m≠A.lk∧m≠A.lcl∧m≠A.lpl∧m≠A.lca∧m≠A.lsp∧A.lk≠A.lcl∧A.lk≠A.lpl∧A.lk≠A.lca∧A.lk≠A.lsp∧A.lcl≠A.lpl∧A.lcl≠A.lca∧A.lcl≠A.lsp∧A.lpl≠A.lca∧A.lpl≠A.lsp∧A.lca≠A.lsp:=by
 simp only[own,List.nodup_cons,List.mem_cons,List.not_mem_nil,or_false,not_or,List.nodup_nil,and_true] at nd
 obtain ⟨⟨a1,a2,a3,a4,a5⟩,⟨b1,b2,b3,b4⟩,⟨c1,c2,c3⟩,⟨d1,d2⟩,e1,_⟩:=nd
 exact ⟨a1,a2,a3,a4,a5,b1,b2,b3,b4,c1,c2,c3,d1,d2,e1⟩
theorem zak {p:Addr} {o2:HO} (l:List Addr) (h:p∉l):∀ b∈l,∀ o,H b=some o→(upd H p o2) b=some o:=fun b hb o q=>by
 rw[upd_ne fun z=>h (by rw[← z];exact hb)]
 exact q
theorem zai {p:Addr} {o o2:HO} (h:H p=some o) (n:∀ xs,o≠ .tup xs):Tx H (upd H p o2):=fun b xs hb=>by
 rw[upd_ne fun z=>by
  rw[z,h] at hb
  injection hb with hb
  exact n xs hb]
 exact hb
theorem Mac.ro_ne (h:Mac H C CC im m A st) {p:Addr} (hp:p∈own m A):p∉ro A:=fun z=>h.dis p z hp
/-- numbers of the machine set anew -/
theorem Mac.setN (h:Mac H C CC im m A st) (num pc call calls began:Nat):Mac (upd H m (.ins C A.dx (zap im A { st with num:=num,pc:=pc,call:=call,calls:=calls,began:=began }))) C CC im m A { st with num:=num,pc:=pc,call:=call,calls:=calls,began:=began }:=by
 obtain ⟨a1,a2,a3,a4,a5,_⟩:=zaR h.nd
 have t:Tx H (upd H m (.ins C A.dx (zap im A { st with num:=num,pc:=pc,call:=call,calls:=calls,began:=began }))):=zai h.o (by intro _ z;cases z)
 obtain ⟨sv,hs,hT⟩:=h.spok
 exact ⟨upd_same,h.r.keep (zak _ (h.ro_ne (by simp[own]))) t,by rw[upd_ne a1.symm];exact h.kept,by rw[upd_ne a2.symm];exact h.cells,by rw[upd_ne a3.symm];exact h.pile,by rw[upd_ne a4.symm];exact h.clrs,⟨sv,by rw[upd_ne a5.symm];exact hs,TdAll.tx t _ _ hT⟩,Td.tx t _ _ h.ended,h.nd,h.dis⟩
theorem zdz (h:Mac H C CC im m A st) {o:HO}:Stp m H (upd H m o) A A:=⟨Kp.upd (by simp[own]) h.o,fun _ h=> .inl h,fun _ h=> .inl h⟩
theorem zal {p:Addr} (hp:p∈own m A) {o o2:HO} (h:H p=some o):Stp m H (upd H p o2) A A:=⟨Kp.upd hp h,fun _ h=> .inl h,fun _ h=> .inl h⟩
/-- it has ended -/
theorem Mac.setE (h:Mac H C CC im m A st) {v:V} {ds:List PyData} (hv:Td H v (.tuple ds)):Mac (upd H m (.ins C A.dx (zap im { A with ve:=v } { st with ended:=some ds }))) C CC im m { A with ve:=v } { st with ended:=some ds }:=by
 obtain ⟨a1,a2,a3,a4,a5,_⟩:=zaR h.nd
 have t:Tx H (upd H m (.ins C A.dx (zap im { A with ve:=v } { st with ended:=some ds }))):=zai h.o (by intro _ z;cases z)
 obtain ⟨sv,hs,hT⟩:=h.spok
 have r:=h.r.keep (zak (o2:= .ins C A.dx (zap im { A with ve:=v } { st with ended:=some ds })) _ (h.ro_ne (p:=m) (by simp[own]))) t
 exact ⟨upd_same,⟨r.code,r.pl,r.defs,r.nums,r.clrs⟩,by rw[upd_ne a1.symm];exact h.kept,by rw[upd_ne a2.symm];exact h.cells,by rw[upd_ne a3.symm];exact h.pile,by rw[upd_ne a4.symm];exact h.clrs,⟨sv,by rw[upd_ne a5.symm];exact hs,TdAll.tx t _ _ hT⟩,Td.tx t _ _ hv,h.nd,h.dis⟩
theorem zhk (h:Mac H C CC im m A st) {o:HO} {v:V}:Stp m H (upd H m o) A { A with ve:=v }:=⟨Kp.upd (by simp[own]) h.o,fun _ h=> .inl h,fun _ h=> .inl h⟩
theorem Mac.setP (h:Mac H C CC im m A st) (p:List Int):Mac (upd H A.lpl (iL p)) C CC im m A { st with pile:=p }:=by
 obtain ⟨_,_,a3,_,_,_,b2,_,_,c1,_,_,d1,d2,_⟩:=zaR h.nd
 have t:Tx H (upd H A.lpl (iL p)):=zai h.pile (by intro _ z;cases z)
 obtain ⟨sv,hs,hT⟩:=h.spok
 exact ⟨by rw[upd_ne a3];exact h.o,h.r.keep (zak _ (h.ro_ne (by simp[own]))) t,by rw[upd_ne b2];exact h.kept,by rw[upd_ne c1];exact h.cells,upd_same,by rw[upd_ne d1.symm];exact h.clrs,⟨sv,by rw[upd_ne d2.symm];exact hs,TdAll.tx t _ _ hT⟩,Td.tx t _ _ h.ended,h.nd,h.dis⟩
theorem Mac.setC (h:Mac H C CC im m A st) (p:List Int):Mac (upd H A.lcl (iL p)) C CC im m A { st with cells:=p }:=by
 obtain ⟨_,a2,_,_,_,b1,_,_,_,c1,c2,c3,_,_,_⟩:=zaR h.nd
 have t:Tx H (upd H A.lcl (iL p)):=zai h.cells (by intro _ z;cases z)
 obtain ⟨sv,hs,hT⟩:=h.spok
 exact ⟨by rw[upd_ne a2];exact h.o,h.r.keep (zak _ (h.ro_ne (by simp[own]))) t,by rw[upd_ne b1];exact h.kept,upd_same,by rw[upd_ne c1.symm];exact h.pile,by rw[upd_ne c2.symm];exact h.clrs,⟨sv,by rw[upd_ne c3.symm];exact hs,TdAll.tx t _ _ hT⟩,Td.tx t _ _ h.ended,h.nd,h.dis⟩
theorem Mac.setK (h:Mac H C CC im m A st) (p:List Int):Mac (upd H A.lk (iL p)) C CC im m A { st with kept:=p }:=by
 obtain ⟨a1,_,_,_,_,b1,b2,b3,b4,_⟩:=zaR h.nd
 have t:Tx H (upd H A.lk (iL p)):=zai h.kept (by intro _ z;cases z)
 obtain ⟨sv,hs,hT⟩:=h.spok
 exact ⟨by rw[upd_ne a1];exact h.o,h.r.keep (zak _ (h.ro_ne (by simp[own]))) t,upd_same,by rw[upd_ne b1.symm];exact h.cells,by rw[upd_ne b2.symm];exact h.pile,by rw[upd_ne b3.symm];exact h.clrs,⟨sv,by rw[upd_ne b4.symm];exact hs,TdAll.tx t _ _ hT⟩,Td.tx t _ _ h.ended,h.nd,h.dis⟩
theorem Mac.setS (h:Mac H C CC im m A st) {sv:List V} {v:V} {d:PyData} (hs:H A.lsp=some (.lst sv)) (hT:TdAll H sv st.spoken) (hv:Td H v d):Mac (upd H A.lsp (.lst (sv++[v]))) C CC im m A { st with spoken:=st.spoken++[d] }:=by
 obtain ⟨_,_,_,_,a5,_,_,_,b4,_,_,c3,_,d2,e1⟩:=zaR h.nd
 have t:Tx H (upd H A.lsp (.lst (sv++[v]))):=zai hs (by intro _ z;cases z)
 exact ⟨by rw[upd_ne a5];exact h.o,h.r.keep (zak _ (h.ro_ne (by simp[own]))) t,by rw[upd_ne b4];exact h.kept,by rw[upd_ne c3];exact h.cells,by rw[upd_ne d2];exact h.pile,by rw[upd_ne e1];exact h.clrs,⟨_,upd_same,(TdAll.tx t _ _ hT).snoc (Td.tx t _ _ hv)⟩,Td.tx t _ _ h.ended,h.nd,h.dis⟩
/-- a new pile|new cells -/
theorem Mac.newP (h:Mac H C CC im m A st) {p:Addr} {xs:List Int} (hp:H p=some (iL xs)) (n1:p∉own m A) (n2:p∉ro A):Mac (upd H m (.ins C A.dx (zap im { A with lpl:=p } { st with pile:=xs }))) C CC im m { A with lpl:=p } { st with pile:=xs }:=by
 obtain ⟨a1,a2,a3,a4,a5,b1,b2,b3,b4,c1,c2,c3,d1,d2,e1⟩:=zaR h.nd
 simp only[own,List.mem_cons,List.not_mem_nil,or_false,not_or] at n1
 obtain ⟨n3,n4,n5,n6,n7,n8⟩:=n1
 have t:Tx H (upd H m (.ins C A.dx (zap im { A with lpl:=p } { st with pile:=xs }))):=zai h.o (by intro _ z;cases z)
 obtain ⟨sv,hs,hT⟩:=h.spok
 have r:=h.r.keep (zak (o2:= .ins C A.dx (zap im { A with lpl:=p } { st with pile:=xs })) _ (h.ro_ne (p:=m) (by simp[own]))) t
 refine ⟨upd_same,⟨r.code,r.pl,r.defs,r.nums,r.clrs⟩,by rw[upd_ne a1.symm];exact h.kept,by rw[upd_ne a2.symm];exact h.cells,by rw[upd_ne n3];exact hp,by rw[upd_ne a4.symm];exact h.clrs,⟨sv,by rw[upd_ne a5.symm];exact hs,TdAll.tx t _ _ hT⟩,Td.tx t _ _ h.ended,?_,fun a ha z=>?_⟩
 ·simp only[own,List.nodup_cons,List.mem_cons,List.not_mem_nil,or_false,not_or,List.nodup_nil,and_true,not_false_eq_true]
  exact ⟨⟨a1,a2,Ne.symm n3,a4,a5⟩,⟨b1,Ne.symm n4,b3,b4⟩,⟨Ne.symm n5,c2,c3⟩,⟨n7,n8⟩,e1⟩
 ·have hd:=h.dis a ha
  simp only[own,List.mem_cons,List.not_mem_nil,or_false,not_or] at hd z
  rcases z with z|z|z|z|z|z
  ·exact hd.1 z
  ·exact hd.2.1 z
  ·exact hd.2.2.1 z
  ·exact n2 (by rw[← z];exact ha)
  ·exact hd.2.2.2.2.1 z
  ·exact hd.2.2.2.2.2 z
theorem Mac.newC (h:Mac H C CC im m A st) {p:Addr} {xs:List Int} (hp:H p=some (iL xs)) (n1:p∉own m A) (n2:p∉ro A):Mac (upd H m (.ins C A.dx (zap im { A with lcl:=p } { st with cells:=xs }))) C CC im m { A with lcl:=p } { st with cells:=xs }:=by
 obtain ⟨a1,a2,a3,a4,a5,b1,b2,b3,b4,c1,c2,c3,d1,d2,e1⟩:=zaR h.nd
 simp only[own,List.mem_cons,List.not_mem_nil,or_false,not_or] at n1
 obtain ⟨n3,n4,n5,n6,n7,n8⟩:=n1
 have t:Tx H (upd H m (.ins C A.dx (zap im { A with lcl:=p } { st with cells:=xs }))):=zai h.o (by intro _ z;cases z)
 obtain ⟨sv,hs,hT⟩:=h.spok
 have r:=h.r.keep (zak (o2:= .ins C A.dx (zap im { A with lcl:=p } { st with cells:=xs })) _ (h.ro_ne (p:=m) (by simp[own]))) t
 refine ⟨upd_same,⟨r.code,r.pl,r.defs,r.nums,r.clrs⟩,by rw[upd_ne a1.symm];exact h.kept,by rw[upd_ne n3];exact hp,by rw[upd_ne a3.symm];exact h.pile,by rw[upd_ne a4.symm];exact h.clrs,⟨sv,by rw[upd_ne a5.symm];exact hs,TdAll.tx t _ _ hT⟩,Td.tx t _ _ h.ended,?_,fun a ha z=>?_⟩
 ·simp only[own,List.nodup_cons,List.mem_cons,List.not_mem_nil,or_false,not_or,List.nodup_nil,and_true,not_false_eq_true]
  exact ⟨⟨a1,Ne.symm n3,a3,a4,a5⟩,⟨Ne.symm n4,b2,b3,b4⟩,⟨n6,n7,n8⟩,⟨d1,d2⟩,e1⟩
 ·have hd:=h.dis a ha
  simp only[own,List.mem_cons,List.not_mem_nil,or_false,not_or] at hd z
  rcases z with z|z|z|z|z|z
  ·exact hd.1 z
  ·exact hd.2.1 z
  ·exact n2 (by rw[← z];exact ha)
  ·exact hd.2.2.2.1 z
  ·exact hd.2.2.2.2.1 z
  ·exact hd.2.2.2.2.2 z
/-- a new place: unknown ahead -/
theorem ze0 {A':MA} {H0 H1:Hp} {p:Addr} (s:Stp m H0 H1 A A) (h0:H0 p=none) (ho:∀ a∈own m A',a∈own m A∨a=p) (hr:ro A'=ro A) {o:HO} (hm:H1 m=some o) {o2:HO}:Stp m H0 (upd H1 m o2) A A' where
 k:=(s.trans (zal (p:=m) (by simp[own]) hm)).k
 o:=fun a ha=>by
  rcases ho a ha with z|rfl
  ·exact .inl z
  ·exact .inr h0
 r:=fun a ha=> .inl (by rw[hr] at ha;exact ha)
/-- a caller more|one less -/
theorem Mac.addR (h:Mac H C CC im m A st) {p:CA} {c:CS} (hp:zdP H CC p c) (n1:∀ b∈[p.a,p.lc,p.lp],b∉own m A):Mac (upd H A.lca (.lst (A.cs.map (fun c=>V.ref c.a)++[.ref p.a]))) C CC im m { A with cs:=A.cs++[p] } { st with callers:=st.callers++[c] }:=by
 obtain ⟨_,_,_,a4,_,_,_,b3,_,_,c2,_,d1,_,e1⟩:=zaR h.nd
 have t:Tx H (upd H A.lca (.lst (A.cs.map (fun c=>V.ref c.a)++[.ref p.a]))):=zai h.clrs (by intro _ z;cases z)
 obtain ⟨sv,hs,hT⟩:=h.spok
 have r:=h.r.keep (zak (o2:= .lst (A.cs.map (fun c=>V.ref c.a)++[.ref p.a])) _ (h.ro_ne (p:=A.lca) (by simp[own]))) t
 have hp2:=hp.keep (H':=upd H A.lca (.lst (A.cs.map (fun c=>V.ref c.a)++[.ref p.a]))) (zak _ fun z=>n1 _ z (by simp[own]))
 refine ⟨by rw[upd_ne a4];exact h.o,⟨r.code,r.pl,r.defs,r.nums,r.clrs.snoc hp2⟩,by rw[upd_ne b3];exact h.kept,by rw[upd_ne c2];exact h.cells,by rw[upd_ne d1];exact h.pile,?_,⟨sv,by rw[upd_ne e1.symm];exact hs,TdAll.tx t _ _ hT⟩,Td.tx t _ _ h.ended,h.nd,fun a ha=>?_⟩
 ·show (upd H A.lca _) A.lca=some (.lst ((A.cs++[p]).map fun c=>V.ref c.a))
  rw[upd_same,List.map_append]<;>rfl
 ·have e:ro { A with cs:=A.cs++[p] }=ro A++[p.a,p.lc,p.lp]:=by
   unfold ro roC
   rw[List.flatMap_append]
   simp
  rw[e] at ha
  rcases List.mem_append.mp ha with ha|ha
  ·exact h.dis a ha
  ·exact n1 a ha
theorem Mac.popR (h:Mac H C CC im m A st) {cs:List CS} {c:CS} (hc:st.callers=cs++[c]):∃ qs p,A.cs=qs++[p]∧zdP H CC p c∧Mac (upd H A.lca (.lst (qs.map fun c=>V.ref c.a))) C CC im m { A with cs:=qs } { st with callers:=cs }∧∀ a∈ro { A with cs:=qs },a∈ro A:=by
 obtain ⟨_,_,_,a4,_,_,_,b3,_,_,c2,_,d1,_,e1⟩:=zaR h.nd
 have hr:=h.r.clrs
 rw[hc] at hr
 obtain ⟨qs,p,e,g1,g2⟩:=hr.last
 have sub:∀ a∈ro { A with cs:=qs },a∈ro A:=fun a ha=>by
  have e2:ro A=ro { A with cs:=qs }++[p.a,p.lc,p.lp]:=by
   unfold ro roC
   rw[e,List.flatMap_append]
   simp
  rw[e2]
  exact List.mem_append_left _ ha
 have t:Tx H (upd H A.lca (.lst (qs.map fun c=>V.ref c.a))):=zai h.clrs (by intro _ z;cases z)
 obtain ⟨sv,hs,hT⟩:=h.spok
 have r0:RoO H CC im { A with cs:=qs } cs:=⟨h.r.code,h.r.pl,h.r.defs,h.r.nums,g1⟩
 have r:=r0.keep (zak (o2:= .lst (qs.map fun c=>V.ref c.a)) _ (fun z=>h.ro_ne (p:=A.lca) (by simp[own]) (sub _ z))) t
 exact ⟨qs,p,e,g2,⟨by rw[upd_ne a4];exact h.o,r,by rw[upd_ne b3];exact h.kept,by rw[upd_ne c2];exact h.cells,by rw[upd_ne d1];exact h.pile,upd_same,⟨sv,by rw[upd_ne e1.symm];exact hs,TdAll.tx t _ _ hT⟩,Td.tx t _ _ h.ended,h.nd,fun a ha=>h.dis a (sub a ha)⟩,sub⟩
end
section
variable {K:PySem.W.Frag} {σ:L2.St} {H H':Hp} {ta tb te tl tv:TE} {D:Ends} {tz:TS} {E:XK} {Q:VK}
theorem zbP {α:Type} {l:List α} {i j:Nat} {x:α} (h:l.Nodup) (hij:i<j) (hi:l[i]?=some x) (hj:l[j]?=some x):False:=by
 obtain ⟨a1,a2⟩:=List.getElem?_eq_some_iff.mp hi
 obtain ⟨b1,b2⟩:=List.getElem?_eq_some_iff.mp hj
 exact (List.pairwise_iff_getElem.mp h) i j a1 b1 hij (a2.trans b2.symm)
theorem zeg {x:V} {p:Pl} (h:Td H x p.row3):∃ (t:Addr) (u:V),x= .ref t∧H t=some (.tup [.int p.pc, .str p.file,u])∧Td H u (.tuple [.int p.row, .int p.col]):=by
 unfold Pl.row3 at h
 cases h with
 | tup ha hT =>
  cases hT with
  | cons t1 t2 =>
   cases t1
   cases t2 with
   | cons t3 t4 =>
    cases t3
    cases t4 with
    | cons t5 t6 =>
     cases t6
     exact ⟨_,_,rfl,ha,t5⟩
theorem zeB {v:V} {ps:List Pl} {i1 i2 i3:Nat} {vs:List Nat} (h:Ev tl σ H v) (hv:Td H v (.tuple (ps.map Pl.row3))) (hnd:(ps.map Pl.pc).Nodup) (hz:ps.length≤40000)
  (hw:∀ x y z,wipe ((((wipe σ vs).set i1 (some x)).set i2 (some y)).set i3 (some z)) vs=wipe σ vs) (l1:∀ x y z,((((wipe σ vs).set i1 (some x)).set i2 (some y)).set i3 (some z))[i1]?=some (some x)) (l2:∀ x y z,((((wipe σ vs).set i1 (some x)).set i2 (some y)).set i3 (some z))[i2]?=some (some y)) (l3:∀ x y z,((((wipe σ vs).set i1 (some x)).set i2 (some y)).set i3 (some z))[i3]?=some (some z))
  (q:∀ d H1,H d=none→Ex H H1→PlO H1 d ps→Q (.ref d) H1):tDc (iTup K tl) (gTup K 3 (gCons (gName i1) (gCons (gName i2) (gCons (gName i3) gNil)))) tYes (tVar i1) (tTup (tCons (tVar i2) (tCons (tVar i3) tNil))) vs σ H Q:=by
 cases hv with
 | @tup a xs _ ha hT =>
  have hl:=hT.len
  rw[List.length_map] at hl
  refine h H (Ex.refl H) _ fun H1 e1=>⟨a,rfl,⟨xs,st_of (e1 _ _ ha)⟩,fun Dl hD=>?_⟩
  have hT1:=TdAll.tx (Tx.of e1) _ _ hT
  refine zfp (walk_tup (a:=a) (xs:=xs)) (fun i H'=>Ex H1 H'∧∃ kvs:List (Key×V),H' Dl=some (.dK kvs)∧kvs.map (·.1)=(ps.take i).map (fun p=>(Sum.inl (p.pc:Int):Key))∧TdAll H' (kvs.map (·.2)) ((ps.take i).map Pl.d)) ⟨Ex.new hD,[],upd_same,rfl, .nil⟩ (fun i H' _ ⟨e2,_⟩=>st_of ((e1.trans e2) _ _ ha)) ?_ ?_
  ·rintro i x H2 H3 hi ⟨e2,kvs,g1,g2,g3⟩ ⟨rfl,hx⟩
   have hip:i<ps.length:=by omega
   obtain ⟨d,k1,k2⟩:=TdAll.at hT1 hx
   rw[List.getElem?_map,List.getElem?_eq_getElem hip] at k1
   cases k1
   obtain ⟨t,u,rfl,ht,hu⟩:=zeg k2
   refine ⟨t,_,rfl,st_of (e2 _ _ ht),rfl,_,_,rfl,_,_,rfl,_,_,rfl,rfl,hw _ _ _,?_⟩
   refine zaV (σ:=((((wipe σ vs).set i1 (some (.int ps[i].pc))).set i2 (some (.str ps[i].file))).set i3 (some u))) (f:=fun H3=>tVar i1 ((((wipe σ vs).set i1 (some (.int ps[i].pc))).set i2 (some (.str ps[i].file))).set i3 (some u)) H3 fun y H4=>tTup (tCons (tVar i2) (tCons (tVar i3) tNil)) ((((wipe σ vs).set i1 (some (.int ps[i].pc))).set i2 (some (.str ps[i].file))).set i3 (some u)) H4 fun z H5=>∃ kvs k,y=kV k∧H5 Dl=some (.dK kvs)∧kvs.length<sizeLine∧(fun i H'=>Ex H1 H'∧∃ kvs:List (Key×V),H' Dl=some (.dK kvs)∧kvs.map (·.1)=(ps.take i).map (fun p=>(Sum.inl (p.pc:Int):Key))∧TdAll H' (kvs.map (·.2)) ((ps.take i).map Pl.d)) (i+1) (upd H5 Dl (.dK (putK kvs k z)))) ?_
   refine ⟨_,l1 _ _ _,eu_tup (vs:=[.str ps[i].file,u]) (ea_cons (ev_var (l2 _ _ _)) (ea_cons (ev_var (l3 _ _ _)) ea_nil)) (by show 2≤100000;decide) H3 (Ex.refl _) _ fun p H4 hp e4 h4=>⟨kvs,Sum.inl (ps[i].pc:Int),rfl,e4 _ _ g1,?_,?_⟩⟩
   ·have:=congrArg List.length g2
    rw[List.length_map,List.length_map,List.length_take] at this
    exact sz_lt (by omega)
   ·have hnew:(Sum.inl (ps[i].pc:Int):Key)∉kvs.map Prod.fst:=fun z=>by
     have z:(Sum.inl (ps[i].pc:Int):Key)∈kvs.map (·.1):=z
     rw[g2] at z
     obtain ⟨p2,hp2,e⟩:=List.mem_map.mp z
     injection e with e
     obtain ⟨j,hj⟩:=List.getElem?_of_mem hp2
     rw[List.getElem?_take] at hj
     by_cases hji:j<i
     ·rw[if_pos hji] at hj
      exact zbP (x:=ps[i].pc) hnd hji (by rw[List.getElem?_map,hj];exact congrArg some (show p2.pc=ps[i].pc by omega)) (by rw[List.getElem?_map,List.getElem?_eq_getElem hip]<;>rfl)
     ·rw[if_neg hji] at hj
      cases hj
    refine ⟨Ex.mut (e2.trans e4) hD,kvs++[((Sum.inl (ps[i].pc:Int):Key),V.ref p)],by rw[upd_same,zbZ hnew],?_,?_⟩
    ·rw[List.map_append,List.take_succ,List.getElem?_eq_getElem hip,List.map_append,g2]<;>rfl
    ·have tD:Tx H4 (upd H4 Dl (.dK (putK kvs (Sum.inl (ps[i].pc:Int)) (.ref p)))):=zai (e4 _ _ g1) (by intro _ z;cases z)
     rw[List.map_append,List.take_succ,List.getElem?_eq_getElem hip,List.map_append]
     refine (TdAll.tx ((Tx.of e4).trans tD) _ _ g3).app (.cons ?_ .nil)
     unfold Pl.d
     exact .tup (tD _ _ h4) (.cons (.str _) (.cons (Td.tx (((Tx.of e2).trans (Tx.of e4)).trans tD) _ _ hu) .nil))
  ·rintro H2 ⟨e2,kvs,g1,g2,g3⟩
   rw[hl,List.take_length] at g2 g3
   exact q Dl H2 (fresh_back e1 hD) (e1.trans e2) ⟨kvs,g1,g2,g3⟩
theorem ziD {x:V} {p:Df} (h:Td H x p.d):∃ (t:Addr) (xs:List V),x= .ref t∧H t=some (.tup xs)∧xs[2]?=some (.int p.pc):=by
 unfold Df.d at h
 cases h with
 | tup ha hT =>
  cases hT with
  | cons t1 t2 =>
   cases t2 with
   | cons t3 t4 =>
    cases t4 with
    | cons t5 t6 =>
     cases t5
     exact ⟨_,_,rfl,ha,rfl⟩
theorem zgy {v:V} {ds:List Df} {i1 i2:Nat} {vs:List Nat} (h:Ev tl σ H v) (hv:Td H v (.tuple (ds.map Df.d))) (hnd:(ds.map Df.pc).Nodup) (hz:ds.length≤40000)
  (hw:∀ x y,wipe (((wipe σ vs).set i1 (some x)).set i2 (some y)) vs=wipe σ vs) (l1:∀ x y,(((wipe σ vs).set i1 (some x)).set i2 (some y))[i1]?=some (some x)) (l2:∀ x y,(((wipe σ vs).set i1 (some x)).set i2 (some y))[i2]?=some (some y))
  (q:∀ d H1,H d=none→Ex H H1→H1 d=some (.dK ((zaC ds).map fun p=>((Sum.inl (p.1:Int):Key),V.int (p.2:Int))))→Q (.ref d) H1):tDc (zdi K (tCons tl tNil)) (gTup K 2 (gCons (gName i1) (gCons (gName i2) gNil))) tYes (tOp (rIxT K) (tVar i2) (tC (.int 2))) (tVar i1) vs σ H Q:=by
 cases hv with
 | @tup a xs _ ha hT =>
  have hl:=hT.len
  rw[List.length_map] at hl
  have hnl:(zaC ds).length=ds.length:=by unfold zaC;rw[List.length_map,List.length_zipIdx]
  refine h H (Ex.refl H) _ fun H1 e1=>⟨a,xs,rfl,st_of (e1 _ _ ha),fun Dl hD=>?_⟩
  have hT1:=TdAll.tx (Tx.of e1) _ _ hT
  refine zfp (zbG (a:=a) (xs:=xs)) (fun i H'=>Ex H1 H'∧H' Dl=some (.dK (((zaC ds).take i).map fun p=>((Sum.inl (p.1:Int):Key),V.int (p.2:Int))))) ⟨Ex.new hD,upd_same⟩ (fun i H' _ ⟨e2,_⟩=>st_of ((e1.trans e2) _ _ ha)) ?_ ?_
  ·rintro i x H2 H3 hi ⟨e2,g1⟩ ⟨Tt,x1,y,rfl,hTt,rfl,hx1,hy⟩
   have hip:i<ds.length:=by omega
   cases hx1
   obtain ⟨d,k1,k2⟩:=TdAll.at hT1 hy
   rw[List.getElem?_map,List.getElem?_eq_getElem hip] at k1
   cases k1
   obtain ⟨t,ys,rfl,ht,h2⟩:=ziD k2
   have e3:Ex H2 (upd H2 Tt (.tup [V.int (i:Nat), .ref t])):=Ex.new hTt
   refine ⟨Tt,_,rfl,st_of upd_same,rfl,_,_,rfl,_,_,rfl,rfl,hw _ _,?_⟩
   generalize upd H2 Tt (.tup [V.int (i:Nat), .ref t])=H3 at e3 ⊢
   refine zaV (σ:=(((wipe σ vs).set i1 (some (.int (i:Nat)))).set i2 (some (.ref t)))) (f:=fun H3=>tOp (rIxT K) (tVar i2) (tC (.int 2)) (((wipe σ vs).set i1 (some (.int (i:Nat)))).set i2 (some (.ref t))) H3 fun y H4=>tVar i1 (((wipe σ vs).set i1 (some (.int (i:Nat)))).set i2 (some (.ref t))) H4 fun z H5=>∃ kvs k,y=kV k∧H5 Dl=some (.dK kvs)∧kvs.length<sizeLine∧(fun i H'=>Ex H1 H'∧H' Dl=some (.dK (((zaC ds).take i).map fun p=>((Sum.inl (p.1:Int):Key),V.int (p.2:Int))))) (i+1) (upd H5 Dl (.dK (putK kvs k z)))) ?_
   have e23:=e2.trans e3
   refine ⟨_,l2 _ _,t,ys,2, .int ds[i].pc,rfl,rfl,st_of (e23 _ _ ht),atI_nat (j:=2) h2,_,l1 _ _,_,Sum.inl (ds[i].pc:Int),rfl,e3 _ _ g1,?_,Ex.mut e23 hD,?_⟩
   ·rw[List.length_map,List.length_take]
    exact sz_lt (by omega)
   ·have hni:(zaC ds)[i]?=some (ds[i].pc,i):=by
     unfold zaC
     rw[List.getElem?_map,List.getElem?_zipIdx,List.getElem?_eq_getElem hip]
     show some (ds[i].pc,0+i)=_
     rw[Nat.zero_add]
    have hnew:(Sum.inl (ds[i].pc:Int):Key)∉(((zaC ds).take i).map fun p=>((Sum.inl (p.1:Int):Key),V.int (p.2:Int))).map Prod.fst:=fun z=>by
     rw[List.map_map] at z
     obtain ⟨p2,hp2,e⟩:=List.mem_map.mp z
     injection e with e
     obtain ⟨j,hj⟩:=List.getElem?_of_mem hp2
     rw[List.getElem?_take] at hj
     by_cases hji:j<i
     ·rw[if_pos hji] at hj
      have hj2:(zaC ds)[j]?=some ((ds[j]'(by omega)).pc,j):=by
       unfold zaC
       rw[List.getElem?_map,List.getElem?_zipIdx,List.getElem?_eq_getElem (show j<ds.length by omega)]
       show some (ds[j].pc,0+j)=_
       rw[Nat.zero_add]
      rw[hj2] at hj
      have hj:=Option.some.inj hj
      rw[← hj] at e
      have e:(((ds[j]'(by omega)).pc:Nat):Int)=((ds[i].pc:Nat):Int):=e
      exact zbP (x:=ds[i].pc) hnd hji (by rw[List.getElem?_map,List.getElem?_eq_getElem (show j<ds.length by omega)];exact congrArg some (by omega)) (by rw[List.getElem?_map,List.getElem?_eq_getElem hip]<;>rfl)
     ·rw[if_neg hji] at hj
      cases hj
    rw[upd_same,zbZ hnew,List.take_succ,hni,List.map_append]<;>rfl
  ·rintro H2 ⟨e2,g1⟩
   rw[hl,← hnl,List.take_length] at g1
   exact q Dl H2 (fresh_back e1 hD) (e1.trans e2) g1
end
/-- new things of a maker,apart from one another and from what is made -/
structure Bag (x:Addr) (l:List (Addr×HO)) (H:Hp):Prop where
 at_:∀ p∈l,H p.1=some p.2
 nd:(x::l.map (·.1)).Nodup
theorem Bag.nil (x:Addr) (H:Hp):Bag x [] H:=⟨fun _ h=>(by cases h),(by simp)⟩
theorem Bag.go {x:Addr} {l:List (Addr×HO)} {H H':Hp} (b:Bag x l H) (k:Kp [x] H H'):Bag x l H':=⟨fun p hp=>k.keep _ _ (fun z=>by
 have nd:=(List.nodup_cons.mp b.nd).1
 rw[List.mem_singleton] at z
 exact nd (by rw[← z];exact List.mem_map_of_mem hp)) (b.at_ p hp),b.nd⟩
theorem Bag.add {x:Addr} {l:List (Addr×HO)} {H H':Hp} {p:Addr} {o:HO} (b:Bag x l H) (hp:H p=none) (k:Kp [x] H H') (h:H' p=some o) (n:p≠x):Bag x ((p,o)::l) H':=⟨fun q hq=>by
 rcases List.mem_cons.mp hq with rfl|hq
 ·exact h
 ·exact (b.go k).at_ q hq,by
 have nd:=List.nodup_cons.mp b.nd
 have hn:p∉l.map (·.1):=fun z=>by
  obtain ⟨q,hq,e⟩:=List.mem_map.mp z
  have:=b.at_ q hq
  rw[e,hp] at this
  cases this
 rw[List.map_cons,List.nodup_cons,List.nodup_cons,List.mem_cons,not_or]
 exact ⟨⟨fun z=>n z.symm,nd.1⟩,hn,nd.2⟩⟩
section
variable {K:PySem.W.Frag} {σ:L2.St} {H H':Hp} {ta tb te tl tv:TE} {tt:TT} {D:Ends} {tz:TS} {E:XK} {Q:VK}
/-- new lists,one a table -/
inductive zbQ (H0 H:Hp):List V→List (List PyData)→Prop
 | nil:zbQ H0 H [] []
 | cons {l:Addr} {us vs:List V} {ds:List PyData} {dss:List (List PyData)} (h0:H0 l=none) (h:H l=some (.lst us)) (t:TdAll H us ds) (r:zbQ H0 H vs dss):zbQ H0 H (.ref l::vs) (ds::dss)
theorem zbQ.go {H0 H H':Hp} (k:∀ l us,H0 l=none→H l=some (.lst us)→H' l=some (.lst us)) (t:Tx H H'):∀ {vs:List V} {dss:List (List PyData)},zbQ H0 H vs dss→zbQ H0 H' vs dss
 | _,_, .nil=> .nil
 | _,_, .cons h0 h g r=> .cons h0 (k _ _ h0 h) (TdAll.tx t _ _ g) (r.go k t)
theorem zbQ.snoc {H0 H:Hp} {l:Addr} {us:List V} {ds:List PyData} (h0:H0 l=none) (h:H l=some (.lst us)) (t:TdAll H us ds):∀ {vs:List V} {dss:List (List PyData)},zbQ H0 H vs dss→zbQ H0 H (vs++[.ref l]) (dss++[ds])
 | _,_, .nil=> .cons h0 h t .nil
 | _,_, .cons h0' h' t' r=> .cons h0' h' t' (r.snoc h0 h t)
theorem zbQ.len {H0 H:Hp}:∀ {vs:List V} {dss:List (List PyData)},zbQ H0 H vs dss→vs.length=dss.length
 | _,_, .nil=>rfl
 | _,_, .cons _ _ _ r=>congrArg Nat.succ r.len
theorem zgQ {v:V} {dss:List (List PyData)} {j:Nat} {vs:List Nat} (h:EvD tl σ H (.tuple (dss.map .tuple))) (hz:dss.length≤1000) (hw:∀ x,wipe ((wipe σ vs).set j (some x)) vs=wipe σ vs) (l1:∀ x,((wipe σ vs).set j (some x))[j]?=some (some x))
  (q:∀ d H1 us,H d=none→Ex H H1→H1 d=some (.lst us)→zbQ H H1 us dss→Q (.ref d) H1):tLc (iTup K tl) (gName j) tYes (tCB (rListS K) (tCons (tVar j) tNil)) vs σ H Q:=h H (Ex.refl H) _ fun v H1 e1 hv=>by
 cases hv with
 | @tup a xs _ ha hT =>
  have hl:=hT.len
  rw[List.length_map] at hl
  refine ⟨a,rfl,⟨xs,st_of ha⟩,fun Dl hD=>?_⟩
  refine lc_it (walk_tup (a:=a) (xs:=xs)) (fun i H'=>Ex H1 H'∧∃ us,H' Dl=some (.lst us)∧us.length≤1000∧zbQ H1 H' us (dss.take i)∧∀ u∈us,u≠ .ref Dl) ⟨Ex.new hD,[],upd_same,Nat.zero_le _, .nil,fun _ h=>by cases h⟩ (fun i H' _ ⟨e2,_⟩=>st_of (e2 _ _ ha)) ?_ ?_
  ·rintro i x H2 H3 hi ⟨e2,us,g1,g2,g3,g4⟩ ⟨rfl,hx⟩
   have hip:i<dss.length:=by omega
   obtain ⟨d,k1,k2⟩:=TdAll.at (TdAll.tx (Tx.of e2) _ _ hT) hx
   rw[List.getElem?_map,List.getElem?_eq_getElem hip] at k1
   cases k1
   cases k2 with
   | @tup b ys _ hb hTb =>
    refine ⟨hw _,?_⟩
    refine zaV (σ:=((wipe σ vs).set j (some (.ref b)))) (f:=fun H3=>tCB (rListS K) (tCons (tVar j) tNil) ((wipe σ vs).set j (some (.ref b))) H3 fun y H4=>∃ acc,H4 Dl=some (.lst acc)∧acc.length<sizeLine∧(fun i H'=>Ex H1 H'∧∃ us,H' Dl=some (.lst us)∧us.length≤1000∧zbQ H1 H' us (dss.take i)∧∀ u∈us,u≠ .ref Dl) (i+1) (upd H4 Dl (.lst (acc++[y])))) ?_
    refine ⟨_,l1 _,b,ys,rfl, .inr (st_of hb),fun l hl0=>?_⟩
    have hDl:(upd H3 l (.lst ys)) Dl=some (.lst us):=(Ex.new hl0) _ _ g1
    have nl:l≠Dl:=fun z=>by rw[z,g1] at hl0;cases hl0
    have e3:Ex H3 (upd H3 l (.lst ys)):=Ex.new hl0
    have hll:(upd H3 l (.lst ys)) l=some (.lst ys):=upd_same
    generalize upd H3 l (.lst ys)=H4 at hDl e3 hll ⊢
    have t4:Tx H4 (upd H4 Dl (.lst (us++[.ref l]))):=zai hDl (by intro _ z;cases z)
    have ulen:us.length=(dss.take i).length:=g3.len
    rw[List.length_take] at ulen
    refine ⟨us,hDl,sz_lt (by omega),Ex.mut (e2.trans e3) hD,us++[.ref l],upd_same,by rw[List.length_append,List.length_singleton];omega,?_,?_⟩
    ·rw[List.take_succ,List.getElem?_eq_getElem hip]
     have g5:∀ {ws:List V} {ess:List (List PyData)},zbQ H1 H3 ws ess→(∀ u∈ws,u≠ .ref Dl)→zbQ H1 (upd H4 Dl (.lst (us++[.ref l]))) ws ess:=fun {ws ess} g n=>by
      induction g with
      | nil=>exact .nil
      | @cons l2 us2 _ _ _ h0 h t r ih =>
       exact .cons h0 (by rw[upd_ne fun z=>n _ (List.mem_cons_self ..) (by rw[z])];exact e3 _ _ h) (TdAll.tx ((Tx.of e3).trans t4) _ _ t) (ih fun u hu=>n u (List.mem_cons_of_mem _ hu))
     exact (g5 g3 g4).snoc (fresh_back e2 hl0) (by rw[upd_ne nl];exact hll) (TdAll.tx ((Tx.of e3).trans t4) _ _ hTb)
    ·intro u hu
     rcases List.mem_append.mp hu with hu|hu
     ·exact g4 u hu
     ·rw[List.mem_singleton.mp hu]
      intro z
      injection z with z
      exact nl z
  ·rintro H2 ⟨e2,us,g1,_,g3,_⟩
   rw[hl,List.take_length] at g3
   refine q Dl H2 us (fresh_back e1 hD) (e1.trans e2) g1 ?_
   have back:∀ {ws:List V} {ess:List (List PyData)},zbQ H1 H2 ws ess→zbQ H H2 ws ess:=fun {ws ess} g=>by
    induction g with
    | nil=>exact .nil
    | cons h0 h t r ih=>exact .cons (fresh_back e1 h0) h t ih
   exact back g3
theorem zhA {g:TG} {dss:List (List PyData)} {j:Nat} {vs:List Nat} (h:EvD tl σ H (.tuple (dss.map .tuple))) (hz:dss.length≤1000) (hw:∀ x,wipe ((wipe σ vs).set j (some x)) vs=wipe σ vs) (l1:∀ x,((wipe σ vs).set j (some x))[j]?=some (some x))
  (q:∀ d H1 us,H d=none→Ex H H1→H1 d=some (.lst us)→zbQ H H1 us dss→g (.ref d) σ H1 fun σ' H'=>tz D σ' H'):tSeq (tAsg (tLc (iTup K tl) (gName j) tYes (tCB (rListS K) (tCons (tVar j) tNil)) vs) g) tz D σ H:=zgQ (v:= .non) (Q:=fun x H1=>g x σ H1 fun σ' H'=>tz D σ' H') h hz hw l1 q
/-- for i,(..) in enumerate(a list) -/
theorem zd2 {a:Addr} {xs:List V} {i:Nat} {g:TG} {tu:TS} (h:Ev tl σ H (.ref a)) (hx:H a=some (.lst xs)) (Pv:Nat→L2.St→Hp→Prop) (h0:∀ H1,Ex H H1→Pv 0 σ H1) (hl:∀ k σ' H',Pv k σ' H'→SqL K H' a xs)
  (hs:∀ (k:Nat) x σ' H' H1,xs[k]?=some x→Pv k σ' H'→Ex H' H1→g x (σ'.set i (some (.int (k:Int)))) H1 fun σ2 H2=>[]=([]:List V)∧tu { D with nx:=Pv (k+1),ct:=Pv (k+1),bk:=tz D } σ2 H2) (hd:∀ σ' H',Pv xs.length σ' H'→tz D σ' H') :
  tSeq (tFor (iEnum K (tCons tl tNil)) (gTup K 2 (gCons (gName i) (gCons g gNil))) tu) tz D σ H:=h H (Ex.refl H) _ fun H1 e1=>⟨a,xs,rfl,sq_of (e1 _ _ hx),by
 refine for_it (D:={ D with nx:=tz D }) (walk_enum (K:=K) (a:=a) (xs:=xs)) Pv (h0 H1 e1) (fun k σ' H' hk p=>hl k σ' H' p) ?_ hd
 rintro k v σ' H2 H3 hk p ⟨T,x,y,rfl,hT,rfl,hx1,hy⟩
 cases hx1
 exact ⟨T,[.int (k:Int),y],rfl,st_of upd_same,rfl, .int (k:Int),[y],rfl,y,[],rfl,hs k y σ' H2 _ hy p (Ex.new (o:= .tup [.int (k:Int),y]) hT)⟩⟩
/-- a dict of new dicts,one a file: {f: {} for f,_ in uses} -/
def zhf (H0 H:Hp) (d:Addr) (fs:List Str) (n:Nat):Prop:=∃ kvs:List (Key×V),H d=some (.dK kvs)∧kvs.map (·.1)=fs.map (fun f=>(Sum.inr f:Key))∧∀ u∈kvs.map (·.2),∃ e ks,u= .ref e∧e≠d∧H0 e=none∧H e=some (.dK ks)∧ks.length≤n
theorem ze1 {x:V} {f:Str} {d:PyData} (h:Td H x (.tuple [.str f,d])):∃ (t:Addr) (u:V),x= .ref t∧H t=some (.tup [.str f,u])∧Td H u d:=by
 cases h with
 | tup ha hT =>
  cases hT with
  | cons t1 t2 =>
   cases t1
   cases t2 with
   | cons t3 t4 =>
    cases t4
    exact ⟨_,_,rfl,ha,t3⟩
theorem zez {α:Type} {us:List (Str×α)} {i:Nat} (hnd:(us.map (·.1)).Nodup) (hi:i<us.length) {kvs:List (Key×V)} (h:kvs.map (·.1)=((us.map (·.1)).take i).map fun f=>(Sum.inr f:Key)):(Sum.inr (us[i]).1:Key)∉kvs.map Prod.fst:=fun z=>by
 have z:(Sum.inr (us[i]).1:Key)∈kvs.map (·.1):=z
 rw[h] at z
 obtain ⟨f,hf,e⟩:=List.mem_map.mp z
 injection e with e
 obtain ⟨j,hj⟩:=List.getElem?_of_mem hf
 rw[List.getElem?_take] at hj
 by_cases hji:j<i
 ·rw[if_pos hji] at hj
  exact zbP hnd hji (hj.trans (by rw[e])) (by rw[List.getElem?_map,List.getElem?_eq_getElem hi]<;>rfl)
 ·rw[if_neg hji] at hj
  cases hj
theorem zid {a:Addr} {xs:List V} {us:List (Str×PyData)} {i1 i2:Nat} {vs:List Nat} (h:Ev tl σ H (.ref a)) (ha:H a=some (.lst xs)) (hT:TdAll H xs (us.map fun p=> .tuple [.str p.1,p.2])) (hnd:(us.map (·.1)).Nodup) (hz:us.length≤40000)
  (hw:∀ x y,wipe (((wipe σ vs).set i1 (some x)).set i2 (some y)) vs=wipe σ vs) (l1:∀ x y,(((wipe σ vs).set i1 (some x)).set i2 (some y))[i1]?=some (some x))
  (q:∀ d H1,H d=none→Ex H H1→zhf H H1 d (us.map (·.1)) 0→Q (.ref d) H1):tDc (iList K tl) (gTup K 2 (gCons (gName i1) (gCons (gName i2) gNil))) tYes (tVar i1) tDNewK vs σ H Q:=by
 have hl:=hT.len
 rw[List.length_map] at hl
 refine h H (Ex.refl H) _ fun H1 e1=>⟨a,rfl,⟨xs,sq_of (e1 _ _ ha)⟩,fun Dl hD=>?_⟩
 have hT1:=TdAll.tx (Tx.of e1) _ _ hT
 refine zfp (walk_list (a:=a) (xs:=xs)) (fun i H'=>Ex H1 H'∧zhf H1 H' Dl ((us.map (·.1)).take i) 0) ⟨Ex.new hD,[],upd_same,rfl,fun _ h=>by cases h⟩ (fun i H' _ ⟨e2,_⟩=>sq_of ((e1.trans e2) _ _ ha)) ?_ ?_
 ·rintro i x H2 H3 hi ⟨e2,kvs,g1,g2,g3⟩ ⟨rfl,hx⟩
  have hip:i<us.length:=by omega
  obtain ⟨d,k1,k2⟩:=TdAll.at (TdAll.tx (Tx.of e2) _ _ hT1) hx
  rw[List.getElem?_map,List.getElem?_eq_getElem hip] at k1
  cases k1
  obtain ⟨t,u,rfl,ht,hu⟩:=ze1 k2
  refine ⟨t,_,rfl,st_of ht,rfl,_,_,rfl,_,_,rfl,rfl,hw _ _,?_⟩
  refine zaV (σ:=(((wipe σ vs).set i1 (some (.str us[i].1))).set i2 (some u))) (f:=fun H3=>tVar i1 (((wipe σ vs).set i1 (some (.str us[i].1))).set i2 (some u)) H3 fun y H4=>tDNewK (((wipe σ vs).set i1 (some (.str us[i].1))).set i2 (some u)) H4 fun z H5=>∃ kvs k,y=kV k∧H5 Dl=some (.dK kvs)∧kvs.length<sizeLine∧(fun i H'=>Ex H1 H'∧zhf H1 H' Dl ((us.map (·.1)).take i) 0) (i+1) (upd H5 Dl (.dK (putK kvs k z)))) ?_
  refine ⟨_,l1 _ _,fun p hp=>⟨kvs,Sum.inr us[i].1,rfl,(Ex.new hp) _ _ g1,?_,?_⟩⟩
  ·have:=congrArg List.length g2
   rw[List.length_map,List.length_map,List.length_take,List.length_map] at this
   exact sz_lt (by omega)
  ·have np:p≠Dl:=fun z=>by rw[z,g1] at hp;cases hp
   have e3:Ex H3 (upd H3 p (.dK [])):=Ex.new hp
   refine ⟨Ex.mut (e2.trans e3) hD,kvs++[((Sum.inr us[i].1:Key),V.ref p)],by rw[upd_same,zbZ (zez hnd hip g2)],?_,?_⟩
   ·rw[List.map_append,List.take_succ,List.getElem?_map,List.getElem?_eq_getElem hip,List.map_append,g2]<;>rfl
   ·intro u2 hu2
    rw[List.map_append] at hu2
    rcases List.mem_append.mp hu2 with hu2|hu2
    ·obtain ⟨e,ks,y1,y2,y3,y4,y5⟩:=g3 u2 hu2
     exact ⟨e,ks,y1,y2,y3,by rw[upd_ne y2];exact e3 _ _ y4,y5⟩
    ·rw[List.mem_singleton.mp hu2]
     exact ⟨p,[],rfl,np,fresh_back e2 hp,by rw[upd_ne np];exact upd_same,Nat.le_refl _⟩
 ·rintro H2 ⟨e2,kvs,g1,g2,g3⟩
  rw[hl,← List.length_map (f:=fun p:Str×PyData=>p.1),List.take_length] at g2
  exact q Dl H2 (fresh_back e1 hD) (e1.trans e2) ⟨kvs,g1,g2,fun u hu=>by
   obtain ⟨e,ks,y1,y2,y3,y4,y5⟩:=g3 u hu
   exact ⟨e,ks,y1,y2,fresh_back e1 y3,y4,y5⟩⟩
/-- {f: list(used) for f,used in uses}: a new dict -/
theorem zgT {a:Addr} {xs:List V} {us:List (Str×List PyData)} {i1 i2:Nat} {vs:List Nat} (h:Ev tl σ H (.ref a)) (ha:H a=some (.lst xs)) (hT:TdAll H xs (us.map fun p=> .tuple [.str p.1, .tuple p.2])) (hz:us.length≤40000)
  (hw:∀ x y,wipe (((wipe σ vs).set i1 (some x)).set i2 (some y)) vs=wipe σ vs) (l1:∀ x y,(((wipe σ vs).set i1 (some x)).set i2 (some y))[i1]?=some (some x)) (l2:∀ x y,(((wipe σ vs).set i1 (some x)).set i2 (some y))[i2]?=some (some y))
  (q:∀ d H1,H d=none→Ex H H1→Q (.ref d) H1):tDc (iList K tl) (gTup K 2 (gCons (gName i1) (gCons (gName i2) gNil))) tYes (tVar i1) (tCB (rListS K) (tCons (tVar i2) tNil)) vs σ H Q:=by
 have hl:=hT.len
 rw[List.length_map] at hl
 refine h H (Ex.refl H) _ fun H1 e1=>⟨a,rfl,⟨xs,sq_of (e1 _ _ ha)⟩,fun Dl hD=>?_⟩
 have hT1:=TdAll.tx (Tx.of e1) _ _ hT
 refine zfp (walk_list (a:=a) (xs:=xs)) (fun i H'=>Ex H1 H'∧∃ kvs,H' Dl=some (.dK kvs)∧kvs.length≤i) ⟨Ex.new hD,[],upd_same,Nat.le_refl _⟩ (fun i H' _ ⟨e2,_⟩=>sq_of ((e1.trans e2) _ _ ha)) ?_ ?_
 ·rintro i x H2 H3 hi ⟨e2,kvs,g1,g2⟩ ⟨rfl,hx⟩
  have hip:i<us.length:=by omega
  obtain ⟨d,k1,k2⟩:=TdAll.at (TdAll.tx (Tx.of e2) _ _ hT1) hx
  rw[List.getElem?_map,List.getElem?_eq_getElem hip] at k1
  cases k1
  obtain ⟨t,u,rfl,ht,hu⟩:=ze1 k2
  refine ⟨t,_,rfl,st_of ht,rfl,_,_,rfl,_,_,rfl,rfl,hw _ _,?_⟩
  refine zaV (σ:=(((wipe σ vs).set i1 (some (.str us[i].1))).set i2 (some u))) (f:=fun H3=>tVar i1 (((wipe σ vs).set i1 (some (.str us[i].1))).set i2 (some u)) H3 fun y H4=>tCB (rListS K) (tCons (tVar i2) tNil) (((wipe σ vs).set i1 (some (.str us[i].1))).set i2 (some u)) H4 fun z H5=>∃ kvs k,y=kV k∧H5 Dl=some (.dK kvs)∧kvs.length<sizeLine∧(fun i H'=>Ex H1 H'∧∃ kvs,H' Dl=some (.dK kvs)∧kvs.length≤i) (i+1) (upd H5 Dl (.dK (putK kvs k z)))) ?_
  cases hu with
  | @tup b ys _ hb hTb =>
   refine ⟨_,l1 _ _,_,l2 _ _,b,ys,rfl, .inr (st_of hb),fun p hp=>⟨kvs,Sum.inr us[i].1,rfl,(Ex.new hp) _ _ g1,sz_lt (by omega),Ex.mut (e2.trans (Ex.new hp)) hD,_,upd_same,?_⟩⟩
   unfold putK
   split
   ·rw[List.length_map];omega
   ·rw[List.length_append,List.length_singleton];omega
 ·rintro H2 ⟨e2,_⟩
  exact q Dl H2 (fresh_back e1 hD) (e1.trans e2)
end
open C8 (Def Cal Met Mak cal0 met0 mak0 fnScope_by fnScope)
def zcY:List Str:=[Str.ofString "",Str.ofString "row",Str.ofString "push",Str.ofString "load",Str.ofString "store",Str.ofString "fetch",Str.ofString "lay",Str.ofString "add",Str.ofString "take",Str.ofString "times",Str.ofString "over",Str.ofString "rest",Str.ofString "less",Str.ofString "same",Str.ofString "jump",Str.ofString "unless",Str.ofString "call",Str.ofString "give",Str.ofString "say",Str.ofString "nothing"]
def zav (n:Nat):Str:=zcY.getD n (Str.ofString "")
def hasT:List Int:=[0,0,1,1,1,1,1,0,0,0,0,0,0,0,1,1,3,1,1,0]
def zgN:List Str:=[Str.ofString "add",Str.ofString "take",Str.ofString "times",Str.ofString "over",Str.ofString "rest",Str.ofString "less",Str.ofString "same"]
/-- what the classes and the top leave -/
structure zay (K:PySem.W.Frag) (mg:Str→Option Value) (C CC aW aH aS:Addr):Prop where
 cls:Cls K C
 ccl:Cls K CC
 n_number:NoAttr K C "number"
 n_most:NoAttr K C "most"
 n_code:NoAttr K C "code"
 n_places:NoAttr K C "places"
 n_defs:NoAttr K C "defs"
 n_numbers:NoAttr K C "numbers"
 n_kept:NoAttr K C "kept"
 n_at:NoAttr K C "at"
 n_cells:NoAttr K C "cells"
 n_pile:NoAttr K C "pile"
 n_callers:NoAttr K C "callers"
 n_call:NoAttr K C "call"
 n_calls:NoAttr K C "calls"
 n_began:NoAttr K C "began"
 n_spoken:NoAttr K C "spoken"
 n_ended:NoAttr K C "ended"
 c_number:NoAttr K CC "number"
 c_call:NoAttr K CC "call"
 c_at:NoAttr K CC "at"
 c_cells:NoAttr K CC "cells"
 c_pile:NoAttr K CC "pile"
 m_len:mg "len"=none
 m_list:mg "list"=none
 m_abs:mg "abs"=none
 m_enumerate:mg "enumerate"=none
 m_reversed:mg "reversed"=none
 m_isinstance:mg "isinstance"=none
 m_int:mg "int"=none
 m_bool:mg "bool"=none
 g_ROW:∃ u,mg "ROW"=some u∧RelV (.int 1) u
 g_CALL_SIZE:∃ u,mg "CALL_SIZE"=some u∧RelV (.int 4) u
 g_MOST_CALLS:∃ u,mg "MOST_CALLS"=some u∧RelV (.int 32) u
 g_MOST_ROWS:∃ u,mg "MOST_ROWS"=some u∧RelV (.int 100000) u
 g_MOST:∃ u,mg "MOST"=some u∧RelV (.int 1000000000000) u
 g_WORDS:∃ u,mg "WORDS"=some u∧RelV (.ref aW) u
 g_HAS:∃ u,mg "HAS"=some u∧RelV (.ref aH) u
 g_SIGNED:∃ u,mg "SIGNED"=some u∧RelV (.ref aS) u
 words:∀ H,SqT K H aW (zcY.map V.str)
 has:∀ H,SqT K H aH (hasT.map V.int)
 signed:∀ H,SqT K H aS (zgN.map V.str)
section
variable {im:Img} {A:MA} {st:MS}
theorem zaW:(zap im A st).lookup (Str.ofString "number")=some (.int st.num):=rfl
theorem zgn:(zap im A st).lookup (Str.ofString "most")=some (.int im.most):=rfl
theorem zg3:(zap im A st).lookup (Str.ofString "code")=some (.ref A.lc):=rfl
theorem ze6:(zap im A st).lookup (Str.ofString "places")=some (.ref A.dp):=rfl
theorem zgs:(zap im A st).lookup (Str.ofString "defs")=some (.ref A.ld):=rfl
theorem zd1:(zap im A st).lookup (Str.ofString "numbers")=some (.ref A.dn):=rfl
theorem zgu:(zap im A st).lookup (Str.ofString "kept")=some (.ref A.lk):=rfl
theorem zfn:(zap im A st).lookup (Str.ofString "at")=some (.int st.pc):=rfl
theorem zfg:(zap im A st).lookup (Str.ofString "cells")=some (.ref A.lcl):=rfl
theorem zgw:(zap im A st).lookup (Str.ofString "pile")=some (.ref A.lpl):=rfl
theorem zan:(zap im A st).lookup (Str.ofString "callers")=some (.ref A.lca):=rfl
theorem zcM:(zap im A st).lookup (Str.ofString "call")=some (.int st.call):=rfl
theorem zbO:(zap im A st).lookup (Str.ofString "calls")=some (.int st.calls):=rfl
theorem zbX:(zap im A st).lookup (Str.ofString "began")=some (.int st.began):=rfl
theorem zeJ:(zap im A st).lookup (Str.ofString "spoken")=some (.ref A.lsp):=rfl
theorem zfu:(zap im A st).lookup (Str.ofString "ended")=some A.ve:=rfl
theorem zb7 {n:Nat}:putF "number" (.int n) (zap im A st)=zap im A { st with num:=n }:=rfl
theorem zeY {n:Nat}:putF "at" (.int n) (zap im A st)=zap im A { st with pc:=n }:=rfl
theorem ze5 {n:Nat}:putF "call" (.int n) (zap im A st)=zap im A { st with call:=n }:=rfl
theorem zfG {n:Nat}:putF "calls" (.int n) (zap im A st)=zap im A { st with calls:=n }:=rfl
theorem zfO {n:Nat}:putF "began" (.int n) (zap im A st)=zap im A { st with began:=n }:=rfl
end
section
variable {K:PySem.W.Frag} {σ:L2.St} {H H':Hp} {ta tb te tv:TE} {D:Ends} {tz:TS} {E:XK} {C CC m aW aH aS:Addr} {mg:Str→Option Value} {im:Img} {A:MA} {st:MS}
theorem atI_nat {α:Type} {xs:List α} {i:Nat} {x:α} (h:xs[i]?=some x):atI xs (i:Int)=some x:=by
 unfold atI
 rw[ixN_nat (List.getElem?_eq_some_iff.mp h).1]
 exact h
theorem zff {a C dx:Addr} {fs fs':List (Str×V)} {f:Str} {v:V} (hv:Ev tv σ H v) (ha:∀ H',Ev ta σ H' (.ref a)) (h:H a=some (.ins C dx fs)) (c:Cls K C) (n:NoAttr K C f) (hl:fs.length<1000) (hp:putF f v fs=fs') (k:∀ H1,Ex H H1→D.nx σ (upd H1 a (.ins C dx fs'))):sFld K ta tv f D σ H :=
 hv H (Ex.refl H) _ fun H1 e1=>ha H1 H1 (Ex.refl _) _ fun H2 e2=>⟨a,C,dx,fs,rfl,e2 _ _ (e1 _ _ h),c,n,hl,by rw[hp];exact k H2 (e1.trans e2)⟩
theorem zc8 {a C dx:Addr} {fs:List (Str×V)} {f:Str} {xs:List V} (hv:EvL tv σ H xs) (ha:∀ H',Ev ta σ H' (.ref a)) (h:H a=some (.ins C dx fs)) (c:Cls K C) (n:NoAttr K C f) (hl:fs.length<1000) (k:∀ p H1,H p=none→Ex H H1→H1 p=some (.lst xs)→D.nx σ (upd H1 a (.ins C dx (putF f (.ref p) fs)))):sFld K ta tv f D σ H :=
 hv H (Ex.refl H) _ fun p H1 hp e1 h1=>ha H1 H1 (Ex.refl _) _ fun H2 e2=>⟨a,C,dx,fs,rfl,e2 _ _ (e1 _ _ h),c,n,hl,k p H2 hp (e1.trans e2) (e2 _ _ h1)⟩
theorem zdc {a C dx:Addr} {fs fs':List (Str×V)} {f:Str} {x y:Int} (ha:∀ H',Ev ta σ H' (.ref a)) (h:H a=some (.ins C dx fs)) (c:Cls K C) (n:NoAttr K C f) (hx:fs.lookup f=some (.int x)) (hv:∀ H',Ex H H'→Ev tv σ H' (.int y)) (hl:fs.length<1000) (hp:putF f (.int (x+y)) fs=fs') (k:∀ H1,Ex H H1→D.nx σ (upd H1 a (.ins C dx fs'))):sFldAug K ta tv rAdd f D σ H :=
 ha H H (Ex.refl H) _ fun H1 e1=>⟨a,C,dx,fs, .int x,rfl,e1 _ _ h,c,n,hx,hv H1 e1 H1 (Ex.refl _) _ fun H2 e2=>⟨x,y,rfl,rfl,dx,fs,e2 _ _ (e1 _ _ h),hl,by rw[hp];exact k H2 (e1.trans e2)⟩⟩
variable (T:zay K mg C CC aW aH aS) (hM:Mac H C CC im m A st)
include T hM
theorem zbw (ha:Ev ta σ H (.ref m)):Ev (tFld K ta "at") σ H (.int st.pc):=zad ha hM.o T.cls T.n_at zfn
theorem zbh (ha:Ev ta σ H (.ref m)):Ev (tFld K ta "code") σ H (.ref A.lc):=zad ha hM.o T.cls T.n_code zg3
theorem zam (ha:Ev ta σ H (.ref m)):Ev (tFld K ta "pile") σ H (.ref A.lpl):=zad ha hM.o T.cls T.n_pile zgw
theorem za0 (ha:Ev ta σ H (.ref m)):Ev (tFld K ta "cells") σ H (.ref A.lcl):=zad ha hM.o T.cls T.n_cells zfg
theorem zb0 (ha:Ev ta σ H (.ref m)):Ev (tFld K ta "kept") σ H (.ref A.lk):=zad ha hM.o T.cls T.n_kept zgu
theorem zaJ (ha:Ev ta σ H (.ref m)):Ev (tFld K ta "spoken") σ H (.ref A.lsp):=zad ha hM.o T.cls T.n_spoken zeJ
theorem zbd (ha:Ev ta σ H (.ref m)):Ev (tFld K ta "ended") σ H A.ve:=zad ha hM.o T.cls T.n_ended zfu
/-- is it ended -/
theorem zaN (ha:Ev ta σ H (.ref m)):EvT (tTest (tOp (fun x y H Q=>y= .non∧Q (.bl (decide (x= .non))) H) (tFld K ta "ended") (tC .non))) σ H (st.ended.isNone):=zeR (zbd T hM ha) (by
 have h:=hM.ended
 generalize A.ve=v at h
 cases he:st.ended with
 | none =>
  rw[he] at h
  cases h
  exact decide_eq_true rfl
 | some ds =>
  rw[he] at h
  cases h
  exact decide_eq_false (by intro z;cases z))
theorem zaG (ha:Ev ta σ H (.ref m)):EvT (tTest (tOp (fun x y H Q=>y= .non∧Q (.bl (!decide (x= .non))) H) (tFld K ta "ended") (tC .non))) σ H (st.ended.isSome):=za3 (zbd T hM ha) (by
 have h:=hM.ended
 generalize A.ve=v at h
 cases he:st.ended with
 | none =>
  rw[he] at h
  cases h
  rw[decide_eq_true rfl]<;>rfl
 | some ds =>
  rw[he] at h
  cases h
  rw[decide_eq_false (by intro z;cases z)]<;>rfl)
end
/-- a method that brings the machine from st to st2 -/
def zag (C CC:Addr) (F:List V→Img→MS→MS→Prop):Sp:=fun vs H Q _=>∃ (m:Addr) (im:Img) (A:MA) (st st2:MS) (us:List V),vs= .ref m::us∧Mac H C CC im m A st∧F us im st st2 ∧
 ∀ H2 A2,Stp m H H2 A A2→Mac H2 C CC im m A2 st2→Q .non H2
section
variable {K:PySem.W.Frag} {σ:L2.St} {H H':Hp} {ta tb te tl tv:TE} {D:Ends} {tz:TS} {E:XK}
theorem ze7 {a:Addr} {p:List Int} {y:Int} {Q:VK} (hl:Ev tl σ H (.ref a)) (h:H a=some (iL (p++[y]))) (q:∀ H1,Ex H H1→Q (.int y) (upd H1 a (iL p))):tBM0 K "list" rPop tl σ H Q:=hl H (Ex.refl H) _ fun H1 e1=>by
 have h1:=e1 _ _ h
 have em:(p++[y]).map V.int=p.map V.int++[.int y]:=by rw[List.map_append]<;>rfl
 refine ⟨.inl ⟨rfl,_,sq_of h1⟩,a,_, .int y,rfl,rfl,h1,?_,?_⟩
 ·rw[em,List.length_append,List.length_singleton,Nat.add_sub_cancel]
  rw[List.getElem?_append_right (Nat.le_refl _),Nat.sub_self]<;>rfl
 ·rw[em,List.dropLast_concat]
  exact q H1 e1
theorem zgI {a:Addr} {p:List Int} {y:Int} {i:Nat} (hl:Ev tl σ H (.ref a)) (h:H a=some (iL (p++[y]))) (q:∀ H1,Ex H H1→tz D (σ.set i (some (.int y))) (upd H1 a (iL p))):tSeq (tAsg (tBM0 K "list" rPop tl) (gName i)) tz D σ H:=ze7 hl h q
theorem zej {a:Addr} {p:List Int} {v:Int} (h:H a=some (iL p)) (ha:Ev ta σ H (.ref a)) (hv:Ev te σ H (.int v)) (hz:p.length<90000) (k:∀ H1,Ex H H1→D.nx σ (upd H1 a (iL (p++[v])))) :
  tDrop (tBM K "list" rAppend ta (tCons te tNil)) D σ H:=s_app h ha hv (by rw[List.length_map];omega) fun H1 e1=>by
 have em:p.map V.int++[.int v]=(p++[v]).map V.int:=by rw[List.map_append]<;>rfl
 rw[em]
 exact k H1 e1
theorem zhV {a:Addr} {p:List Int} {v:Int} (h:H a=some (iL p)) (ha:Ev ta σ H (.ref a)) (hv:Ev te σ H (.int v)) (hz:p.length<90000) (k:∀ H1,Ex H H1→tz D σ (upd H1 a (iL (p++[v])))) :
  tSeq (tDrop (tBM K "list" rAppend ta (tCons te tNil))) tz D σ H:=zej (D:={ D with nx:=tz D }) h ha hv hz k
theorem zga {a C dx:Addr} {fs:List (Str×V)} {f:Str} {d:PyData} (hv:EvD tv σ H d) (ha:∀ H',Ev ta σ H' (.ref a)) (h:H a=some (.ins C dx fs)) (c:Cls K C) (n:NoAttr K C f) (hl:fs.length<1000) (k:∀ v H1,Ex H H1→Td H1 v d→D.nx σ (upd H1 a (.ins C dx (putF f v fs)))):sFld K ta tv f D σ H :=
 hv H (Ex.refl H) _ fun v H1 e1 hT=>ha H1 H1 (Ex.refl _) _ fun H2 e2=>⟨a,C,dx,fs,rfl,e2 _ _ (e1 _ _ h),c,n,hl,k v H2 (e1.trans e2) (Td.tx (Tx.of e2) _ _ hT)⟩
theorem zim {v:V} {ds:List PyData} {j:Nat} {d:PyData} (hv:Td H v (.tuple ds)) (hj:ds[j]?=some d):∃ x,Td H x d∧∀ Q:VK,Q x H→rIxT K v (.int (j:Int)) H Q:=by
 cases hv with
 | tup ha hT =>
  rename_i a xs
  have hl:=hT.len
  have hn:=(List.getElem?_eq_some_iff.mp hj).1
  obtain ⟨d2,g1,g2⟩:=TdAll.at (i:=j) (x:=xs[j]'(by omega)) hT (List.getElem?_eq_getElem (by omega))
  rw[hj] at g1
  cases g1
  exact ⟨_,g2,fun Q q=>⟨a,xs,(j:Int),_,rfl,rfl,st_of ha,atI_nat (List.getElem?_eq_getElem (by omega)),q⟩⟩
theorem zb5 {ds:List PyData} {j:Nat} {d:PyData} (ha:EvD ta σ H (.tuple ds)) (hj:ds[j]?=some d):EvD (tOp (rIxT K) ta (tC (.int (j:Int)))) σ H d:=fun H1 e Q q=>ha H1 e _ fun v H2 e2 hv=>by
 obtain ⟨x,h1,h2⟩:=zim (K:=K) hv hj
 exact h2 Q (q x H2 e2 h1)
theorem zg6 {ds:List PyData} {j:Nat} {x:Str} (ha:EvD ta σ H (.tuple ds)) (hj:ds[j]?=some (.str x)):Ev (tOp (rIxT K) ta (tC (.int (j:Int)))) σ H (.str x):=fun H1 e Q q=>zb5 (K:=K) ha hj H1 e Q fun v H2 e2 hv=>by
 cases hv
 exact q H2 e2
theorem zeS {ds:List PyData} {j:Nat} {x:Int} (ha:EvD ta σ H (.tuple ds)) (hj:ds[j]?=some (.int x)):Ev (tOp (rIxT K) ta (tC (.int (j:Int)))) σ H (.int x):=fun H1 e Q q=>zb5 (K:=K) ha hj H1 e Q fun v H2 e2 hv=>by
 cases hv
 exact q H2 e2
/-- a method called,alone in its row -/
theorem zaI {C CC a:Addr} {im:Img} {A:MA} {st st2:MS} {mth:Str} {F:List V→Img→MS→MS→Prop} {tr:TA} {us:List V} {E:XK} (hM:Mac H C CC im a A st) (ha:Ev ta σ H (.ref a)) (l:∀ im A st,(zap im A st).lookup mth=none) (hr:∀ H1,Ex H H1→EvA tr σ H1 us) (f:F us im st st2)
  (k:∀ H2 A2,Stp a H H2 A A2→Mac H2 C CC im a A2 st2→D.nx σ H2):tDrop (tMeth C mth (zag C CC F) [] E ta tr) D σ H:=ha H (Ex.refl H) _ fun H1 e1=>⟨a,A.dx,zap im A st,rfl,(hM.ex e1).o,l _ _ _,hr H1 e1 H1 (Ex.refl _) _ fun H2 e2 =>
 ⟨a,im,A,st,st2,us,by rw[List.append_nil],hM.ex (e1.trans e2),f,fun H3 A3 s hM3=>k H3 A3 ((Stp.of (e1.trans e2) A).trans s) hM3⟩⟩
theorem ze3 {C CC a:Addr} {im:Img} {A:MA} {st st2:MS} {mth:Str} {F:List V→Img→MS→MS→Prop} {tr:TA} {us:List V} {E:XK} (hM:Mac H C CC im a A st) (ha:Ev ta σ H (.ref a)) (l:∀ im A st,(zap im A st).lookup mth=none) (hr:∀ H1,Ex H H1→EvA tr σ H1 us) (f:F us im st st2)
  (k:∀ H2 A2,Stp a H H2 A A2→Mac H2 C CC im a A2 st2→tz D σ H2):tSeq (tDrop (tMeth C mth (zag C CC F) [] E ta tr)) tz D σ H:=zaI (D:={ D with nx:=tz D }) hM ha l hr f k
end
section
variable {P:Program} {w:World} {K:PySem.W.Frag} {mg:Str→Option Value} {base:Heap} {C CC aW aH aS:Addr}
abbrev zdW:Stmt:=zaz 18
theorem zhv:FnScope ["word","first","second"] ["word","first","second"] (fnScope zdW):=fnScope_by (by decide +kernel)
def zce (n:Nat):Prop:=n=7∨n=8∨n=9
theorem zed {x:Int} (h:inM x=true) : -zct≤x∧x≤zct:=by
 unfold inM at h
 rw[Bool.and_eq_true,decide_eq_true_eq,decide_eq_true_eq] at h
 exact h
def zc1:Sp:=fun vs H Q _=>∃ (n:Nat) (x y:Int),vs=[.str (zav n), .int x, .int y]∧zce n∧inM x=true∧RetV (.int (zaL n x y)) H Q
theorem zhz {f:Addr} {fd:FuncData} (F:Def K mg "done" zdW f fd) (b:Binds K fd ["word","first","second"] []) (T:zay K mg C CC aW aH aS):Cal P w K mg base 1 "done" zc1 []:=by
 refine cal0 F b .nil zhv (fun vs H Q E h=>?_) (fun cdv A outer s H vs Q E hr h=>?_)
 ·obtain ⟨_,_,_,rfl,_⟩:=h
  rfl
 ·obtain ⟨n,x,y,rfl,hn,hx,q⟩:=h
  have m_int:=T.m_int
  refine ⟨_,(pss_cons (ps_if (pt_cmpR op_eq (pv 0) pe_str (nomark _)) (pss_one (ps_ret (pe_op op_add (pv 1) (pv 2)))) pss_nil)
   (pss_cons (ps_if (pt_cmpR op_eq (pv 0) pe_str (nomark _)) (pss_one (ps_ret (pe_op op_sub (pv 1) (pv 2)))) pss_nil)
   (pss_cons (ps_if (pt_cmpR op_eq (pv 0) pe_str (nomark _)) (pss_one (ps_ret (pe_op op_mul (pv 1) (pv 2)))) pss_nil)
   (pss_cons (ps_if (pt_cmpR op_eq (pv 0) pe_str (nomark _)) (pss_one (ps_ret (pe_op op_fdiv (pv 1) (pv 2)))) pss_nil)
   (pss_cons (ps_if (pt_cmpR op_eq (pv 0) pe_str (nomark _)) (pss_one (ps_ret (pe_op op_mod (pv 1) (pv 2)))) pss_nil)
   (pss_cons (ps_if (pt_cmpR op_eq (pv 0) pe_str (nomark _)) (pss_one (ps_ret (pe_callTy call_int1 (by rfl) m_int Wt.bt_int (pa_cons (pe_cmpR op_lt (pv 1) (pv 2) (nomark _)) pa_nil)))) pss_nil)
   (pss_one (ps_ret (pe_callTy call_int1 (by rfl) m_int Wt.bt_int (pa_cons (pe_cmpR op_eq (pv 1) (pv 2) (nomark _)) pa_nil)))))))))),?_⟩
  rcases hn with rfl|rfl|rfl
  ·refine q_when (b:=true) (zfV (c:=Str.ofString "add") (ev_var rfl) ev_c rfl (by decide +kernel)) (fun _ H1 e1=>s_ret (ev_op (ev_var rfl) (ev_var rfl) rv_I0) fun H2 e2=>q.go (e1.trans e2)) (fun z=>by cases z)
  ·refine q_when (b:=false) (zfV (c:=Str.ofString "take") (ev_var rfl) ev_c rfl (by decide +kernel)) (fun z=>by cases z) (fun _ H0 e0=>?_)
   refine q_when (b:=true) (zfV (c:=Str.ofString "take") (ev_var rfl) ev_c rfl (by decide +kernel)) (fun _ H1 e1=>s_ret (ev_op (ev_var rfl) (ev_var rfl) rv_I0) fun H2 e2=>q.go (e0.trans (e1.trans e2))) (fun z=>by cases z)
  ·refine q_when (b:=false) (zfV (c:=Str.ofString "times") (ev_var rfl) ev_c rfl (by decide +kernel)) (fun z=>by cases z) (fun _ H0 e0=>?_)
   refine q_when (b:=false) (zfV (c:=Str.ofString "times") (ev_var rfl) ev_c rfl (by decide +kernel)) (fun z=>by cases z) (fun _ H3 e3=>?_)
   refine q_when (b:=true) (zfV (c:=Str.ofString "times") (ev_var rfl) ev_c rfl (by decide +kernel)) (fun _ H1 e1=>s_ret (ev_op (ev_var rfl) (ev_var rfl) (rv_I (.inl ?_))) fun H2 e2=>q.go (e0.trans (e3.trans (e1.trans e2)))) (fun z=>by cases z)
   have:=zed hx
   unfold zct at this
   exact ⟨by omega,by omega⟩
abbrev zd3:Stmt:=zaz 17
theorem zhQ:FnScope ["word","first","second"] ["word","first","second"] (fnScope zd3):=fnScope_by (by decide +kernel)
def zbn:Sp:=fun vs H Q _=>∃ (n:Nat) (x y:Int),vs=[.str (zav n), .int x, .int y]∧zce n∧inM x=true∧inM (zaL n x y)=true∧RetV (.str (Str.ofString "")) H Q
theorem zet {n:Nat} {x y:Int} {H:Hp} (hn:zce n) (hx:inM x=true):SpV zc1 [.str (zav n), .int x, .int y] H (.int (zaL n x y)):=fun H1 e Q q E=>⟨n,x,y,rfl,hn,hx,fun H2 e2=>q H2 e2⟩
theorem zig (T:zay K mg C CC aW aH aS) (c_q75:Cal P w K mg base 1 "done" zc1 []) {f:Addr} {fd:FuncData} (F:Def K mg "trouble_of" zd3 f fd) (b:Binds K fd ["word","first","second"] []):Cal P w K mg base 2 "trouble_of" zbn []:=by
 refine cal0 F b .nil zhQ (fun vs H Q E h=>?_) (fun cdv A outer s H vs Q E hr h=>?_)
 ·obtain ⟨_,_,_,rfl,_⟩:=h
  rfl
 ·obtain ⟨n,x,y,rfl,hn,hx,hz,q⟩:=h
  have m_abs:=T.m_abs
  have g_MOST:=T.g_MOST
  refine ⟨_,(pss_cons (ps_if (PW.pt (pw_and (pt_cmpR op_in_seq (pv 0) (pe_tup (pa_cons pe_str (pa_cons pe_str pa_nil))) (by with_unfolding_all rfl)) (pw_and1 (pt_cmpR op_eq (pv 2) pe_int (nomark _))))) (pss_one (ps_ret pe_str)) pss_nil)
   (pss_cons (ps_if (pt_cmpR op_gt (pe_callB call_abs (by rfl) m_abs PyProof.Rows.boot_abs (pa_cons (C8.pe_c c_q75 hr (by first|decide|exact Nat.le_refl _|omega) (by rfl) (pa_cons (pv 0) (pa_cons (pv 1) (pa_cons (pv 2) pa_nil)))) pa_nil)) (C8.pe_gc (by rfl) g_MOST) (nomark _)) (pss_one (ps_ret pe_str)) pss_nil)
   (pss_one (ps_ret pe_str)))),?_⟩
  refine q_when (b:=false) (et_is (et_and (a:=false) (inWU (c:=zav n) (ev_var rfl) (eu_tup (ea_cons ev_c (ea_cons ev_c ea_nil)) (by show 2≤100000;decide)) (by rfl) rfl (by rcases hn with rfl|rfl|rfl<;>decide +kernel)) (b:=false) (fun z=>by cases z)) rfl) (fun z=>by cases z) (fun _ H1 e1=>?_)
  have hz2:=zed hz
  refine q_when (b:=false) (et_test (ev_is (ev_op (ev_cb (z:= .int (if zaL n x y<0 then -(zaL n x y) else zaL n x y)) (ea_cons (ev_call (ea_cons (ev_var rfl) (ea_cons (ev_var rfl) (ea_cons (ev_var rfl) ea_nil))) (zet hn hx)) ea_nil) fun H2 e2 Q2 q2=>⟨_,rfl,q2 H2 (Ex.refl _)⟩) ev_c rv_I0) (congrArg V.bl (decide_eq_false ?_)))) (fun z=>by cases z) (fun _ H2 e2=>s_ret ev_c fun H3 e3=>q.go (e1.trans (e2.trans e3)))
  unfold zct at hz2
  by_cases hneg:zaL n x y<0
  ·rw[if_pos hneg];omega
  ·rw[if_neg hneg];omega
abbrev zdU:Stmt:=zaz 21
theorem zhF:FnScope ["kind","worth"] ["kind","worth"] (fnScope zdU):=fnScope_by (by decide +kernel)
/-- a told worth as it stands: no reference -/
def zd0 (kind:Str) (w:Int):V:=if kind=Str.ofString "yes" then .bl (decide (w=1)) else .int w
theorem zcE {H:Hp} {kind:Str} {w:Int}:Td H (zd0 kind w) (zbx kind w):=by
 unfold zd0 zbx
 by_cases h:kind=Str.ofString "yes"
 ·rw[if_pos h,if_pos h];exact .bl _
 ·rw[if_neg h,if_neg h];exact .int _
def ziq:Sp:=fun vs H Q _=>∃ (kind:Str) (x:Int),vs=[.str kind, .int x]∧RetV (zd0 kind x) H Q
theorem zh3 {f:Addr} {fd:FuncData} (F:Def K mg "told_worth" zdU f fd) (b:Binds K fd ["kind","worth"] []):Cal P w K mg base 1 "told_worth" ziq []:=by
 refine cal0 F b .nil zhF (fun vs H Q E h=>?_) (fun cdv A outer s H vs Q E hr h=>?_)
 ·obtain ⟨_,_,rfl,_⟩:=h
  rfl
 ·obtain ⟨kind,x,rfl,q⟩:=h
  refine ⟨_,(pss_cons (ps_if (pt_cmpR op_eq (pv 0) pe_str (nomark _)) (pss_one (ps_ret (pe_cmpR op_eq (pv 1) pe_int (nomark _)))) pss_nil)
   (pss_one (ps_ret (pv 1)))),?_⟩
  unfold zd0 at q
  refine q_when (b:=decide (kind=Str.ofString "yes")) (et_test (ev_is (ev_op (ev_var rfl) ev_c (rv_eq rfl)) (congrArg V.bl ?_))) (fun hb H1 e1=>?_) (fun hb H1 e1=>?_)
  ·rw[decide_eq_decide]
   exact ⟨fun z=>by injection z,fun z=>by rw[z]⟩
  ·rw[if_pos (of_decide_eq_true hb)] at q
   refine s_ret (ev_is (ev_op (ev_var rfl) ev_c (rv_eq rfl)) (congrArg V.bl (show decide (V.int x=V.int 1)=decide (x=1) from ?_))) fun H2 e2=>q.go (e1.trans e2)
   rw[decide_eq_decide]
   exact ⟨fun z=>by injection z,fun z=>by rw[z]⟩
  ·rw[if_neg (of_decide_eq_false hb)] at q
   exact s_ret (ev_var rfl) fun H2 e2=>q.go (e1.trans e2)
theorem zcI {kind:Str} {x:Int} {H:Hp}:SpV ziq [.str kind, .int x] H (zd0 kind x):=fun H1 e Q q E=>⟨kind,x,rfl,fun H2 e2=>q H2 e2⟩
abbrev zdH:Stmt:=zaz 2
theorem zh8:FnScope ["thing","least","most"] ["thing","least","most"] (fnScope zdH):=fnScope_by (by decide +kernel)
def zaZ:Sp:=fun vs H Q _=>∃ a lo hi:Int,vs=[.int a, .int lo, .int hi]∧RetV (.bl (decide (lo≤a)&&decide (a≤hi))) H Q
theorem zia (T:zay K mg C CC aW aH aS) {f:Addr} {fd:FuncData} (F:Def K mg "is_between" zdH f fd) (b:Binds K fd ["thing","least","most"] []):Cal P w K mg base 1 "is_between" zaZ []:=by
 refine cal0 F b .nil zh8 (fun vs H Q E h=>?_) (fun cdv A outer s H vs Q E hr h=>?_)
 ·obtain ⟨_,_,_,rfl,_⟩:=h
  rfl
 ·obtain ⟨a,lo,hi,rfl,q⟩:=h
  have m_isinstance:=T.m_isinstance
  have m_int:=T.m_int
  have m_bool:=T.m_bool
  refine ⟨_,(pss_cons (ps_if (PW.pt (pw_or (pt_not (pt_val (pe_callB call_isi (by rfl) m_isinstance Wt.bt_isinstance (pa_cons (pv 0) (pa_cons (pe_bltn (v:= .ty "int") (by rfl) m_int Wt.bt_int rfl) pa_nil))))) (pw_or1 (pt_val (pe_callB call_isi (by rfl) m_isinstance Wt.bt_isinstance (pa_cons (pv 0) (pa_cons (pe_bltn (v:= .ty "bool") (by rfl) m_bool Wt.bt_bool rfl) pa_nil))))))) (pss_one (ps_ret pe_bl)) pss_nil)
   (pss_one (ps_ret (pe_chain op_le op_le (pv 1) (pv 0) (pv 2))))),?_⟩
  refine q_when (b:=false) (et_is (et_or (et_not (et_B (zaq (d:= .int a) (n:="int") (b:=true) (ev_var rfl) ev_c (.int _) (by rfl)))) fun _=>et_B (zaq (d:= .int a) (n:="bool") (b:=false) (ev_var rfl) ev_c (.int _) (by rfl))) rfl) (fun z=>by cases z) (fun _ H1 e1=>?_)
  exact s_ret (zci (ev_var rfl) (ev_var rfl) (ev_var rfl)) fun H2 e2=>q.go (e1.trans e2)
theorem zbA {a lo hi:Int} {H:Hp}:SpV zaZ [.int a, .int lo, .int hi] H (.bl (decide (lo≤a)&&decide (a≤hi))):=fun H1 e Q q E=>⟨a,lo,hi,rfl,fun H2 e2=>q H2 e2⟩
theorem zeE {H:Hp} {x:V} {w:Str} (h:Td H x (.str w)):x= .str w:=by cases h;rfl
theorem zhr {H:Hp} {p:Pl} {n:Nat}:∀ (kvs:List (Key×V)) (ps:List Pl),kvs.map (·.1)=ps.map (fun p=>(Sum.inl (p.pc:Int):Key))→TdAll H (kvs.map (·.2)) (ps.map Pl.d)→(ps.find? fun p=>decide (p.pc=n))=some p→∃ v,valV kvs (Sum.inl (n:Int):Key)=some v∧Td H v p.d:=by
 intro kvs
 induction kvs with
 | nil =>
  intro ps e1 e2 e3
  cases ps with
  | nil=>cases e3
  | cons p2 ps=>cases e1
 | cons kv r ih =>
  intro ps e1 e2 e3
  cases ps with
  | nil=>cases e1
  | cons p2 ps =>
   injection e1 with e1 e1r
   have e1:kv.1=(Sum.inl (p2.pc:Int):Key):=e1
   cases e2 with
   | cons t1 t2 =>
    by_cases hq:p2.pc=n
    ·rw[List.find?_cons,decide_eq_true hq] at e3
     cases e3
     exact ⟨kv.2,valV_pos (by rw[e1,hq]),t1⟩
    ·rw[List.find?_cons,decide_eq_false hq] at e3
     obtain ⟨v,g1,g2⟩:=ih ps e1r t2 e3
     refine ⟨v,?_,g2⟩
     rw[valV_neg fun z=>hq ?_]
     ·exact g1
     ·rw[e1] at z
      injection z with z
      omega
theorem zcn {C CC m:Addr} {im:Img} {A:MA} {st:MS} {p:Pl} {n:Nat} {H:Hp} {σ:L2.St} {ta tb:TE} (T:zay K mg C CC aW aH aS) (hM:Mac H C CC im m A st) (hp:zaH im n=some p) (ha:Ev ta σ H (.ref m)) (hb:Ev tb σ H (.int n)):EvD (tDGet (tFld K ta "places") tb) σ H p.d:=by
 obtain ⟨kvs,h1,h2,h3⟩:=hM.r.pl
 obtain ⟨v,g1,g2⟩:=zhr kvs im.places h2 h3 hp
 exact zaA (v:=v) (zcU (zad ha hM.o T.cls T.n_places ze6) hb h1 g1) g2
theorem zc3 {C CC m:Addr} {im:Img} {A:MA} {st:MS} {p:Pl} {H:Hp} {σ:L2.St} {ta tb:TE} (T:zay K mg C CC aW aH aS) (hM:Mac H C CC im m A st) (hp:zaH im st.pc=some p) (ha:Ev ta σ H (.ref m)) (hb:Ev tb σ H (.ref m)):EvD (tDGet (tFld K ta "places") (tFld K tb "at")) σ H p.d:=zcn T hM hp ha (zbw T hM hb)
abbrev zdq:Stmt:=(C8.clsBody (zaz 26)).getD 7 (.Pass ⟨0,0,0,0⟩)
theorem zdh:FnScope ["self","word","file","row","column"] ["self","word"] (fnScope zdq):=fnScope_by (by decide +kernel)
def za6 (us:List V) (im:Img) (st st2:MS):Prop:=∃ w:Str,us=[.str w]∧zex im w st=some st2
theorem zfH (T:zay K mg C CC aW aH aS) {f:Addr} {fd:FuncData} (me:Meth K C "fault" f) (F:C8.Fun K "fault" "Machine.fault" zdq f fd) (b:Binds K fd ["self","word"] []):Met P w K mg base 1 C "fault" (zag C CC za6) []:=by
 refine met0 T.cls me F b zdh (fun vs H Q E h=>?_) (fun cdv A0 outer s H vs Q E hr h=>?_)
 ·obtain ⟨_,_,_,_,_,_,rfl,_,⟨_,rfl,_⟩,_⟩:=h
  rfl
 ·obtain ⟨m,im,A,st,st2,us,rfl,hM,⟨w,rfl,hf⟩,q⟩:=h
  have hu:=hu_of hr
  refine ⟨_,(pss_cons (ps_asg (pe_dget hu (pe_fld (pv 0) rfl) (pe_fld (pv 0) rfl) (fun _ _=>rfl)) (pg_tup rfl (pgs_cons (pg_name (i:=2) zdh.nd rfl (.inl rfl)) (pgs_cons (pg_tup rfl (pgs_cons (pg_name (i:=3) zdh.nd rfl (.inl rfl)) (pgs_cons (pg_name (i:=4) zdh.nd rfl (.inl rfl)) pgs_nil))) pgs_nil))))
   (pss_one (ps_fld (pv 0) (pe_tup (pa_cons pe_str (pa_cons (pv 1) (pa_cons (pv 2) (pa_cons (pv 3) (pa_cons (pv 4) pa_nil)))))) rfl))),?_⟩
  unfold zex at hf
  obtain ⟨p,hp,rfl⟩:=Option.map_eq_some_iff.mp hf
  refine zc3 T hM hp (ev_var rfl) (ev_var rfl) H (Ex.refl H) _ fun v H1 e1 hv=>?_
  obtain ⟨xs,x1,x2,rfl,hx⟩:∃ (a:Addr) (x1 x2:V),v= .ref a∧H1 a=some (.tup [x1,x2])∧Td H1 x1 (.str p.file)∧Td H1 x2 (.tuple [.int p.row, .int p.col]):=by
   unfold Pl.d at hv
   cases hv with
   | tup ha hT =>
    cases hT with
    | cons t1 t2 =>
     cases t2 with
     | cons t3 t4 =>
      cases t4
      exact ⟨_,_,_,rfl,ha,t1,t3⟩
  obtain ⟨hx,ht1,ht2⟩:=hx
  have:=zeE ht1
  subst this
  obtain ⟨y0,rfl,hy⟩:∃ a:Addr,x2= .ref a∧H1 a=some (.tup [.int p.row, .int p.col]):=by
   cases ht2 with
   | tup ha hT =>
    cases hT with
    | cons t1 t2 =>
     cases t2 with
     | cons t3 t4 =>
      cases t4
      cases t1
      cases t3
      exact ⟨_,rfl,ha⟩
  refine ⟨xs,_,rfl,st_of hx,rfl,_,_,rfl,_,_,rfl,⟨y0,_,rfl,st_of hy,rfl,_,_,rfl,_,_,rfl,rfl,rfl,?_⟩⟩
  have hM1:=hM.ex e1
  refine zga (d:= .tuple (zfW w p)) (zaf (zaa (zac ev_c) (zaa (zac (ev_var rfl)) (zaa (zac (ev_var rfl)) (zaa (zae (ev_var rfl)) (zaa (zae (ev_var rfl)) zab))))) (by show 5≤100000;decide)) (fun _=>ev_var rfl) hM1.o T.cls T.n_ended (by show 16<1000;decide) fun v H2 e2 hv=>?_
  have hM2:=hM1.ex e2
  exact q _ _ ((Stp.of (e1.trans e2) A).trans (zhk (v:=v) hM2)) (hM2.setE hv)
abbrev zdT:Stmt:=(C8.clsBody (zaz 26)).getD 14 (.Pass ⟨0,0,0,0⟩)
theorem zf9:FnScope ["self","worth"] ["self","worth"] (fnScope zdT):=fnScope_by (by decide +kernel)
def fEnd (us:List V) (im:Img) (st st2:MS):Prop:=∃ (y:Int) (x:Df),us=[.int y]∧im.defs[st.num]?=some x∧st2={ st with ended:=some [.str (Str.ofString "end"),zbx x.kind y] }
theorem zio {C CC m:Addr} {im:Img} {A:MA} {st:MS} {x:Df} {H:Hp} {σ:L2.St} {ta tb:TE} (T:zay K mg C CC aW aH aS) (hM:Mac H C CC im m A st) {n:Nat} (hx:im.defs[n]?=some x) (ha:Ev ta σ H (.ref m)) (hb:Ev tb σ H (.int n)):EvD (tOp (rIxL K) (tFld K ta "defs") tb) σ H x.d:=by
 obtain ⟨dv,h1,h2⟩:=hM.r.defs
 have hl:=h2.len
 rw[List.length_map] at hl
 have hn:=(List.getElem?_eq_some_iff.mp hx).1
 obtain ⟨d,g1,g2⟩:=TdAll.at (i:=n) (x:=dv[n]'(by omega)) h2 (List.getElem?_eq_getElem (by omega))
 rw[List.getElem?_map,hx] at g1
 cases g1
 exact zaA (ev_op (zad ha hM.o T.cls T.n_defs zgs) hb (rv_ixL (sq_of h1) (atI_nat (List.getElem?_eq_getElem (by omega))))) g2
theorem zey (T:zay K mg C CC aW aH aS) (c_q53:Cal P w K mg base 1 "told_worth" ziq []) {f:Addr} {fd:FuncData} (me:Meth K C "end_by" f) (F:C8.Fun K "end_by" "Machine.end_by" zdT f fd) (b:Binds K fd ["self","worth"] []):Met P w K mg base 2 C "end_by" (zag C CC fEnd) []:=by
 refine met0 T.cls me F b zf9 (fun vs H Q E h=>?_) (fun cdv A0 outer s H vs Q E hr h=>?_)
 ·obtain ⟨_,_,_,_,_,_,rfl,_,⟨_,_,rfl,_⟩,_⟩:=h
  rfl
 ·obtain ⟨m,im,A,st,st2,us,rfl,hM,⟨y,x,rfl,hx,rfl⟩,q⟩:=h
  refine ⟨_,(pss_cons (ps_if (pt_cmpR op_notN (pv 1) pe_non (nomark _)) (pss_one (ps_set (i:=1) zf9.nd rfl (.inl rfl) (C8.pe_c c_q53 hr (by first|decide|exact Nat.le_refl _|omega) (by rfl) (pa_cons (pe_ix ix_tup (pe_ix ix_list (pe_fld (pv 0) rfl) (pe_fld (pv 0) rfl) (fun _ _=>rfl)) pe_int (fun _ _=>rfl)) (pa_cons (pv 1) pa_nil))))) pss_nil)
   (pss_one (ps_fld (pv 0) (pe_tup (pa_cons pe_str (pa_cons (pv 1) pa_nil))) rfl))),?_⟩
  refine q_when (b:=true) (za3 (ev_var (v:= .int y) rfl) (by rfl)) (fun _ H1 e1=>?_) (fun z=>by cases z)
  have hM1:=hM.ex e1
  refine s_asg (v:=zd0 x.kind y) (ev_call (dvs:=[]) (ea_cons (zg6 (K:=K) (j:=5) (zio T hM1 hx (ev_var rfl) (zad (ev_var rfl) hM1.o T.cls T.n_number zaW)) rfl) (ea_cons (ev_var rfl) ea_nil)) zcI) fun H2 e2=>?_
  dsimp only[List.set]
  have hM2:=hM1.ex e2
  refine zga (d:= .tuple [.str (Str.ofString "end"),zbx x.kind y]) (zaf (zaa (zac ev_c) (zaa (zaA (ev_var rfl) zcE) zab)) (by show 2≤100000;decide)) (fun _=>ev_var rfl) hM2.o T.cls T.n_ended (by show 16<1000;decide) fun v H3 e3 hv=>?_
  have hM3:=hM2.ex e3
  exact q _ _ ((Stp.of (e1.trans (e2.trans e3)) A).trans (zhk (v:=v) hM3)) (hM3.setE hv)
abbrev zdX:Stmt:=(C8.clsBody (zaz 26)).getD 10 (.Pass ⟨0,0,0,0⟩)
theorem zf2:FnScope ["self","kind","worth"] ["self","kind"] (fnScope zdX):=fnScope_by (by decide +kernel)
def fSay (us:List V) (im:Img) (st st2:MS):Prop:=∃ has:Int,us=[.int has]∧zdk 18 has st=some st2
theorem zar {α β:Type} {x:Option α} {f:α→Option β} {b:β} (h:x.bind f=some b):∃ a,x=some a∧f a=some b:=by
 cases x with
 | none=>cases h
 | some a=>exact ⟨a,rfl,h⟩
theorem zht (T:zay K mg C CC aW aH aS) {f:Addr} {fd:FuncData} (me:Meth K C "say" f) (F:C8.Fun K "say" "Machine.say" zdX f fd) (b:Binds K fd ["self","kind"] []):Met P w K mg base 1 C "say" (zag C CC fSay) []:=by
 refine met0 T.cls me F b zf2 (fun vs H Q E h=>?_) (fun cdv A0 outer s H vs Q E hr h=>?_)
 ·obtain ⟨_,_,_,_,_,_,rfl,_,⟨_,rfl,_⟩,_⟩:=h
  rfl
 ·obtain ⟨m,im,A,st,st2,us,rfl,hM,⟨has,rfl,hf⟩,q⟩:=h
  refine ⟨_,(pss_cons (ps_set (i:=2) zf2.nd rfl (.inl rfl) (pe_bm0 PySem.F.plainAttrs_list PySem.F.slot_list_pop PySem.F.type_list_pop mt_pop (pe_fld (pv 0) rfl)))
   (pss_one (ps_if (pt_cmpR op_eq (pv 1) pe_int (nomark _)) (pss_one (ps_expr (pe_bm PySem.F.plainAttrs_list PySem.F.slot_list_append PySem.F.type_list_append mt_append (pe_fld (pv 0) rfl) (pa_cons (pe_cmpR op_eq (pv 2) pe_int (nomark _)) pa_nil)))) (pss_one (ps_expr (pe_bm PySem.F.plainAttrs_list PySem.F.slot_list_append PySem.F.type_list_append mt_append (pe_fld (pv 0) rfl) (pa_cons (pv 2) pa_nil))))))),?_⟩
  have hf:((zdb st.pile).bind fun (p,y)=>if st.spoken.length<90000 then some { st with pile:=p,spoken:=st.spoken++[if has=1 then PyData.bool (decide (y=1)) else PyData.int y] } else none)=some st2:=hf
  obtain ⟨⟨p,y⟩,h1,h2⟩:=zar hf
  have ep:=zaO h1
  dsimp only at h2
  by_cases hl:st.spoken.length<90000
  ·rw[if_pos hl] at h2
   cases h2
   refine zgI (zam T hM (ev_var rfl)) (by rw[← ep];exact hM.pile) fun H1 e1=>?_
   have hM1:=(hM.ex e1).setP p
   have s1:Stp m H (upd H1 A.lpl (iL p)) A A:=(Stp.of e1 A).trans (zal (p:=A.lpl) (by simp[own]) (hM.ex e1).pile)
   generalize upd H1 A.lpl (iL p)=H2 at hM1 s1
   dsimp only[List.set]
   obtain ⟨sv,hs,hT⟩:=hM1.spok
   have hl2:sv.length<100000:=by rw[hT.len];exact Nat.lt_trans hl (by decide)
   refine s_if (b:=decide (has=1)) (et_test (ev_is (ev_op (ev_var rfl) ev_c (rv_eq rfl)) (congrArg V.bl (show decide (V.int has=V.int 1)=decide (has=1) from ?_)))) (fun hb H3 e3=>?_) (fun hb H3 e3=>?_)
   ·rw[decide_eq_decide]
    exact ⟨fun z=>by injection z,fun z=>by rw[z]⟩
   ·rw[if_pos (of_decide_eq_true hb)] at q
    have hM3:=hM1.ex e3
    refine s_app (v:= .bl (decide (y=1))) (e3 _ _ hs) (zaJ T hM3 (ev_var rfl)) (ev_is (ev_op (ev_var rfl) ev_c (rv_eq rfl)) (congrArg V.bl (show decide (V.int y=V.int 1)=decide (y=1) from ?_))) hl2 fun H4 e4=>?_
    ·rw[decide_eq_decide]
     exact ⟨fun z=>by injection z,fun z=>by rw[z]⟩
    ·have hM4:=hM3.ex e4
     have e34:=e3.trans e4
     exact q _ _ (s1.trans ((Stp.of e34 A).trans (zal (p:=A.lsp) (by simp[own]) (e34 _ _ hs)))) (hM4.setS (e34 _ _ hs) (TdAll.tx (Tx.of e34) _ _ hT) (.bl _))
   ·rw[if_neg (of_decide_eq_false hb)] at q
    have hM3:=hM1.ex e3
    refine s_app (v:= .int y) (e3 _ _ hs) (zaJ T hM3 (ev_var rfl)) (ev_var rfl) hl2 fun H4 e4=>?_
    have hM4:=hM3.ex e4
    have e34:=e3.trans e4
    exact q _ _ (s1.trans ((Stp.of e34 A).trans (zal (p:=A.lsp) (by simp[own]) (e34 _ _ hs)))) (hM4.setS (e34 _ _ hs) (TdAll.tx (Tx.of e34) _ _ hT) (.int _))
  ·rw[if_neg hl] at h2
   cases h2
abbrev zhe:Stmt:=(C8.clsBody (zaz 26)).getD 11 (.Pass ⟨0,0,0,0⟩)
theorem zfs:FnScope ["self","word","second","first","why"] ["self","word"] (fnScope zhe):=fnScope_by (by decide +kernel)
def zfy (us:List V) (_:Img) (st st2:MS):Prop:=∃ n:Nat,us=[.str (zav n)]∧zce n∧zek n st=some st2
theorem zdR {n:Nat} {x y:Int} {H:Hp} (hn:zce n) (hx:inM x=true) (hz:inM (zaL n x y)=true):SpV zbn [.str (zav n), .int x, .int y] H (.str (Str.ofString "")):=fun H1 e Q q E=>⟨n,x,y,rfl,hn,hx,hz,fun H2 e2=>q H2 e2⟩
theorem zcg (T:zay K mg C CC aW aH aS) (c_q75:Cal P w K mg base 1 "done" zc1 []) (c_q57:Cal P w K mg base 2 "trouble_of" zbn []) (c_q29:Met P w K mg base 1 C "fault" (zag C CC za6) []) {f:Addr} {fd:FuncData} (me:Meth K C "do_signed" f) (F:C8.Fun K "do_signed" "Machine.do_signed" zhe f fd) (b:Binds K fd ["self","word"] []):Met P w K mg base 3 C "do_signed" (zag C CC zfy) []:=by
 refine met0 T.cls me F b zfs (fun vs H Q E h=>?_) (fun cdv A0 outer s H vs Q E hr h=>?_)
 ·obtain ⟨_,_,_,_,_,_,rfl,_,⟨_,rfl,_⟩,_⟩:=h
  rfl
 ·obtain ⟨m,im,A,st,st2,us,rfl,hM,⟨n,rfl,hn,hf⟩,q⟩:=h
  refine ⟨_,(pss_cons (ps_set (i:=2) zfs.nd rfl (.inl rfl) (pe_bm0 PySem.F.plainAttrs_list PySem.F.slot_list_pop PySem.F.type_list_pop mt_pop (pe_fld (pv 0) rfl)))
   (pss_cons (ps_set (i:=3) zfs.nd rfl (.inl rfl) (pe_bm0 PySem.F.plainAttrs_list PySem.F.slot_list_pop PySem.F.type_list_pop mt_pop (pe_fld (pv 0) rfl)))
   (pss_cons (ps_set (i:=4) zfs.nd rfl (.inl rfl) (C8.pe_c c_q57 hr (by first|decide|exact Nat.le_refl _|omega) (by rfl) (pa_cons (pv 1) (pa_cons (pv 3) (pa_cons (pv 2) pa_nil)))))
   (pss_one (ps_if (pt_cmpR op_ne (pv 4) pe_str (nomark _)) (pss_one (ps_expr (C8.pe_mt c_q29 hr (by first|decide|exact Nat.le_refl _|omega) (pv 0) (pa_cons (pv 4) pa_nil)))) (pss_cons (ps_expr (pe_bm PySem.F.plainAttrs_list PySem.F.slot_list_append PySem.F.type_list_append mt_append (pe_fld (pv 0) rfl) (pa_cons (C8.pe_c c_q75 hr (by first|decide|exact Nat.le_refl _|omega) (by rfl) (pa_cons (pv 1) (pa_cons (pv 3) (pa_cons (pv 2) pa_nil)))) pa_nil)))
   (pss_one (ps_fldaug (pv 0) pe_int in_add)))))))),?_⟩
  unfold zek at hf
  cases hp:zdb st.pile with
  | none=>rw[hp] at hf;cases hf
  | some py =>
   obtain ⟨p,y⟩:=py
   rw[hp] at hf
   dsimp only at hf
   cases hp2:zdb p with
   | none=>rw[hp2] at hf;cases hf
   | some qx =>
    obtain ⟨p2,x⟩:=qx
    rw[hp2] at hf
    dsimp only at hf
    by_cases hc:(inM x&&inM y&&inM (zaL n x y)&&decide (p2.length<90000))=true
    ·rw[if_pos hc] at hf
     cases hf
     rw[Bool.and_eq_true,Bool.and_eq_true,Bool.and_eq_true,decide_eq_true_eq] at hc
     obtain ⟨⟨⟨hx,_⟩,hz⟩,hl⟩:=hc
     have ep:=zaO hp
     have ep2:=zaO hp2
     refine zgI (zam T hM (ev_var rfl)) (by rw[← ep];exact hM.pile) fun H1 e1=>?_
     have hM1:=(hM.ex e1).setP p
     have s1:Stp m H (upd H1 A.lpl (iL p)) A A:=(Stp.of e1 A).trans (zal (p:=A.lpl) (by simp[own]) (hM.ex e1).pile)
     generalize upd H1 A.lpl (iL p)=H2 at hM1 s1
     dsimp only[List.set]
     refine zgI (p:=p2) (zam T hM1 (ev_var rfl)) (by rw[← ep2];exact hM1.pile) fun H3 e3=>?_
     have hM2:=(hM1.ex e3).setP p2
     have s2:Stp m H (upd H3 A.lpl (iL p2)) A A:=s1.trans ((Stp.of e3 A).trans (zal (p:=A.lpl) (by simp[own]) (hM1.ex e3).pile))
     generalize upd H3 A.lpl (iL p2)=H4 at hM2 s2
     refine q_asg (v:= .str (Str.ofString "")) (ev_call (dvs:=[]) (ea_cons (ev_var rfl) (ea_cons (ev_var rfl) (ea_cons (ev_var rfl) ea_nil))) (zdR (n:=n) (x:=x) (y:=y) hn hx hz)) fun H5 e5=>?_
     have hM3:=hM2.ex e5
     refine s_if (b:=false) (et_test (ev_is (ev_op (ev_var rfl) ev_c (rv_ne rfl)) (congrArg V.bl (by decide +kernel)))) (fun z=>by cases z) (fun _ H6 e6=>?_)
     have hM4:=hM3.ex e6
     refine zhV (v:=zaL n x y) hM4.pile (zam T hM4 (ev_var rfl)) (ev_call (dvs:=[]) (ea_cons (ev_var rfl) (ea_cons (ev_var rfl) (ea_cons (ev_var rfl) ea_nil))) (zet hn hx)) hl fun H7 e7=>?_
     have hM5:=(hM4.ex e7).setP (p2++[zaL n x y])
     have s3:Stp m H (upd H7 A.lpl (iL (p2++[zaL n x y]))) A A:=s2.trans ((Stp.of (e5.trans (e6.trans e7)) A).trans (zal (p:=A.lpl) (by simp[own]) (hM4.ex e7).pile))
     generalize upd H7 A.lpl (iL (p2++[zaL n x y]))=H8 at hM5 s3
     refine zdc (fun _=>ev_var rfl) hM5.o T.cls T.n_at zfn (fun _ _=>ev_c) (by show 16<1000;decide) (zeY (n:=st.pc+1)) fun H9 e9=>?_
     have hM6:=hM5.ex e9
     exact q _ _ (s3.trans ((Stp.of e9 A).trans (zdz hM6))) (hM6.setN st.num (st.pc+1) st.call st.calls st.began)
    ·rw[if_neg hc] at hf
     cases hf
end
theorem zgE {us:List V} {k:Nat} (h:k≤us.length):cutV us none (some (k:Int))=us.take k:=by
 have e1:HT.sIx us.length us.length (some (k:Int))=k:=by
  rw[HT.sIx_nat]
  omega
 have e0:HT.sIx us.length 0 none=0:=rfl
 unfold cutV
 rw[e0,e1,List.drop_zero,Nat.sub_zero]
theorem zfl {us:List V} {i j:Nat} (h:i≤j) (hj:j≤us.length):cutV us (some (i:Int)) (some (j:Int))=(us.drop i).take (j-i):=by
 have e1:HT.sIx us.length us.length (some (j:Int))=j:=by
  rw[HT.sIx_nat]
  omega
 have e0:HT.sIx us.length 0 (some (i:Int))=i:=by
  rw[HT.sIx_nat]
  omega
 unfold cutV
 rw[e0,e1]
theorem zij:∀ k:Nat,(List.replicate k [V.int 0]).flatten=(List.replicate k (0:Int)).map V.int
 | 0=>rfl
 | k+1=>by rw[List.replicate_succ,List.flatten_cons,zij k,List.replicate_succ,List.map_cons]<;>rfl
section
variable {K:PySem.W.Frag} {σ:L2.St} {H H':Hp} {ta tb te tl tv:TE} {D:Ends} {tz:TS} {E:XK}
theorem zel {k:Nat} (hb:Ev tb σ H (.int k)) (hk:k≤90000):EvL (tOp rRep (tLst (tCons (tC (.int 0)) tNil)) tb) σ H ((List.replicate k (0:Int)).map V.int):=fun H1 e Q q =>
 el_lst (ea_cons ev_c ea_nil) (by show 1≤100000;decide) H1 e _ fun p H2 hp e2 h2=>hb H2 (e.trans e2) _ fun H3 e3=>⟨p,(k:Int),_,rfl,rfl,e3 _ _ h2,by omega,by omega,by rw[Int.toNat_natCast];show 1*k≤sizeLine;exact sz_of (by omega),fun l hl=>by
  rw[Int.toNat_natCast,zij]
  exact q l _ (fresh_back (e2.trans e3) hl) ((e2.trans e3).trans (Ex.new hl)) upd_same⟩
/-- l[i]=m.pop() -/
theorem zdj {C CC m aW aH aS:Addr} {mg:Str→Option Value} {im:Img} {A:MA} {st:MS} {p cs:List Int} {y:Int} {b:Addr} {k:Nat} (T:zay K mg C CC aW aH aS) (hM:Mac H C CC im m A st) (hl:Ev tl σ H (.ref A.lpl)) (ep:st.pile=p++[y]) (ho:∀ H',Mac H' C CC im m A { st with pile:=p }→Ev te σ H' (.ref b)) (hb:∀ H',Mac H' C CC im m A { st with pile:=p }→H' b=some (iL cs)) (hi:∀ H',Ev tb σ H' (.int (k:Int))) (hk:k<cs.length)
  (q:∀ H1,Mac H1 C CC im m A { st with pile:=p }→Stp m H H1 A A→D.nx σ (upd H1 b (iL (cs.set k y)))):tAsg (tBM0 K "list" rPop tl) (gSub te tb rSetL) D σ H :=
 ze7 (p:=p) (y:=y) hl (by rw[← ep];exact hM.pile) fun H1 e1=>by
  have hM1:=(hM.ex e1).setP p
  have s1:Stp m H (upd H1 A.lpl (iL p)) A A:=(Stp.of e1 A).trans (zal (p:=A.lpl) (by simp[own]) (hM.ex e1).pile)
  generalize upd H1 A.lpl (iL p)=H2 at hM1 s1
  refine ho H2 hM1 H2 (Ex.refl _) _ fun H3 e3=>hi H3 H3 (Ex.refl _) _ fun H4 e4=>?_
  have hM4:=hM1.ex (e3.trans e4)
  refine ⟨b,cs.map V.int,(k:Int),k,rfl,rfl,hb _ hM4,ixN_nat (by rw[List.length_map];exact hk),?_⟩
  have:=q H4 hM4 (s1.trans (Stp.of (e3.trans e4) A))
  rw[show (cs.map V.int).set k (.int y)=(cs.set k y).map V.int from (List.map_set ..).symm]
  exact this
end
section
variable {P:Program} {w:World} {K:PySem.W.Frag} {mg:Str→Option Value} {base:Heap} {C CC aW aH aS:Addr}
abbrev zhb:Stmt:=(C8.clsBody (zaz 26)).getD 9 (.Pass ⟨0,0,0,0⟩)
theorem ziR:FnScope ["self","word","has"] ["self","word","has"] (fnScope zhb):=fnScope_by (by decide +kernel)
def zcV (us:List V) (_:Img) (st st2:MS):Prop:=∃ (n:Nat) (has:Int),us=[.str (zav n), .int has]∧zdk n has st=some st2
theorem zcx (T:zay K mg C CC aW aH aS) (c_q49:Met P w K mg base 1 C "say" (zag C CC fSay) []) {f:Addr} {fd:FuncData} (me:Meth K C "do_plain" f) (F:C8.Fun K "do_plain" "Machine.do_plain" zhb f fd) (b:Binds K fd ["self","word","has"] []):Met P w K mg base 2 C "do_plain" (zag C CC zcV) []:=by
 refine met0 T.cls me F b ziR (fun vs H Q E h=>?_) (fun cdv A0 outer s H vs Q E hr h=>?_)
 ·obtain ⟨_,_,_,_,_,_,rfl,_,⟨_,_,rfl,_⟩,_⟩:=h
  rfl
 ·obtain ⟨m,im,A,st,st2,us,rfl,hM,⟨n,has,rfl,hf⟩,q⟩:=h
  refine ⟨_,(pss_one (ps_if (pt_cmpR op_eq (pv 1) pe_str (nomark _)) (pss_one (ps_expr (pe_bm PySem.F.plainAttrs_list PySem.F.slot_list_append PySem.F.type_list_append mt_append (pe_fld (pv 0) rfl) (pa_cons (pe_ix ix_list (pe_fld (pv 0) rfl) (pv 2) (fun _ _=>rfl)) pa_nil)))) (pss_one (ps_if (pt_cmpR op_eq (pv 1) pe_str (nomark _)) (pss_one (ps_asg (pe_bm0 PySem.F.plainAttrs_list PySem.F.slot_list_pop PySem.F.type_list_pop mt_pop (pe_fld (pv 0) rfl)) (pg_sub (pe_fld (pv 0) rfl) (pv 2) set_list))) (pss_one (ps_if (pt_cmpR op_eq (pv 1) pe_str (nomark _)) (pss_one (ps_expr (pe_bm PySem.F.plainAttrs_list PySem.F.slot_list_append PySem.F.type_list_append mt_append (pe_fld (pv 0) rfl) (pa_cons (pv 2) pa_nil)))) (pss_one (ps_if (pt_cmpR op_eq (pv 1) pe_str (nomark _)) (pss_one (ps_fld (pv 0) (pv 2) rfl)) (pss_one (ps_if (pt_cmpR op_eq (pv 1) pe_str (nomark _)) (pss_one (ps_if (pt_cmpR op_eq (pe_bm0 PySem.F.plainAttrs_list PySem.F.slot_list_pop PySem.F.type_list_pop mt_pop (pe_fld (pv 0) rfl)) pe_int (nomark _)) (pss_one (ps_fld (pv 0) (pv 2) rfl)) pss_nil)) (pss_one (ps_if (pt_cmpR op_eq (pv 1) pe_str (nomark _)) (pss_one (ps_expr (pe_bm PySem.F.plainAttrs_list PySem.F.slot_list_append PySem.F.type_list_append mt_append (pe_fld (pv 0) rfl) (pa_cons (pe_ix ix_list (pe_fld (pv 0) rfl) (pv 2) (fun _ _=>rfl)) pa_nil)))) (pss_one (ps_if (pt_cmpR op_eq (pv 1) pe_str (nomark _)) (pss_one (ps_asg (pe_bm0 PySem.F.plainAttrs_list PySem.F.slot_list_pop PySem.F.type_list_pop mt_pop (pe_fld (pv 0) rfl)) (pg_sub (pe_fld (pv 0) rfl) (pv 2) set_list))) (pss_one (ps_expr (C8.pe_mt c_q49 hr (by first|decide|exact Nat.le_refl _|omega) (pv 0) (pa_cons (pv 2) pa_nil)))))))))))))))))),?_⟩
  have wd:∀ {H':Hp} {b:Bool} {z:Str} (x:Str),decide (x=z)=b→zav n=x→EvT (tTest (tOp rEq (tVar 1) (tC (.str z)))) [some (.ref m),some (.str (zav n)),some (.int has)] H' b:=fun x h e=>zfV (c:=x) (ev_var rfl) ev_c e h
  have push:∀ {H1:Hp} {te:TE} {v:Int},Ex H H1→Ev te [some (.ref m),some (.str (zav n)),some (.int has)] H1 (.int v)→zeo st v=some st2→tDrop (tBM K "list" rAppend (tFld K (tVar 0) "pile") (tCons te tNil)) { nx:=fun _ H'=>Q .non H',rt:=Q } [some (.ref m),some (.str (zav n)),some (.int has)] H1:=fun {H1 te v} e1 hv hp=>by
   unfold zeo at hp
   by_cases hl:st.pile.length<90000
   ·rw[if_pos hl] at hp
    cases hp
    have hM1:=hM.ex e1
    refine zej hM1.pile (zam T hM1 (ev_var rfl)) hv hl fun H2 e2=>?_
    have hM2:=hM1.ex e2
    exact q _ _ ((Stp.of (e1.trans e2) A).trans (zal (p:=A.lpl) (by simp[own]) hM2.pile)) (hM2.setP _)
   ·rw[if_neg hl] at hp
    cases hp
  have nat:0≤has→∃ k:Nat,has=(k:Int):=fun h=>⟨has.toNat,by omega⟩
  unfold zdk at hf
  split at hf
  ·refine s_if (b:=false) (wd (Str.ofString "push") (by decide +kernel) rfl) (fun z=>by cases z) (fun _ H1 e1=>?_)
   refine s_if (b:=false) (wd (Str.ofString "push") (by decide +kernel) rfl) (fun z=>by cases z) (fun _ H2 e2=>?_)
   refine s_if (b:=true) (wd (Str.ofString "push") (by decide +kernel) rfl) (fun _ H3 e3=>?_) (fun z=>by cases z)
   exact push (e1.trans (e2.trans e3)) (ev_var rfl) hf
  ·by_cases h0:0≤has
   ·rw[if_pos h0] at hf
    obtain ⟨k,rfl⟩:=nat h0
    obtain ⟨v,hv,hp⟩:=zar hf
    rw[Int.toNat_natCast] at hv
    refine s_if (b:=true) (wd (Str.ofString "load") (by decide +kernel) rfl) (fun _ H1 e1=>?_) (fun z=>by cases z)
    have hM1:=hM.ex e1
    exact push e1 (ev_op (za0 T hM1 (ev_var rfl)) (ev_var rfl) (rv_ixL (sq_of hM1.cells) (atI_nat (by rw[List.getElem?_map,hv]<;>rfl)))) hp
   ·rw[if_neg h0] at hf
    cases hf
  ·obtain ⟨⟨p,y⟩,h1,h2⟩:=zar hf
   dsimp only at h2
   by_cases h0:0≤has∧has.toNat<st.cells.length
   ·rw[if_pos h0] at h2
    cases h2
    obtain ⟨k,rfl⟩:=nat h0.1
    have hk:=h0.2
    rw[Int.toNat_natCast] at hk q
    refine s_if (b:=false) (wd (Str.ofString "store") (by decide +kernel) rfl) (fun z=>by cases z) (fun _ H1 e1=>?_)
    refine s_if (b:=true) (wd (Str.ofString "store") (by decide +kernel) rfl) (fun _ H2 e2=>?_) (fun z=>by cases z)
    have e12:=e1.trans e2
    have hM1:=hM.ex e12
    exact zdj (k:=k) (p:=p) (y:=y) T hM1 (zam T hM1 (ev_var rfl)) (zaO h1) (fun H' h=>za0 T h (ev_var rfl)) (fun H' h=>h.cells) (fun _=>ev_var rfl) hk fun H3 hM3 s3=>q _ _ ((Stp.of e12 A).trans (s3.trans (zal (p:=A.lcl) (by simp[own]) hM3.cells))) (hM3.setC _)
   ·rw[if_neg h0] at h2
    cases h2
  ·by_cases h0:0≤has
   ·rw[if_pos h0] at hf
    obtain ⟨k,rfl⟩:=nat h0
    obtain ⟨v,hv,hp⟩:=zar hf
    rw[Int.toNat_natCast] at hv
    refine s_if (b:=false) (wd (Str.ofString "fetch") (by decide +kernel) rfl) (fun z=>by cases z) (fun _ H1 e1=>?_)
    refine s_if (b:=false) (wd (Str.ofString "fetch") (by decide +kernel) rfl) (fun z=>by cases z) (fun _ H2 e2=>?_)
    refine s_if (b:=false) (wd (Str.ofString "fetch") (by decide +kernel) rfl) (fun z=>by cases z) (fun _ H3 e3=>?_)
    refine s_if (b:=false) (wd (Str.ofString "fetch") (by decide +kernel) rfl) (fun z=>by cases z) (fun _ H4 e4=>?_)
    refine s_if (b:=false) (wd (Str.ofString "fetch") (by decide +kernel) rfl) (fun z=>by cases z) (fun _ H5 e5=>?_)
    refine s_if (b:=true) (wd (Str.ofString "fetch") (by decide +kernel) rfl) (fun _ H6 e6=>?_) (fun z=>by cases z)
    have e16:=e1.trans (e2.trans (e3.trans (e4.trans (e5.trans e6))))
    have hM1:=hM.ex e16
    exact push e16 (ev_op (zb0 T hM1 (ev_var rfl)) (ev_var rfl) (rv_ixL (sq_of hM1.kept) (atI_nat (by rw[List.getElem?_map,hv]<;>rfl)))) hp
   ·rw[if_neg h0] at hf
    cases hf
  ·obtain ⟨⟨p,y⟩,h1,h2⟩:=zar hf
   dsimp only at h2
   by_cases h0:0≤has∧has.toNat<st.kept.length
   ·rw[if_pos h0] at h2
    cases h2
    obtain ⟨k,rfl⟩:=nat h0.1
    have hk:=h0.2
    rw[Int.toNat_natCast] at hk q
    refine s_if (b:=false) (wd (Str.ofString "lay") (by decide +kernel) rfl) (fun z=>by cases z) (fun _ H1 e1=>?_)
    refine s_if (b:=false) (wd (Str.ofString "lay") (by decide +kernel) rfl) (fun z=>by cases z) (fun _ H2 e2=>?_)
    refine s_if (b:=false) (wd (Str.ofString "lay") (by decide +kernel) rfl) (fun z=>by cases z) (fun _ H3 e3=>?_)
    refine s_if (b:=false) (wd (Str.ofString "lay") (by decide +kernel) rfl) (fun z=>by cases z) (fun _ H4 e4=>?_)
    refine s_if (b:=false) (wd (Str.ofString "lay") (by decide +kernel) rfl) (fun z=>by cases z) (fun _ H5 e5=>?_)
    refine s_if (b:=false) (wd (Str.ofString "lay") (by decide +kernel) rfl) (fun z=>by cases z) (fun _ H6 e6=>?_)
    refine s_if (b:=true) (wd (Str.ofString "lay") (by decide +kernel) rfl) (fun _ H7 e7=>?_) (fun z=>by cases z)
    have e12:=e1.trans (e2.trans (e3.trans (e4.trans (e5.trans (e6.trans e7)))))
    have hM1:=hM.ex e12
    exact zdj (k:=k) (p:=p) (y:=y) T hM1 (zam T hM1 (ev_var rfl)) (zaO h1) (fun H' h=>zb0 T h (ev_var rfl)) (fun H' h=>h.kept) (fun _=>ev_var rfl) hk fun H3 hM3 s3=>q _ _ ((Stp.of e12 A).trans (s3.trans (zal (p:=A.lk) (by simp[own]) hM3.kept))) (hM3.setK _)
   ·rw[if_neg h0] at h2
    cases h2
  ·refine s_if (b:=false) (wd (Str.ofString "say") (by decide +kernel) rfl) (fun z=>by cases z) (fun _ H1 e1=>?_)
   refine s_if (b:=false) (wd (Str.ofString "say") (by decide +kernel) rfl) (fun z=>by cases z) (fun _ H2 e2=>?_)
   refine s_if (b:=false) (wd (Str.ofString "say") (by decide +kernel) rfl) (fun z=>by cases z) (fun _ H3 e3=>?_)
   refine s_if (b:=false) (wd (Str.ofString "say") (by decide +kernel) rfl) (fun z=>by cases z) (fun _ H4 e4=>?_)
   refine s_if (b:=false) (wd (Str.ofString "say") (by decide +kernel) rfl) (fun z=>by cases z) (fun _ H5 e5=>?_)
   refine s_if (b:=false) (wd (Str.ofString "say") (by decide +kernel) rfl) (fun z=>by cases z) (fun _ H6 e6=>?_)
   refine s_if (b:=false) (wd (Str.ofString "say") (by decide +kernel) rfl) (fun z=>by cases z) (fun _ H7 e7=>?_)
   have e17:=e1.trans (e2.trans (e3.trans (e4.trans (e5.trans (e6.trans e7)))))
   exact zaI (us:=[.int has]) (hM.ex e17) (ev_var rfl) (fun _ _ _=>rfl) (fun _ _=>ea_cons (ev_var rfl) ea_nil) ⟨has,rfl,hf⟩ fun H8 A8 s8 hM8=>q _ _ ((Stp.of e17 A).trans s8) hM8
  ·cases hf
end
section
variable {P:Program} {w:World} {K:PySem.W.Frag} {mg:Str→Option Value} {base:Heap} {C CC aW aH aS:Addr}
abbrev zdV:Stmt:=(C8.clsBody (zaz 25)).getD 0 (.Pass ⟨0,0,0,0⟩)
theorem ziG:FnScope ["self","machine"] ["self","machine"] (fnScope zdV):=fnScope_by (by decide +kernel)
def MS.cs (st:MS):CS:=⟨st.num,st.call,st.pc,st.cells,st.pile⟩
def zc6 (C CC:Addr):Sp:=fun vs H Q _=>∃ (x m dx:Addr) (im:Img) (A:MA) (st:MS),vs=[.ref x, .ref m]∧H x=some (.ins CC dx [])∧Mac H C CC im m A st∧x∉own m A++ro A ∧
 ∀ H2 (lc lp:Addr),(∀ b o,b≠x→H b=some o→H2 b=some o)→H lc=none→H lp=none→(∀ b,H2 b=none→H b=none)→zdP H2 CC ⟨x,dx,lc,lp⟩ st.cs→Q .non H2
theorem zhl (T:zay K mg C CC aW aH aS) {f:Addr} (M:Mk K CC f) (hm:mg "Caller"=some (.ref CC)) {fd:FuncData} (F:C8.Fun K "__init__" "Caller.__init__" zdV f fd) (b:Binds K fd ["self","machine"] []):Mak P w K mg base 1 "Caller" CC (zc6 C CC) []:=by
 refine mak0 M hm F b .nil ziG (fun vs H Q E h=>?_) (fun cdv A0 outer s H vs Q E hr h=>?_)
 ·obtain ⟨_,_,_,_,_,_,rfl,_⟩:=h
  rfl
 ·obtain ⟨x,m,dx,im,A,st,rfl,hx,hM,hn,q⟩:=h
  have m_list:=T.m_list
  refine ⟨_,(pss_cons (ps_fld (pv 0) (pe_fld (pv 1) rfl) rfl)
   (pss_cons (ps_fld (pv 0) (pe_fld (pv 1) rfl) rfl)
   (pss_cons (ps_fld (pv 0) (pe_fld (pv 1) rfl) rfl)
   (pss_cons (ps_fld (pv 0) (pe_callTy call_list_of (by rfl) m_list Wt.bt_list (pa_cons (pe_fld (pv 1) rfl) pa_nil)) rfl)
   (pss_one (ps_fld (pv 0) (pe_callTy call_list_of (by rfl) m_list Wt.bt_list (pa_cons (pe_fld (pv 1) rfl) pa_nil)) rfl)))))),?_⟩
  -- all but x stays
  have keep:∀ {H1:Hp},(∀ b o,b≠x→H b=some o→H1 b=some o)→Mac H1 C CC im m A st:=fun k=>hM.keep (fun b hb o ho=>k b o (fun z=>hn (by rw[← z];exact hb)) ho) (fun b xs hb=>k b _ (fun z=>by rw[z,hx] at hb;cases hb) hb)
  have st1:∀ {H1 H2:Hp} {o2:HO},(∀ b o,b≠x→H b=some o→H1 b=some o)→Ex H1 H2→∀ b o,b≠x→H b=some o→(upd H2 x o2) b=some o:=fun k e b o nb hb=>by
   rw[upd_ne nb]
   exact e b o (k b o nb hb)
  have bk:∀ {H1 H2:Hp} {o2:HO},(∀ b,H1 b=none→H b=none)→Ex H1 H2→∀ b,(upd H2 x o2) b=none→H b=none:=fun k e b hb=>by
   by_cases hbx:b=x
   ·rw[hbx,upd_same] at hb
    cases hb
   ·rw[upd_ne hbx] at hb
    exact k b (fresh_back e hb)
  refine zff (D:={ nx:=_,rt:=Q }) (a:=x) (fs':=[("number", .int st.num)]) (zad (ev_var rfl) hM.o T.cls T.n_number zaW) (fun _=>ev_var rfl) hx T.ccl T.c_number (by show 0<1000;decide) rfl fun H1 e1=>?_
  have k1:=st1 (o2:= .ins CC dx [("number", .int st.num)]) (fun b o _ h=>h) e1
  have b1:=bk (o2:= .ins CC dx [("number", .int st.num)]) (fun b h=>h) e1
  have x1:(upd H1 x (.ins CC dx [("number", .int st.num)])) x=some (.ins CC dx [("number", .int st.num)]):=upd_same
  generalize upd H1 x (.ins CC dx [("number", .int st.num)])=H2 at k1 b1 x1 ⊢
  have hM2:=keep k1
  refine zff (D:={ nx:=_,rt:=Q }) (a:=x) (fs':=[("number", .int st.num),("call", .int st.call)]) (zad (ev_var rfl) hM2.o T.cls T.n_call zcM) (fun _=>ev_var rfl) x1 T.ccl T.c_call (by show 1<1000;decide) rfl fun H3 e3=>?_
  have k3:=st1 (o2:= .ins CC dx [("number", .int st.num),("call", .int st.call)]) k1 e3
  have b3:=bk (o2:= .ins CC dx [("number", .int st.num),("call", .int st.call)]) b1 e3
  have x3:(upd H3 x (.ins CC dx [("number", .int st.num),("call", .int st.call)])) x=some (.ins CC dx [("number", .int st.num),("call", .int st.call)]):=upd_same
  generalize upd H3 x (.ins CC dx [("number", .int st.num),("call", .int st.call)])=H4 at k3 b3 x3 ⊢
  have hM4:=keep k3
  refine zff (D:={ nx:=_,rt:=Q }) (a:=x) (fs':=[("number", .int st.num),("call", .int st.call),("at", .int st.pc)]) (zbw T hM4 (ev_var rfl)) (fun _=>ev_var rfl) x3 T.ccl T.c_at (by show 2<1000;decide) rfl fun H5 e5=>?_
  have k5:=st1 (o2:= .ins CC dx [("number", .int st.num),("call", .int st.call),("at", .int st.pc)]) k3 e5
  have b5:=bk (o2:= .ins CC dx [("number", .int st.num),("call", .int st.call),("at", .int st.pc)]) b3 e5
  have x5:(upd H5 x (.ins CC dx [("number", .int st.num),("call", .int st.call),("at", .int st.pc)])) x=some (.ins CC dx [("number", .int st.num),("call", .int st.call),("at", .int st.pc)]):=upd_same
  generalize upd H5 x (.ins CC dx [("number", .int st.num),("call", .int st.call),("at", .int st.pc)])=H6 at k5 b5 x5 ⊢
  have hM6:=keep k5
  refine zc8 (D:={ nx:=_,rt:=Q }) (a:=x) (xs:=st.cells.map V.int) (el_list (K:=K) (za0 T hM6 (ev_var rfl)) (sq_of hM6.cells)) (fun _=>ev_var rfl) x5 T.ccl T.c_cells (by show 3<1000;decide) fun lc H7 hlc e7 h7=>?_
  have nlc:lc≠x:=fun z=>by rw[z,x5] at hlc;cases hlc
  have k7:=st1 (o2:= .ins CC dx (putF "cells" (.ref lc) [("number", .int st.num),("call", .int st.call),("at", .int st.pc)])) k5 e7
  have b7:=bk (o2:= .ins CC dx (putF "cells" (.ref lc) [("number", .int st.num),("call", .int st.call),("at", .int st.pc)])) b5 e7
  have x7:(upd H7 x (.ins CC dx (putF "cells" (.ref lc) [("number", .int st.num),("call", .int st.call),("at", .int st.pc)]))) x=some (.ins CC dx [("number", .int st.num),("call", .int st.call),("at", .int st.pc),("cells", .ref lc)]):=upd_same
  have c7:(upd H7 x (.ins CC dx (putF "cells" (.ref lc) [("number", .int st.num),("call", .int st.call),("at", .int st.pc)]))) lc=some (iL st.cells):=by rw[upd_ne nlc];exact h7
  generalize upd H7 x (.ins CC dx (putF "cells" (.ref lc) [("number", .int st.num),("call", .int st.call),("at", .int st.pc)]))=H8 at k7 b7 x7 c7 ⊢
  have hM8:=keep k7
  refine zc8 (a:=x) (xs:=st.pile.map V.int) (el_list (K:=K) (zam T hM8 (ev_var rfl)) (sq_of hM8.pile)) (fun _=>ev_var rfl) x7 T.ccl T.c_pile (by show 4<1000;decide) fun lp H9 hlp e9 h9=>?_
  have nlp:lp≠x:=fun z=>by rw[z,x7] at hlp;cases hlp
  exact q _ lc lp (st1 k7 e9) (b5 _ hlc) (b7 _ hlp) (bk b7 e9) ⟨upd_same,by show (upd H9 x _) lc=_;rw[upd_ne nlc];exact e9 _ _ c7,by show (upd H9 x _) lp=_;rw[upd_ne nlp];exact h9⟩
end
section
variable {K:PySem.W.Frag} {σ:L2.St} {H H':Hp} {ta tb te tl tv:TE} {D:Ends} {tz:TS} {E:XK}
variable {C CC m aW aH aS:Addr} {mg:Str→Option Value} {im:Img} {A:MA} {st:MS}
theorem zgS {xs ys:List V} (h:EvL te σ H xs) (e:xs=ys):EvL te σ H ys:=by
 rw[← e]
 exact h
theorem Stp.stay {m g:Addr} {A A':MA} {o:HO} (s:Stp m H H' A A') (n:g∉own m A) (h:H g=some o):H' g=some o∧g∉own m A':=⟨s.k.keep g o n h,fun z=>by
 rcases s.o g z with y|y
 ·exact n y
 ·rw[h] at y;cases y⟩
theorem zhB {a C dx:Addr} {fs fs':List (Str×V)} {f:Str} {v:V} (hv:Ev tv σ H v) (ha:∀ H',Ev ta σ H' (.ref a)) (h:H a=some (.ins C dx fs)) (c:Cls K C) (n:NoAttr K C f) (hl:fs.length<1000) (hp:putF f v fs=fs') (k:∀ H1,Ex H H1→tz D σ (upd H1 a (.ins C dx fs'))):tSeq (sFld K ta tv f) tz D σ H:=zff (D:={ D with nx:=tz D }) hv ha h c n hl hp k
/-- a number of the machine set: num,at,call,calls -/
theorem zda {n2 p2 c2 cs2:Nat} {f:Str} {x:Nat} (T:zay K mg C CC aW aH aS) (hM:Mac H C CC im m A st) (hv:Ev tv σ H (.int x)) (ha:∀ H',Ev ta σ H' (.ref m)) (n:NoAttr K C f) (hp:putF f (.int (x:Int)) (zap im A st)=zap im A { st with num:=n2,pc:=p2,call:=c2,calls:=cs2 })
  (k:∀ H1,Stp m H H1 A A→Mac H1 C CC im m A { st with num:=n2,pc:=p2,call:=c2,calls:=cs2 }→tz D σ H1):tSeq (sFld K ta tv f) tz D σ H :=
 zhB hv ha hM.o T.cls n (by show 16<1000;decide) hp fun H1 e1=>k _ ((Stp.of e1 A).trans (zdz (hM.ex e1))) ((hM.ex e1).setN n2 p2 c2 cs2 st.began)
/-- a new pile,new cells -/
theorem zf5 {xs:List Int} (T:zay K mg C CC aW aH aS) (hM:Mac H C CC im m A st) (hv:EvL tv σ H (xs.map V.int)) (ha:∀ H',Ev ta σ H' (.ref m))
  (k:∀ p H1,H p=none→Stp m H H1 A { A with lpl:=p }→Mac H1 C CC im m { A with lpl:=p } { st with pile:=xs }→D.nx σ H1):sFld K ta tv "pile" D σ H :=
 zc8 hv ha hM.o T.cls T.n_pile (by show 16<1000;decide) fun p H1 hp e1 h1=>by
  have hM1:=hM.ex e1
  have n1:p∉own m A:=fun z=>hM.known z hp
  have n2:p∉ro A:=fun z=>hM.knownR z hp
  refine k p _ hp (ze0 (A':={ A with lpl:=p }) (Stp.of e1 A) hp (fun a ha=>?_) rfl hM1.o) (hM1.newP h1 n1 n2)
  simp only[own,List.mem_cons,List.not_mem_nil,or_false] at ha ⊢
  rcases ha with z|z|z|z|z|z
  ·exact .inl (.inl z)
  ·exact .inl (.inr (.inl z))
  ·exact .inl (.inr (.inr (.inl z)))
  ·exact .inr z
  ·exact .inl (.inr (.inr (.inr (.inr (.inl z)))))
  ·exact .inl (.inr (.inr (.inr (.inr (.inr z)))))
theorem zif {xs:List Int} (T:zay K mg C CC aW aH aS) (hM:Mac H C CC im m A st) (hv:EvL tv σ H (xs.map V.int)) (ha:∀ H',Ev ta σ H' (.ref m))
  (k:∀ p H1,H p=none→Stp m H H1 A { A with lcl:=p }→Mac H1 C CC im m { A with lcl:=p } { st with cells:=xs }→D.nx σ H1):sFld K ta tv "cells" D σ H :=
 zc8 hv ha hM.o T.cls T.n_cells (by show 16<1000;decide) fun p H1 hp e1 h1=>by
  have hM1:=hM.ex e1
  have n1:p∉own m A:=fun z=>hM.known z hp
  have n2:p∉ro A:=fun z=>hM.knownR z hp
  refine k p _ hp (ze0 (A':={ A with lcl:=p }) (Stp.of e1 A) hp (fun a ha=>?_) rfl hM1.o) (hM1.newC h1 n1 n2)
  simp only[own,List.mem_cons,List.not_mem_nil,or_false] at ha ⊢
  rcases ha with z|z|z|z|z|z
  ·exact .inl (.inl z)
  ·exact .inl (.inr (.inl z))
  ·exact .inr z
  ·exact .inl (.inr (.inr (.inr (.inl z))))
  ·exact .inl (.inr (.inr (.inr (.inr (.inl z)))))
  ·exact .inl (.inr (.inr (.inr (.inr (.inr z)))))
theorem zf3 {xs:List Int} (T:zay K mg C CC aW aH aS) (hM:Mac H C CC im m A st) (hv:EvL tv σ H (xs.map V.int)) (ha:∀ H',Ev ta σ H' (.ref m))
  (k:∀ p H1,H p=none→Stp m H H1 A { A with lpl:=p }→Mac H1 C CC im m { A with lpl:=p } { st with pile:=xs }→tz D σ H1):tSeq (sFld K ta tv "pile") tz D σ H:=zf5 (D:={ D with nx:=tz D }) T hM hv ha k
theorem zgc {xs:List Int} (T:zay K mg C CC aW aH aS) (hM:Mac H C CC im m A st) (hv:EvL tv σ H (xs.map V.int)) (ha:∀ H',Ev ta σ H' (.ref m))
  (k:∀ p H1,H p=none→Stp m H H1 A { A with lcl:=p }→Mac H1 C CC im m { A with lcl:=p } { st with cells:=xs }→tz D σ H1):tSeq (sFld K ta tv "cells") tz D σ H:=zif (D:={ D with nx:=tz D }) T hM hv ha k
theorem zbc {a C dx:Addr} {fs fs':List (Str×V)} {f:Str} {x y:Int} (ha:∀ H',Ev ta σ H' (.ref a)) (h:H a=some (.ins C dx fs)) (c:Cls K C) (n:NoAttr K C f) (hx:fs.lookup f=some (.int x)) (hv:∀ H',Ex H H'→Ev tv σ H' (.int y)) (hl:fs.length<1000) (hp:putF f (.int (x+y)) fs=fs') (k:∀ H1,Ex H H1→tz D σ (upd H1 a (.ins C dx fs'))):tSeq (sFldAug K ta tv rAdd f) tz D σ H:=zdc (D:={ D with nx:=tz D }) ha h c n hx hv hl hp k
/-- l.append(e),e made on the way -/
theorem zf8 {l:Addr} {xs:List V} (ha:Ev ta σ H (.ref l)) (hl:H l=some (.lst xs)) (k:∀ H1,Ex H H1→te σ H1 fun v H2=>rAppend (.ref l) [v] H2 fun _ H3=>tz D σ H3):tSeq (tDrop (tBM K "list" rAppend ta (tCons te tNil))) tz D σ H:=ha H (Ex.refl H) _ fun H1 e1 =>
 ⟨Or.inl ⟨rfl,xs,sq_of (e1 l _ hl)⟩,k H1 e1⟩
theorem zb2 (k:Nat):∀ l:List (Nat×Nat),valV (zeq l) (Sum.inl (k:Int):Key)=(l.lookup k).map fun n=>V.int (n:Int)
 | []=>rfl
 | p::r=>by
  have e:zeq (p::r)=((Sum.inl (p.1:Int):Key),V.int (p.2:Int))::zeq r:=rfl
  rw[e]
  by_cases h:k=p.1
  ·rw[valV_pos (show ((Sum.inl (p.1:Int):Key),V.int (p.2:Int)).1=Sum.inl (k:Int) by rw[h])]
   rw[List.lookup_cons,show (k==p.1)=true by rw[h];exact beq_self_eq_true _]<;>rfl
  ·rw[valV_neg fun z=>h (by injection z with z;omega),zb2 k r,List.lookup_cons,show (k==p.1)=false from beq_eq_false_iff_ne.mpr h]
end
section
variable {P:Program} {w:World} {K:PySem.W.Frag} {mg:Str→Option Value} {base:Heap} {C CC aW aH aS:Addr}
abbrev zg7:Stmt:=(C8.clsBody (zaz 26)).getD 12 (.Pass ⟨0,0,0,0⟩)
theorem zdy:FnScope ["self","at","many","many_cells","rest","given"] ["self"] (fnScope zg7):=fnScope_by (by decide +kernel)
def zfJ (us:List V) (im:Img) (st st2:MS):Prop:=us=[]∧zgp im st=some st2
theorem zbN (T:zay K mg C CC aW aH aS) (c_q29:Met P w K mg base 1 C "fault" (zag C CC za6) []) (c_q69:Mak P w K mg base 1 "Caller" CC (zc6 C CC) []) {f:Addr} {fd:FuncData} (me:Meth K C "begin_call" f) (F:C8.Fun K "begin_call" "Machine.begin_call" zg7 f fd) (b:Binds K fd ["self"] []):Met P w K mg base 3 C "begin_call" (zag C CC zfJ) []:=by
 refine met0 T.cls me F b zdy (fun vs H Q E h=>?_) (fun cdv A0 outer s H vs Q E hr h=>?_)
 ·obtain ⟨_,_,_,_,_,_,rfl,_,⟨rfl,_⟩,_⟩:=h
  rfl
 ·obtain ⟨m,im,A,st,st2,us,rfl,hM,⟨rfl,hf⟩,q⟩:=h
  have hu:=hu_of hr
  have m_len:=T.m_len
  have g_CALL_SIZE:=T.g_CALL_SIZE
  have g_MOST_CALLS:=T.g_MOST_CALLS
  refine ⟨_,(pss_cons (ps_asg (pe_slice sl_list (pe_fld (pv 0) rfl) (po_some (pe_op op_add (pe_fld (pv 0) rfl) pe_int)) (po_some (pe_op op_add (pe_fld (pv 0) rfl) (C8.pe_gc (by rfl) g_CALL_SIZE)))) (L2.pg_lst rfl (pgs_cons (pg_name (i:=1) zdy.nd rfl (.inl rfl)) (pgs_cons (pg_name (i:=2) zdy.nd rfl (.inl rfl)) (pgs_cons (pg_name (i:=3) zdy.nd rfl (.inl rfl)) pgs_nil)))))
   (pss_cons (ps_if (pt_cmpR op_eq (pe_op op_add (pe_callB call_len_seq (by rfl) m_len PySem.boot_len (pa_cons (pe_fld (pv 0) rfl) pa_nil)) pe_int) (C8.pe_gc (by rfl) g_MOST_CALLS) (nomark _)) (pss_cons (ps_expr (C8.pe_mt c_q29 hr (by first|decide|exact Nat.le_refl _|omega) (pv 0) (pa_cons pe_str pa_nil)))
   (pss_one ps_retN)) pss_nil)
   (pss_cons (ps_set (i:=4) zdy.nd rfl (.inl rfl) (pe_op op_sub (pe_callB call_len_seq (by rfl) m_len PySem.boot_len (pa_cons (pe_fld (pv 0) rfl) pa_nil)) (pv 2)))
   (pss_cons (ps_set (i:=5) zdy.nd rfl (.inl rfl) (pe_slice sl_list (pe_fld (pv 0) rfl) (po_some (pv 4)) po_none))
   (pss_cons (ps_fld (pv 0) (pe_slice sl_list (pe_fld (pv 0) rfl) po_none (po_some (pv 4))) rfl)
   (pss_cons (ps_expr (pe_bm PySem.F.plainAttrs_list PySem.F.slot_list_append PySem.F.type_list_append mt_append (pe_fld (pv 0) rfl) (pa_cons (C8.pe_mk c_q69 hr (by first|decide|exact Nat.le_refl _|omega) (by rfl) (pa_cons (pv 0) pa_nil)) pa_nil)))
   (pss_cons (ps_fldaug (pv 0) pe_int in_add)
   (pss_cons (ps_fld (pv 0) (pe_fld (pv 0) rfl) rfl)
   (pss_cons (ps_fld (pv 0) (pe_dget hu (pe_fld (pv 0) rfl) (pv 1) (fun _ _=>rfl)) rfl)
   (pss_cons (ps_fld (pv 0) (pv 1) rfl)
   (pss_cons (ps_fld (pv 0) (pe_op op_cat (pv 5) (pe_op op_rep (pe_lst (pa_cons pe_int pa_nil)) (pe_op op_sub (pv 3) (pv 2)))) rfl)
   (pss_one (ps_fld (pv 0) (pe_lst pa_nil) rfl))))))))))))),?_⟩
  unfold zgp at hf
  split at hf
  ·rename_i a many cells h1 h2 h3
   by_cases hc:st.callers.length+1<32∧many≤st.pile.length∧many≤cells∧cells≤1000∧st.pile.length≤90000∧st.cells.length≤90000
   ·rw[if_pos hc] at hf
    obtain ⟨hc1,hc2,hc3,hc4,hc5,hc6⟩:=hc
    obtain ⟨n,hn,rfl⟩:=Option.map_eq_some_iff.mp hf
    obtain ⟨z1,y1,w1⟩:=zar h1
    obtain ⟨z2,y2,w2⟩:=zar h2
    obtain ⟨z3,y3,w3⟩:=zar h3
    have w1:=zbo w1
    have w2:=zbo w2
    have w3:=zbo w3
    subst w1 w2 w3
    have hl3:=(List.getElem?_eq_some_iff.mp y3).1
    have hcut:cutV (im.code.map V.int) (some ((st.pc+1:Nat):Int)) (some ((st.pc+4:Nat):Int))=[.int a, .int many, .int cells]:=by
     rw[zfl (by omega) (by rw[List.length_map];omega),show st.pc+4-(st.pc+1)=3 by omega,← List.map_drop,← List.map_take]
     have e1:=(List.getElem?_eq_some_iff.mp y1).2
     have e2:=(List.getElem?_eq_some_iff.mp y2).2
     have e3:=(List.getElem?_eq_some_iff.mp y3).2
     rw[List.drop_eq_getElem_cons (by omega),List.drop_eq_getElem_cons (i:=st.pc+1+1) (by omega),List.drop_eq_getElem_cons (i:=st.pc+1+1+1) (by omega)]
     show [V.int im.code[st.pc+1],V.int im.code[st.pc+1+1],V.int im.code[st.pc+1+1+1]]=_
     rw[e1,e2,e3]
    refine el_sl (zbh T hM (ev_var rfl)) (eo_some (i:=((st.pc+1:Nat):Int)) (ev_is (ev_op (zbw T hM (ev_var rfl)) ev_c rv_I0) (congrArg V.int (by omega)))) (eo_some (i:=((st.pc+4:Nat):Int)) (ev_is (ev_op (zbw T hM (ev_var rfl)) ev_c rv_I0) (congrArg V.int (by omega)))) (sq_of hM.r.code) H (Ex.refl H) _ fun p H1 hp e1 h1=>?_
    rw[hcut] at h1
    refine ⟨p,_,rfl,sq_of h1,rfl,_,_,rfl,_,_,rfl,_,_,rfl,rfl,?_⟩
    have hM1:=hM.ex e1
    have hcl:Ev (tFld K (tVar 0) "callers") [some (.ref m),some (.int a),some (.int many),some (.int cells),none,none] H1 (.ref A.lca):=zad (ev_var rfl) hM1.o T.cls T.n_callers zan
    have hlen:A.cs.length=st.callers.length:=hM.r.clrs.len
    refine q_when (b:=false) (et_test (ev_is (ev_op (ev_op (ev_len hcl (sq_of hM1.clrs)) ev_c rv_I0) ev_c (rv_eq rfl)) (congrArg V.bl (decide_eq_false fun z=>?_)))) (fun z=>by cases z) (fun _ H2 e2=>?_)
    ·injection z with z
     rw[List.length_map] at z
     omega
    have hM2:=hM1.ex e2
    refine q_asg (v:= .int ((st.pile.length-many:Nat):Int)) (ev_is (ev_op (ev_len (zam T hM2 (ev_var rfl)) (sq_of hM2.pile)) (ev_var rfl) rv_I0) (congrArg V.int (by rw[List.length_map];omega))) fun H3 e3=>?_
    have hM3:=hM2.ex e3
    refine q_asgL (xs:=(st.pile.drop (st.pile.length-many)).map V.int) (zgS (el_sl (zam T hM3 (ev_var rfl)) (eo_some (ev_var rfl)) eo_none (sq_of hM3.pile)) (by rw[zeI (by rw[List.length_map];omega),List.map_drop])) fun g H4 hg e4 h4=>?_
    have hM4:=hM3.ex e4
    have e14:=e1.trans (e2.trans (e3.trans e4))
    refine zf3 (xs:=st.pile.take (st.pile.length-many)) T hM4 (zgS (el_sl (zam T hM4 (ev_var rfl)) eo_none (eo_some (ev_var rfl)) (sq_of hM4.pile)) (by rw[zgE (by rw[List.length_map];omega),List.map_take])) (fun _=>ev_var rfl) fun p5 H5 hp5 s5 hM5=>?_
    have s05:=(Stp.of e14 A).trans s5
    have ng3:g∉own m A:=fun z=>hM3.known z hg
    obtain ⟨h5,ng5⟩:=s5.stay ng3 h4
    -- the caller
    refine zf8 (zad (ev_var rfl) hM5.o T.cls T.n_callers zan) hM5.clrs fun H6 e6=>?_
    have hM6:=hM5.ex e6
    refine ⟨_,rfl,fun x dx hx hdx nd=>?_⟩
    have e7a:Ex H6 (upd H6 dx (.own x)):=Ex.new hdx
    have hx2:(upd H6 dx (.own x)) x=none:=by rw[upd_ne (Ne.symm nd)];exact hx
    have e7:Ex H6 (upd (upd H6 dx (.own x)) x (.ins CC dx [])):=e7a.trans (Ex.new hx2)
    have hM7:=hM6.ex e7
    have x7:(upd (upd H6 dx (.own x)) x (.ins CC dx [])) x=some (.ins CC dx []):=upd_same
    have k7:∀ b o,H6 b=some o→b≠x:=fun b o hb z=>by rw[z,hx] at hb;cases hb
    generalize upd (upd H6 dx (.own x)) x (.ins CC dx [])=H7 at e7 hM7 x7 ⊢
    refine ⟨x,m,dx,im,{ A with lpl:=p5 },{ st with pile:=st.pile.take (st.pile.length-many) },rfl,x7,hM7,fun z=>?_,fun H8 lc lp k8 hlc hlp b8 cl=>⟨rfl,?_⟩⟩
    ·rcases List.mem_append.mp z with z|z
     ·exact hM6.known z hx
     ·exact hM6.knownR z hx
    have e8:Ex H6 H8:=fun b o hb=>k8 b o (k7 b o hb) (e7 b o hb)
    have hM8:=hM6.ex e8
    refine ⟨A.lca,_, .ref x,rfl,rfl,hM8.clrs,sz_lt (by rw[List.length_map];show A.cs.length<100000;omega),?_⟩
    have n8:∀ b∈[x,lc,lp],b∉own m { A with lpl:=p5 }:=fun b hb z=>by
     simp only[List.mem_cons,List.not_mem_nil,or_false] at hb
     rcases hb with rfl|rfl|rfl
     ·exact hM6.known z hx
     ·exact hM7.known z hlc
     ·exact hM7.known z hlp
    have hM9:=hM8.addR (p:=⟨x,dx,lc,lp⟩) cl n8
    have s9:Stp m H5 (upd H8 A.lca (.lst (A.cs.map (fun c=>V.ref c.a)++[.ref x]))) { A with lpl:=p5 } { A with lpl:=p5,cs:=A.cs++[⟨x,dx,lc,lp⟩] }:=⟨((Stp.of (e6.trans e8) { A with lpl:=p5 }).trans (zal (p:=A.lca) (by simp[own]) hM8.clrs)).k,fun _ h=> .inl h,fun b hb=>by
     have er:ro { A with lpl:=p5,cs:=A.cs++[⟨x,dx,lc,lp⟩] }=ro { A with lpl:=p5 }++[x,lc,lp]:=by
      unfold ro roC
      rw[List.flatMap_append]
      simp
     rw[er] at hb
     rcases List.mem_append.mp hb with hb|hb
     ·exact .inl hb
     ·simp only[List.mem_cons,List.not_mem_nil,or_false] at hb
      rcases hb with rfl|rfl|rfl
      ·exact .inr (fresh_back e6 hx)
      ·exact .inr (fresh_back (e6.trans e7) hlc)
      ·exact .inr (fresh_back (e6.trans e7) hlp)⟩
    obtain ⟨h9,ng9⟩:=s9.stay ng5 h5
    have s09:=s05.trans s9
    show tSeq _ _ _ _ (upd H8 A.lca (.lst (A.cs.map (fun c=>V.ref c.a)++[.ref x])))
    generalize upd H8 A.lca (.lst (A.cs.map (fun c=>V.ref c.a)++[.ref x]))=H9 at hM9 s9 h9 s09 ⊢
    generalize hA9:({ A with lpl:=p5,cs:=A.cs++[⟨x,dx,lc,lp⟩] }:MA)=A9 at hM9 s9 ng9 s09 ⊢
    have hM9:Mac H9 C CC im m A9 { st with pile:=st.pile.take (st.pile.length-many),callers:=st.callers++[⟨st.num,st.call,st.pc,st.cells,st.pile.take (st.pile.length-many)⟩] }:=hM9
    -- self.calls += 1
    refine zbc (fun _=>ev_var rfl) hM9.o T.cls T.n_calls zbO (fun _ _=>ev_c) (by show 16<1000;decide) (zfG (n:=st.calls+1)) fun H10 e10=>?_
    have hM10:=(hM9.ex e10).setN st.num st.pc st.call (st.calls+1) st.began
    have s10:Stp m H9 _ A9 A9:=(Stp.of e10 A9).trans (zdz (o:= .ins C A9.dx (zap im A9 { st with pile:=st.pile.take (st.pile.length-many),callers:=st.callers++[⟨st.num,st.call,st.pc,st.cells,st.pile.take (st.pile.length-many)⟩],calls:=st.calls+1 })) (hM9.ex e10))
    obtain ⟨h10,ng10⟩:=s10.stay ng9 h9
    have s010:=s09.trans s10
    show tSeq _ _ _ _ (upd H10 m (.ins C A9.dx (zap im A9 { st with pile:=st.pile.take (st.pile.length-many),callers:=st.callers++[⟨st.num,st.call,st.pc,st.cells,st.pile.take (st.pile.length-many)⟩],calls:=st.calls+1 })))
    generalize upd H10 m (.ins C A9.dx (zap im A9 { st with pile:=st.pile.take (st.pile.length-many),callers:=st.callers++[⟨st.num,st.call,st.pc,st.cells,st.pile.take (st.pile.length-many)⟩],calls:=st.calls+1 }))=H11 at hM10 s10 h10 s010 ⊢
    refine zda (n2:=st.num) (p2:=st.pc) (c2:=st.calls+1) (cs2:=st.calls+1) (x:=st.calls+1) T hM10 (zad (ev_var rfl) hM10.o T.cls T.n_calls zbO) (fun _=>ev_var rfl) T.n_call ze5 fun H12 s12 hM12=>?_
    obtain ⟨h12,ng12⟩:=s12.stay ng10 h10
    refine zda (n2:=n) (p2:=st.pc) (c2:=st.calls+1) (cs2:=st.calls+1) (x:=n) T hM12 (zcU (zad (ev_var rfl) hM12.o T.cls T.n_numbers zd1) (ev_var rfl) hM12.r.nums (by rw[zb2,hn]<;>rfl)) (fun _=>ev_var rfl) T.n_number zb7 fun H13 s13 hM13=>?_
    obtain ⟨h13,ng13⟩:=s13.stay ng12 h12
    refine zda (n2:=n) (p2:=a) (c2:=st.calls+1) (cs2:=st.calls+1) (x:=a) T hM13 (ev_var rfl) (fun _=>ev_var rfl) T.n_at zeY fun H14 s14 hM14=>?_
    obtain ⟨h14,ng14⟩:=s14.stay ng13 h13
    refine zgc (xs:=st.pile.drop (st.pile.length-many)++List.replicate (cells-many) 0) T hM14 (zgS (zer (ev_var rfl) h14 (zel (k:=cells-many) (ev_is (ev_op (ev_var rfl) (ev_var rfl) rv_I0) (congrArg V.int (by omega))) (by omega)) (by rw[List.length_map,List.length_map,List.length_drop,List.length_replicate];omega)) (by rw[List.map_append])) (fun _=>ev_var rfl) fun p15 H15 hp15 s15 hM15=>?_
    refine zf5 (xs:=[]) T hM15 (el_lst ea_nil (Nat.zero_le _)) (fun _=>ev_var rfl) fun p16 H16 hp16 s16 hM16=>?_
    exact q _ _ (s010.trans (s12.trans (s13.trans (s14.trans (s15.trans s16))))) hM16
   ·rw[if_neg hc] at hf
    cases hf
  ·cases hf
end
section
variable {K:PySem.W.Frag} {σ:L2.St} {H H':Hp} {ta tb te tl tv:TE} {D:Ends} {tz:TS} {E:XK}
theorem zhX {a:Addr} {xs:List V} {y:V} {i:Nat} (hl:Ev tl σ H (.ref a)) (h:H a=some (.lst (xs++[y]))) (q:∀ H1,Ex H H1→tz D (σ.set i (some y)) (upd H1 a (.lst xs))):tSeq (tAsg (tBM0 K "list" rPop tl) (gName i)) tz D σ H:=hl H (Ex.refl H) _ fun H1 e1=>by
 have h1:=e1 _ _ h
 refine ⟨.inl ⟨rfl,_,sq_of h1⟩,a,_,y,rfl,rfl,h1,?_,?_⟩
 ·rw[List.length_append,List.length_singleton,Nat.add_sub_cancel]
  rw[List.getElem?_append_right (Nat.le_refl _),Nat.sub_self]<;>rfl
 ·rw[List.dropLast_concat]
  exact q H1 e1
theorem Mac.objN {C CC m:Addr} {im:Img} {A:MA} {st:MS} (h:Mac H C CC im m A st) {num pc call calls began:Nat} (g:∀ b o,b≠m→H b=some o→H' b=some o) (ho:H' m=some (.ins C A.dx (zap im A { st with num:=num,pc:=pc,call:=call,calls:=calls,began:=began }))):Mac H' C CC im m A { st with num:=num,pc:=pc,call:=call,calls:=calls,began:=began } :=
 (h.setN num pc call calls began).keep (fun b _ o hb=>by
  by_cases e:b=m
  ·subst e
   rw[upd_same] at hb
   rw[ho,← hb]
  ·rw[upd_ne e] at hb
   exact g b o e hb) fun b xs hb=>by
  by_cases e:b=m
  ·subst e
   rw[upd_same] at hb
   cases hb
  ·rw[upd_ne e] at hb
   exact g b _ e hb
theorem Stp.clr {CC m:Addr} {A A':MA} {p:CA} {c:CS} (s:Stp m H H' A A') (cl:zdP H CC p c) (n:∀ b∈[p.a,p.lc,p.lp],b∉own m A):zdP H' CC p c∧∀ b∈[p.a,p.lc,p.lp],b∉own m A':=by
 have h1:=s.stay (n _ (by simp)) cl.ho
 have h2:=s.stay (n _ (by simp)) cl.hc
 have h3:=s.stay (n _ (by simp)) cl.hp
 refine ⟨⟨h1.1,h2.1,h3.1⟩,fun b hb=>?_⟩
 simp only[List.mem_cons,List.not_mem_nil,or_false] at hb
 rcases hb with rfl|rfl|rfl
 ·exact h1.2
 ·exact h2.2
 ·exact h3.2
/-- a.f,a.g=x,y -/
theorem ziT {a C dx:Addr} {fs fs':List (Str×V)} {f g:Str} {x y:V} {t1 t2:TE} (h1:Ev t1 σ H x) (h2:Ev t2 σ H y) (ha:∀ H',Ev ta σ H' (.ref a)) (hb:∀ H',Ev tb σ H' (.ref a)) (h:H a=some (.ins C dx fs)) (c:Cls K C) (n1:NoAttr K C f) (n2:NoAttr K C g) (hl:fs.length<1000) (hl2:(putF f x fs).length<1000) (hp:putF g y (putF f x fs)=fs') (k:∀ H1,Kp [a] H H1→(∀ b o,b≠a→H b=some o→H1 b=some o)→H1 a=some (.ins C dx fs')→tz D σ H1) :
  tSeq (tAsg (tTup (tCons t1 (tCons t2 tNil))) (gTup K 2 (gCons (ziv K ta f) (gCons (ziv K tb g) gNil)))) tz D σ H :=
 eu_tup (ea_cons h1 (ea_cons h2 ea_nil)) (by show 2≤100000;decide) H (Ex.refl H) (fun x H1=>gTup K 2 (gCons (ziv K ta f) (gCons (ziv K tb g) gNil)) x σ H1 fun σ' H'=>tz D σ' H') fun p H1 hp0 e1 hp1=>by
  have h11:=e1 _ _ h
  refine ⟨p,_,rfl,st_of hp1,rfl,_,_,rfl,ha H1 H1 (Ex.refl _) _ fun H2 e2=>⟨a,C,dx,fs,rfl,e2 _ _ h11,c,n1,hl,_,_,rfl,hb _ _ (Ex.refl _) _ fun H3 e3=>⟨a,C,dx,putF f x fs,rfl,e3 _ _ upd_same,c,n2,hl2,rfl,?_⟩⟩⟩
  rw[hp]
  have key:∀ b o,b≠a→H b=some o→(upd H3 a (.ins C dx fs')) b=some o:=fun b o nb hb=>by
   rw[upd_ne nb]
   exact e3 _ _ (by rw[upd_ne nb];exact e2 _ _ (e1 _ _ hb))
  refine k _ ⟨fun b o hb ho=>key b o (fun z=>hb (by rw[z];exact List.mem_singleton.mpr rfl)) ho,fun b hb=>?_⟩ key upd_same
  by_cases hba:b=a
  ·rw[hba,upd_same] at hb;cases hb
  ·rw[upd_ne hba] at hb
   have h2:=fresh_back e3 hb
   rw[upd_ne hba] at h2
   exact fresh_back (e1.trans e2) h2
end
section
variable {P:Program} {w:World} {K:PySem.W.Frag} {mg:Str→Option Value} {base:Heap} {C CC aW aH aS:Addr}
abbrev zdO:Stmt:=(C8.clsBody (zaz 26)).getD 13 (.Pass ⟨0,0,0,0⟩)
theorem zc0:FnScope ["self","many","worth","one"] ["self","many"] (fnScope zdO):=fnScope_by (by decide +kernel)
def zfD (us:List V) (im:Img) (st st2:MS):Prop:=us=[.int 1]∧zgY im st=some st2
theorem zg0 (T:zay K mg C CC aW aH aS) (c_q25:Met P w K mg base 2 C "end_by" (zag C CC fEnd) []) {f:Addr} {fd:FuncData} (me:Meth K C "give" f) (F:C8.Fun K "give" "Machine.give" zdO f fd) (b:Binds K fd ["self","many"] []):Met P w K mg base 3 C "give" (zag C CC zfD) []:=by
 refine met0 T.cls me F b zc0 (fun vs H Q E h=>?_) (fun cdv A0 outer s H vs Q E hr h=>?_)
 ·obtain ⟨_,_,_,_,_,_,rfl,_,⟨rfl,_⟩,_⟩:=h
  rfl
 ·obtain ⟨m,im,A,st,st2,us,rfl,hM,⟨rfl,hf⟩,q⟩:=h
  have hu:=hu_of hr
  have m_list:=T.m_list
  have g_CALL_SIZE:=T.g_CALL_SIZE
  refine ⟨_,(pss_cons (ps_set (i:=2) zc0.nd rfl (.inl rfl) pe_non)
   (pss_cons (ps_if (pt_cmpR op_eq (pv 1) pe_int (nomark _)) (pss_one (ps_set (i:=2) zc0.nd rfl (.inl rfl) (pe_bm0 PySem.F.plainAttrs_list PySem.F.slot_list_pop PySem.F.type_list_pop mt_pop (pe_fld (pv 0) rfl)))) pss_nil)
   (pss_cons (ps_if (pt_cmpR (Wt.op_eq0 hu) (pe_fld (pv 0) rfl) (pe_lst pa_nil) (nomark _)) (pss_cons (ps_expr (C8.pe_mt c_q25 hr (by first|decide|exact Nat.le_refl _|omega) (pv 0) (pa_cons (pv 2) pa_nil)))
   (pss_one ps_retN)) pss_nil)
   (pss_cons (ps_set (i:=3) zc0.nd rfl (.inl rfl) (pe_bm0 PySem.F.plainAttrs_list PySem.F.slot_list_pop PySem.F.type_list_pop mt_pop (pe_fld (pv 0) rfl)))
   (pss_cons (ps_asg (pe_tup (pa_cons (pe_fld (pv 3) rfl) (pa_cons (pe_fld (pv 3) rfl) pa_nil))) (pg_tup rfl (pgs_cons (Wt.pg_fld (pv 0)) (pgs_cons (Wt.pg_fld (pv 0)) pgs_nil))))
   (pss_cons (ps_fld (pv 0) (pe_op op_add (pe_fld (pv 3) rfl) (C8.pe_gc (by rfl) g_CALL_SIZE)) rfl)
   (pss_cons (ps_fld (pv 0) (pe_callTy call_list_of (by rfl) m_list Wt.bt_list (pa_cons (pe_fld (pv 3) rfl) pa_nil)) rfl)
   (pss_cons (ps_fld (pv 0) (pe_callTy call_list_of (by rfl) m_list Wt.bt_list (pa_cons (pe_fld (pv 3) rfl) pa_nil)) rfl)
   (pss_one (ps_if (pt_cmpR op_notN (pv 2) pe_non (nomark _)) (pss_one (ps_expr (pe_bm PySem.F.plainAttrs_list PySem.F.slot_list_append PySem.F.type_list_append mt_append (pe_fld (pv 0) rfl) (pa_cons (pv 2) pa_nil)))) pss_nil)))))))))),?_⟩
  unfold zgY at hf
  cases hp:zdb st.pile with
  | none=>rw[hp] at hf;cases hf
  | some py =>
   obtain ⟨p,y⟩:=py
   rw[hp] at hf
   dsimp only at hf
   refine q_asg (v:= .non) ev_c fun H1 e1=>?_
   dsimp only[List.set]
   have hM1:=hM.ex e1
   refine q_when (b:=true) (et_test (ev_is (ev_op (ev_var rfl) ev_c (rv_eq rfl)) (congrArg V.bl (by decide +kernel)))) (fun _ H2 e2=>?_) (fun z=>by cases z)
   have hM2:=hM1.ex e2
   refine ze7 (p:=p) (y:=y) (zam T hM2 (ev_var rfl)) (by rw[← zaO hp];exact hM2.pile) fun H3 e3=>?_
   have hM3:=(hM2.ex e3).setP p
   have s3:Stp m H (upd H3 A.lpl (iL p)) A A:=(Stp.of (e1.trans (e2.trans e3)) A).trans (zal (p:=A.lpl) (by simp[own]) (hM2.ex e3).pile)
   generalize upd H3 A.lpl (iL p)=H4 at hM3 s3
   show tSeq _ _ _ [some (.ref m),some (.int 1),some (.int y),none] H4
   have hcs:=hM3.r.clrs.len
   cases hc:st.callers with
   | nil =>
    rw[hc] at hf hcs
    dsimp only at hf
    obtain ⟨x,hx,rfl⟩:=Option.map_eq_some_iff.mp hf
    have hcs0:A.cs=[]:=List.eq_nil_of_length_eq_zero hcs
    refine q_when (b:=true) (et_is (zgb (zad (ev_var rfl) hM3.o T.cls T.n_callers zan) hM3.clrs) (by rw[hcs0]<;>rfl)) (fun _ H5 e5=>?_) (fun z=>by cases z)
    refine ze3 (us:=[.int y]) (hM3.ex e5) (ev_var rfl) (fun _ _ _=>rfl) (fun _ _=>ea_cons (ev_var rfl) ea_nil) ⟨y,x,rfl,hx,rfl⟩ fun H6 A6 s6 hM6=>?_
    rw[hc] at hM6
    exact q _ _ (s3.trans ((Stp.of e5 A).trans s6)) hM6
   | cons c0 cr =>
    rw[hc] at hf hcs
    dsimp only at hf
    rw[← hc] at hf
    cases hpc:ziw st.callers with
    | none=>rw[hpc] at hf;cases hf
    | some qc =>
     obtain ⟨cs,c⟩:=qc
     rw[hpc] at hf
     dsimp only at hf
     by_cases hl:c.pile.length<90000
     ·rw[if_pos hl] at hf
      cases hf
      have ec:=zfw hpc
      refine q_when (b:=false) (et_is (zgb (zad (ev_var rfl) hM3.o T.cls T.n_callers zan) hM3.clrs) (by
       cases hA:A.cs with
       | nil=>rw[hA] at hcs;cases hcs
       | cons _ _=>rfl)) (fun z=>by cases z) (fun _ H5 e5=>?_)
      have hM5:=hM3.ex e5
      obtain ⟨qs,pc,eq,cl,hM5b,sub⟩:=(hM5.ex (Ex.refl _)).popR ec
      refine zhX (xs:=qs.map fun c=>V.ref c.a) (y:= .ref pc.a) (zad (ev_var rfl) hM5.o T.cls T.n_callers zan) (by rw[hM5.clrs,eq,List.map_append]<;>rfl) fun H6 e6=>?_
      have hM6:=hM5.ex e6
      have cl6:=cl.keep (H':=H6) fun b _ o ho=>e6 b o ho
      have key:pc.a∈ro A∧pc.lc∈ro A∧pc.lp∈ro A:=by
       unfold ro roC
       rw[eq,List.flatMap_append]
       simp
      obtain ⟨qs2,pc2,eq2,_,hM7,_⟩:=hM6.popR ec
      have eqq:qs2=qs:=by
       have:=eq.symm.trans eq2
       exact (List.append_inj' this rfl).1.symm
      rw[eqq] at hM7
      have hk6:A.lca∈own m A:=by simp[own]
      have n1:A.lca≠pc.a:=fun z=>hM.dis _ key.1 (by rw[← z];exact hk6)
      have n2:A.lca≠pc.lc:=fun z=>hM.dis _ key.2.1 (by rw[← z];exact hk6)
      have n3:A.lca≠pc.lp:=fun z=>hM.dis _ key.2.2 (by rw[← z];exact hk6)
      have cl7:zdP (upd H6 A.lca (.lst (qs.map fun c=>V.ref c.a))) CC pc c:=⟨by rw[upd_ne n1.symm];exact cl6.ho,by rw[upd_ne n2.symm];exact cl6.hc,by rw[upd_ne n3.symm];exact cl6.hp⟩
      have s7:Stp m H4 (upd H6 A.lca (.lst (qs.map fun c=>V.ref c.a))) A { A with cs:=qs }:=⟨((Stp.of (e5.trans e6) A).trans (zal (p:=A.lca) hk6 hM6.clrs)).k,fun _ h=> .inl h,fun b hb=> .inl (sub b hb)⟩
      generalize upd H6 A.lca (.lst (qs.map fun c=>V.ref c.a))=H7 at hM7 s7 cl7
      dsimp only[List.set]
      have s07:=s3.trans s7
      have nm7:∀ b∈[pc.a,pc.lc,pc.lp],b∉own m { A with cs:=qs }:=fun b hb=>by
       simp only[List.mem_cons,List.not_mem_nil,or_false] at hb
       rcases hb with rfl|rfl|rfl
       ·exact hM.dis _ key.1
       ·exact hM.dis _ key.2.1
       ·exact hM.dis _ key.2.2
      generalize hA7:({ A with cs:=qs }:MA)=A7 at hM7 s7 s07 nm7
      refine ziT (a:=m) (x:= .int c.num) (y:= .int c.call) (zad (ev_var rfl) cl7.ho T.ccl T.c_number rfl) (zad (ev_var rfl) cl7.ho T.ccl T.c_call rfl) (fun _=>ev_var rfl) (fun _=>ev_var rfl) hM7.o T.cls T.n_number T.n_call (by show 16<1000;decide) (by show 16<1000;decide) (by rw[zb7,ze5]) fun H8 k8 g8 h8=>?_
      have hM8:=hM7.objN (num:=c.num) (pc:=st.pc) (call:=c.call) (calls:=st.calls) (began:=st.began) g8 h8
      have s8:Stp m H7 H8 A7 A7:=⟨⟨fun b o hb ho=>k8.keep b o (fun z=>hb (by rw[List.mem_singleton.mp z];simp[own])) ho,k8.there⟩,fun _ h=> .inl h,fun _ h=> .inl h⟩
      obtain ⟨cl8,nm8⟩:=s8.clr cl7 nm7
      refine zda (n2:=c.num) (p2:=c.pc+4) (c2:=c.call) (cs2:=st.calls) (x:=c.pc+4) T hM8 (ev_is (ev_op (zad (ev_var rfl) cl8.ho T.ccl T.c_at rfl) ev_c rv_I0) (congrArg V.int (by omega))) (fun _=>ev_var rfl) T.n_at zeY fun H9 s9 hM9=>?_
      obtain ⟨cl9,nm9⟩:=s9.clr cl8 nm8
      refine zgc (xs:=c.cells) T hM9 (el_list (K:=K) (zad (ev_var rfl) cl9.ho T.ccl T.c_cells rfl) (sq_of cl9.hc)) (fun _=>ev_var rfl) fun p10 H10 hp10 s10 hM10=>?_
      obtain ⟨cl10,nm10⟩:=s10.clr cl9 nm9
      refine zf3 (xs:=c.pile) T hM10 (el_list (K:=K) (zad (ev_var rfl) cl10.ho T.ccl T.c_pile rfl) (sq_of cl10.hp)) (fun _=>ev_var rfl) fun p11 H11 hp11 s11 hM11=>?_
      refine s_when (b:=true) (za3 (ev_var (v:= .int y) rfl) (by rfl)) (fun _ H12 e12=>?_) (fun z=>by cases z)
      have hM12:=hM11.ex e12
      refine zej (v:=y) hM12.pile (zam T hM12 (ev_var rfl)) (ev_var rfl) hl fun H13 e13=>?_
      have hM13:=hM12.ex e13
      exact q _ _ (s07.trans (s8.trans (s9.trans (s10.trans (s11.trans ((Stp.of (e12.trans e13) _).trans (zal (p:=p11) (by simp[own]) hM13.pile))))))) (hM13.setP _)
     ·rw[if_neg hl] at hf
      cases hf
end
section
variable {P:Program} {w:World} {K:PySem.W.Frag} {mg:Str→Option Value} {base:Heap} {C CC aW aH aS:Addr}
abbrev zdK:Stmt:=(C8.clsBody (zaz 26)).getD 8 (.Pass ⟨0,0,0,0⟩)
theorem zc2:FnScope ["self","number","word","has"] ["self"] (fnScope zdK):=fnScope_by (by decide +kernel)
def zhw (us:List V) (im:Img) (st st2:MS):Prop:=us=[]∧doC im st=some st2
theorem zdm (T:zay K mg C CC aW aH aS) (c_q3:Met P w K mg base 3 C "do_signed" (zag C CC zfy) []) (c_q0:Met P w K mg base 3 C "begin_call" (zag C CC zfJ) []) (c_q35:Met P w K mg base 3 C "give" (zag C CC zfD) []) (c_q29:Met P w K mg base 1 C "fault" (zag C CC za6) []) (c_q7:Met P w K mg base 2 C "do_plain" (zag C CC zcV) [])
  {f:Addr} {fd:FuncData} (me:Meth K C "do_code" f) (F:C8.Fun K "do_code" "Machine.do_code" zdK f fd) (b:Binds K fd ["self"] []):Met P w K mg base 4 C "do_code" (zag C CC zhw) []:=by
 refine met0 T.cls me F b zc2 (fun vs H Q E h=>?_) (fun cdv A0 outer s H vs Q E hr h=>?_)
 ·obtain ⟨_,_,_,_,_,_,rfl,_,⟨rfl,_⟩,_⟩:=h
  rfl
 ·obtain ⟨m,im,A,st,st2,us,rfl,hM,⟨rfl,hf⟩,q⟩:=h
  have g_WORDS:=T.g_WORDS
  have g_SIGNED:=T.g_SIGNED
  have g_HAS:=T.g_HAS
  refine ⟨_,(pss_cons (ps_set (i:=1) zc2.nd rfl (.inl rfl) (pe_ix ix_list (pe_fld (pv 0) rfl) (pe_fld (pv 0) rfl) (fun _ _=>rfl)))
   (pss_cons (ps_set (i:=2) zc2.nd rfl (.inl rfl) (pe_ix ix_tup (C8.pe_gc (by rfl) g_WORDS) (pv 1) (fun _ _=>rfl)))
   (pss_one (ps_if (pt_cmpR op_in_seq (pv 2) (C8.pe_gc (by rfl) g_SIGNED) (by with_unfolding_all rfl)) (pss_one (ps_expr (C8.pe_mt c_q3 hr (by first|decide|exact Nat.le_refl _|omega) (pv 0) (pa_cons (pv 2) pa_nil)))) (pss_one (ps_if (pt_cmpR op_eq (pv 2) pe_str (nomark _)) (pss_one (ps_expr (C8.pe_mt0 c_q0 hr (by first|decide|exact Nat.le_refl _|omega) (pv 0)))) (pss_one (ps_if (pt_cmpR op_eq (pv 2) pe_str (nomark _)) (pss_one (ps_expr (C8.pe_mt c_q35 hr (by first|decide|exact Nat.le_refl _|omega) (pv 0) (pa_cons (pe_ix ix_list (pe_fld (pv 0) rfl) (pe_op op_add (pe_fld (pv 0) rfl) pe_int) (fun _ _=>rfl)) pa_nil)))) (pss_one (ps_if (pt_cmpR op_eq (pv 2) pe_str (nomark _)) (pss_one (ps_expr (C8.pe_mt c_q29 hr (by first|decide|exact Nat.le_refl _|omega) (pv 0) (pa_cons (pv 2) pa_nil)))) (pss_cons (ps_set (i:=3) zc2.nd rfl (.inl rfl) (pe_ix ix_list (pe_fld (pv 0) rfl) (pe_op op_add (pe_fld (pv 0) rfl) pe_int) (fun _ _=>rfl)))
   (pss_cons (ps_fldaug (pv 0) (pe_op op_add pe_int (pe_ix ix_tup (C8.pe_gc (by rfl) g_HAS) (pv 1) (fun _ _=>rfl))) in_add)
   (pss_one (ps_expr (C8.pe_mt c_q7 hr (by first|decide|exact Nat.le_refl _|omega) (pv 0) (pa_cons (pv 2) (pa_cons (pv 3) pa_nil))))))))))))))))),?_⟩
  unfold doC at hf
  cases hn:im.code[st.pc]? with
  | none=>rw[hn] at hf;cases hf
  | some n =>
   rw[hn] at hf
   dsimp only at hf
   refine q_asg (v:= .int n) (ev_op (zbh T hM (ev_var rfl)) (zbw T hM (ev_var rfl)) (rv_ixL (sq_of hM.r.code) (atI_nat (by rw[List.getElem?_map,hn]<;>rfl)))) fun H1 e1=>?_
   dsimp only[List.set]
   have go:∀ k:Nat,n=(k:Int)→k<20→(∀ H2,Ex H1 H2→tIfS (tTest (tOp (rIn K false) (tVar 2) (tC (.ref aS)))) (tDrop (tMeth C "do_signed" (zag C CC zfy) [] C8.E0 (tVar 0) (tCons (tVar 2) tNil)))
     (tIfS (tTest (tOp rEq (tVar 2) (tC (.str (Str.ofString "call"))))) (tDrop (tMeth C "begin_call" (zag C CC zfJ) [] C8.E0 (tVar 0) tNil))
      (tIfS (tTest (tOp rEq (tVar 2) (tC (.str (Str.ofString "give"))))) (tDrop (tMeth C "give" (zag C CC zfD) [] C8.E0 (tVar 0) (tCons (tOp (rIxL K) (tFld K (tVar 0) "code") (tOp (rI0 fun i j=> .int (i+j)) (tFld K (tVar 0) "at") (tC (.int 1)))) tNil)))
       (tIfS (tTest (tOp rEq (tVar 2) (tC (.str (Str.ofString "nothing"))))) (tDrop (tMeth C "fault" (zag C CC za6) [] C8.E0 (tVar 0) (tCons (tVar 2) tNil)))
        (tSeq (tAsg (tOp (rIxL K) (tFld K (tVar 0) "code") (tOp (rI0 fun i j=> .int (i+j)) (tFld K (tVar 0) "at") (tC (.int 1)))) (gName 3))
         (tSeq (sFldAug K (tVar 0) (tOp (rI0 fun i j=> .int (i+j)) (tC (.int 1)) (tOp (rIxT K) (tC (.ref aH)) (tVar 1))) rAdd "at")
          (tDrop (tMeth C "do_plain" (zag C CC zcV) [] C8.E0 (tVar 0) (tCons (tVar 2) (tCons (tVar 3) tNil)))))))))
     { nx:=fun _ H'=>Q .non H',rt:=Q } [some (.ref m),some (.int n),some (.str (zav k)),none] H2)→tSeq (tAsg (tOp (rIxT K) (tC (.ref aW)) (tVar 1)) (gName 2)) (tIfS (tTest (tOp (rIn K false) (tVar 2) (tC (.ref aS)))) (tDrop (tMeth C "do_signed" (zag C CC zfy) [] C8.E0 (tVar 0) (tCons (tVar 2) tNil)))
     (tIfS (tTest (tOp rEq (tVar 2) (tC (.str (Str.ofString "call"))))) (tDrop (tMeth C "begin_call" (zag C CC zfJ) [] C8.E0 (tVar 0) tNil))
      (tIfS (tTest (tOp rEq (tVar 2) (tC (.str (Str.ofString "give"))))) (tDrop (tMeth C "give" (zag C CC zfD) [] C8.E0 (tVar 0) (tCons (tOp (rIxL K) (tFld K (tVar 0) "code") (tOp (rI0 fun i j=> .int (i+j)) (tFld K (tVar 0) "at") (tC (.int 1)))) tNil)))
       (tIfS (tTest (tOp rEq (tVar 2) (tC (.str (Str.ofString "nothing"))))) (tDrop (tMeth C "fault" (zag C CC za6) [] C8.E0 (tVar 0) (tCons (tVar 2) tNil)))
        (tSeq (tAsg (tOp (rIxL K) (tFld K (tVar 0) "code") (tOp (rI0 fun i j=> .int (i+j)) (tFld K (tVar 0) "at") (tC (.int 1)))) (gName 3))
         (tSeq (sFldAug K (tVar 0) (tOp (rI0 fun i j=> .int (i+j)) (tC (.int 1)) (tOp (rIxT K) (tC (.ref aH)) (tVar 1))) rAdd "at")
          (tDrop (tMeth C "do_plain" (zag C CC zcV) [] C8.E0 (tVar 0) (tCons (tVar 2) (tCons (tVar 3) tNil))))))))))
     { nx:=fun _ H'=>Q .non H',rt:=Q } [some (.ref m),some (.int n),none,none] H1:=fun k ek hk g =>
    q_asg (v:= .str (zav k)) (ev_op ev_c (ev_is (ev_var rfl) (congrArg V.int ek)) (rv_ixT (T.words _) (atI_nat (by
     unfold zav
     rw[List.getElem?_map,List.getD_eq_getElem?_getD,List.getElem?_eq_getElem (show k<zcY.length from hk)]<;>rfl)))) fun H2 e2=>g H2 e2
   have inS:∀ {H':Hp} {k:Nat} {b:Bool},inV (.str (zav k)) (zgN.map V.str)=b→EvT (tTest (tOp (rIn K false) (tVar 2) (tC (.ref aS)))) [some (.ref m),some (.int n),some (.str (zav k)),none] H' b:=fun {H' k b} h=>inWT (c:=zav k) (ev_var rfl) ev_c (T.signed _) (by decide +kernel) rfl h
   have wd:∀ {H':Hp} {k:Nat} {b:Bool} {z:Str},decide (zav k=z)=b→EvT (tTest (tOp rEq (tVar 2) (tC (.str z)))) [some (.ref m),some (.int n),some (.str (zav k)),none] H' b:=fun {H' k b z} h=>zfV (c:=zav k) (ev_var rfl) ev_c rfl h
   by_cases hs:zdl n=true
   ·rw[if_pos hs] at hf
    have hk:zce n.toNat∧n=(n.toNat:Int)∧n.toNat<20:=by
     unfold zdl at hs
     rw[Bool.or_eq_true,Bool.or_eq_true,decide_eq_true_eq,decide_eq_true_eq,decide_eq_true_eq] at hs
     unfold zce
     omega
    obtain ⟨k1,k2,k3⟩:=hk
    refine go n.toNat k2 k3 fun H2 e2=>?_
    refine s_if (b:=true) (inS (by rcases k1 with h|h|h<;>rw[h]<;>decide +kernel)) (fun _ H3 e3=>?_) (fun z=>by cases z)
    have e13:=e1.trans (e2.trans e3)
    exact zaI (us:=[.str (zav n.toNat)]) (hM.ex e13) (ev_var rfl) (fun _ _ _=>rfl) (fun _ _=>ea_cons (ev_var rfl) ea_nil) ⟨n.toNat,rfl,k1,hf⟩ fun H4 A4 s4 hM4=>q _ _ ((Stp.of e13 A).trans s4) hM4
   ·rw[if_neg hs] at hf
    by_cases hc:n=16
    ·rw[if_pos hc] at hf
     refine go 16 hc (by decide) fun H2 e2=>?_
     refine s_if (b:=false) (inS (by decide +kernel)) (fun z=>by cases z) (fun _ H3 e3=>?_)
     refine s_if (b:=true) (wd (by decide +kernel)) (fun _ H4 e4=>?_) (fun z=>by cases z)
     have e14:=e1.trans (e2.trans (e3.trans e4))
     exact zaI (us:=[]) (hM.ex e14) (ev_var rfl) (fun _ _ _=>rfl) (fun _ _=>ea_nil) ⟨rfl,hf⟩ fun H5 A5 s5 hM5=>q _ _ ((Stp.of e14 A).trans s5) hM5
    ·rw[if_neg hc] at hf
     by_cases hg:n=17
     ·rw[if_pos hg] at hf
      by_cases h1:im.code[st.pc+1]?=some 1
      ·rw[if_pos h1] at hf
       refine go 17 hg (by decide) fun H2 e2=>?_
       refine s_if (b:=false) (inS (by decide +kernel)) (fun z=>by cases z) (fun _ H3 e3=>?_)
       refine s_if (b:=false) (wd (by decide +kernel)) (fun z=>by cases z) (fun _ H4 e4=>?_)
       refine s_if (b:=true) (wd (by decide +kernel)) (fun _ H5 e5=>?_) (fun z=>by cases z)
       have e15:=e1.trans (e2.trans (e3.trans (e4.trans e5)))
       have hM5:=hM.ex e15
       exact zaI (us:=[.int 1]) hM5 (ev_var rfl) (fun _ _ _=>rfl) (fun H6 e6=>ea_cons (ev_op (zbh T (hM5.ex e6) (ev_var rfl)) (ev_is (ev_op (zbw T (hM5.ex e6) (ev_var rfl)) ev_c rv_I0) (congrArg V.int (show (st.pc:Int)+1=((st.pc+1:Nat):Int) by omega))) (rv_ixL (sq_of (hM5.ex e6).r.code) (atI_nat (by rw[List.getElem?_map,h1]<;>rfl)))) ea_nil) ⟨rfl,hf⟩ fun H6 A6 s6 hM6=>q _ _ ((Stp.of e15 A).trans s6) hM6
      ·rw[if_neg h1] at hf
       cases hf
     ·rw[if_neg hg] at hf
      by_cases hp:zcQ n=true
      ·rw[if_pos hp] at hf
       obtain ⟨has,hh,hf⟩:=zar hf
       have hk:(n.toNat=2∨n.toNat=3∨n.toNat=4∨n.toNat=5∨n.toNat=6∨n.toNat=18)∧n=(n.toNat:Int)∧n.toNat<20:=by
        unfold zcQ at hp
        rw[Bool.or_eq_true,Bool.or_eq_true,Bool.or_eq_true,Bool.or_eq_true,Bool.or_eq_true,decide_eq_true_eq,decide_eq_true_eq,decide_eq_true_eq,decide_eq_true_eq,decide_eq_true_eq,decide_eq_true_eq] at hp
        omega
       obtain ⟨k1,k2,k3⟩:=hk
       generalize n.toNat=k at k1 k2 k3 hf
       refine go k k2 k3 fun H2 e2=>?_
       refine s_if (b:=false) (inS (by rcases k1 with h|h|h|h|h|h<;>rw[h]<;>decide +kernel)) (fun z=>by cases z) (fun _ H3 e3=>?_)
       refine s_if (b:=false) (wd (by rcases k1 with h|h|h|h|h|h<;>rw[h]<;>decide +kernel)) (fun z=>by cases z) (fun _ H4 e4=>?_)
       refine s_if (b:=false) (wd (by rcases k1 with h|h|h|h|h|h<;>rw[h]<;>decide +kernel)) (fun z=>by cases z) (fun _ H5 e5=>?_)
       refine s_if (b:=false) (wd (by rcases k1 with h|h|h|h|h|h<;>rw[h]<;>decide +kernel)) (fun z=>by cases z) (fun _ H6 e6=>?_)
       have e16:=e1.trans (e2.trans (e3.trans (e4.trans (e5.trans e6))))
       have hM6:=hM.ex e16
       refine q_asg (v:= .int has) (ev_op (zbh T hM6 (ev_var rfl)) (ev_is (ev_op (zbw T hM6 (ev_var rfl)) ev_c rv_I0) (congrArg V.int (show (st.pc:Int)+1=((st.pc+1:Nat):Int) by omega))) (rv_ixL (sq_of hM6.r.code) (atI_nat (by rw[List.getElem?_map,hh]<;>rfl)))) fun H7 e7=>?_
       dsimp only[List.set]
       have hM7:=hM6.ex e7
       refine zbc (y:=2) (fun _=>ev_var rfl) hM7.o T.cls T.n_at zfn (fun H' _=>ev_is (ev_op ev_c (ev_op ev_c (ev_is (ev_var rfl) (congrArg V.int k2)) (rv_ixT (v:= .int 1) (T.has _) (atI_nat (by rcases k1 with h|h|h|h|h|h<;>rw[h]<;>rfl)))) rv_I0) rfl) (by show 16<1000;decide) (zeY (n:=st.pc+2)) fun H8 e8=>?_
       have hM8:=(hM7.ex e8).setN st.num (st.pc+2) st.call st.calls st.began
       have s8:Stp m H _ A A:=(Stp.of (e16.trans (e7.trans e8)) A).trans (zdz (o:= .ins C A.dx (zap im A { st with pc:=st.pc+2 })) (hM7.ex e8))
       exact zaI (us:=[.str (zav k), .int has]) hM8 (ev_var rfl) (fun _ _ _=>rfl) (fun _ _=>ea_cons (ev_var rfl) (ea_cons (ev_var rfl) ea_nil)) ⟨k,has,rfl,hf⟩ fun H9 A9 s9 hM9=>q _ _ (s8.trans s9) hM9
      ·rw[if_neg hp] at hf
       cases hf
abbrev zdo:Stmt:=(C8.clsBody (zaz 26)).getD 6 (.Pass ⟨0,0,0,0⟩)
theorem zhs:FnScope ["self"] ["self"] (fnScope zdo):=fnScope_by (by decide +kernel)
def fGo (us:List V) (im:Img) (st st2:MS):Prop:=us=[]∧zfk im st st2
theorem zfS (T:zay K mg C CC aW aH aS) (c_q15:Met P w K mg base 4 C "do_code" (zag C CC zhw) []) (c_q29:Met P w K mg base 1 C "fault" (zag C CC za6) [])
  {f:Addr} {fd:FuncData} (me:Meth K C "go_on" f) (F:C8.Fun K "go_on" "Machine.go_on" zdo f fd) (b:Binds K fd ["self"] []):Met P w K mg base 5 C "go_on" (zag C CC fGo) []:=by
 refine met0 T.cls me F b zhs (fun vs H Q E h=>?_) (fun cdv A0 outer s H vs Q E hr h=>?_)
 ·obtain ⟨_,_,_,_,_,_,rfl,_,⟨rfl,_⟩,_⟩:=h
  rfl
 ·obtain ⟨m,im,A,st,st2,us,rfl,hM,⟨rfl,k0,st1,hL,ht⟩,q⟩:=h
  have g_ROW:=T.g_ROW
  refine ⟨_,(pss_cons (ps_while PassesOwn.never (PW.pt (pw_and (pt_cmpR op_isN (pe_fld (pv 0) rfl) pe_non (nomark _)) (pw_and1 (pt_cmpR op_ne (pe_ix ix_list (pe_fld (pv 0) rfl) (pe_fld (pv 0) rfl) (fun _ _=>rfl)) (C8.pe_gc (by rfl) g_ROW) (nomark _))))) (pss_one (ps_expr (C8.pe_mt0 c_q15 hr (by first|decide|exact Nat.le_refl _|omega) (pv 0)))))
   (pss_one (ps_if (PW.pt (pw_and (pt_cmpR op_isN (pe_fld (pv 0) rfl) pe_non (nomark _)) (pw_and1 (pt_cmpR op_eq (pe_fld (pv 0) rfl) (pe_fld (pv 0) rfl) (nomark _))))) (pss_one (ps_expr (C8.pe_mt c_q29 hr (by first|decide|exact Nat.le_refl _|omega) (pv 0) (pa_cons pe_str pa_nil)))) pss_nil))),?_⟩
  have codeE:∀ {H':Hp} {A':MA} {st':MS} {n:Int},Mac H' C CC im m A' st'→im.code[st'.pc]?=some n→EvT (tTest (tOp rNe (tOp (rIxL K) (tFld K (tVar 0) "code") (tFld K (tVar 0) "at")) (tC (.int 1)))) [some (.ref m)] H' (!decide (n=1)):=fun {H' A' st' n} h hn=>et_test (ev_is (ev_op (ev_op (zbh T h (ev_var rfl)) (zbw T h (ev_var rfl)) (rv_ixL (sq_of h.r.code) (atI_nat (by rw[List.getElem?_map,hn]<;>rfl)))) ev_c (rv_ne rfl)) (congrArg V.bl (congrArg Bool.not (show decide (V.int n=V.int 1)=decide (n=1) from by
   rw[decide_eq_decide]
   exact ⟨fun z=>by injection z,fun z=>by rw[z]⟩))))
  refine q_while (fun k σ' H'=>σ'=[some (.ref m)]∧∃ A' st',Stp m H H' A A'∧Mac H' C CC im m A' st'∧zd5 im k st' st1) k0 ⟨rfl,A,st, .refl _ _ _,hM,hL⟩ ?_
  rintro k σ' H' ⟨rfl,A',st',s',hM',hL'⟩
  have fin:zd5 im k st' st1→st'=st1→∀ H1,Ex H' H1→tIfS (tAnd (tTest (tOp (fun x y H Q=>y= .non∧Q (.bl (decide (x= .non))) H) (tFld K (tVar 0) "ended") (tC .non))) (tTest (tOp rEq (tFld K (tVar 0) "began") (tFld K (tVar 0) "most")))) (tDrop (tMeth C "fault" (zag C CC za6) [] C8.E0 (tVar 0) (tCons (tC (.str (Str.ofString "tired"))) tNil))) tNext { nx:=fun _ H'=>Q .non H',rt:=Q } [some (.ref m)] H1:=fun _ e H1 e1=>by
   subst e
   have hM1:=hM'.ex e1
   have tst:EvT (tAnd (tTest (tOp (fun x y H Q=>y= .non∧Q (.bl (decide (x= .non))) H) (tFld K (tVar 0) "ended") (tC .non))) (tTest (tOp rEq (tFld K (tVar 0) "began") (tFld K (tVar 0) "most")))) [some (.ref m)] H1 (st'.ended.isNone&&decide (st'.began=im.most)):=et_and (zaN T hM1 (ev_var rfl)) fun _=>et_test (ev_is (ev_op (zad (ev_var rfl) hM1.o T.cls T.n_began zbX) (zad (ev_var rfl) hM1.o T.cls T.n_most zgn) (rv_eq rfl)) (congrArg V.bl (show decide (V.int st'.began=V.int im.most)=decide (st'.began=im.most) from by
    rw[decide_eq_decide]
    exact ⟨fun z=>by injection z with z;omega,fun z=>by rw[z]⟩)))
   unfold zba at ht
   refine s_when tst (fun hb H2 e2=>?_) (fun hb H2 e2=>?_)
   ·rw[Bool.and_eq_true,decide_eq_true_eq] at hb
    rw[if_neg (by
     rintro (z|z)
     ·cases he:st'.ended with
      | none=>rw[he] at z;cases z
      | some _=>rw[he] at hb;cases hb.1
     ·exact z hb.2)] at ht
    exact zaI (us:=[.str (Str.ofString "tired")]) (hM1.ex e2) (ev_var rfl) (fun _ _ _=>rfl) (fun _ _=>ea_cons ev_c ea_nil) ⟨_,rfl,ht⟩ fun H3 A3 s3 hM3=>q _ _ (s'.trans ((Stp.of (e1.trans e2) A').trans s3)) hM3
   ·rw[if_pos (by
     cases he:st'.ended with
     | none =>
      rw[he] at hb
      exact .inr (of_decide_eq_false (by simpa using hb))
     | some _=>exact .inl rfl)] at ht
    cases ht
    exact q _ _ (s'.trans (Stp.of (e1.trans e2) A')) (hM1.ex e2)
  cases hL' with
  | stop h =>
   refine ⟨false,et_is (et_and (et_is (zaN T hM' (ev_var rfl)) (show st1.ended.isNone=false by cases he:st1.ended with|none=>(rw[he] at h;cases h)|some _=>rfl)) (b:=false) (fun z=>by cases z)) rfl,(fun z=>by cases z),fun _ H1 e1=>fin (.stop h) rfl H1 e1⟩
  | row h c =>
   refine ⟨false,et_is (et_and (et_is (zaN T hM' (ev_var rfl)) (show st1.ended.isNone=true by rw[h]<;>rfl)) (b:=false) (fun _=>et_is (codeE hM' c) rfl)) rfl,(fun z=>by cases z),fun _ H1 e1=>fin (.row h c) rfl H1 e1⟩
  | @step _ st3 _ k2 n h c hn d r =>
   refine ⟨true,et_is (et_and (et_is (zaN T hM' (ev_var rfl)) (show st'.ended.isNone=true by rw[h]<;>rfl)) (b:=true) (fun _=>et_is (codeE hM' c) (by rw[decide_eq_false hn]<;>rfl))) rfl,(fun _ H1 e1=>⟨fun σ2 H2=>σ2=[some (.ref m)]∧∃ A2 st2,Stp m H H2 A A2∧Mac H2 C CC im m A2 st2∧zd5 im k2 st2 st1,fun σ2 H2 z=>⟨k2,Nat.lt_succ_self _,z⟩,?_⟩),fun z=>by cases z⟩
   exact zaI (us:=[]) (hM'.ex e1) (ev_var rfl) (fun _ _ _=>rfl) (fun _ _=>ea_nil) ⟨rfl,d⟩ fun H3 A3 s3 hM3=>⟨rfl,A3,st3,s'.trans ((Stp.of e1 A').trans s3),hM3,r⟩
abbrev zdD:Stmt:=(C8.clsBody (zaz 26)).getD 5 (.Pass ⟨0,0,0,0⟩)
theorem zh6:FnScope ["self"] ["self"] (fnScope zdD):=fnScope_by (by decide +kernel)
def ziA (us:List V) (im:Img) (st st2:MS):Prop:=us=[]∧zfk im (zfe st) st2
theorem zep (T:zay K mg C CC aW aH aS) (c_q30:Met P w K mg base 5 C "go_on" (zag C CC fGo) [])
  {f:Addr} {fd:FuncData} (me:Meth K C "do_row" f) (F:C8.Fun K "do_row" "Machine.do_row" zdD f fd) (b:Binds K fd ["self"] []):Met P w K mg base 6 C "do_row" (zag C CC ziA) []:=by
 refine met0 T.cls me F b zh6 (fun vs H Q E h=>?_) (fun cdv A0 outer s H vs Q E hr h=>?_)
 ·obtain ⟨_,_,_,_,_,_,rfl,_,⟨rfl,_⟩,_⟩:=h
  rfl
 ·obtain ⟨m,im,A,st,st2,us,rfl,hM,⟨rfl,hg⟩,q⟩:=h
  refine ⟨_,(pss_cons (ps_fldaug (pv 0) pe_int in_add)
   (pss_cons (ps_fldaug (pv 0) pe_int in_add)
   (pss_one (ps_expr (C8.pe_mt0 c_q30 hr (by first|decide|exact Nat.le_refl _|omega) (pv 0)))))),?_⟩
  refine zbc (fun _=>ev_var rfl) hM.o T.cls T.n_began zbX (fun _ _=>ev_c) (by show 16<1000;decide) (zfO (n:=st.began+1)) fun H1 e1=>?_
  have hM1:=(hM.ex e1).setN st.num st.pc st.call st.calls (st.began+1)
  have s1:Stp m H _ A A:=(Stp.of e1 A).trans (zdz (o:= .ins C A.dx (zap im A { st with began:=st.began+1 })) (hM.ex e1))
  generalize upd H1 m (.ins C A.dx (zap im A { st with began:=st.began+1 }))=H2 at hM1 s1 ⊢
  refine zbc (fun _=>ev_var rfl) hM1.o T.cls T.n_at zfn (fun _ _=>ev_c) (by show 16<1000;decide) (zeY (n:=st.pc+1)) fun H3 e3=>?_
  have hM3:=(hM1.ex e3).setN st.num (st.pc+1) st.call st.calls (st.began+1)
  have s3:Stp m H2 _ A A:=(Stp.of e3 A).trans (zdz (o:= .ins C A.dx (zap im A { st with began:=st.began+1,pc:=st.pc+1 })) (hM1.ex e3))
  exact zaI (us:=[]) hM3 (ev_var rfl) (fun _ _ _=>rfl) (fun _ _=>ea_nil) ⟨rfl,hg⟩ fun H4 A4 s4 hM4=>q _ _ (s1.trans (s3.trans s4)) hM4
end
def zcz (im:Img) (ks:List Kd) (rest:List PyData):PyData:= .tuple ([.tuple (im.code.map .int), .tuple (im.places.map Pl.row3), .tuple (im.defs.map Df.d), .tuple (ks.map Kd.d)]++rest)
structure zho (im:Img) (ks:List Kd):Prop where
 pn:(im.places.map Pl.pc).Nodup
 dn:(im.defs.map Df.pc).Nodup
 cl:im.code.length≤40000
 pl:im.places.length≤40000
 dl:im.defs.length≤40000
 kl:ks.length≤40000
 mo:im.most≤100000
section
variable {K:PySem.W.Frag} {σ:L2.St} {H H':Hp} {ta tb te tl tv:TE} {D:Ends} {tz:TS} {E:XK} {Q:VK}
theorem zfM {ds:List PyData} (ha:EvD ta σ H (.tuple ds)):Ev (tCB (rLenS K) (tCons ta tNil)) σ H (.int ds.length):=fun H1 e Q q=>ha H1 e _ fun v H2 e2 hv=>by
 cases hv with
 | @tup a xs _ h1 h2 =>
  refine ⟨a,xs,rfl, .inr (st_of h1),?_⟩
  rw[h2.len]
  exact q H2 e2
theorem zgj {ds:List PyData} {j:Nat} {x:Bool} (ha:EvD ta σ H (.tuple ds)) (hj:ds[j]?=some (.bool x)):Ev (tOp (rIxT K) ta (tC (.int (j:Int)))) σ H (.bl x):=fun H1 e Q q=>zb5 (K:=K) ha hj H1 e Q fun v H2 e2 hv=>by
 cases hv
 exact q H2 e2
theorem zcH {H:Hp}:∀ {xs:List V} {is:List Int},TdAll H xs (is.map .int)→xs=is.map V.int
 | [],[],_=>rfl
 | _::_,i::is, .cons h r=>by
  cases h
  rw[zcH r]<;>rfl
/-- list(a tuple) -/
theorem zbL {v:V} {ds:List PyData} (ha:Ev ta σ H v) (hv:Td H v (.tuple ds)):zbC (tCB (rListS K) (tCons ta tNil)) σ H ds:=fun H1 e Q q=>ha H1 e _ fun H2 e2=>by
 cases hv with
 | @tup a xs _ h1 h2=>exact ⟨a,xs,rfl, .inr (st_of ((e.trans e2) _ _ h1)),fun l hl=>q l _ xs (fresh_back e2 hl) (e2.trans (Ex.new hl)) upd_same (TdAll.tx (((Tx.of e).trans (Tx.of e2)).trans (Tx.of (Ex.new hl))) _ _ h2)⟩
theorem zbM {v:V} {is:List Int} (ha:Ev ta σ H v) (hv:Td H v (.tuple (is.map .int))):EvL (tCB (rListS K) (tCons ta tNil)) σ H (is.map V.int):=fun H1 e Q q=>zbL (K:=K) ha hv H1 e Q fun p H2 vs hp e2 h2 hT=>by
 have:=zcH hT
 subst this
 exact q p H2 hp e2 h2
/-- a field of a thing that is made -/
theorem zca {x C dx:Addr} {fs fs':List (Str×V)} {f:Str} {v:V} (hv:Ev tv σ H v) (ha:∀ H',Ev ta σ H' (.ref x)) (h:H x=some (.ins C dx fs)) (c:Cls K C) (n:NoAttr K C f) (hl:fs.length<1000) (hp:putF f v fs=fs') (k:∀ H1,Kp [x] H H1→Tx H H1→H1 x=some (.ins C dx fs')→tz D σ H1):tSeq (sFld K ta tv f) tz D σ H :=
 zhB hv ha h c n hl hp fun H1 e1=>k _ ⟨fun b o hb ho=>by
  rw[upd_ne fun z=>hb (by rw[z];exact List.mem_singleton.mpr rfl)]
  exact e1 b o ho,fun b hb=>by
  by_cases z:b=x
  ·rw[z,upd_same] at hb;cases hb
  ·rw[upd_ne z] at hb;exact fresh_back e1 hb⟩ ((Tx.of e1).trans (zai (e1 _ _ h) (by intro _ z;cases z))) upd_same
/-- a new thing as a field -/
theorem zaQ {x C dx:Addr} {fs:List (Str×V)} {f:Str} {P:Addr→Hp→Prop} (hv:∀ Q:VK,(∀ p H1,H p=none→Ex H H1→P p H1→Q (.ref p) H1)→tv σ H Q) (ha:∀ H',Ev ta σ H' (.ref x)) (h:H x=some (.ins C dx fs)) (c:Cls K C) (n:NoAttr K C f) (hl:fs.length<1000) (up:∀ p H1 H2,p≠x→Kp [x] H1 H2→Tx H1 H2→P p H1→P p H2)
  (k:∀ p H1,H p=none→Kp [x] H H1→Tx H H1→p≠x→P p H1→H1 x=some (.ins C dx (putF f (.ref p) fs))→tz D σ H1):tSeq (sFld K ta tv f) tz D σ H :=
 hv _ fun p H1 hp e1 hP=>ha H1 H1 (Ex.refl _) _ fun H2 e2=>⟨x,C,dx,fs,rfl,(e1.trans e2) _ _ h,c,n,hl,by
  have hpx:p≠x:=fun z=>by rw[z,h] at hp;cases hp
  have kk:∀ {Ha:Hp},Ex Ha H2→Ha x=some (.ins C dx fs)→Kp [x] Ha (upd H2 x (.ins C dx (putF f (.ref p) fs))):=fun ea hx=>⟨fun b o hb ho=>by
   rw[upd_ne fun z=>hb (by rw[z];exact List.mem_singleton.mpr rfl)]
   exact ea b o ho,fun b hb=>by
   by_cases z:b=x
   ·rw[z,upd_same] at hb;cases hb
   ·rw[upd_ne z] at hb;exact fresh_back ea hb⟩
  have tt:∀ {Ha:Hp},Ex Ha H2→Ha x=some (.ins C dx fs)→Tx Ha (upd H2 x (.ins C dx (putF f (.ref p) fs))):=fun ea hx=>(Tx.of ea).trans (zai (ea _ _ hx) (by intro _ z;cases z))
  exact k p _ hp (kk (e1.trans e2) h) (tt (e1.trans e2) h) hpx (up p H1 _ hpx (kk e2 (e1 _ _ h)) (tt e2 (e1 _ _ h)) hP) upd_same⟩
theorem zbl {x C dx:Addr} {fs:List (Str×V)} {f:Str} {xs:List V} (hv:EvL tv σ H xs) (ha:∀ H',Ev ta σ H' (.ref x)) (h:H x=some (.ins C dx fs)) (c:Cls K C) (n:NoAttr K C f) (hl:fs.length<1000)
  (k:∀ p H1,H p=none→Kp [x] H H1→Tx H H1→p≠x→H1 p=some (.lst xs)→H1 x=some (.ins C dx (putF f (.ref p) fs))→tz D σ H1):tSeq (sFld K ta tv f) tz D σ H :=
 zaQ (P:=fun p H1=>H1 p=some (.lst xs)) (fun Q q=>hv H (Ex.refl H) Q fun p H1 hp e1 h1=>q p H1 hp e1 h1) ha h c n hl (fun p H1 H2 n k _ g=>k.keep _ _ (by rw[List.mem_singleton];exact n) g) k
end
section
variable {P:Program} {w:World} {K:PySem.W.Frag} {mg:Str→Option Value} {base:Heap} {C CC aW aH aS:Addr}
abbrev zdx:Stmt:=zaz 27
theorem zfa:FnScope ["defs","file","name","number","one"] ["defs","file","name"] (fnScope zdx):=fnScope_by (by decide +kernel)
def zgA:Sp:=fun vs H Q _=>∃ (v:V) (ds:List Df) (f n:Str) (k:Nat),vs=[v, .str f, .str n]∧Td H v (.tuple (ds.map Df.d))∧zbB ds f n=some k∧RetV (.int k) H Q
theorem zhn (T:zay K mg C CC aW aH aS) {f:Addr} {fd:FuncData} (F:Def K mg "number_to_run" zdx f fd) (b:Binds K fd ["defs","file","name"] []):Cal P w K mg base 1 "number_to_run" zgA []:=by
 refine cal0 F b .nil zfa (fun vs H Q E h=>?_) (fun cdv A outer s H vs Q E hr h=>?_)
 ·obtain ⟨_,_,_,_,_,rfl,_⟩:=h
  rfl
 ·obtain ⟨v,ds,fi,n,k,rfl,hv,hk,q⟩:=h
  have m_enumerate:=T.m_enumerate
  have m_len:=T.m_len
  refine ⟨_,(pss_cons (ps_for PassesOwn.never rfl (Wt.pi_enumT (by rfl) m_enumerate (pa_cons (pv 0) pa_nil)) (pg_tup rfl (pgs_cons (pg_name (i:=3) zfa.nd rfl (.inl rfl)) (pgs_cons (pg_name (i:=4) zfa.nd rfl (.inl rfl)) pgs_nil))) (pss_one (ps_if (PW.pt (pw_and (pt_cmpR op_eq (pe_ix ix_tup (pv 4) pe_int (fun _ _=>rfl)) (pv 1) (nomark _)) (pw_and (pt_cmpR op_eq (pe_ix ix_tup (pv 4) pe_int (fun _ _=>rfl)) (pv 2) (nomark _)) (pw_and (pt_val (pe_ix ix_tup (pv 4) pe_int (fun _ _=>rfl))) (pw_and1 (pt_cmpR op_eq (pe_callB call_len_seq (by rfl) m_len PySem.boot_len (pa_cons (pe_ix ix_tup (pv 4) pe_int (fun _ _=>rfl)) pa_nil)) pe_int (nomark _))))))) (pss_one (ps_ret (pv 3))) pss_nil)))
   (pss_one ps_never)),?_⟩
  unfold zbB at hk
  rw[List.findIdx?_eq_some_iff_getElem] at hk
  obtain ⟨hkl,hp,hno⟩:=hk
  cases hv with
  | @tup a xs _ ha hT =>
   have hl:=hT.len
   rw[List.length_map] at hl
   refine zbE (ev_var rfl) (st_of ha) (fun i σ' H'=>∃ y3 y4,σ'=[some (.ref a),some (.str fi),some (.str n),y3,y4]∧Ex H H'∧i≤k) (fun H1 e1=>⟨none,none,rfl,e1,Nat.zero_le _⟩) (fun i σ' H' _ ⟨_,_,_,e,_⟩=>st_of (e _ _ ha)) ?_ ?_
   ·rintro i x σ' H' H1 hx ⟨y3,y4,rfl,e',hik⟩ e1
    dsimp only[List.set]
    have e01:=e'.trans e1
    obtain ⟨d,g1,g2⟩:=TdAll.at (TdAll.tx (Tx.of e01) _ _ hT) hx
    have hi:i<ds.length:=by rw[← hl];exact (List.getElem?_eq_some_iff.mp hx).1
    rw[List.getElem?_map,List.getElem?_eq_getElem hi] at g1
    cases g1
    have g2:Td H1 x (.tuple [.str ds[i].file, .str ds[i].name, .int ds[i].pc, .int ds[i].fin, .tuple ds[i].kinds, .str ds[i].kind, .bool ds[i].out, .int ds[i].cells]):=g2
    have eqS:∀ {H2:Hp} {j:Nat} {z u:Str} {tb:TE},Ex H1 H2→[PyData.str ds[i].file, .str ds[i].name, .int ds[i].pc, .int ds[i].fin, .tuple ds[i].kinds, .str ds[i].kind, .bool ds[i].out, .int ds[i].cells][j]?=some (.str z)→Ev tb [some (.ref a),some (.str fi),some (.str n),some (.int (i:Nat)),some x] H2 (.str u)→EvT (tTest (tOp rEq (tOp (rIxT K) (tVar 4) (tC (.int (j:Int)))) tb)) [some (.ref a),some (.str fi),some (.str n),some (.int (i:Nat)),some x] H2 (decide (z=u)):=fun {H2 j z u tb} e2 hj hb=>et_test (ev_is (ev_op (zgm (K:=K) (ev_var rfl) (Td.tx (Tx.of e2) _ _ g2) ev_c hj) hb (rv_eq rfl)) (congrArg V.bl (show decide (V.str z=V.str u)=decide (z=u) from by
     rw[decide_eq_decide]
     exact ⟨fun y=>by injection y,fun y=>by rw[y]⟩)))
    have test:EvT (tAnd (tTest (tOp rEq (tOp (rIxT K) (tVar 4) (tC (.int 0))) (tVar 1))) (tAnd (tTest (tOp rEq (tOp (rIxT K) (tVar 4) (tC (.int 1))) (tVar 2))) (tAnd (tB (tOp (rIxT K) (tVar 4) (tC (.int 6)))) (tTest (tOp rEq (tCB (rLenS K) (tCons (tOp (rIxT K) (tVar 4) (tC (.int 4))) tNil)) (tC (.int 0))))))) [some (.ref a),some (.str fi),some (.str n),some (.int (i:Nat)),some x] H1 (decide (ds[i].file=fi)&&(decide (ds[i].name=n)&&(ds[i].out&&ds[i].kinds.isEmpty))) :=
     et_and (eqS (Ex.refl _) (j:=0) rfl (ev_var rfl)) fun _=>et_and (eqS (Ex.refl _) (j:=1) rfl (ev_var rfl)) fun _=>et_and (et_B (zgj (K:=K) (j:=6) (zaA (ev_var rfl) g2) rfl)) fun _=>et_test (ev_is (ev_op (zfM (zb5 (K:=K) (j:=4) (zaA (ev_var rfl) g2) rfl)) ev_c (rv_eq rfl)) (congrArg V.bl (show decide (V.int ds[i].kinds.length=V.int 0)=ds[i].kinds.isEmpty from by
      cases ds[i].kinds with
      | nil=>exact decide_eq_true rfl
      | cons _ _=>exact decide_eq_false (by intro z;injection z with z;rw[List.length_cons] at z;omega))))
    refine s_when test (fun hb H2 e2=>?_) (fun hb H2 e2=>?_)
    ·have hik2:i=k:=by
      rcases Nat.lt_or_ge i k with hlt|hge
      ·have:=hno i hlt
       rw[Bool.and_assoc,Bool.and_assoc] at this
       exact absurd hb this
      ·omega
     subst hik2
     exact s_ret (ev_var rfl) fun H3 e3=>q H3 (e01.trans (e2.trans e3))
    ·refine ⟨_,_,rfl,e01.trans e2,?_⟩
     rcases Nat.lt_or_ge i k with hlt|hge
     ·exact hlt
     ·have:i=k:=by omega
      subst this
      rw[Bool.and_assoc,Bool.and_assoc,hb] at hp
      cases hp
   ·rintro σ' H' ⟨y3,y4,rfl,e',hik⟩
    omega
theorem zih {v:V} {ds:List Df} {f n:Str} {k:Nat} {H:Hp} (hv:Td H v (.tuple (ds.map Df.d))) (hk:zbB ds f n=some k):SpV zgA [v, .str f, .str n] H (.int k):=fun H1 e Q q E=>⟨v,ds,f,n,k,rfl,Td.tx (Tx.of e) _ _ hv,hk,fun H2 e2=>q H2 e2⟩
end
section
variable {P:Program} {w:World} {K:PySem.W.Frag} {mg:Str→Option Value} {base:Heap} {C CC aW aH aS:Addr}
/-- what a new machine's places are -/
structure ziM (m:Addr) (H H2:Hp) (A2:MA):Prop where
 keep:∀ b o,b≠m→H b=some o→H2 b=some o
 there:∀ b,H2 b=none→H b=none
 new:∀ a∈own m A2++ro A2,a=m∨H a=none
abbrev zhg:Stmt:=(C8.clsBody (zaz 26)).getD 0 (.Pass ⟨0,0,0,0⟩)
theorem zaX:FnScope ["self","image","file","name","most","code","places","defs","keeps","at","of","place","number","one","keep"] ["self","image","file","name","most"] (fnScope zhg):=fnScope_by (by decide +kernel)
def zcp (C CC:Addr):Sp:=fun vs H Q _=>∃ (m dx:Addr) (v:V) (im:Img) (ks:List Kd) (rest:List PyData) (f n:Str) (num:Nat) (x:Df) (st2:MS),vs=[.ref m,v, .str f, .str n, .int im.most]∧H m=some (.ins C dx [])∧Td H v (zcz im ks rest)∧zho im ks ∧
 zbB im.defs f n=some num∧im.defs[num]?=some x∧x.cells≤1000∧zfk im (zch num x (ks.map Kd.worth)) st2∧∀ H2 A2,ziM m H H2 A2→Mac H2 C CC im m A2 st2→Q .non H2
theorem zhZ (T:zay K mg C CC aW aH aS) (c_q32:Cal P w K mg base 1 "number_to_run" zgA []) (c_q60:Cal P w K mg base 1 "is_between" zaZ []) (c_q30:Met P w K mg base 5 C "go_on" (zag C CC fGo) [])
  {f:Addr} (M:Mk K C f) (hm:mg "Machine"=some (.ref C)) {fd:FuncData} (F:C8.Fun K "__init__" "Machine.__init__" zhg f fd) {dvs:List V} {ds:List Value} (b:Binds K fd ["self","image","file","name","most"] ds) (hd:Vals dvs ds):Mak P w K mg base 6 "Machine" C (zcp C CC) dvs:=by
 refine mak0 M hm F b hd zaX (fun vs H Q E h=>?_) (fun cdv A0 outer s H vs Q E hr h=>?_)
 ·obtain ⟨_,_,_,_,_,_,_,_,_,_,_,rfl,_⟩:=h
  rfl
 ·obtain ⟨m,dx,v,im,ks,rest,fi,na,num,x,st2,rfl,hx,hv,ok,hnum,hdef,hcells,hgo,q⟩:=h
  have m_list:=T.m_list
  have m_enumerate:=T.m_enumerate
  have g_MOST_ROWS:=T.g_MOST_ROWS
  refine ⟨_,(pss_cons (ps_asg (pe_slice sl_tupA (pv 1) po_none (po_some pe_int)) (pg_tup rfl (pgs_cons (pg_name (i:=5) zaX.nd rfl (.inl rfl)) (pgs_cons (pg_name (i:=6) zaX.nd rfl (.inl rfl)) (pgs_cons (pg_name (i:=7) zaX.nd rfl (.inl rfl)) (pgs_cons (pg_name (i:=8) zaX.nd rfl (.inl rfl)) pgs_nil))))))
   (pss_cons (ps_fld (pv 0) (C8.pe_c c_q32 hr (by first|decide|exact Nat.le_refl _|omega) (by rfl) (pa_cons (pv 7) (pa_cons (pv 2) (pa_cons (pv 3) pa_nil)))) rfl)
   (pss_cons (ps_if (pt_not (pt_val (C8.pe_c c_q60 hr (by first|decide|exact Nat.le_refl _|omega) (by rfl) (pa_cons (pv 4) (pa_cons pe_int (pa_cons (C8.pe_gc (by rfl) g_MOST_ROWS) pa_nil)))))) (pss_one ps_never) pss_nil)
   (pss_cons (ps_fld (pv 0) (pv 4) rfl)
   (pss_cons (ps_fld (pv 0) (pe_callTy call_list_of (by rfl) m_list Wt.bt_list (pa_cons (pv 5) pa_nil)) rfl)
   (pss_cons (ps_fld (pv 0) (pe_dc (own:=[("at",9),("of",10),("place",11)]) (g:=(gTup K 3 (gCons (gName 9) (gCons (gName 10) (gCons (gName 11) gNil))))) (tt:=tYes) rfl zaX.nd (pi_tup (pv 6)) (blkOk_by (N:=["self","image","file","name","most","code","places","defs","keeps","at","of","place","number","one","keep"]) (sc:=C8.fnScope zhg) (by decide +kernel)) (fun _ _ _ _ _=>pg_tup rfl (pgs_cons (pg_name (i:=9) zaX.nd rfl (Or.inl rfl)) (pgs_cons (pg_name (i:=10) zaX.nd rfl (Or.inl rfl)) (pgs_cons (pg_name (i:=11) zaX.nd rfl (Or.inl rfl)) pgs_nil)))) (fun _ _ _ _ _=>pts_nil) (fun _ _ _ _ _=>(pv 9)) (fun _ _ _ _ _=>(pe_tup (pa_cons (pv 10) (pa_cons (pv 11) pa_nil))))) rfl)
   (pss_cons (ps_fld (pv 0) (pe_callTy call_list_of (by rfl) m_list Wt.bt_list (pa_cons (pv 7) pa_nil)) rfl)
   (pss_cons (ps_fld (pv 0) (pe_dc (own:=[("number",12),("one",13)]) (g:=(gTup K 2 (gCons (gName 12) (gCons (gName 13) gNil)))) (tt:=tYes) rfl zaX.nd (Wt.pi_enumT (by rfl) m_enumerate (pa_cons (pv 7) pa_nil)) (blkOk_by (N:=["self","image","file","name","most","code","places","defs","keeps","at","of","place","number","one","keep"]) (sc:=C8.fnScope zhg) (by decide +kernel)) (fun _ _ _ _ _=>pg_tup rfl (pgs_cons (pg_name (i:=12) zaX.nd rfl (Or.inl rfl)) (pgs_cons (pg_name (i:=13) zaX.nd rfl (Or.inl rfl)) pgs_nil))) (fun _ _ _ _ _=>pts_nil) (fun _ _ _ _ _=>(pe_ix (show IxR _ (rIxT K) from ix_tup) (pv 13) pe_int (fun _ _=>rfl))) (fun _ _ _ _ _=>(pv 12))) rfl)
   (pss_cons (ps_fld (pv 0) (pe_lc (own:=[("keep",14)]) (g:=(gName 14)) (tt:=tYes) rfl zaX.nd (pi_tup (pv 8)) (blkOk_by (N:=["self","image","file","name","most","code","places","defs","keeps","at","of","place","number","one","keep"]) (sc:=C8.fnScope zhg) (by decide +kernel)) (fun _ _ _ _ _=>pg_name (i:=14) zaX.nd rfl (Or.inl rfl)) (fun _ _ _ _ _=>pts_nil) (fun _ _ _ _ _=>(pe_ix (show IxR _ (rIxT K) from ix_tup) (pv 14) pe_int (fun _ _=>rfl)))) rfl)
   (pss_cons (ps_fld (pv 0) (pe_ix ix_tup (pe_ix ix_tup (pv 7) (pe_fld (pv 0) rfl) (fun _ _=>rfl)) pe_int (fun _ _=>rfl)) rfl)
   (pss_cons (ps_fld (pv 0) (pe_op op_rep (pe_lst (pa_cons pe_int pa_nil)) (pe_ix ix_tup (pe_ix ix_tup (pv 7) (pe_fld (pv 0) rfl) (fun _ _=>rfl)) pe_int (fun _ _=>rfl))) rfl)
   (pss_cons (ps_fld (pv 0) (pe_lst pa_nil) rfl)
   (pss_cons (ps_fld (pv 0) (pe_lst pa_nil) rfl)
   (pss_cons (ps_fld (pv 0) pe_int rfl)
   (pss_cons (ps_fld (pv 0) pe_int rfl)
   (pss_cons (ps_fld (pv 0) pe_int rfl)
   (pss_cons (ps_fld (pv 0) (pe_lst pa_nil) rfl)
   (pss_cons (ps_fld (pv 0) pe_non rfl)
   (pss_one (ps_expr (C8.pe_mt0 c_q30 hr (by first|decide|exact Nat.le_refl _|omega) (pv 0)))))))))))))))))))))),?_⟩
  -- code,places,defs,keeps=image[:4]
  refine zcT (K:=K) (lo:=none) (hi:=some 4) (es:=[.tuple (im.code.map .int), .tuple (im.places.map Pl.row3), .tuple (im.defs.map Df.d), .tuple (ks.map Kd.d)]) (ev_var (v:=v) rfl) hv eo_none (eo_some ev_c) ?_ H (Ex.refl H) _ fun u H1 e1 hu=>?_
  ·unfold zbi
   rw[show HT.sIx _ 0 none=0 from rfl,show (some (4:Int))=some ((4:Nat):Int) from rfl,HT.sIx_nat]
   show List.take (min 4 _-0) (List.drop 0 _)=_
   rw[List.drop_zero,Nat.sub_zero,Nat.min_eq_left (by rw[List.length_append];exact Nat.le_add_right 4 _)]<;>rfl
  obtain ⟨a0,v5,v6,v7,v8,rfl,ha0,h5,h6,h7,h8⟩:∃ (a:Addr) (v5 v6 v7 v8:V),u= .ref a∧H1 a=some (.tup [v5,v6,v7,v8])∧Td H1 v5 (.tuple (im.code.map .int))∧Td H1 v6 (.tuple (im.places.map Pl.row3))∧Td H1 v7 (.tuple (im.defs.map Df.d))∧Td H1 v8 (.tuple (ks.map Kd.d)):=by
   cases hu with
   | tup ha hT =>
    cases hT with
    | cons t1 t2 =>
     cases t2 with
     | cons t3 t4 =>
      cases t4 with
      | cons t5 t6 =>
       cases t6 with
       | cons t7 t8 =>
        cases t8
        exact ⟨_,_,_,_,_,rfl,ha,t1,t3,t5,t7⟩
  refine ⟨a0,_,rfl,st_of ha0,rfl,_,_,rfl,_,_,rfl,_,_,rfl,_,_,rfl,rfl,?_⟩
  dsimp only[L2.start,List.map,List.set,List.length,List.append,List.replicate]
  have kp1:Kp [m] H H1:= .of e1
  have hx1:=e1 _ _ hx
  -- number
  refine zca (fs':=[("number", .int num)]) (ev_call (dvs:=[]) (ea_cons (ev_var rfl) (ea_cons (ev_var rfl) (ea_cons (ev_var rfl) ea_nil))) (zih h7 hnum)) (fun _=>ev_var rfl) hx1 T.cls T.n_number (by show 0<1000;decide) rfl fun H2 k2 t2 x2=>?_
  refine q_when (b:=false) (et_is (et_not (et_B (ev_call (dvs:=[]) (ea_cons (ev_var rfl) (ea_cons ev_c (ea_cons ev_c ea_nil))) zbA))) (by
   have hm0:(im.most:Int)≤100000:=by have:=ok.mo;omega
   rw[decide_eq_true (show (0:Int)≤(im.most:Int) by omega),decide_eq_true hm0]<;>rfl)) (fun z=>by cases z) (fun _ H3 e3=>?_)
  -- most
  refine zca (fs':=[("number", .int num),("most", .int im.most)]) (ev_var rfl) (fun _=>ev_var rfl) (e3 _ _ x2) T.cls T.n_most (by show 1<1000;decide) rfl fun H4 k4 t4 x4=>?_
  have t14:Tx H1 H4:=(t2.trans (Tx.of e3)).trans t4
  have kp4:∀ {Hz:Hp},Kp [m] H4 Hz→Kp [m] H Hz:=fun k=>⟨fun b o n h=>k.keep b o n (k4.keep b o n (e3 b o (k2.keep b o n (e1 b o h)))),fun b h=>fresh_back e1 (k2.there b (fresh_back e3 (k4.there b (k.there b h))))⟩
  -- code
  refine zbl (xs:=im.code.map V.int) (zbM (K:=K) (ev_var rfl) (Td.tx t14 _ _ h5)) (fun _=>ev_var rfl) x4 T.cls T.n_code (by show 2<1000;decide) fun lc H5 hlc k5 t5 nlc h5c x5=>?_
  have b5:=(Bag.nil m H4).add hlc k5 h5c nlc
  have t15:=t14.trans t5
  -- places
  refine zaQ (P:=fun d H1=>PlO H1 d im.places) (fun Q q=>zeB (K:=K) (ps:=im.places) (ev_var rfl) (Td.tx t15 _ _ h6) ok.pn ok.pl (fun _ _ _=>rfl) (fun _ _ _=>rfl) (fun _ _ _=>rfl) (fun _ _ _=>rfl) fun d H1 hd e1 h1=>q d H1 hd e1 h1) (fun _=>ev_var rfl) x5 T.cls T.n_places (by show 3<1000;decide) (fun p Ha Hb n k t ⟨kvs,g1,g2,g3⟩=>⟨kvs,k.keep _ _ (by rw[List.mem_singleton];exact n) g1,g2,TdAll.tx t _ _ g3⟩) fun dp H6 hdp k6 t6 ndp h6p x6=>?_
  obtain ⟨kvs,p1,p2,p3⟩:=h6p
  have b6:=b5.add hdp k6 p1 ndp
  have t16:=t15.trans t6
  -- defs
  refine zaQ (P:=fun l H1=>∃ dv,H1 l=some (.lst dv)∧TdAll H1 dv (im.defs.map Df.d)) (fun Q q=>zbL (K:=K) (ev_var rfl) (Td.tx t16 _ _ h7) H6 (Ex.refl _) Q fun p H1 vs hp e1 g1 hT=>q p H1 hp e1 ⟨vs,g1,hT⟩) (fun _=>ev_var rfl) x6 T.cls T.n_defs (by show 4<1000;decide) (fun p Ha Hb n k t ⟨dv,g1,g2⟩=>⟨dv,k.keep _ _ (by rw[List.mem_singleton];exact n) g1,TdAll.tx t _ _ g2⟩) fun ld H7 hld k7 t7 nld h7l x7=>?_
  obtain ⟨dv,d1,d2⟩:=h7l
  have b7:=b6.add hld k7 d1 nld
  have t17:=t16.trans t7
  -- numbers
  refine zaQ (P:=fun d H1=>H1 d=some (.dK (zeq (zaC im.defs)))) (fun Q q=>zgy (K:=K) (ds:=im.defs) (ev_var rfl) (Td.tx t17 _ _ h7) ok.dn ok.dl (fun _ _=>rfl) (fun _ _=>rfl) (fun _ _=>rfl) fun d H1 hd e1 h1=>q d H1 hd e1 h1) (fun _=>ev_var rfl) x7 T.cls T.n_numbers (by show 5<1000;decide) (fun p Ha Hb n k _ g1=>k.keep _ _ (by rw[List.mem_singleton];exact n) g1) fun dn H8 hdn k8 t8 ndn h8d x8=>?_
  have b8:=b7.add hdn k8 h8d ndn
  have t18:=t17.trans t8
  -- kept
  refine zbl (xs:=(ks.map Kd.worth).map V.int) (fun Ha ea Q q=>?_) (fun _=>ev_var rfl) x8 T.cls T.n_kept (by show 6<1000;decide) fun lk H9 hlk k9 t9 nlk h9k x9=>?_
  ·have hv8:=Td.tx (t18.trans (Tx.of ea)) _ _ h8
   cases hv8 with
   | @tup a8 xs8 _ ha8 hT8 =>
    refine zgt (K:=K) (ds:=ks.map Kd.d) (f:=fun d=>match d with| .tuple [_,_,_,w,_]=>w|_=> .none) (ev_var rfl) ha8 hT8 (by rw[List.length_map];exact ok.kl) (fun _=>rfl) (fun y d Hb eb hd hy=>?_) Ha (Ex.refl _) Q fun p Hb vs hp eb gb hT=>?_
    ·obtain ⟨k,_,rfl⟩:=List.mem_map.mp hd
     exact zes (K:=K) (j:=3) (ev_var rfl) hy ev_c rfl
    ·rw[List.map_map] at hT
     have e:(ks.map ((fun d=>match d with| .tuple [_,_,_,w,_]=>w|_=> .none)∘Kd.d))=(ks.map Kd.worth).map .int:=by
      rw[List.map_map]
      rfl
     rw[e] at hT
     rw[zcH hT] at gb
     exact q p Hb hp eb gb
  have b9:=b8.add hlk k9 h9k nlk
  have t19:=t18.trans t9
  -- at
  have dR:∀ {Hz:Hp} {fs:List (Str×V)} {j:Nat} {z:Int},Tx H1 Hz→Hz m=some (.ins C dx fs)→fs.lookup (Str.ofString "number")=some (.int num)→[PyData.str x.file, .str x.name, .int x.pc, .int x.fin, .tuple x.kinds, .str x.kind, .bool x.out, .int x.cells][j]?=some (.int z)→Ev (tOp (rIxT K) (tOp (rIxT K) (tVar 7) (tFld K (tVar 0) "number")) (tC (.int (j:Int)))) [some (.ref m),some v,some (.str fi),some (.str na),some (.int im.most),some v5,some v6,some v7,some v8,none,none,none,none,none,none] Hz (.int z):=fun {Hz fs j z} t hz hl hj=>zeS (K:=K) (ds:=[.str x.file, .str x.name, .int x.pc, .int x.fin, .tuple x.kinds, .str x.kind, .bool x.out, .int x.cells]) (zef (zes (K:=K) (ev_var rfl) (Td.tx t _ _ h7) (zad (ev_var rfl) hz T.cls T.n_number hl) (by rw[List.getElem?_map,hdef]<;>rfl)) rfl) hj
  refine zca (v:= .int x.pc) (dR (j:=2) t19 x9 rfl rfl) (fun _=>ev_var rfl) x9 T.cls T.n_at (by show 7<1000;decide) rfl fun H10 k10 t10 x10=>?_
  have b10:=b9.go k10
  have t110:=t19.trans t10
  refine zbl (xs:=(List.replicate x.cells (0:Int)).map V.int) (zel (dR (j:=7) t110 x10 rfl rfl) (by omega)) (fun _=>ev_var rfl) x10 T.cls T.n_cells (by show 8<1000;decide) fun lcl H11 hlcl k11 t11 nlcl h11 x11=>?_
  have b11:=b10.add hlcl k11 h11 nlcl
  refine zbl (xs:=[]) (el_lst ea_nil (Nat.zero_le _)) (fun _=>ev_var rfl) x11 T.cls T.n_pile (by show 9<1000;decide) fun lpl H12 hlpl k12 t12 nlpl h12 x12=>?_
  have b12:=b11.add hlpl k12 h12 nlpl
  refine zbl (xs:=[]) (el_lst ea_nil (Nat.zero_le _)) (fun _=>ev_var rfl) x12 T.cls T.n_callers (by show 10<1000;decide) fun lca H13 hlca k13 t13 nlca h13 x13=>?_
  have b13:=b12.add hlca k13 h13 nlca
  refine zca (v:= .int 0) ev_c (fun _=>ev_var rfl) x13 T.cls T.n_call (by show 11<1000;decide) rfl fun H14 k14 t14' x14=>?_
  refine zca (v:= .int 0) ev_c (fun _=>ev_var rfl) x14 T.cls T.n_calls (by show 12<1000;decide) rfl fun H15 k15 t15' x15=>?_
  refine zca (v:= .int 0) ev_c (fun _=>ev_var rfl) x15 T.cls T.n_began (by show 13<1000;decide) rfl fun H16 k16 t16' x16=>?_
  have b16:=((b13.go k14).go k15).go k16
  refine zbl (xs:=[]) (el_lst ea_nil (Nat.zero_le _)) (fun _=>ev_var rfl) x16 T.cls T.n_spoken (by show 14<1000;decide) fun lsp H17 hlsp k17 t17' nlsp h17 x17=>?_
  have b17:=b16.add hlsp k17 h17 nlsp
  refine zca (v:= .non) ev_c (fun _=>ev_var rfl) x17 T.cls T.n_ended (by show 15<1000;decide) rfl fun H18 k18 t18' x18=>?_
  have b18:=b17.go k18
  -- the machine
  have tz:Tx H7 H18:=(((((((((t8.trans t9).trans t10).trans t11).trans t12).trans t13).trans t14').trans t15').trans t16').trans t17').trans t18'
  have tz6:Tx H6 H18:=t7.trans tz
  have kz:∀ {Ha Hb Hc:Hp},Kp [m] Ha Hb→Kp [m] Hb Hc→Kp [m] Ha Hc:=fun a b=>⟨fun x o n h=>b.keep x o n (a.keep x o n h),fun x h=>a.there x (b.there x h)⟩
  have k418:Kp [m] H4 H18:=kz (kz (kz (kz (kz (kz (kz (kz (kz (kz (kz (kz (kz k5 k6) k7) k8) k9) k10) k11) k12) k13) k14) k15) k16) k17) k18
  have at_:=b18.at_
  have nd:=b18.nd
  simp only[List.map_cons,List.map_nil,List.nodup_cons,List.mem_cons,List.not_mem_nil,or_false,not_or,List.nodup_nil,and_true,not_false_eq_true] at nd
  obtain ⟨⟨n1,n2,n3,n4,n5,n6,n7,n8,n9⟩,⟨o1,o2,o3,o4,o5,o6,o7,o8⟩,⟨c1,c2,c3,c4,c5,c6,c7⟩,⟨p4,p5,p6,p7,p8,p9⟩,⟨l1,l2,l3,l4,l5⟩,⟨r1,r2,r3,r4⟩,⟨s1,s2,s3⟩,⟨u1,u2⟩,w1⟩:=nd
  have hM:Mac H18 C CC im m ⟨dx,lc,dp,ld,dn,lk,lcl,lpl,lca,lsp, .non,[]⟩ (zch num x (ks.map Kd.worth)):={
   o:=x18
   r:=⟨at_ _ (.tail _ (.tail _ (.tail _ (.tail _ (.tail _ (.tail _ (.tail _ (.tail _ (.head _))))))))),⟨kvs,at_ _ (.tail _ (.tail _ (.tail _ (.tail _ (.tail _ (.tail _ (.tail _ (.head _)))))))),p2,TdAll.tx tz6 _ _ p3⟩,⟨dv,at_ _ (.tail _ (.tail _ (.tail _ (.tail _ (.tail _ (.tail _ (.head _))))))),TdAll.tx tz _ _ d2⟩,at_ _ (.tail _ (.tail _ (.tail _ (.tail _ (.tail _ (.head _)))))), .nil⟩
   kept:=at_ _ (.tail _ (.tail _ (.tail _ (.tail _ (.head _)))))
   cells:=at_ _ (.tail _ (.tail _ (.tail _ (.head _))))
   pile:=at_ _ (.tail _ (.tail _ (.head _)))
   clrs:=at_ _ (.tail _ (.head _))
   spok:=⟨[],at_ _ (.head _), .nil⟩
   ended:= .non
   nd:=by
    simp only[own,List.nodup_cons,List.mem_cons,List.not_mem_nil,or_false,not_or,List.nodup_nil,and_true,not_false_eq_true]
    exact ⟨⟨n5,n4,n3,n2,n1⟩,⟨Ne.symm l1,Ne.symm p5,Ne.symm c3,Ne.symm o4⟩,⟨Ne.symm p4,Ne.symm c2,Ne.symm o3⟩,⟨Ne.symm c1,Ne.symm o2⟩,Ne.symm o1⟩
   dis:=fun a ha z=>by
    simp only[ro,roC,List.flatMap_nil,List.mem_cons,List.not_mem_nil,or_false] at ha
    simp only[own,List.mem_cons,List.not_mem_nil,or_false] at z
    rcases ha with rfl|rfl|rfl|rfl<;>rcases z with z|z|z|z|z|z<;>first|exact n9 z.symm|exact n8 z.symm|exact n7 z.symm|exact n6 z.symm|exact r4 z.symm|exact r3 z.symm|exact r2 z.symm|exact r1 z.symm|exact l5 z.symm|exact l4 z.symm|exact l3 z.symm|exact l2 z.symm|exact p9 z.symm|exact p8 z.symm|exact p7 z.symm|exact p6 z.symm|exact c7 z.symm|exact c6 z.symm|exact c5 z.symm|exact c4 z.symm|exact o8 z.symm|exact o7 z.symm|exact o6 z.symm|exact o5 z.symm }
  have new:ziM m H H18 ⟨dx,lc,dp,ld,dn,lk,lcl,lpl,lca,lsp, .non,[]⟩:=by
   have kk:=kp4 k418
   refine ⟨fun b o n h=>kk.keep b o (by rw[List.mem_singleton];exact n) h,kk.there,fun a ha=>?_⟩
   have f4:∀ {Hz:Hp} {p:Addr},Kp [m] H4 Hz→Hz p=none→H p=none:=fun k h=>(kp4 k).there _ h
   simp only[own,ro,roC,List.flatMap_nil,List.mem_append,List.mem_cons,List.not_mem_nil,or_false] at ha
   have k46:=kz k5 k6
   have k47:=kz k46 k7
   have k48:=kz k47 k8
   have k410:=kz (kz k48 k9) k10
   have k411:=kz k410 k11
   have k412:=kz k411 k12
   have k416:=kz (kz (kz (kz k412 k13) k14) k15) k16
   rcases ha with (rfl|rfl|rfl|rfl|rfl|rfl)|rfl|rfl|rfl|rfl
   ·exact .inl rfl
   ·exact .inr (f4 k48 hlk)
   ·exact .inr (f4 k410 hlcl)
   ·exact .inr (f4 k411 hlpl)
   ·exact .inr (f4 k412 hlca)
   ·exact .inr (f4 k416 hlsp)
   ·exact .inr (f4 (.refl _ _) hlc)
   ·exact .inr (f4 k5 hdp)
   ·exact .inr (f4 k46 hld)
   ·exact .inr (f4 k47 hdn)
  exact zaI (us:=[]) hM (ev_var rfl) (fun _ _ _=>rfl) (fun _ _=>ea_nil) ⟨rfl,hgo⟩ fun H19 A19 s19 hM19=>q _ _ ⟨fun b o n h=>s19.k.keep b o (fun z=>by
   rcases new.new b (List.mem_append_left _ z) with y|y
   ·exact n y
   ·rw[h] at y;cases y) (new.keep b o n h),fun b h=>new.there b (s19.k.there b h),fun a ha=>by
   rcases List.mem_append.mp ha with h|h
   ·rcases s19.o a h with y|y
    ·exact new.new a (List.mem_append_left _ y)
    ·exact .inr (new.there a y)
   ·rcases s19.r a h with y|y
    ·exact new.new a (List.mem_append_right _ y)
    ·exact .inr (new.there a y)⟩ hM19
end
section
variable {P:Program} {w:World} {K:PySem.W.Frag} {mg:Str→Option Value} {base:Heap} {C CC aW aH aS:Addr}
section
variable {σ:L2.St} {H H':Hp} {ta tb te tl tv:TE} {D:Ends} {tz:TS} {E:XK} {Q:VK} {m:Addr} {im:Img} {A:MA} {st:MS}
theorem Ex.tup {vs:List V} {p:Addr} (h:H p=none):Ex H (upd H p (.tup vs)):=Ex.new h
/-- a list as something new whose place alone is told -/
def ziz (te:TE) (σ:L2.St) (H:Hp):Prop:=∀ H1,Ex H H1→∀ Q:VK,(∀ v H2,Ex H1 H2→Q v H2)→te σ H1 Q
def zix (ta:TA) (σ:L2.St) (H:Hp) (n:Nat):Prop:=∀ H1,Ex H H1→∀ Q:List V→Hp→Prop,(∀ vs H2,vs.length=n→Ex H1 H2→Q vs H2)→ta σ H1 Q
theorem zbf {v:V} (h:Ev te σ H v):ziz te σ H:=fun H1 e Q q=>h H1 e Q fun H2 e2=>q v H2 e2
theorem ziB {xs:List V} (h:EvL te σ H xs):ziz te σ H:=fun H1 e Q q=>h H1 e Q fun p H2 _ e2 _=>q _ H2 e2
theorem zcR:zix tNil σ H 0:=fun H1 _ Q q=>q [] H1 rfl (Ex.refl _)
theorem zah {tr:TA} {n:Nat} (h:ziz te σ H) (hr:zix tr σ H n):zix (tCons te tr) σ H (n+1):=fun H1 e Q q=>h H1 e _ fun v H2 e2=>hr H2 (e.trans e2) _ fun vs H3 l e3=>q _ H3 (by rw[List.length_cons,l]) (e2.trans e3)
theorem zd6 {tr:TA} {n:Nat} (h:zix tr σ H n) (hn:n≤100000):ziz (tTup tr) σ H:=fun H1 e Q q=>h H1 e _ fun vs H2 l e2=>⟨by rw[l];exact sz_of hn,fun p hp=>q _ _ (e2.trans (Ex.new hp))⟩
end
abbrev zdL:Stmt:=(C8.clsBody (zaz 26)).getD 1 (.Pass ⟨0,0,0,0⟩)
theorem zhY:FnScope ["self"] ["self"] (fnScope zdL):=fnScope_by (by decide +kernel)
def zf6 (C CC:Addr):Sp:=fun vs H Q _=>∃ (m:Addr) (im:Img) (A:MA) (st:MS),vs=[.ref m]∧Mac H C CC im m A st∧∀ v H2,Ex H H2→Q v H2
theorem zgo (T:zay K mg C CC aW aH aS) {f:Addr} {fd:FuncData} (me:Meth K C "mark" f) (F:C8.Fun K "mark" "Machine.mark" zdL f fd) (b:Binds K fd ["self"] []):Met P w K mg base 1 C "mark" (zf6 C CC) []:=by
 refine met0 T.cls me F b zhY (fun vs H Q E h=>?_) (fun cdv A0 outer s H vs Q E hr h=>?_)
 ·obtain ⟨_,_,_,_,rfl,_⟩:=h
  rfl
 ·obtain ⟨m,im,A,st,rfl,hM,q⟩:=h
  have m_list:=T.m_list
  have m_len:=T.m_len
  refine ⟨_,(pss_one (ps_ret (pe_tup (pa_cons (pe_fld (pv 0) rfl) (pa_cons (pe_fld (pv 0) rfl) (pa_cons (pe_callTy call_list_of (by rfl) m_list Wt.bt_list (pa_cons (pe_fld (pv 0) rfl) pa_nil)) (pa_cons (pe_callTy call_list_of (by rfl) m_list Wt.bt_list (pa_cons (pe_fld (pv 0) rfl) pa_nil)) (pa_cons (pe_callTy call_list_of (by rfl) m_list Wt.bt_list (pa_cons (pe_fld (pv 0) rfl) pa_nil)) (pa_cons (pe_fld (pv 0) rfl) (pa_cons (pe_fld (pv 0) rfl) (pa_cons (pe_fld (pv 0) rfl) (pa_cons (pe_callB call_len_seq (by rfl) m_len PySem.boot_len (pa_cons (pe_fld (pv 0) rfl) pa_nil)) (pa_cons (pe_callTy call_list_of (by rfl) m_list Wt.bt_list (pa_cons (pe_fld (pv 0) rfl) pa_nil)) (pa_cons (pe_fld (pv 0) rfl) pa_nil)))))))))))))),?_⟩
  obtain ⟨sv,hs,hT⟩:=hM.spok
  exact zd6 (n:=11) (zah (zbf (zad (ev_var rfl) hM.o T.cls T.n_number zaW)) (zah (zbf (zbw T hM (ev_var rfl))) (zah (ziB (el_list (K:=K) (za0 T hM (ev_var rfl)) (sq_of hM.cells))) (zah (ziB (el_list (K:=K) (zam T hM (ev_var rfl)) (sq_of hM.pile))) (zah (ziB (el_list (K:=K) (zad (ev_var rfl) hM.o T.cls T.n_callers zan) (sq_of hM.clrs))) (zah (zbf (zad (ev_var rfl) hM.o T.cls T.n_call zcM)) (zah (zbf (zad (ev_var rfl) hM.o T.cls T.n_calls zbO)) (zah (zbf (zad (ev_var rfl) hM.o T.cls T.n_began zbX)) (zah (zbf (ev_len (zaJ T hM (ev_var rfl)) (sq_of hs))) (zah (ziB (el_list (K:=K) (zb0 T hM (ev_var rfl)) (sq_of hM.kept))) (zah (zbf (zbd T hM (ev_var rfl))) zcR))))))))))) (by decide) H (Ex.refl H) _ fun v H1 e1=>q v H1 e1
abbrev zhd:Stmt:=(C8.clsBody (zaz 26)).getD 3 (.Pass ⟨0,0,0,0⟩)
theorem zgC:FnScope ["self","file","place"] ["self"] (fnScope zhd):=fnScope_by (by decide +kernel)
/-- the row ahead,as it is told -/
def ze8 (im:Img) (st:MS) (d:PyData):Prop:=(st.ended.isSome=true∧d= .none)∨(st.ended=none∧∃ p,zaH im st.pc=some p∧d= .tuple [.str p.file, .int p.row])
def zcK (C CC:Addr):Sp:=fun vs H Q _=>∃ (m:Addr) (im:Img) (A:MA) (st:MS) (d:PyData),vs=[.ref m]∧Mac H C CC im m A st∧ze8 im st d∧∀ v H2,Ex H H2→Td H2 v d→Q v H2
theorem ziO {H:Hp} {v:V} {p:Pl} (hv:Td H v p.d):∃ (a a2:Addr),v= .ref a∧H a=some (.tup [.str p.file, .ref a2])∧H a2=some (.tup [.int p.row, .int p.col]):=by
 unfold Pl.d at hv
 cases hv with
 | tup ha hT =>
  cases hT with
  | cons t1 t2 =>
   cases t1
   cases t2 with
   | cons t3 t4 =>
    cases t4
    cases t3 with
    | tup hb hS =>
     cases hS with
     | cons s1 s2 =>
      cases s1
      cases s2 with
      | cons s3 s4 =>
       cases s3
       cases s4
       exact ⟨_,_,rfl,ha,hb⟩
theorem zb3 (T:zay K mg C CC aW aH aS) {f:Addr} {fd:FuncData} (me:Meth K C "row_ahead" f) (F:C8.Fun K "row_ahead" "Machine.row_ahead" zhd f fd) (b:Binds K fd ["self"] []):Met P w K mg base 1 C "row_ahead" (zcK C CC) []:=by
 refine met0 T.cls me F b zgC (fun vs H Q E h=>?_) (fun cdv A0 outer s H vs Q E hr h=>?_)
 ·obtain ⟨_,_,_,_,_,rfl,_⟩:=h
  rfl
 ·obtain ⟨m,im,A,st,d,rfl,hM,hA,q⟩:=h
  have hu:=hu_of hr
  refine ⟨_,(pss_cons (ps_if (pt_cmpR op_notN (pe_fld (pv 0) rfl) pe_non (nomark _)) (pss_one (ps_ret pe_non)) pss_nil)
   (pss_cons (ps_asg (pe_dget hu (pe_fld (pv 0) rfl) (pe_fld (pv 0) rfl) (fun _ _=>rfl)) (pg_tup rfl (pgs_cons (pg_name (i:=1) zgC.nd rfl (.inl rfl)) (pgs_cons (pg_name (i:=2) zgC.nd rfl (.inl rfl)) pgs_nil))))
   (pss_one (ps_ret (pe_tup (pa_cons (pv 1) (pa_cons (pe_ix ix_tup (pv 2) pe_int (fun _ _=>rfl)) pa_nil))))))),?_⟩
  rcases hA with ⟨he,rfl⟩|⟨he,p,hp,rfl⟩
  ·refine q_when (b:=true) (et_is (zaG T hM (ev_var rfl)) he) (fun _ H1 e1=>?_) (fun z=>by cases z)
   exact s_ret ev_c fun H2 e2=>q _ H2 (e1.trans e2) .non
  ·refine q_when (b:=false) (et_is (zaG T hM (ev_var rfl)) (by rw[he]<;>rfl)) (fun z=>by cases z) (fun _ H1 e1=>?_)
   have hM1:=hM.ex e1
   refine zc3 T hM1 hp (ev_var rfl) (ev_var rfl) H1 (Ex.refl H1) _ fun v H2 e2 hv=>?_
   obtain ⟨a,a2,rfl,ha,ha2⟩:=ziO hv
   refine ⟨a,_,rfl,st_of ha,rfl,_,_,rfl,_,_,rfl,rfl,?_⟩
   refine zaf (ds:=[.str p.file, .int p.row]) (zaa (zac (ev_var rfl)) (zaa (zae (ev_op (ev_var rfl) ev_c (rv_ixT (i:=0) (st_of ha2) rfl))) zab)) (by show 2≤100000;decide) H2 (Ex.refl H2) _ fun v2 H3 e3 hv2=>q _ H3 (e1.trans (e2.trans e3)) hv2
theorem zgk {m dx:Addr} {H H2:Hp} {A2:MA} (hm:H m=none) (hd:H dx=none) (n:ziM m (upd (upd H dx (.own m)) m (.ins C dx [])) H2 A2) (nd:dx≠m):Ex H H2∧∀ a∈own m A2++ro A2,H a=none:=by
 have key:∀ b o,b≠m→H b=some o→(upd (upd H dx (.own m)) m (.ins C dx [])) b=some o:=fun b o nb hb=>by
  rw[upd_ne nb,upd_ne fun z=>by rw[z,hd] at hb;cases hb]
  exact hb
 refine ⟨fun b o hb=>n.keep b o (fun z=>by rw[z,hm] at hb;cases hb) (key b o (fun z=>by rw[z,hm] at hb;cases hb) hb),fun a ha=>?_⟩
 rcases n.new a ha with rfl|h
 ·exact hm
 ·by_cases ham:a=m
  ·rw[ham];exact hm
  ·rw[upd_ne ham] at h
   by_cases had:a=dx
   ·rw[had];exact hd
   ·rw[upd_ne had] at h
    exact h
/-- what Machine(..) comes to -/
structure zfB (im:Img) (ks:List Kd) (f n:Str) (num:Nat) (x:Df) (st2:MS):Prop where
 hok:zho im ks
 hnum:zbB im.defs f n=some num
 hdf:im.defs[num]?=some x
 hcells:x.cells≤1000
 hgo:zfk im (zch num x (ks.map Kd.worth)) st2
theorem zgf {σ:L2.St} {H:Hp} {ta:TA} {E:XK} {Q:VK} {v:V} {im:Img} {ks:List Kd} {rest:List PyData} {f n:Str} {num:Nat} {x:Df} {st2:MS} (h:EvA ta σ H [v, .str f, .str n, .int im.most]) (hv:Td H v (zcz im ks rest)) (r:zfB im ks f n num x st2)
  (q:∀ m H2 A2,Ex H H2→(∀ a∈own m A2++ro A2,H a=none)→Mac H2 C CC im m A2 st2→Q (.ref m) H2):tMake C (zcp C CC) [] E ta σ H Q:=h H (Ex.refl H) _ fun H1 e1 m dx hm hd nd=>by
 have e2:Ex H1 (upd (upd H1 dx (.own m)) m (.ins C dx [])):=(Ex.new hd).trans (Ex.new (by rw[upd_ne (Ne.symm nd)];exact hm))
 refine ⟨m,dx,v,im,ks,rest,f,n,num,x,st2,rfl,upd_same,Td.tx (Tx.of (e1.trans e2)) _ _ hv,r.hok,r.hnum,r.hdf,r.hcells,r.hgo,fun H2 A2 nw hM=>⟨rfl,?_⟩⟩
 obtain ⟨e3,hn⟩:=zgk hm hd nw nd
 exact q m H2 A2 (e1.trans e3) (fun a ha=>fresh_back e1 (hn a ha)) hM
theorem zfP {σ:L2.St} {H:Hp} {ta:TA} {E:XK} {D:Ends} {tz:TS} {i:Nat} {v:V} {im:Img} {ks:List Kd} {rest:List PyData} {f n:Str} {num:Nat} {x:Df} {st2:MS} (h:EvA ta σ H [v, .str f, .str n, .int im.most]) (hv:Td H v (zcz im ks rest)) (r:zfB im ks f n num x st2)
  (q:∀ m H2 A2,Ex H H2→(∀ a∈own m A2++ro A2,H a=none)→Mac H2 C CC im m A2 st2→tz D (σ.set i (some (.ref m))) H2):tSeq (tAsg (tMake C (zcp C CC) [] E ta) (gName i)) tz D σ H:=zgf (Q:=fun u H1=>tz D (σ.set i (some u)) H1) h hv r q
abbrev zbb:Stmt:=zaz 30
theorem zfX:FnScope ["image","file","name","most","machine"] ["image","file","name","most"] (fnScope zbb):=fnScope_by (by decide +kernel)
def zbH:Sp:=fun vs H Q _=>∃ (v:V) (im:Img) (ks:List Kd) (rest:List PyData) (f n:Str) (num:Nat) (x:Df) (st1 st2:MS) (k:Nat),vs=[v, .str f, .str n, .int im.most]∧Td H v (zcz im ks rest)∧zfB im ks f n num x st1∧zeG im k st1 st2 ∧
 ∀ (t l:Addr) (sv:List V) (ve:V) H2,Ex H H2→H2 t=some (.tup [.ref l,ve])→H2 l=some (.lst sv)→TdAll H2 sv st2.spoken→Td H2 ve (endD st2.ended)→Q (.ref t) H2
theorem zhj (T:zay K mg C CC aW aH aS) (c_q67:Mak P w K mg base 6 "Machine" C (zcp C CC) []) (c_q19:Met P w K mg base 6 C "do_row" (zag C CC ziA) []) {f:Addr} {fd:FuncData} (F:Def K mg "run" zbb f fd):FnOk P w K mg base C8.CX0 8 f fd ["image","file","name","most"] zbH:=by
 refine C8.fn0 F.fn zfX (fun vs H Q E h=>?_) (fun cdv A0 outer s H vs Q E hr h=>?_)
 ·obtain ⟨_,_,_,_,_,_,_,_,_,_,_,rfl,_⟩:=h
  rfl
 ·obtain ⟨v,im,ks,rest,fi,na,num,x,st1,st2,k0,rfl,hv,r,hR,q⟩:=h
  refine ⟨_,(pss_cons (ps_set (i:=4) zfX.nd rfl (.inl rfl) (C8.pe_mk c_q67 hr (by first|decide|exact Nat.le_refl _|omega) (by rfl) (pa_cons (pv 0) (pa_cons (pv 1) (pa_cons (pv 2) (pa_cons (pv 3) pa_nil))))))
   (pss_cons (ps_while PassesOwn.never (pt_cmpR op_isN (pe_fld (pv 4) rfl) pe_non (nomark _)) (pss_one (ps_expr (C8.pe_mt0 c_q19 hr (by first|decide|exact Nat.le_refl _|omega) (pv 4)))))
   (pss_one (ps_ret (pe_tup (pa_cons (pe_fld (pv 4) rfl) (pa_cons (pe_fld (pv 4) rfl) pa_nil))))))),?_⟩
  refine zfP (ks:=ks) (rest:=rest) (ea_cons (ev_var rfl) (ea_cons (ev_var rfl) (ea_cons (ev_var rfl) (ea_cons (ev_var rfl) ea_nil)))) hv r fun m H1 A1 e1 nw hM=>?_
  dsimp only[L2.start,List.map,List.set,List.length,List.append,List.replicate]
  refine q_while (fun k σ' H'=>σ'=[some v,some (.str fi),some (.str na),some (.int im.most),some (.ref m)]∧∃ A' st',Stp m H1 H' A1 A'∧Mac H' C CC im m A' st'∧zeG im k st' st2) k0 ⟨rfl,A1,st1, .refl _ _ _,hM,hR⟩ ?_
  rintro k σ' H' ⟨rfl,A',st',s',hM',hR'⟩
  have ex':Ex H H':=fun b o hb=>s'.k.keep b o (fun z=>by
   have:=nw b (List.mem_append_left _ z)
   rw[hb] at this
   cases this) (e1 b o hb)
  cases hR' with
  | stop h =>
   refine ⟨false,et_is (zaN T hM' (ev_var rfl)) (by
    cases he:st2.ended with
    | none=>rw[he] at h;cases h
    | some _=>rfl),(fun z=>by cases z),fun _ H2 e2=>?_⟩
   have hM2:=hM'.ex e2
   refine s_retU (xs:=[.ref A'.lsp,A'.ve]) (eu_tup (ea_cons (zaJ T hM2 (ev_var rfl)) (ea_cons (zbd T hM2 (ev_var rfl)) ea_nil)) (by show 2≤100000;decide)) fun t H3 ht e3 h3=>?_
   have hM3:=hM2.ex e3
   obtain ⟨sv,hs,hT⟩:=hM3.spok
   exact q t A'.lsp sv A'.ve H3 (ex'.trans (e2.trans e3)) h3 hs hT hM3.ended
  | @row _ st3 _ k2 h g r2 =>
   refine ⟨true,et_is (zaN T hM' (ev_var rfl)) (by rw[h]<;>rfl),(fun _ H2 e2=>⟨fun σ2 H2=>σ2=[some v,some (.str fi),some (.str na),some (.int im.most),some (.ref m)]∧∃ A2 st',Stp m H1 H2 A1 A2∧Mac H2 C CC im m A2 st'∧zeG im k2 st' st2,fun σ2 H2 z=>⟨k2,Nat.lt_succ_self _,z⟩,?_⟩),fun z=>by cases z⟩
   exact zaI (us:=[]) (hM'.ex e2) (ev_var rfl) (fun _ _ _=>rfl) (fun _ _=>ea_nil) ⟨rfl,g⟩ fun H3 A3 s3 hM3=>⟨rfl,A3,st3,s'.trans ((Stp.of e2 A').trans s3),hM3,r2⟩
end
/-- a call under way: its def,its number,where it stands,its cells' list -/
structure Fr where
 num:Nat
 call:Nat
 pc:Nat
 ca:Addr
def Fr.o (x:Fr):HO:= .tup [.int x.num, .int x.call, .int x.pc, .ref x.ca]
def frC (p:CA×CS):Fr:=⟨p.2.num,p.2.call,p.2.pc,p.1.lc⟩
def zbR (A:MA) (st:MS):List Fr:=⟨st.num,st.call,st.pc,A.lcl⟩::((A.cs.zip st.callers).map frC).reverse
inductive zaE (H:Hp):List V→List Fr→Prop
 | nil:zaE H [] []
 | cons {t:Addr} {vs:List V} {x:Fr} {xs:List Fr} (h:H t=some x.o) (r:zaE H vs xs):zaE H (.ref t::vs) (x::xs)
theorem zaE.tx {H H':Hp} (e:Tx H H'):∀ {vs:List V} {xs:List Fr},zaE H vs xs→zaE H' vs xs
 | _,_, .nil=> .nil
 | _,_, .cons h r=> .cons (e _ _ h) (r.tx e)
theorem zaE.snoc {H:Hp} {t:Addr} {x:Fr} (h:H t=some x.o):∀ {vs:List V} {xs:List Fr},zaE H vs xs→zaE H (vs++[.ref t]) (xs++[x])
 | _,_, .nil=> .cons h .nil
 | _,_, .cons g r=> .cons g (zaE.snoc h r)
theorem zaE.len {H:Hp}:∀ {vs:List V} {xs:List Fr},zaE H vs xs→vs.length=xs.length
 | _,_, .nil=>rfl
 | _,_, .cons _ r=>congrArg Nat.succ r.len
theorem zaE.get {H:Hp}:∀ {vs:List V} {xs:List Fr} {i:Nat} {v:V},zaE H vs xs→vs[i]?=some v→∃ t x,v= .ref t∧xs[i]?=some x∧H t=some x.o
 | _,_,0,_, .cons h r,e=>by
  cases e
  exact ⟨_,_,rfl,rfl,h⟩
 | _,_,i+1,_, .cons h r,e=>r.get (i:=i) e
theorem zax.get {H:Hp} {CC:Addr}:∀ {ps:List CA} {cs:List CS} {i:Nat} {p:CA} {c:CS},zax H CC ps cs→ps[i]?=some p→cs[i]?=some c→zdP H CC p c
 | _,_,0,_,_, .cons h r,e1,e2=>by
  cases e1
  cases e2
  exact h
 | _,_,i+1,_,_, .cons h r,e1,e2=>r.get (i:=i) e1 e2
section
variable {P:Program} {w:World} {K:PySem.W.Frag} {mg:Str→Option Value} {base:Heap} {C CC CR aW aH aS:Addr}
theorem zh4 {σ:L2.St} {H:Hp} {te:TE} {D:Ends} {tz:TS} {i:Nat} {xs:List V} (h:EvU te σ H xs) (k:∀ l t H1,H l=none→Ex H H1→H1 l=some (.lst [.ref t])→H1 t=some (.tup xs)→tz D (σ.set i (some (.ref l))) H1):tSeq (tAsg (tLst (tCons te tNil)) (gName i)) tz D σ H :=
 h H (Ex.refl H) _ fun t H1 ht e1 h1=>⟨sz_of (by show 1≤100000;decide),fun l hl=>k l t _ (fresh_back e1 hl) (e1.trans (Ex.new hl)) upd_same ((Ex.new hl) _ _ h1)⟩
theorem zfr {σ:L2.St} {H:Hp} {te:TE} {D:Ends} {tz tb:TS} {g:TG} {a:Addr} {xs:List V} (h:Ev te σ H (.ref a)) (hx:H a=some (.lst xs)) (Pv:Nat→L2.St→Hp→Prop) (h0:∀ H1,Ex H H1→Pv 0 σ H1) (hq:∀ i σ H,Pv i σ H→SqL K H a xs)
  (hs:∀ (i:Nat) (x:V) (σ:L2.St) (H:Hp),i<xs.length→xs[xs.length-1-i]?=some x→Pv i σ H→g x σ H fun σ2 H2=>tb { D with nx:=Pv (i+1),ct:=Pv (i+1),bk:=tz D } σ2 H2) (hd:∀ σ H,Pv xs.length σ H→tz D σ H):tSeq (tFor (RT.iRevA K te) g tb) tz D σ H :=
 h H (Ex.refl H) _ fun H1 e1=>⟨a,xs,rfl, .inl ⟨sq_of (e1 _ _ hx),RT.for_Itv (D:={ D with nx:=tz D }) Pv (h0 H1 e1) hq hs hd⟩⟩
abbrev zg8:Stmt:=(C8.clsBody (zaz 26)).getD 4 (.Pass ⟨0,0,0,0⟩)
theorem zgq:FnScope ["self","frames","one"] ["self"] (fnScope zg8):=fnScope_by (by decide +kernel)
def zbK (C CC:Addr):Sp:=fun vs H Q _=>∃ (m:Addr) (im:Img) (A:MA) (st:MS),vs=[.ref m]∧Mac H C CC im m A st∧st.ended=none∧st.callers.length≤1000∧∀ p us H2,H p=none→Ex H H2→H2 p=some (.lst us)→zaE H2 us (zbR A st)→Q (.ref p) H2
theorem zcs (T:zay K mg C CC aW aH aS) {f:Addr} {fd:FuncData} (me:Meth K C "under_way" f) (F:C8.Fun K "under_way" "Machine.under_way" zg8 f fd) (b:Binds K fd ["self"] []):Met P w K mg base 1 C "under_way" (zbK C CC) []:=by
 refine met0 T.cls me F b zgq (fun vs H Q E h=>?_) (fun cdv A0 outer s H vs Q E hr h=>?_)
 ·obtain ⟨_,_,_,_,rfl,_⟩:=h
  rfl
 ·obtain ⟨m,im,A,st,rfl,hM,he,hlen,q⟩:=h
  have m_reversed:=T.m_reversed
  refine ⟨_,(pss_cons (ps_if (pt_cmpR op_notN (pe_fld (pv 0) rfl) pe_non (nomark _)) (pss_one (ps_ret (pe_lst pa_nil))) pss_nil)
   (pss_cons (ps_set (i:=1) zgq.nd rfl (.inl rfl) (pe_lst (pa_cons (pe_tup (pa_cons (pe_fld (pv 0) rfl) (pa_cons (pe_fld (pv 0) rfl) (pa_cons (pe_fld (pv 0) rfl) (pa_cons (pe_fld (pv 0) rfl) pa_nil))))) pa_nil)))
   (pss_cons (ps_for PassesOwn.never rfl (RT.pi_revA (by rfl) m_reversed (pe_fld (pv 0) rfl)) (pg_name (i:=2) zgq.nd rfl (.inl rfl)) (pss_one (ps_expr (pe_bm PySem.F.plainAttrs_list PySem.F.slot_list_append PySem.F.type_list_append mt_append (pv 1) (pa_cons (pe_tup (pa_cons (pe_fld (pv 2) rfl) (pa_cons (pe_fld (pv 2) rfl) (pa_cons (pe_fld (pv 2) rfl) (pa_cons (pe_fld (pv 2) rfl) pa_nil))))) pa_nil)))))
   (pss_one (ps_ret (pv 1)))))),?_⟩
  refine q_when (b:=false) (et_is (zaG T hM (ev_var rfl)) (by rw[he]<;>rfl)) (fun z=>by cases z) (fun _ H1 e1=>?_)
  have hM1:=hM.ex e1
  -- frames=[(..)]
  refine zh4 (eu_tup (ea_cons (zad (ev_var rfl) hM1.o T.cls T.n_number zaW) (ea_cons (zad (ev_var rfl) hM1.o T.cls T.n_call zcM) (ea_cons (zbw T hM1 (ev_var rfl)) (ea_cons (za0 T hM1 (ev_var rfl)) ea_nil)))) (by show 4≤100000;decide)) fun l t H3 hl e3 hl3 ht3=>?_
  dsimp only[List.set]
  have hl0:H l=none:=fresh_back e1 hl
  have e02:=e1
  have e03:=e02.trans e3
  have hM3:=hM.ex e03
  have hlc:=hM.r.clrs.len
  refine zfr (zad (ev_var rfl) hM3.o T.cls T.n_callers zan) hM3.clrs (fun i σ' H'=>∃ (us:List V) (y:Option V),σ'=[some (.ref m),some (.ref l),y]∧Ex H H'∧H' l=some (.lst us)∧zaE H' us (⟨st.num,st.call,st.pc,A.lcl⟩::(((A.cs.zip st.callers).map frC).reverse.take i))) (fun H4 e4=>⟨_,_,rfl,e03.trans e4,e4 _ _ hl3, .cons (e4 _ _ ht3) (by rw[List.take_zero];exact .nil)⟩) (fun i σ' H' ⟨_,_,_,e,_,_⟩=>sq_of (hM.ex e).clrs) ?_ ?_
  ·rintro i x σ' H' hi hx ⟨us,y,rfl,e',hl',hF⟩
   rw[List.length_map] at hi hx
   have hM':=hM.ex e'
   have hj:A.cs.length-1-i<A.cs.length:=by omega
   rw[List.getElem?_map,List.getElem?_eq_getElem hj] at hx
   cases hx
   have hj2:A.cs.length-1-i<st.callers.length:=by omega
   have cl:=hM'.r.clrs.get (List.getElem?_eq_getElem hj) (List.getElem?_eq_getElem hj2)
   show tDrop _ _ [some (.ref m),some (.ref l),some (.ref (A.cs[A.cs.length-1-i]).a)] H'
   refine s_appU hl' (ev_var rfl) (eu_tup (ea_cons (zad (ev_var rfl) cl.ho T.ccl T.c_number rfl) (ea_cons (zad (ev_var rfl) cl.ho T.ccl T.c_call rfl) (ea_cons (zad (ev_var rfl) cl.ho T.ccl T.c_at rfl) (ea_cons (zad (ev_var rfl) cl.ho T.ccl T.c_cells rfl) ea_nil)))) (by show 4≤100000;decide)) (by
    rw[hF.len,List.length_cons,List.length_take,List.length_reverse,List.length_map,List.length_zip];omega) fun p H5 hp e5 h5=>?_
   have hl5:=e5 _ _ hl'
   have tl:Tx H5 (upd H5 l (.lst (us++[.ref p]))):=zai hl5 (by intro _ z;cases z)
   refine ⟨_,_,rfl,fun b o hb=>?_,upd_same,?_⟩
   ·rw[upd_ne fun z=>by rw[z,hl0] at hb;cases hb]
    exact e5 _ _ (e' _ _ hb)
   ·have hz:((A.cs.zip st.callers).map frC).reverse[i]?=some (frC (A.cs[A.cs.length-1-i],st.callers[A.cs.length-1-i])):=by
     have hzl:((A.cs.zip st.callers).map frC).length=A.cs.length:=by rw[List.length_map,List.length_zip];omega
     have hzz:(A.cs.zip st.callers)[A.cs.length-1-i]?=some (A.cs[A.cs.length-1-i],st.callers[A.cs.length-1-i]):=List.getElem?_zip_eq_some.mpr ⟨List.getElem?_eq_getElem hj,List.getElem?_eq_getElem hj2⟩
     rw[List.getElem?_reverse (by rw[hzl];exact hi),hzl,List.getElem?_map,hzz]<;>rfl
    rw[List.take_succ,hz]
    show zaE _ (us++[.ref p]) ((_::_)++[_])
    exact (hF.tx ((Tx.of e5).trans tl)).snoc (tl _ _ h5)
  ·rintro σ' H' ⟨us,y,rfl,e',hl',hF⟩
   rw[List.length_map,List.take_of_length_le (by rw[List.length_reverse,List.length_map,List.length_zip];omega)] at hF
   exact s_ret (ev_var rfl) fun H5 e5=>q l us H5 hl0 (e'.trans e5) (e5 _ _ hl') (hF.tx (Tx.of e5))
end
section
variable {P:Program} {w:World} {K:PySem.W.Frag} {mg:Str→Option Value} {base:Heap} {C CC CR aW aH aS:Addr}
/-- a def called with a keyword|a class made so -/
structure CalK (P:Program) (w:World) (K:PySem.W.Frag) (mg:Str→Option Value) (base:Heap) (k:Nat) (x:Str) (sp:Sp) (n:Nat) (ks:List Str):Prop where
 ex:∃ (f:Addr) (fd:FuncData) (ps:List Str) (g:List Value→List Value→List Value),FnOk P w K mg base C8.CX0 k f fd ps sp∧mg x=some (.ref f)∧PySem.W.keepIn K (.ref f)=true∧KBn K fd ps n ks g (fun vs zs=>vs++zs)
structure ziH (P:Program) (w:World) (K:PySem.W.Frag) (mg:Str→Option Value) (base:Heap) (k:Nat) (x:Str) (C:Addr) (sp:Sp) (n:Nat) (ks:List Str):Prop where
 ex:∃ (f:Addr) (fd:FuncData) (ps:List Str) (g:List Value→List Value→List Value),Mk K C f∧FnOk P w K mg base C8.CX0 k f fd ps sp∧mg x=some (.ref C)∧KBn K fd ps (n+1) ks g (fun vs zs=>vs++zs)
section
variable {X:Cx} {k j n:Nat} {C:Addr} {x:Str} {sp:Sp} {ks:List Str} {p pos:Pos} {e:Expr} {es:List Expr} {kws:List Keyword} {t tk:TA}
theorem pe_cK (c:CalK X.prog X.w X.K X.mg X.base k x sp n ks) (hr:Room j X.A) (hk:k≤j) (hg:Gl X x) (ha:PA X (e::es) t) (hkw:PK X kws tk) (hall:(backToKw pos (keywordEach kws X.env)).all (·.1.isSome)=true:=by rfl) (hks:(backToKw pos (keywordEach kws X.env)).filterMap (·.1)=ks:=by rfl)
  (hdb:(x==("__debug__":Str))=false:=by decide) (he:starEach (e::es) X.env=(false,eval e X.env)::starEach es X.env:=by rfl)
  (hpl:((backTo pos (starEach (e::es) X.env)).any (·.1)||(backToKw pos (keywordEach kws X.env)).any (·.1.isNone))=false:=by rfl) :
  PE X (.Call (.Name x p) (e::es) kws pos) (tCallN n ks.length sp (fun vs zs=>vs++zs) C8.E0 t tk):=by
 obtain ⟨f,fd,ps,g,F,hm,hkp,hb⟩:=c.ex
 exact pe_callN F (hr.mono hk) hg hm hkp hb C8.pass0 ha hkw hall hks hdb he hpl
theorem pe_mkK (c:ziH X.prog X.w X.K X.mg X.base k x C sp n ks) (hr:Room j X.A) (hk:k+1≤j) (hg:Gl X x) (ha:PA X (e::es) t) (hkw:PK X kws tk) (hall:(backToKw pos (keywordEach kws X.env)).all (·.1.isSome)=true:=by rfl) (hks:(backToKw pos (keywordEach kws X.env)).filterMap (·.1)=ks:=by rfl)
  (hdb:(x==("__debug__":Str))=false:=by decide) (he:starEach (e::es) X.env=(false,eval e X.env)::starEach es X.env:=by rfl)
  (hpl:((backTo pos (starEach (e::es) X.env)).any (·.1)||(backToKw pos (keywordEach kws X.env)).any (·.1.isNone))=false:=by rfl) :
  PE X (.Call (.Name x p) (e::es) kws pos) (tMakeK C n ks.length sp (fun vs zs=>vs++zs) C8.E0 t tk):=by
 obtain ⟨f,fd,ps,g,M,F,hm,hb⟩:=c.ex
 exact pe_makeK M F (hr.mono hk) hg hm hb C8.pass0 ha hkw hall hks hdb he hpl
end
structure zhy (K:PySem.W.Frag) (CR:Addr):Prop where
 cls:Cls K CR
 n:NoAttr K CR "machine"
/-- a new machine in a field -/
theorem zc9 {σ:L2.St} {H:Hp} {ta:TA} {tb:TE} {E:XK} {D:Ends} {o Co dx:Addr} {fs:List (Str×V)} {f:Str} {v:V} {im:Img} {ks:List Kd} {rest:List PyData} {fi n:Str} {num:Nat} {x:Df} {st2:MS} (h:EvA ta σ H [v, .str fi, .str n, .int im.most]) (hv:Td H v (zcz im ks rest)) (r:zfB im ks fi n num x st2)
  (ho:∀ H',Ev tb σ H' (.ref o)) (hf:H o=some (.ins Co dx fs)) (c:Cls K Co) (na:NoAttr K Co f) (hl:fs.length<1000)
  (q:∀ m H2 A2,Ex H H2→(∀ a∈own m A2++ro A2,H a=none)→Mac H2 C CC im m A2 st2→D.nx σ (upd H2 o (.ins Co dx (putF f (.ref m) fs)))):sFld K tb (tMake C (zcp C CC) [] E ta) f D σ H :=
 zgf (Q:=fun y H1=>tb σ H1 fun x H2=>∃ a C dx fs,x= .ref a∧H2 a=some (.ins C dx fs)∧Cls K C∧NoAttr K C f∧fs.length<1000∧D.nx σ (upd H2 a (.ins C dx (putF f y fs)))) h hv r fun m H2 A2 e2 nw hM=>ho H2 H2 (Ex.refl _) _ fun H3 e3=>⟨o,Co,dx,fs,rfl,(e2.trans e3) _ _ hf,c,na,hl,q m H3 A2 (e2.trans e3) nw (hM.ex e3)⟩
abbrev zgP:Stmt:=(C8.clsBody (zaz 31)).getD 0 (.Pass ⟨0,0,0,0⟩)
theorem zh5:FnScope ["self","image","file","name","most"] ["self","image","file","name","most"] (fnScope zgP):=fnScope_by (by decide +kernel)
def zfj (C CC CR:Addr):Sp:=fun vs H Q _=>∃ (r dx:Addr) (v:V) (im:Img) (ks:List Kd) (rest:List PyData) (f n:Str) (num:Nat) (x:Df) (st2:MS),vs=[.ref r,v, .str f, .str n, .int im.most]∧H r=some (.ins CR dx [])∧Td H v (zcz im ks rest)∧zfB im ks f n num x st2 ∧
 ∀ H2 m A2,(∀ b o,b≠r→H b=some o→H2 b=some o)→(∀ a∈own m A2++ro A2,H a=none)→H2 r=some (.ins CR dx [("machine", .ref m)])→Mac H2 C CC im m A2 st2→Q .non H2
theorem zhN (TR:zhy K CR) (c_q67:Mak P w K mg base 6 "Machine" C (zcp C CC) []) {f:Addr} {fd:FuncData} (F:C8.Fun K "__init__" "Runner.__init__" zgP f fd):FnOk P w K mg base C8.CX0 8 f fd ["self","image","file","name","most"] (zfj C CC CR):=by
 refine C8.fn0 F zh5 (fun vs H Q E h=>?_) (fun cdv A0 outer s H vs Q E hr h=>?_)
 ·obtain ⟨_,_,_,_,_,_,_,_,_,_,_,rfl,_⟩:=h
  rfl
 ·obtain ⟨r,dx,v,im,ks,rest,fi,na,num,x,st2,rfl,hr0,hv,r0,q⟩:=h
  refine ⟨_,(pss_one (ps_fld (pv 0) (C8.pe_mk c_q67 hr (by first|decide|exact Nat.le_refl _|omega) (by rfl) (pa_cons (pv 1) (pa_cons (pv 2) (pa_cons (pv 3) (pa_cons (pv 4) pa_nil))))) rfl)),?_⟩
  refine zc9 (ks:=ks) (rest:=rest) (ea_cons (ev_var rfl) (ea_cons (ev_var rfl) (ea_cons (ev_var rfl) (ea_cons (ev_var rfl) ea_nil)))) hv r0 (fun _=>ev_var rfl) hr0 TR.cls TR.n (by show 0<1000;decide) fun m H2 A2 e2 nw hM=>?_
  have hr2:=e2 _ _ hr0
  have nr:∀ a∈own m A2++ro A2,a≠r:=fun a ha z=>by
   have:=nw a ha
   rw[z,hr0] at this
   cases this
  refine q _ m A2 (fun b o nb hb=>by rw[upd_ne nb];exact e2 _ _ hb) nw upd_same (hM.keep (fun b hb o ho=>by rw[upd_ne (nr b hb)];exact ho) (zai hr2 (by intro _ z;cases z)))
abbrev zdM:Stmt:=(C8.clsBody (zaz 31)).getD 2 (.Pass ⟨0,0,0,0⟩)
theorem ziu:FnScope ["self"] ["self"] (fnScope zdM):=fnScope_by (by decide +kernel)
/-- of an object with a machine -/
def zaK (CO C CC:Addr):Sp:=fun vs H Q _=>∃ (o dx:Addr) (fs:List (Str×V)) (m:Addr) (im:Img) (A:MA) (st:MS) (d:PyData),vs=[.ref o]∧H o=some (.ins CO dx fs)∧fs.lookup (Str.ofString "machine")=some (.ref m)∧Mac H C CC im m A st∧ze8 im st d∧∀ v H2,Ex H H2→Td H2 v d→Q v H2
theorem zh7 (TR:zhy K CR) (c_q4:Met P w K mg base 1 C "row_ahead" (zcK C CC) []) {f:Addr} {fd:FuncData} (me:Meth K CR "where" f) (F:C8.Fun K "where" "Runner.where" zdM f fd) (b:Binds K fd ["self"] []):Met P w K mg base 2 CR "where" (zaK CR C CC) []:=by
 refine met0 TR.cls me F b ziu (fun vs H Q E h=>?_) (fun cdv A0 outer s H vs Q E hr h=>?_)
 ·obtain ⟨_,_,_,_,_,_,_,_,rfl,_⟩:=h
  rfl
 ·obtain ⟨o,dx,fs,m,im,A,st,d,rfl,ho,hl,hM,hA,q⟩:=h
  refine ⟨_,(pss_one (ps_ret (C8.pe_mt0 c_q4 hr (by first|decide|exact Nat.le_refl _|omega) (pe_fld (pv 0) rfl)))),?_⟩
  exact ⟨_,rfl,o,CR,dx,fs,_,rfl,ho,TR.cls,TR.n,hl,m,A.dx,_,rfl,hM.o,rfl,m,im,A,st,d,rfl,hM,hA,fun v H2 e2 hv=>q v H2 e2 hv⟩
abbrev zdt:Stmt:=(C8.clsBody (zaz 31)).getD 1 (.Pass ⟨0,0,0,0⟩)
theorem zh1:FnScope ["self"] ["self"] (fnScope zdt):=fnScope_by (by decide +kernel)
def zcL (CR C CC:Addr):Sp:=fun vs H Q _=>∃ (r dx m:Addr) (im:Img) (A:MA) (st st2:MS) (d:PyData),vs=[.ref r]∧H r=some (.ins CR dx [("machine", .ref m)])∧r∉own m A∧Mac H C CC im m A st∧st.ended=none∧zfk im (zfe st) st2∧ze8 im st2 d ∧
 ∀ v H2 A2,Stp m H H2 A A2→Mac H2 C CC im m A2 st2→Td H2 v d→Q v H2
theorem zik (T:zay K mg C CC aW aH aS) (TR:zhy K CR) (c_q19:Met P w K mg base 6 C "do_row" (zag C CC ziA) []) (c_q38:Met P w K mg base 2 CR "where" (zaK CR C CC) []) {f:Addr} {fd:FuncData} (me:Meth K CR "next" f) (F:C8.Fun K "next" "Runner.next" zdt f fd) (b:Binds K fd ["self"] []):Met P w K mg base 7 CR "next" (zcL CR C CC) []:=by
 refine met0 TR.cls me F b zh1 (fun vs H Q E h=>?_) (fun cdv A0 outer s H vs Q E hr h=>?_)
 ·obtain ⟨_,_,_,_,_,_,_,_,rfl,_⟩:=h
  rfl
 ·obtain ⟨r,dx,m,im,A,st,st2,d,rfl,ho,nr,hM,he,hg,hA,q⟩:=h
  refine ⟨_,(pss_cons (ps_if (pt_cmpR op_notN (pe_fld (pe_fld (pv 0) rfl) rfl) pe_non (nomark _)) (pss_one ps_never) pss_nil)
   (pss_cons (ps_expr (C8.pe_mt0 c_q19 hr (by first|decide|exact Nat.le_refl _|omega) (pe_fld (pv 0) rfl)))
   (pss_one (ps_ret (C8.pe_mt0 c_q38 hr (by first|decide|exact Nat.le_refl _|omega) (pv 0)))))),?_⟩
  refine q_when (b:=false) (et_is (zaG T hM (zad (ev_var rfl) ho TR.cls TR.n rfl)) (by rw[he]<;>rfl)) (fun z=>by cases z) (fun _ H1 e1=>?_)
  refine ze3 (us:=[]) (hM.ex e1) (zad (ev_var rfl) (e1 _ _ ho) TR.cls TR.n rfl) (fun _ _ _=>rfl) (fun _ _=>ea_nil) ⟨rfl,hg⟩ fun H2 A2 s2 hM2=>?_
  have s02:=(Stp.of e1 A).trans s2
  have ho2:=(s02.stay nr ho).1
  exact ⟨_,rfl,r,dx,_,rfl,ho2,rfl,r,dx,_,m,im,A2,st2,d,rfl,ho2,rfl,hM2,hA,fun v H3 e3 hv=>q v H3 A2 (s02.trans (Stp.of e3 A2)) (hM2.ex e3) hv⟩
abbrev zdC:Stmt:=(C8.clsBody (zaz 31)).getD 3 (.Pass ⟨0,0,0,0⟩)
theorem zhM:FnScope ["self"] ["self"] (fnScope zdC):=fnScope_by (by decide +kernel)
def zeU (CR C CC:Addr):Sp:=fun vs H Q _=>∃ (r dx m:Addr) (im:Img) (A:MA) (st:MS),vs=[.ref r]∧H r=some (.ins CR dx [("machine", .ref m)])∧Mac H C CC im m A st ∧
 ∀ p us H2,H p=none→Ex H H2→H2 p=some (.lst us)→TdAll H2 us st.spoken→Q (.ref p) H2
theorem zhP (T:zay K mg C CC aW aH aS) (TR:zhy K CR) {f:Addr} {fd:FuncData} (me:Meth K CR "said" f) (F:C8.Fun K "said" "Runner.said" zdC f fd) (b:Binds K fd ["self"] []):Met P w K mg base 1 CR "said" (zeU CR C CC) []:=by
 refine met0 TR.cls me F b zhM (fun vs H Q E h=>?_) (fun cdv A0 outer s H vs Q E hr h=>?_)
 ·obtain ⟨_,_,_,_,_,_,rfl,_⟩:=h
  rfl
 ·obtain ⟨r,dx,m,im,A,st,rfl,ho,hM,q⟩:=h
  have m_list:=T.m_list
  refine ⟨_,(pss_one (ps_ret (pe_callTy call_list_of (by rfl) m_list Wt.bt_list (pa_cons (pe_fld (pe_fld (pv 0) rfl) rfl) pa_nil)))),?_⟩
  obtain ⟨sv,hs,hT⟩:=hM.spok
  exact s_retL (el_list (K:=K) (zaJ T hM (zad (ev_var rfl) ho TR.cls TR.n rfl)) (sq_of hs)) fun p H1 hp e1 h1=>q p sv H1 hp e1 h1 (TdAll.tx (Tx.of e1) _ _ hT)
end
structure Nm where
 file:Str
 of:Str
 name:Str
 kind:Str
 cell:Nat
 first:Nat
 last:Nat
def Nm.d (x:Nm):PyData:= .tuple [.str x.file, .str x.of, .str x.name, .str x.kind, .int x.cell, .int x.first, .int x.last]
def Nm.row (x:Nm):PyData:= .tuple [.str x.name, .str x.kind, .int x.cell]
def zhc (f n:Str) (row:Nat) (x:Nm):Bool:=(decide (x.file=f)&&decide (x.of=n))&&(decide ((x.first:Int)≤row)&&decide ((row:Int)≤x.last))
abbrev Use:=Str×List PyData
def zhC (u:Use):PyData:= .tuple [.str u.1, .tuple u.2]
structure zhT (K:PySem.W.Frag) (CS:Addr):Prop where
 cls:Cls K CS
 n_defs:NoAttr K CS "defs"
 n_names:NoAttr K CS "names"
 n_own:NoAttr K CS "own"
 n_uses:NoAttr K CS "uses"
/-- an image as a sheet wants it: no consts here -/
structure zfz (im:Img) (ks:List Kd) (us:List Use) (ns:List Nm):Prop where
 un:(us.map (·.1)).Nodup
 kf:∀ k∈ks,k.file∈us.map (·.1)
 ul:us.length≤1000
 kl:ks.length≤1000
 nl:ns.length≤1000
 dl:im.defs.length≤1000
def zbY (us:List Use) (ns:List Nm):List PyData:=[.tuple [], .tuple (us.map zhC), .tuple (ns.map Nm.d)]
section
variable {P:Program} {w:World} {K:PySem.W.Frag} {mg:Str→Option Value} {base:Heap} {C CC CR CS aW aH aS:Addr}
theorem zin {H:Hp} {x:V} {k:Kd} (h:Td H x k.d):∃ t:Addr,x= .ref t∧H t=some (.tup [.str k.file, .str k.name, .str k.kind, .int k.worth, .bl k.out]):=by
 unfold Kd.d at h
 cases h with
 | tup ha hT =>
  cases hT with
  | cons t1 t2 =>
   cases t1
   cases t2 with
   | cons t3 t4 =>
    cases t3
    cases t4 with
    | cons t5 t6 =>
     cases t5
     cases t6 with
     | cons t7 t8 =>
      cases t7
      cases t8 with
      | cons t9 t10 =>
       cases t9
       cases t10
       exact ⟨_,rfl,ha⟩
abbrev zdQ:Stmt:=(C8.clsBody (zaz 33)).getD 0 (.Pass ⟨0,0,0,0⟩)
theorem zaj:FnScope ["self","image","keeps","consts","uses","names","file","_","number","name","kind","out","worth","table","used"] ["self","image"] (fnScope zdQ):=fnScope_by (by decide +kernel)
def zgZ (sd sn so su:Addr):List (Str×V):=[("defs", .ref sd),("names", .ref sn),("own", .ref so),("uses", .ref su)]
def zcP (CS:Addr):Sp:=fun vs H Q _=>∃ (s dx:Addr) (v:V) (im:Img) (ks:List Kd) (us:List Use) (ns:List Nm),vs=[.ref s,v]∧H s=some (.ins CS dx [])∧Td H v (zcz im ks (zbY us ns))∧zfz im ks us ns ∧
 ∀ H2 sd sn so su,(∀ b o,b≠s→H b=some o→H2 b=some o)→H sd=none→H sn=none→H2 s=some (.ins CS dx (zgZ sd sn so su))→(∃ dv,H2 sd=some (.lst dv)∧TdAll H2 dv (im.defs.map Df.d))→(∃ nv,H2 sn=some (.lst nv)∧TdAll H2 nv (ns.map Nm.d))→Q .non H2
theorem zhu (T:zay K mg C CC aW aH aS) (TS:zhT K CS) {f:Addr} (M:Mk K CS f) (hm:mg "Sheet"=some (.ref CS)) {fd:FuncData} (F:C8.Fun K "__init__" "Sheet.__init__" zdQ f fd) (b:Binds K fd ["self","image"] []):Mak P w K mg base 1 "Sheet" CS (zcP CS) []:=by
 refine mak0 M hm F b .nil zaj (fun vs H Q E h=>?_) (fun cdv A0 outer s0 H vs Q E hr h=>?_)
 ·obtain ⟨_,_,_,_,_,_,_,rfl,_⟩:=h
  rfl
 ·obtain ⟨s,dx,v,im,ks,us,ns,rfl,hs,hv,ok,q⟩:=h
  have hu:=hu_of hr
  have m_list:=T.m_list
  have m_enumerate:=T.m_enumerate
  refine ⟨_,(pss_cons (ps_asg (pe_lc (own:=[("table",13)]) (g:=(gName 13)) (tt:=tYes) rfl zaj.nd (pi_tup (pe_slice sl_tupA (pv 1) (po_some pe_int) po_none)) (blkOk_by (N:=["self","image","keeps","consts","uses","names","file","_","number","name","kind","out","worth","table","used"]) (sc:=C8.fnScope zdQ) (by decide +kernel)) (fun _ _ _ _ _=>pg_name (i:=13) zaj.nd rfl (Or.inl rfl)) (fun _ _ _ _ _=>pts_nil) (fun _ _ _ _ _=>(pe_callTy (show CallR _ (PySem.Value.type "list") (Evl.rListS K) from call_list_of) (by rfl) m_list Wt.bt_list (pa_cons (pv 13) pa_nil)))) (L2.pg_lst rfl (pgs_cons (Wt.pg_fld (pv 0)) (pgs_cons (pg_name (i:=2) zaj.nd rfl (.inl rfl)) (pgs_cons (pg_name (i:=3) zaj.nd rfl (.inl rfl)) (pgs_cons (pg_name (i:=4) zaj.nd rfl (.inl rfl)) (pgs_cons (pg_name (i:=5) zaj.nd rfl (.inl rfl)) pgs_nil)))))))
   (pss_cons (ps_fld (pv 0) (pv 5) rfl)
   (pss_cons (ps_fld (pv 0) (pe_dc (own:=[("file",6),("_",7)]) (g:=(gTup K 2 (gCons (gName 6) (gCons (gName 7) gNil)))) (tt:=tYes) rfl zaj.nd (pi_list (pv 4)) (blkOk_by (N:=["self","image","keeps","consts","uses","names","file","_","number","name","kind","out","worth","table","used"]) (sc:=C8.fnScope zdQ) (by decide +kernel)) (fun _ _ _ _ _=>pg_tup rfl (pgs_cons (pg_name (i:=6) zaj.nd rfl (Or.inl rfl)) (pgs_cons (pg_name (i:=7) zaj.nd rfl (Or.inl rfl)) pgs_nil))) (fun _ _ _ _ _=>pts_nil) (fun _ _ _ _ _=>(pv 6)) (fun _ _ _ _ _=>pe_dnewK)) rfl)
   (pss_cons (ps_fld (pv 0) (pe_dc (own:=[("file",6),("used",14)]) (g:=(gTup K 2 (gCons (gName 6) (gCons (gName 14) gNil)))) (tt:=tYes) rfl zaj.nd (pi_list (pv 4)) (blkOk_by (N:=["self","image","keeps","consts","uses","names","file","_","number","name","kind","out","worth","table","used"]) (sc:=C8.fnScope zdQ) (by decide +kernel)) (fun _ _ _ _ _=>pg_tup rfl (pgs_cons (pg_name (i:=6) zaj.nd rfl (Or.inl rfl)) (pgs_cons (pg_name (i:=14) zaj.nd rfl (Or.inl rfl)) pgs_nil))) (fun _ _ _ _ _=>pts_nil) (fun _ _ _ _ _=>(pv 6)) (fun _ _ _ _ _=>(pe_callTy (show CallR _ (PySem.Value.type "list") (Evl.rListS K) from call_list_of) (by rfl) m_list Wt.bt_list (pa_cons (pv 14) pa_nil)))) rfl)
   (pss_cons (ps_for PassesOwn.never rfl (pi_enum (by rfl) m_enumerate (pa_cons (pv 2) pa_nil)) (pg_tup rfl (pgs_cons (pg_name (i:=8) zaj.nd rfl (.inl rfl)) (pgs_cons (pg_tup rfl (pgs_cons (pg_name (i:=6) zaj.nd rfl (.inl rfl)) (pgs_cons (pg_name (i:=9) zaj.nd rfl (.inl rfl)) (pgs_cons (pg_name (i:=10) zaj.nd rfl (.inl rfl)) (pgs_cons (pg_name (i:=7) zaj.nd rfl (.inl rfl)) (pgs_cons (pg_name (i:=11) zaj.nd rfl (.inl rfl)) pgs_nil)))))) pgs_nil))) (pss_one (ps_dput hu (pe_dget hu (pe_fld (pv 0) rfl) (pv 6) (fun _ _=>rfl)) (pv 9) (pe_tup (pa_cons (pe_tup (pa_cons pe_str (pa_cons (pv 8) (pa_cons (pv 10) pa_nil)))) (pa_cons (pv 11) pa_nil))) rfl)))
   (pss_one (ps_for PassesOwn.never rfl (pi_list (pv 3)) (pg_tup rfl (pgs_cons (pg_name (i:=6) zaj.nd rfl (.inl rfl)) (pgs_cons (pg_name (i:=9) zaj.nd rfl (.inl rfl)) (pgs_cons (pg_name (i:=10) zaj.nd rfl (.inl rfl)) (pgs_cons (pg_name (i:=12) zaj.nd rfl (.inl rfl)) (pgs_cons (pg_name (i:=11) zaj.nd rfl (.inl rfl)) pgs_nil)))))) (pss_one (ps_dput hu (pe_dget hu (pe_fld (pv 0) rfl) (pv 6) (fun _ _=>rfl)) (pv 9) (pe_tup (pa_cons (pe_tup (pa_cons pe_str (pa_cons (pv 12) (pa_cons (pv 10) pa_nil)))) (pa_cons (pv 11) pa_nil))) rfl))))))))),?_⟩
  have hsl:EvD (tSl (rSlA K) (tVar 1) (tPart (tC (.int 2))) tNoPart) [some (.ref s),some v,none,none,none,none,none,none,none,none,none,none,none,none,none] H (.tuple ([im.defs.map Df.d,ks.map Kd.d,[],us.map zhC,ns.map Nm.d].map PyData.tuple)):=zef (zhp (K:=K) (k:=2) (ev_var rfl) hv (by show 2≤7;decide)) rfl
  refine zhA (K:=K) (dss:=[im.defs.map Df.d,ks.map Kd.d,[],us.map zhC,ns.map Nm.d]) hsl (by show 5≤1000;decide) (fun _=>rfl) (fun _=>rfl) fun d H1 tabs hd e1 hd1 hL=>?_
  obtain ⟨l1,l2,l3,l4,l5,u1,u2,u3,u4,u5,rfl,⟨g1,h1,t1⟩,⟨g2,h2,t2⟩,⟨g3,h3,t3⟩,⟨g4,h4,t4⟩,g5,h5,t5⟩:∃ (l1 l2 l3 l4 l5:Addr) (u1 u2 u3 u4 u5:List V),tabs=[.ref l1, .ref l2, .ref l3, .ref l4, .ref l5]∧(H l1=none∧H1 l1=some (.lst u1)∧TdAll H1 u1 (im.defs.map Df.d))∧(H l2=none∧H1 l2=some (.lst u2)∧TdAll H1 u2 (ks.map Kd.d))∧(H l3=none∧H1 l3=some (.lst u3)∧TdAll H1 u3 [])∧(H l4=none∧H1 l4=some (.lst u4)∧TdAll H1 u4 (us.map zhC))∧H l5=none∧H1 l5=some (.lst u5)∧TdAll H1 u5 (ns.map Nm.d):=by
   cases hL with
   | cons a1 b1 c1 r1 =>
    cases r1 with
    | cons a2 b2 c2 r2 =>
     cases r2 with
     | cons a3 b3 c3 r3 =>
      cases r3 with
      | cons a4 b4 c4 r4 =>
       cases r4 with
       | cons a5 b5 c5 r5 =>
        cases r5
        exact ⟨_,_,_,_,_,_,_,_,_,_,rfl,⟨a1,b1,c1⟩,⟨a2,b2,c2⟩,⟨a3,b3,c3⟩,⟨a4,b4,c4⟩,a5,b5,c5⟩
  have hs1:=e1 _ _ hs
  have ne:∀ {a:Addr},H a=none→a≠s:=fun h z=>by rw[z,hs] at h;cases h
  refine ⟨d,_,rfl,sq_of hd1,rfl,_,_,rfl,⟨_,rfl,s,CS,dx,[],rfl,hs1,TS.cls,TS.n_defs,by show 0<1000;decide,_,_,rfl,_,_,rfl,_,_,rfl,_,_,rfl,rfl,?_⟩⟩
  have k2:Kp [s] H (upd H1 s (.ins CS dx (putF "defs" (.ref l1) []))):=⟨fun b o nb hb=>by
   rw[upd_ne fun z=>nb (by rw[z];exact List.mem_singleton.mpr rfl)]
   exact e1 _ _ hb,fun b hb=>by
   by_cases z:b=s
   ·rw[z,upd_same] at hb;cases hb
   ·rw[upd_ne z] at hb;exact fresh_back e1 hb⟩
  have x2:(upd H1 s (.ins CS dx (putF "defs" (.ref l1) []))) s=some (.ins CS dx [("defs", .ref l1)]):=upd_same
  have tt2:Tx H1 (upd H1 s (.ins CS dx (putF "defs" (.ref l1) []))):=zai hs1 (by intro _ z;cases z)
  have kk:∀ b o,b≠s→H1 b=some o→(upd H1 s (.ins CS dx (putF "defs" (.ref l1) []))) b=some o:=fun b o nb hb=>by rw[upd_ne nb];exact hb
  generalize upd H1 s (.ins CS dx (putF "defs" (.ref l1) []))=H2 at k2 x2 tt2 kk
  show tSeq _ _ _ [some (.ref s),some v,some (.ref l2),some (.ref l3),some (.ref l4),some (.ref l5),none,none,none,none,none,none,none,none,none] H2
  refine zca (fs':=[("defs", .ref l1),("names", .ref l5)]) (v:= .ref l5) (ev_var rfl) (fun _=>ev_var rfl) x2 TS.cls TS.n_names (by show 1<1000;decide) rfl fun H3 k3 tt3 x3=>?_
  have st3:∀ b o,b≠s→H1 b=some o→H3 b=some o:=fun b o nb hb=>k3.keep b o (by rw[List.mem_singleton];exact nb) (kk b o nb hb)
  have t13:=tt2.trans tt3
  -- own
  refine zaQ (P:=fun d H'=>zhf H3 H' d (us.map fun u:Use=>u.1) 0) (fun Q q=>zid (K:=K) (us:=us.map fun u=>(u.1, .tuple u.2)) (ev_var rfl) (st3 _ _ (ne g4) h4) (by rw[List.map_map];exact TdAll.tx t13 _ _ t4) (by rw[List.map_map];exact ok.un) (by rw[List.length_map];exact Nat.le_trans ok.ul (by decide)) (fun _ _=>rfl) (fun _ _=>rfl) fun d Hb hd eb hO=>q d Hb hd eb (by rw[List.map_map] at hO;exact hO)) (fun _=>ev_var rfl) x3 TS.cls TS.n_own (by show 2<1000;decide) (fun p Ha Hb n k t ⟨kvs,y1,y2,y3⟩=>⟨kvs,k.keep _ _ (by rw[List.mem_singleton];exact n) y1,y2,fun u hu=>by
   obtain ⟨e,kz,z1,z2,z3,z4,z5⟩:=y3 u hu
   exact ⟨e,kz,z1,z2,z3,k.keep _ _ (by rw[List.mem_singleton];intro z;rw[z,x3] at z3;cases z3) z4,z5⟩⟩) fun so H4 hso k4 tt4 nso hO x4=>?_
  -- uses
  have st4:∀ b o,b≠s→H1 b=some o→H4 b=some o:=fun b o nb hb=>k4.keep b o (by rw[List.mem_singleton];exact nb) (st3 b o nb hb)
  have t14:=t13.trans tt4
  refine zaQ (P:=fun d H'=>True) (fun Q q=>zgT (K:=K) (us:=us) (ev_var rfl) (st4 _ _ (ne g4) h4) (TdAll.tx t14 _ _ t4) (Nat.le_trans ok.ul (by decide)) (fun _ _=>rfl) (fun _ _=>rfl) (fun _ _=>rfl) fun d Hb hd eb=>q d Hb hd eb trivial) (fun _=>ev_var rfl) x4 TS.cls TS.n_uses (by show 3<1000;decide) (fun _ _ _ _ _ _ _=>trivial) fun su H5 hsu k5 tt5 nsu _ x5=>?_
  have t15:=t14.trans tt5
  have hO5:zhf H3 H5 so (us.map (·.1)) 0:=by
   obtain ⟨kvs,y1,y2,y3⟩:=hO
   exact ⟨kvs,k5.keep _ _ (by rw[List.mem_singleton];exact nso) y1,y2,fun u hu=>by
    obtain ⟨e,kz,z1,z2,z3,z4,z5⟩:=y3 u hu
    exact ⟨e,kz,z1,z2,z3,k5.keep _ _ (by rw[List.mem_singleton];intro z;rw[z,x3] at z3;cases z3) z4,z5⟩⟩
  have st5:∀ b o,b≠s→H3 b=some o→H5 b=some o:=fun b o nb hb=>k5.keep b o (by rw[List.mem_singleton];exact nb) (k4.keep b o (by rw[List.mem_singleton];exact nb) hb)
  have x5:H5 s=some (.ins CS dx (zgZ l1 l5 so su)):=x5
  -- the keeps
  have hl2:=t2.len
  rw[List.length_map] at hl2
  have hT5:=TdAll.tx t15 _ _ t2
  let G:Nat→L2.St→Hp→Prop:=fun i σ' H'=>(∃ y6 y7 y8 y9 y10 y11,σ'=[some (.ref s),some v,some (.ref l2),some (.ref l3),some (.ref l4),some (.ref l5),y6,y7,y8,y9,y10,y11,none,none,none])∧(∀ b o,b≠s→H3 b=some o→H' b=some o)∧H' s=some (.ins CS dx (zgZ l1 l5 so su))∧zhf H3 H' so (us.map (·.1)) i∧Tx H5 H'
  have hkey:∀ (kvs:List (Key×V)) (fs:List Str) (f:Str),kvs.map (·.1)=fs.map (fun f=>(Sum.inr f:Key))→f∈fs→∃ u,valV kvs (Sum.inr f:Key)=some u∧u∈kvs.map (·.2):=by
   intro kvs
   induction kvs with
   | nil =>
    intro fs f h1 h2
    cases fs with
    | nil=>cases h2
    | cons _ _=>cases h1
   | cons kv r ih =>
    intro fs f h1 h2
    cases fs with
    | nil=>cases h1
    | cons f0 fr =>
     injection h1 with h1 h1r
     have h1:kv.1=(Sum.inr f0:Key):=h1
     by_cases e:f0=f
     ·exact ⟨kv.2,valV_pos (by rw[h1,e]),List.mem_cons_self ..⟩
     ·rcases List.mem_cons.mp h2 with h2|h2
      ·exact absurd h2.symm e
      ·obtain ⟨u,z1,z2⟩:=ih fr f h1r h2
       exact ⟨u,by rw[valV_neg fun z=>e (by rw[h1] at z;injection z)];exact z1,List.mem_cons_of_mem _ z2⟩
  refine zd2 (ev_var rfl) (st5 _ _ (ne g2) (st3 _ _ (ne g2) h2)) G (fun H6 e6=>⟨⟨_,_,_,_,_,_,rfl⟩,fun b o nb hb=>e6 _ _ (st5 b o nb hb),e6 _ _ x5,?_,Tx.of e6⟩) (fun i σ' H' p=>sq_of (p.2.1 _ _ (ne g2) (st3 _ _ (ne g2) h2))) ?_ ?_
  ·obtain ⟨kvs,y1,y2,y3⟩:=hO5
   exact ⟨kvs,e6 _ _ y1,y2,fun u hu=>by
    obtain ⟨e,kz,z1,z2,z3,z4,z5⟩:=y3 u hu
    exact ⟨e,kz,z1,z2,z3,e6 _ _ z4,z5⟩⟩
  ·rintro i x σ' H6 H7 hx ⟨⟨y6,y7,y8,y9,y10,y11,rfl⟩,st6,x6,⟨kvs,o1,o2,o3⟩,tt6⟩ e7
   dsimp only[List.set]
   obtain ⟨dd,q1,q2⟩:=TdAll.at (TdAll.tx (tt6.trans (Tx.of e7)) _ _ hT5) hx
   obtain ⟨k,hk,rfl⟩:∃ k,ks[i]?=some k∧dd=Kd.d k:=by
    rw[List.getElem?_map] at q1
    obtain ⟨k,hk,e⟩:=Option.map_eq_some_iff.mp q1
    exact ⟨k,hk,e.symm⟩
   have hi:i<ks.length:=(List.getElem?_eq_some_iff.mp hk).1
   have hil:i≤1000:=Nat.le_trans (Nat.le_of_lt hi) ok.kl
   obtain ⟨t,rfl,ht⟩:=zin q2
   refine ⟨t,_,rfl,st_of ht,rfl,_,_,rfl,_,_,rfl,_,_,rfl,_,_,rfl,_,_,rfl,rfl,rfl,?_⟩
   show sDPut _ _ _ _ [some (.ref s),some v,some (.ref l2),some (.ref l3),some (.ref l4),some (.ref l5),some (.str k.file),some (.int k.worth),some (.int (i:Nat)),some (.str k.name),some (.str k.kind),some (.bl k.out),none,none,none] H7
   refine zd6 (n:=2) (zah (zd6 (n:=3) (zah (zbf ev_c) (zah (zbf (ev_var rfl)) (zah (zbf (ev_var rfl)) zcR))) (by decide)) (zah (zbf (ev_var rfl)) zcR)) (by decide) H7 (Ex.refl _) _ fun y H8 e8=>?_
   have e78:=e7.trans e8
   have x8:=e78 _ _ x6
   obtain ⟨u,z1,z2⟩:=hkey kvs (us.map (·.1)) k.file o2 (ok.kf k (List.mem_of_getElem? hk))
   obtain ⟨e,kz,rfl,w2,w3,w4,w5⟩:=o3 u z2
   refine zgK (k:=k.file) (v:= .ref e) (ta:=tFld K (tVar 0) "own") (zad (ev_var rfl) x8 TS.cls TS.n_own rfl) (ev_var rfl) (e78 _ _ o1) z1 H8 (Ex.refl _) _ fun H9 e9=>⟨_,rfl,e,upd H9 e (.dK (putK kz (Sum.inr k.name:Key) y)),rfl,DPut.k (k:=Sum.inr k.name) (v:=y) (e9 _ _ (e78 _ _ w4)) (sz_lt (by omega)),?_⟩
   have e79:=e78.trans e9
   have nes:e≠s:=fun z=>by rw[z,x3] at w3;cases w3
   have tE:Tx H9 (upd H9 e (.dK (putK kz (Sum.inr k.name:Key) y))):=zai (e79 _ _ w4) (by intro _ z;cases z)
   refine ⟨⟨_,_,_,_,_,_,rfl⟩,fun b o nb hb=>?_,by rw[upd_ne (Ne.symm nes)];exact e79 _ _ x6,⟨kvs,by rw[upd_ne (Ne.symm w2)];exact e79 _ _ o1,o2,fun u2 hu2=>?_⟩,(tt6.trans (Tx.of e79)).trans tE⟩
   ·rw[upd_ne fun z=>by rw[z,w3] at hb;cases hb]
    exact e79 _ _ (st6 b o nb hb)
   ·obtain ⟨e2,kz2,rfl,v2,v3,v4,v5⟩:=o3 u2 hu2
    by_cases ee:e2=e
    ·refine ⟨e,_,by rw[ee],w2,w3,upd_same,?_⟩
     unfold putK
     split
     ·rw[List.length_map];omega
     ·rw[List.length_append,List.length_singleton];omega
    ·exact ⟨e2,kz2,rfl,v2,v3,by rw[upd_ne ee];exact e79 _ _ v4,by omega⟩
  ·rintro σ' H6 ⟨⟨y6,y7,y8,y9,y10,y11,rfl⟩,st6,x6,_,tt6⟩
   have hu3:u3=[]:=by
    have:=t3.len
    exact List.eq_nil_of_length_eq_zero this
   subst hu3
   refine s_forL (xs:=[]) (ev_var rfl) (sq_of (st6 _ _ (ne g3) (st3 _ _ (ne g3) h3))) (fun i σ2 H2=>Ex H6 H2) (fun H7 e7=>e7) (fun i σ2 H2 _ e=>sq_of (e _ _ (st6 _ _ (ne g3) (st3 _ _ (ne g3) h3)))) (fun i x σ2 H2 hx=>by cases hx) fun σ2 H7 e7=>?_
   have fin:∀ b o,b≠s→H1 b=some o→H7 b=some o:=fun b o nb hb=>e7 _ _ (st6 b o nb (st3 b o nb hb))
   have tf:Tx H1 H7:=(t15.trans tt6).trans (Tx.of e7)
   exact q H7 l1 l5 so su (fun b o nb hb=>fin b o nb (e1 _ _ hb)) g1 g5 (e7 _ _ x6) ⟨u1,fin _ _ (ne g1) h1,TdAll.tx tf _ _ t1⟩ ⟨u5,fin _ _ (ne g5) h5,TdAll.tx tf _ _ t5⟩
end
section
variable {K:PySem.W.Frag} {σ:L2.St} {H H':Hp} {ta tb te tl tv:TE} {tt:TT} {D:Ends} {tz:TS} {E:XK} {Q:VK}
theorem ziF {x:V} {p:Nm} (h:Td H x p.d):∃ t:Addr,x= .ref t∧H t=some (.tup [.str p.file, .str p.of, .str p.name, .str p.kind, .int p.cell, .int p.first, .int p.last]):=by
 unfold Nm.d at h
 cases h with
 | tup ha hT =>
  cases hT with
  | cons t1 t2 =>
   cases t1
   cases t2 with
   | cons t1 t2 =>
    cases t1
    cases t2 with
    | cons t1 t2 =>
     cases t1
     cases t2 with
     | cons t1 t2 =>
      cases t1
      cases t2 with
      | cons t1 t2 =>
       cases t1
       cases t2 with
       | cons t1 t2 =>
        cases t1
        cases t2 with
        | cons t1 t2 =>
         cases t1
         cases t2
         exact ⟨_,rfl,ha⟩
theorem zcj (h:te σ H D.rt):tRet te D σ H:=h
theorem zeO {a b c d:Str} (h1:EvD ta σ H (.tuple [.str a, .str b])) (h2:EvD tb σ H (.tuple [.str c, .str d])) (s1:SeqAt.shaped (.tuple [.str a, .str b])=true) (s2:SeqAt.shaped (.tuple [.str c, .str d])=true):Ev (tOp (rEqD K) ta tb) σ H (.bl (decide (a=c)&&decide (b=d))):=fun H1 e Q q=>h1 H1 e _ fun v H2 e2 hv=>h2 H2 (e.trans e2) _ fun u H3 e3 hu =>
 ⟨_,_,Td.dp _ _ (Td.tx (Tx.of e3) _ _ hv),Td.dp _ _ hu,s1,s2,by
  have e:PyData.eqv (.tuple [.str a, .str b]) (.tuple [.str c, .str d])=(decide (a=c)&&decide (b=d)):=by
   simp[PyData.eqv,PyData.eqvAll]
   by_cases h1:a=c<;>by_cases h2:b=d<;>simp[h1,h2]
  rw[e]
  exact q H3 (e2.trans e3)⟩
/-- a comprehension over names,by a test -/
theorem zfI {a:Addr} {xs:List V} {ns:List Nm} {vs:List Nat} {p:Nm→Bool} {s:Nm→L2.St} (h:Ev tl σ H (.ref a)) (ha:H a=some (.lst xs)) (hT:TdAll H xs (ns.map Nm.d)) (hz:ns.length≤1000)
  (hs:∀ x,((((((((wipe σ vs).set 4 (some (.str x.file))).set 5 (some (.str x.of))).set 6 (some (.str x.name))).set 7 (some (.str x.kind))).set 8 (some (.int x.cell))).set 9 (some (.int x.first))).set 10 (some (.int x.last)))=s x) (hw:∀ x,wipe (s x) vs=wipe σ vs)
  (ht:∀ x∈ns,∀ H1,Ex H H1→EvT tt (s x) H1 (p x)) (he:∀ x H1,Ex H H1→EvD te (s x) H1 x.row)
  (q:∀ d H1 us,H d=none→Ex H H1→H1 d=some (.lst us)→TdAll H1 us ((ns.filter p).map Nm.row)→Q (.ref d) H1) :
  tLc (iList K tl) (gTup K 7 (gCons (gName 4) (gCons (gName 5) (gCons (gName 6) (gCons (gName 7) (gCons (gName 8) (gCons (gName 9) (gCons (gName 10) gNil)))))))) tt te vs σ H Q:=by
 have hl:=hT.len
 rw[List.length_map] at hl
 refine h H (Ex.refl H) _ fun H1 e1=>⟨a,rfl,⟨xs,sq_of (e1 _ _ ha)⟩,fun Dl hD=>?_⟩
 refine lc_it (walk_list (a:=a) (xs:=xs)) (fun i H'=>Ex H1 H'∧∃ us,H' Dl=some (.lst us)∧us.length≤i∧TdAll H' us (((ns.take i).filter p).map Nm.row)) ⟨Ex.new hD,[],upd_same,Nat.le_refl _, .nil⟩ (fun i H' _ ⟨e2,_⟩=>sq_of ((e1.trans e2) _ _ ha)) ?_ ?_
 ·rintro i x H2 H3 hi ⟨e2,us,g1,g2,g3⟩ ⟨rfl,hx⟩
  have hip:i<ns.length:=by omega
  obtain ⟨d,k1,k2⟩:=TdAll.at (TdAll.tx (Tx.of (e1.trans e2)) _ _ hT) hx
  rw[List.getElem?_map,List.getElem?_eq_getElem hip] at k1
  cases k1
  obtain ⟨t,rfl,ht2⟩:=ziF k2
  refine ⟨t,_,rfl,st_of ht2,rfl,_,_,rfl,_,_,rfl,_,_,rfl,_,_,rfl,_,_,rfl,_,_,rfl,_,_,rfl,rfl,?_⟩
  rw[hs]
  refine ⟨hw _,ht _ (List.getElem_mem hip) _ (e1.trans e2) H3 (Ex.refl _) _ fun H4 e4=>?_⟩
  have tk:ns.take (i+1)=ns.take i++[ns[i]]:=by rw[List.take_succ,List.getElem?_eq_getElem hip]<;>rfl
  cases hp:p ns[i] with
  | false =>
   rw[if_neg Bool.false_ne_true]
   refine ⟨e2.trans e4,us,e4 _ _ g1,by omega,?_⟩
   rw[tk,List.filter_append,List.filter_cons,if_neg (by rw[hp];exact Bool.false_ne_true)]
   show TdAll _ _ ((_++[]).map Nm.row)
   rw[List.append_nil]
   exact TdAll.tx (Tx.of e4) _ _ g3
  | true =>
   rw[if_pos rfl]
   refine he _ _ (e1.trans (e2.trans e4)) H4 (Ex.refl _) _ fun v H5 e5 hv=>⟨us,e5 _ _ (e4 _ _ g1),sz_lt (by omega),Ex.mut (e2.trans (e4.trans e5)) hD,us++[v],upd_same,by rw[List.length_append,List.length_singleton];omega,?_⟩
   have tD:Tx H5 (upd H5 Dl (.lst (us++[v]))):=zai (e5 _ _ (e4 _ _ g1)) (by intro _ z;cases z)
   rw[tk,List.filter_append,List.filter_cons,if_pos hp,List.map_append]
   exact (TdAll.tx (((Tx.of e4).trans (Tx.of e5)).trans tD) _ _ g3).app (.cons (Td.tx tD _ _ hv) .nil)
 ·rintro H2 ⟨e2,us,g1,_,g3⟩
  rw[hl,List.take_length] at g3
  exact q Dl H2 us (fresh_back e1 hD) (e1.trans e2) g1 g3
/-- a comprehension over places,by their code -/
theorem zfx {v vc:V} {ps:List Pl} {code:List Int} {vs:List Nat} {s:Pl→V→L2.St} (h:Ev tl σ H v) (hv:Td H v (.tuple (ps.map Pl.row3))) (hz:ps.length≤40000)
  (hs:∀ (x:Pl) u,((((wipe σ vs).set 3 (some (.int x.pc))).set 4 (some (.str x.file))).set 5 (some u))=s x u) (hw:∀ x u,wipe (s x u) vs=wipe σ vs)
  (ht:∀ x∈ps,∀ u H1,Ex H H1→∃ b,EvT tt (s x u) H1 b) (he:∀ (x:Pl) u H1,Ex H H1→Td H1 u (.tuple [.int x.row, .int x.col])→EvD te (s x u) H1 (.tuple [.int x.pc, .str x.file, .int x.row]))
  (q:∀ d H1 us (qs:List Pl),H d=none→Ex H H1→H1 d=some (.lst us)→(∀ x∈qs,x∈ps)→qs.length≤ps.length→TdAll H1 us (qs.map fun x:Pl=> .tuple [.int x.pc, .str x.file, .int x.row])→Q (.ref d) H1) :
  tLc (iTup K tl) (gTup K 3 (gCons (gName 3) (gCons (gName 4) (gCons (gName 5) gNil)))) tt te vs σ H Q:=by
 cases hv with
 | @tup a xs _ ha hT =>
  have hl:=hT.len
  rw[List.length_map] at hl
  refine h H (Ex.refl H) _ fun H1 e1=>⟨a,rfl,⟨xs,st_of (e1 _ _ ha)⟩,fun Dl hD=>?_⟩
  refine lc_it (walk_tup (a:=a) (xs:=xs)) (fun i H'=>Ex H1 H'∧∃ us qs,H' Dl=some (.lst us)∧(∀ x∈qs,x∈ps)∧qs.length≤i∧TdAll H' us (qs.map fun x:Pl=> .tuple [.int x.pc, .str x.file, .int x.row])) ⟨Ex.new hD,[],[],upd_same,(fun _ h=>by cases h),Nat.le_refl _, .nil⟩ (fun i H' _ ⟨e2,_⟩=>st_of ((e1.trans e2) _ _ ha)) ?_ ?_
  ·rintro i x H2 H3 hi ⟨e2,us,qs,g1,g2,g3,g4⟩ ⟨rfl,hx⟩
   have hip:i<ps.length:=by omega
   obtain ⟨d,k1,k2⟩:=TdAll.at (TdAll.tx (Tx.of (e1.trans e2)) _ _ hT) hx
   rw[List.getElem?_map,List.getElem?_eq_getElem hip] at k1
   cases k1
   obtain ⟨t,u,rfl,ht2,hu⟩:=zeg k2
   refine ⟨t,_,rfl,st_of ht2,rfl,_,_,rfl,_,_,rfl,_,_,rfl,rfl,?_⟩
   rw[hs]
   have hm:ps[i]∈ps:=List.getElem_mem hip
   obtain ⟨b,hb⟩:=ht _ hm u H3 (e1.trans e2)
   refine ⟨hw _ _,hb H3 (Ex.refl _) _ fun H4 e4=>?_⟩
   cases b with
   | false =>
    rw[if_neg Bool.false_ne_true]
    exact ⟨e2.trans e4,us,qs,e4 _ _ g1,g2,by omega,TdAll.tx (Tx.of e4) _ _ g4⟩
   | true =>
    rw[if_pos rfl]
    refine he _ u H4 (e1.trans (e2.trans e4)) (Td.tx (Tx.of e4) _ _ hu) H4 (Ex.refl _) _ fun v H5 e5 hv=>⟨us,e5 _ _ (e4 _ _ g1),?_,Ex.mut (e2.trans (e4.trans e5)) hD,us++[v],qs++[ps[i]],upd_same,?_,by rw[List.length_append,List.length_singleton];omega,?_⟩
    ·have:=g4.len
     rw[List.length_map] at this
     exact sz_lt (by omega)
    ·intro y hy
     rcases List.mem_append.mp hy with hy|hy
     ·exact g2 y hy
     ·rw[List.mem_singleton.mp hy];exact hm
    ·have tD:Tx H5 (upd H5 Dl (.lst (us++[v]))):=zai (e5 _ _ (e4 _ _ g1)) (by intro _ z;cases z)
     rw[List.map_append]
     exact (TdAll.tx (((Tx.of e4).trans (Tx.of e5)).trans tD) _ _ g4).app (.cons (Td.tx tD _ _ hv) .nil)
  ·rintro H2 ⟨e2,us,qs,g1,g2,g3,g4⟩
   exact q Dl H2 us qs (fresh_back e1 hD) (e1.trans e2) g1 g2 (by omega) g4
end
section
variable {P:Program} {w:World} {K:PySem.W.Frag} {mg:Str→Option Value} {base:Heap} {C CC CR CS aW aH aS:Addr}
abbrev zcw:Stmt:=(C8.clsBody (zaz 33)).getD 1 (.Pass ⟨0,0,0,0⟩)
theorem zaS:FnScope ["self","number","row","home","file","of","name","kind","cell","first","last"] ["self","number","row"] (fnScope zcw):=fnScope_by (by decide +kernel)
def zbF (CS:Addr):Sp:=fun vs H Q _=>∃ (s dx sd sn so su:Addr) (ds:List Df) (dv nv:List V) (ns:List Nm) (num row:Nat) (x:Df),vs=[.ref s, .int num, .int row]∧H s=some (.ins CS dx (zgZ sd sn so su))∧H sd=some (.lst dv)∧TdAll H dv (ds.map Df.d)∧H sn=some (.lst nv)∧TdAll H nv (ns.map Nm.d)∧ns.length≤1000∧ds[num]?=some x∧(∀ y∈ns,SeqAt.shaped (.tuple [.str y.file, .str y.of])=true)∧SeqAt.shaped (.tuple [.str x.file, .str x.name])=true ∧
 ∀ d H2 us,H d=none→Ex H H2→H2 d=some (.lst us)→TdAll H2 us ((ns.filter (zhc x.file x.name row)).map Nm.row)→Q (.ref d) H2
theorem zcO (TS:zhT K CS) {f:Addr} {fd:FuncData} (me:Meth K CS "standing" f) (F:C8.Fun K "standing" "Sheet.standing" zcw f fd) (b:Binds K fd ["self","number","row"] []):Met P w K mg base 1 CS "standing" (zbF CS) []:=by
 refine met0 TS.cls me F b zaS (fun vs H Q E h=>?_) (fun cdv A0 outer s0 H vs Q E hr h=>?_)
 ·obtain ⟨_,_,_,_,_,_,_,_,_,_,_,_,_,rfl,_⟩:=h
  rfl
 ·obtain ⟨s,dx,sd,sn,so,su,ds,dv,nv,ns,num,row,x,rfl,hs,hsd,hdv,hsn,hnv,hnl,hx,sh1,sh2,q⟩:=h
  have hu64:=hr.units
  refine ⟨_,(pss_cons (ps_set (i:=3) zaS.nd rfl (.inr rfl) (pe_slice sl_tupA (pe_ix ix_list (pe_fld (pv 0) rfl) (pv 1) (fun _ _=>rfl)) po_none (po_some pe_int)))
   (pss_one (ps_ret (pe_lc (own:=[("file",4),("of",5),("name",6),("kind",7),("cell",8),("first",9),("last",10)]) (g:=(gTup K 7 (gCons (gName 4) (gCons (gName 5) (gCons (gName 6) (gCons (gName 7) (gCons (gName 8) (gCons (gName 9) (gCons (gName 10) gNil))))))))) rfl zaS.nd (pi_list (pe_fld (pv 0) rfl)) (blkOk_by (N:=["self","number","row","home","file","of","name","kind","cell","first","last"]) (sc:=C8.fnScope zcw) (by decide +kernel)) (fun _ _ _ _ _=>pg_tup rfl (pgs_cons (pg_name (i:=4) zaS.nd rfl (Or.inl rfl)) (pgs_cons (pg_name (i:=5) zaS.nd rfl (Or.inl rfl)) (pgs_cons (pg_name (i:=6) zaS.nd rfl (Or.inl rfl)) (pgs_cons (pg_name (i:=7) zaS.nd rfl (Or.inl rfl)) (pgs_cons (pg_name (i:=8) zaS.nd rfl (Or.inl rfl)) (pgs_cons (pg_name (i:=9) zaS.nd rfl (Or.inl rfl)) (pgs_cons (pg_name (i:=10) zaS.nd rfl (Or.inl rfl)) pgs_nil)))))))) (fun _ _ _ _ _=>pts_one (PW.pt (pw_and (pt_cmpR (show OpR _ _ (rEqD K) from op_eqD hu64) (pe_tup (pa_cons (pv 4) (pa_cons (pv 5) pa_nil))) (pv 3) (nomark _)) (pw_and1 (pt_chain op_le op_le (pv 9) (pv 2) (pv 10)))))) (fun _ _ _ _ _=>(pe_tup (pa_cons (pv 6) (pa_cons (pv 7) (pa_cons (pv 8) pa_nil))))))))),?_⟩
  have hl:=hdv.len
  rw[List.length_map] at hl
  have hn:=(List.getElem?_eq_some_iff.mp hx).1
  obtain ⟨d0,g1,g2⟩:=TdAll.at (i:=num) (x:=dv[num]'(by omega)) hdv (List.getElem?_eq_getElem (by omega))
  rw[List.getElem?_map,hx] at g1
  cases g1
  have g2:Td H (dv[num]'(by omega)) (.tuple [.str x.file, .str x.name, .int x.pc, .int x.fin, .tuple x.kinds, .str x.kind, .bool x.out, .int x.cells]):=g2
  refine zb9 (d:= .tuple [.str x.file, .str x.name]) (zef (zec (K:=K) (k:=2) (ev_op (zad (ev_var rfl) hs TS.cls TS.n_defs rfl) (ev_var rfl) (rv_ixL (sq_of hsd) (atI_nat (List.getElem?_eq_getElem (by omega))))) g2 (by show 2≤8;decide)) rfl) fun hv H1 e1 hT1=>?_
  dsimp only[List.set]
  refine zcj ?_
  refine zfI (K:=K) (ns:=ns) (p:=zhc x.file x.name row) (s:=fun y=>[some (.ref s),some (.int num),some (.int row),some hv,some (.str y.file),some (.str y.of),some (.str y.name),some (.str y.kind),some (.int y.cell),some (.int y.first),some (.int y.last)]) (zad (ev_var rfl) (e1 _ _ hs) TS.cls TS.n_names rfl) (e1 _ _ hsn) (TdAll.tx (Tx.of e1) _ _ hnv) hnl (fun _=>rfl) (fun _=>rfl) (fun y hy H2 e2=>?_) (fun y H2 e2=>?_) fun d H2 us hd e2 h2 hT2=>q d H2 us (fresh_back e1 hd) (e1.trans e2) h2 hT2
  ·exact et_and (et_test (zeO (zaf (zaa (zac (ev_var rfl)) (zaa (zac (ev_var rfl)) zab)) (by show 2≤100000;decide)) (zaA (ev_var rfl) (Td.tx (Tx.of e2) _ _ hT1)) (sh1 y hy) sh2)) fun _=>et_test (zci (ev_var rfl) (ev_var rfl) (ev_var rfl))
  ·exact zaf (zaa (zac (ev_var rfl)) (zaa (zac (ev_var rfl)) (zaa (zae (ev_var rfl)) zab))) (by show 3≤100000;decide)
end
/-- an image whose places stand in its code -/
structure ziy (im:Img):Prop where
 inn:∀ p∈im.places,p.pc<im.code.length
 pl:im.places.length≤1000
 dl:im.defs.length≤80
section
variable {K:PySem.W.Frag} {σ:L2.St} {H H':Hp} {ta tb te tl tv:TE} {tt:TT} {D:Ends} {tz tu:TS} {g:TG} {E:XK} {Q:VK}
/-- a loop over a list that a call makes -/
theorem zf7 {F:Addr→List V→Hp→Prop} (h:∀ Q:VK,(∀ a xs H1,H1 a=some (.lst xs)→F a xs H1→Q (.ref a) H1)→tl σ H Q)
  (k:∀ a xs H1,H1 a=some (.lst xs)→F a xs H1→∃ Pv:Nat→L2.St→Hp→Prop,Pv 0 σ H1∧(∀ i σ' H',Pv i σ' H'→SqL K H' a xs)∧(∀ i x σ' H',xs[i]?=some x→Pv i σ' H'→g x σ' H' fun σ2 H2=>tu { D with nx:=Pv (i+1),ct:=Pv (i+1),bk:=tz D } σ2 H2)∧∀ σ' H',Pv xs.length σ' H'→tz D σ' H') :
  tSeq (tFor (iList K tl) g tu) tz D σ H:=h _ fun a xs H1 h1 hF=>⟨a,rfl,⟨xs,sq_of h1⟩,by
 obtain ⟨Pv,h0,hl,hs,hd⟩:=k a xs H1 h1 hF
 refine for_it (D:={ D with nx:=tz D }) (walk_list (K:=K) (a:=a) (xs:=xs)) Pv h0 (fun i σ' H' _ p=>hl i σ' H' p) ?_ hd
 rintro i x σ' H2 H3 hi p ⟨rfl,hx⟩
 exact hs i x σ' H3 hx p⟩
theorem zdA {a:Addr} {xs:List V} {i j:Nat} (h:Ev tl σ H (.ref a)) (hx:SqT K H a xs) (Pv:Nat→L2.St→Hp→Prop) (h0:∀ H1,Ex H H1→Pv 0 σ H1) (hl:∀ k σ' H',k≤xs.length→Pv k σ' H'→SqT K H' a xs)
  (hs:∀ k x σ' H' H1,xs[k]?=some x→Pv k σ' H'→Ex H' H1→tu { D with nx:=Pv (k+1),ct:=Pv (k+1),bk:=D.nx } ((σ'.set i (some (.int (k:Int)))).set j (some x)) H1) (hd:∀ σ' H',Pv xs.length σ' H'→D.nx σ' H') :
  tFor (zdi K (tCons tl tNil)) (gTup K 2 (gCons (gName i) (gCons (gName j) gNil))) tu D σ H:=zbE (tz:=tNext) (D:=D) h hx Pv h0 hl hs hd
theorem zhS {i:Nat} (k:∀ p,H p=none→tz D (σ.set i (some (.ref p))) (upd H p (.dT []))):tSeq (tAsg tDNewT (gName i)) tz D σ H:=k
end
section
variable {P:Program} {w:World} {K:PySem.W.Frag} {mg:Str→Option Value} {base:Heap} {C CC CR CS aW aH aS:Addr}
abbrev zcB:Stmt:=zaz 8
theorem zbj:FnScope ["image","code","places","at","file","place"] ["image"] (fnScope zcB):=fnScope_by (by decide +kernel)
def zie (x:Pl):PyData:= .tuple [.int x.pc, .str x.file, .int x.row]
def ze2:Sp:=fun vs H Q _=>∃ (v:V) (im:Img) (ks:List Kd) (rest:List PyData),vs=[v]∧Td H v (zcz im ks rest)∧ziy im∧∀ d H2 us (qs:List Pl),H d=none→Ex H H2→H2 d=some (.lst us)→qs.length≤im.places.length→TdAll H2 us (qs.map zie)→Q (.ref d) H2
theorem zhL (T:zay K mg C CC aW aH aS) {f:Addr} {fd:FuncData} (F:Def K mg "rows_begun" zcB f fd) (b:Binds K fd ["image"] []):Cal P w K mg base 1 "rows_begun" ze2 []:=by
 refine cal0 F b .nil zbj (fun vs H Q E h=>?_) (fun cdv A outer s H vs Q E hr h=>?_)
 ·obtain ⟨_,_,_,_,rfl,_⟩:=h
  rfl
 ·obtain ⟨v,im,ks,rest,rfl,hv,ok,q⟩:=h
  have g_ROW:=T.g_ROW
  refine ⟨_,(pss_cons (ps_asg (pe_slice sl_tupA (pv 0) po_none (po_some pe_int)) (pg_tup rfl (pgs_cons (pg_name (i:=1) zbj.nd rfl (.inr rfl)) (pgs_cons (pg_name (i:=2) zbj.nd rfl (.inl rfl)) pgs_nil))))
   (pss_one (ps_ret (pe_lc (own:=[("at",3),("file",4),("place",5)]) (g:=(gTup K 3 (gCons (gName 3) (gCons (gName 4) (gCons (gName 5) gNil))))) rfl zbj.nd (pi_tup (pv 2)) (blkOk_by (N:=["image","code","places","at","file","place"]) (sc:=C8.fnScope zcB) (by decide +kernel)) (fun _ _ _ _ _=>pg_tup rfl (pgs_cons (pg_name (i:=3) zbj.nd rfl (Or.inl rfl)) (pgs_cons (pg_name (i:=4) zbj.nd rfl (Or.inl rfl)) (pgs_cons (pg_name (i:=5) zbj.nd rfl (Or.inl rfl)) pgs_nil)))) (fun _ _ _ _ _=>pts_one (pt_cmpR op_eq (pe_ix (show IxR _ (rIxT K) from ix_tup) (pv 1) (pv 3) (fun _ _=>rfl)) (C8.pe_gc (by rfl) g_ROW) (nomark _))) (fun _ _ _ _ _=>(pe_tup (pa_cons (pv 3) (pa_cons (pv 4) (pa_cons (pe_ix (show IxR _ (rIxT K) from ix_tup) (pv 5) pe_int (fun _ _=>rfl)) pa_nil))))))))),?_⟩
  refine zcT (K:=K) (lo:=none) (hi:=some 2) (es:=[.tuple (im.code.map .int), .tuple (im.places.map Pl.row3)]) (ev_var (v:=v) rfl) hv eo_none (eo_some ev_c) ?_ H (Ex.refl H) _ fun u H1 e1 hu=>?_
  ·unfold zbi
   rw[show HT.sIx _ 0 none=0 from rfl,show (some (2:Int))=some ((2:Nat):Int) from rfl,HT.sIx_nat]
   show List.take (min 2 _-0) (List.drop 0 _)=_
   rw[List.drop_zero,Nat.sub_zero,Nat.min_eq_left (by rw[List.length_append];exact Nat.le_trans (show 2≤4 by decide) (Nat.le_add_right 4 _))]<;>rfl
  obtain ⟨a0,v5,v6,rfl,ha0,h5,h6⟩:∃ (a:Addr) (v5 v6:V),u= .ref a∧H1 a=some (.tup [v5,v6])∧Td H1 v5 (.tuple (im.code.map .int))∧Td H1 v6 (.tuple (im.places.map Pl.row3)):=by
   cases hu with
   | tup ha hT =>
    cases hT with
    | cons t1 t2 =>
     cases t2 with
     | cons t3 t4 =>
      cases t4
      exact ⟨_,_,_,rfl,ha,t1,t3⟩
  refine ⟨a0,_,rfl,st_of ha0,rfl,_,_,rfl,_,_,rfl,rfl,?_⟩
  dsimp only[L2.start,List.map,List.set,List.length,List.append,List.replicate]
  refine zcj ?_
  refine zfx (K:=K) (vc:= .non) (code:=[]) (ps:=im.places) (s:=fun x u=>[some v,some v5,some v6,some (.int x.pc),some (.str x.file),some u]) (ev_var (v:=v6) rfl) h6 (Nat.le_trans ok.pl (by decide)) (fun _ _=>rfl) (fun _ _=>rfl) (fun x hx u H2 e2=>?_) (fun x u H2 e2 hu=>?_) fun d H2 us qs hd e2 h2 hq hl hT=>q d H2 us qs (fresh_back e1 hd) (e1.trans e2) h2 hl hT
  ·have hlt:=ok.inn x hx
   have hc:im.code[x.pc]?=some im.code[x.pc]:=List.getElem?_eq_getElem hlt
   exact ⟨_,et_test (ev_op (zbT (K:=K) (j:=x.pc) (ev_var rfl) (Td.tx (Tx.of e2) _ _ h5) (ev_var rfl) (by rw[List.getElem?_map,hc]<;>rfl)) ev_c (rv_eq rfl))⟩
  ·exact zaf (zaa (zae (ev_var rfl)) (zaa (zac (ev_var rfl)) (zaa (zae (zbT (K:=K) (j:=0) (ev_var rfl) hu ev_c rfl)) zab))) (by show 3≤100000;decide)
abbrev zdG:Stmt:=zaz 36
theorem zbm:FnScope ["image","rows","at","file","row","number","one"] ["image"] (fnScope zdG):=fnScope_by (by decide +kernel)
def zcr:Sp:=fun vs H Q _=>∃ (v:V) (im:Img) (ks:List Kd) (rest:List PyData),vs=[v]∧Td H v (zcz im ks rest)∧ziy im∧∀ d H2,H d=none→Ex H H2→Q (.ref d) H2
theorem zh0 {H:Hp} {x:V} {p:Pl} (h:Td H x (zie p)):∃ t:Addr,x= .ref t∧H t=some (.tup [.int p.pc, .str p.file, .int p.row]):=by
 unfold zie at h
 cases h with
 | tup ha hT =>
  cases hT with
  | cons t1 t2 =>
   cases t1
   cases t2 with
   | cons t3 t4 =>
    cases t3
    cases t4 with
    | cons t5 t6 =>
     cases t5
     cases t6
     exact ⟨_,rfl,ha⟩
theorem zhx (T:zay K mg C CC aW aH aS) (c_q59:Cal P w K mg base 1 "rows_begun" ze2 []) {f:Addr} {fd:FuncData} (F:Def K mg "rows_by_place" zdG f fd) (b:Binds K fd ["image"] []):Cal P w K mg base 2 "rows_by_place" zcr []:=by
 refine cal0 F b .nil zbm (fun vs H Q E h=>?_) (fun cdv A outer s H vs Q E hr h=>?_)
 ·obtain ⟨_,_,_,_,rfl,_⟩:=h
  rfl
 ·obtain ⟨v,im,ks,rest,rfl,hv,ok,q⟩:=h
  have hu:=hu_of hr
  have m_enumerate:=T.m_enumerate
  refine ⟨_,(pss_cons (ps_set (i:=1) zbm.nd rfl (.inl rfl) pe_dnewT)
   (pss_cons (ps_for PassesOwn.never rfl (pi_list (C8.pe_c c_q59 hr (by first|decide|exact Nat.le_refl _|omega) (by rfl) (pa_cons (pv 0) pa_nil))) (pg_tup rfl (pgs_cons (pg_name (i:=2) zbm.nd rfl (.inl rfl)) (pgs_cons (pg_name (i:=3) zbm.nd rfl (.inl rfl)) (pgs_cons (pg_name (i:=4) zbm.nd rfl (.inl rfl)) pgs_nil)))) (pss_one (ps_for PassesOwn.never rfl (Wt.pi_enumT (by rfl) m_enumerate (pa_cons (pe_ix ix_tup (pv 0) pe_int (fun _ _=>rfl)) pa_nil)) (pg_tup rfl (pgs_cons (pg_name (i:=5) zbm.nd rfl (.inl rfl)) (pgs_cons (pg_name (i:=6) zbm.nd rfl (.inl rfl)) pgs_nil))) (pss_one (ps_if (pt_chain op_le op_lt (pe_ix ix_tup (pv 6) pe_int (fun _ _=>rfl)) (pv 2) (pe_ix ix_tup (pv 6) pe_int (fun _ _=>rfl))) (pss_one (ps_dput hu (pv 1) (pe_tup (pa_cons (pv 3) (pa_cons (pv 4) pa_nil))) (pv 5) rfl)) pss_nil)))))
   (pss_one (ps_ret (pv 1))))),?_⟩
  refine zhS fun d hd=>?_
  have e1:Ex H (upd H d (.dT [])):=Ex.new hd
  have h1:(upd H d (.dT [])) d=some (.dT []):=upd_same
  dsimp only[L2.start,List.map,List.set,List.length,List.append,List.replicate]
  generalize upd H d (.dT [])=H1 at e1 h1 ⊢
  have hv1:=Td.tx (Tx.of e1) _ _ hv
  refine zf7 (F:=fun a xs H2=>Ex H1 H2∧∃ qs:List Pl,qs.length≤im.places.length∧TdAll H2 xs (qs.map zie)) (fun Q q2=>⟨_,rfl,v,im,ks,rest,rfl,hv1,ok,fun d2 H2 us qs hd2 e2 h2 hl hT=>q2 d2 us H2 h2 ⟨e2,qs,hl,hT⟩⟩) fun a xs H2 ha ⟨e2,qs,hql,hqT⟩=>?_
  have hxl:=hqT.len
  rw[List.length_map] at hxl
  -- all but the dict stays
  refine ⟨fun i σ' H'=>(∃ y2 y3 y4 y5 y6,σ'=[some v,some (.ref d),y2,y3,y4,y5,y6])∧(∀ b o,b≠d→H2 b=some o→H' b=some o)∧(∃ kvs,H' d=some (.dT kvs)∧kvs.length≤i*im.defs.length),⟨⟨_,_,_,_,_,rfl⟩,fun b o _ h=>h,[],e2 _ _ h1,Nat.zero_le _⟩,fun i σ' H' ⟨_,k,_⟩=>sq_of (k _ _ (fun z=>by rw[z,e2 _ _ h1] at ha;cases ha) ha),?_,?_⟩
  ·rintro i x σ' H' hx ⟨⟨y2,y3,y4,y5,y6,rfl⟩,k',kvs,hd',hkl⟩
   have t2:Tx H2 H':=fun b xs hb=>k' b _ (fun z=>by rw[z,e2 _ _ h1] at hb;cases hb) hb
   obtain ⟨dd,g1,g2⟩:=TdAll.at (TdAll.tx t2 _ _ hqT) hx
   obtain ⟨p,hp,rfl⟩:∃ p,qs[i]?=some p∧dd=zie p:=by
    rw[List.getElem?_map] at g1
    obtain ⟨p,hp,e⟩:=Option.map_eq_some_iff.mp g1
    exact ⟨p,hp,e.symm⟩
   have hi:i<qs.length:=(List.getElem?_eq_some_iff.mp hp).1
   obtain ⟨t,rfl,ht⟩:=zh0 g2
   refine ⟨t,_,rfl,st_of ht,rfl,_,_,rfl,_,_,rfl,_,_,rfl,rfl,?_⟩
   dsimp only[List.set]
   have hvT:Td H' v (zcz im ks rest):=Td.tx ((Tx.of e2).trans t2) _ _ hv1
   obtain ⟨xd,hxd,evd⟩:=zbe (K:=K) (σ:=[some v,some (.ref d),some (.int p.pc),some (.str p.file),some (.int p.row),y5,y6]) (H:=H') (ta:=tVar 0) (tb:=tC (.int 2)) (j:=2) (d:= .tuple (im.defs.map Df.d)) (ev_var rfl) hvT ev_c rfl
   cases hxd with
   | @tup ad ys _ had hTd =>
    have hyl:=hTd.len
    rw[List.length_map] at hyl
    have nda:ad≠d:=fun z=>by rw[z,hd'] at had;cases had
    refine zdA evd (st_of had) (fun j σ2 H3=>(∃ y5 y6,σ2=[some v,some (.ref d),some (.int p.pc),some (.str p.file),some (.int p.row),y5,y6])∧(∀ b o,b≠d→H' b=some o→H3 b=some o)∧(∃ kvs,H3 d=some (.dT kvs)∧kvs.length≤i*im.defs.length+j)) (fun H3 e3=>⟨⟨_,_,rfl⟩,fun b o _ h=>e3 b o h,kvs,e3 _ _ hd',hkl⟩) (fun j σ2 H3 _ ⟨_,k3,_⟩=>st_of (k3 _ _ nda had)) ?_ ?_
    ·rintro j y σ2 H3 H4 hy ⟨⟨z5,z6,rfl⟩,k3,kv3,hd3,hl3⟩ e4
     dsimp only[List.set]
     have t34:Tx H' H4:=fun b xs hb=>e4 _ _ (k3 b _ (fun z=>by rw[z,hd'] at hb;cases hb) hb)
     have hjd:j<im.defs.length:=by rw[← hyl];exact (List.getElem?_eq_some_iff.mp hy).1
     obtain ⟨dd2,w1,w2⟩:=TdAll.at (TdAll.tx t34 _ _ hTd) hy
     rw[List.getElem?_map,List.getElem?_eq_getElem hjd] at w1
     cases w1
     have w2:Td H4 y (.tuple [.str im.defs[j].file, .str im.defs[j].name, .int im.defs[j].pc, .int im.defs[j].fin, .tuple im.defs[j].kinds, .str im.defs[j].kind, .bool im.defs[j].out, .int im.defs[j].cells]):=w2
     have hb3:kv3.length<90000:=by
      have h1:i*im.defs.length≤1000*80:=Nat.mul_le_mul (by have:=ok.pl;omega) ok.dl
      have:=ok.dl
      omega
     refine s_when (et_test (zfU (zbT (K:=K) (j:=2) (ev_var rfl) w2 ev_c rfl) (ev_var rfl) (zbT (K:=K) (j:=3) (ev_var rfl) w2 ev_c rfl))) (fun _ H5 e5=>?_) (fun _ H5 e5=>?_)
     ·refine ⟨_,rfl,_,rfl,eu_tup (vs:=[.str p.file, .int p.row]) (ea_cons (ev_var rfl) (ea_cons (ev_var rfl) ea_nil)) (by show 2≤100000;decide) H5 (Ex.refl _) _ fun pt H6 hpt e6 h6=>⟨d,upd H6 d (.dT (putK kv3 [(Sum.inr p.file:Key),(Sum.inl (p.row:Int):Key)] (.int (j:Nat)))),rfl,DPut.t (k:=[(Sum.inr p.file:Key),(Sum.inl (p.row:Int):Key)]) (e6 _ _ (e5 _ _ (e4 _ _ hd3))) h6 (sz_lt (by omega)),?_⟩⟩
      refine ⟨⟨_,_,rfl⟩,fun b o nb hb=>?_,_,upd_same,?_⟩
      ·rw[upd_ne nb]
       exact e6 _ _ (e5 _ _ (e4 _ _ (k3 b o nb hb)))
      ·unfold putK
       split
       ·rw[List.length_map];omega
       ·rw[List.length_append,List.length_singleton];omega
     ·exact ⟨⟨_,_,rfl⟩,fun b o nb hb=>e5 _ _ (e4 _ _ (k3 b o nb hb)),kv3,e5 _ _ (e4 _ _ hd3),by omega⟩
    ·rintro σ2 H3 ⟨⟨z5,z6,rfl⟩,k3,kv3,hd3,hl3⟩
     refine ⟨⟨_,_,_,_,_,rfl⟩,fun b o nb hb=>k3 b o nb (k' b o nb hb),kv3,hd3,?_⟩
     rw[hyl] at hl3
     rw[Nat.succ_mul]
     exact hl3
  ·rintro σ' H' ⟨⟨y2,y3,y4,y5,y6,rfl⟩,k',kvs,hd',hkl⟩
   exact s_ret (ev_var rfl) fun H3 e3=>q d H3 hd fun b o hb=>e3 _ _ (k' b o (fun z=>by rw[z,hd] at hb;cases hb) (e2 _ _ (e1 _ _ hb)))
end
structure LA where
 dx:Addr
 sh:Addr
 dxs:Addr
 sd:Addr
 sn:Addr
 so:Addr
 su:Addr
 kp:Addr
 rw:Addr
 mks:Addr
 hd:Addr
def zgF (m:Addr) (B:LA):List (Str×V):=[("machine", .ref m),("sheet", .ref B.sh),("keeps", .ref B.kp),("rows", .ref B.rw),("marks", .ref B.mks),("held", .ref B.hd)]
def zas (l:Addr) (B:LA):List Addr:=[l,B.sh,B.sd,B.sn,B.kp]
structure Lok (H:Hp) (CL CS l m:Addr) (B:LA) (ds:List Df) (ks:List Kd) (ns:List Nm) (n:Nat):Prop where
 o:H l=some (.ins CL B.dx (zgF m B))
 s:H B.sh=some (.ins CS B.dxs (zgZ B.sd B.sn B.so B.su))
 sd:∃ dv,H B.sd=some (.lst dv)∧TdAll H dv (ds.map Df.d)
 sn:∃ nv,H B.sn=some (.lst nv)∧TdAll H nv (ns.map Nm.d)
 kp:∃ kv,H B.kp=some (.lst kv)∧TdAll H kv (ks.map Kd.d)
 mks:∃ ms,H B.mks=some (.lst ms)∧ms.length≤n
 nm:B.mks∉zas l B
structure zfF (K:PySem.W.Frag) (CL:Addr):Prop where
 cls:Cls K CL
 n_machine:NoAttr K CL "machine"
 n_sheet:NoAttr K CL "sheet"
 n_keeps:NoAttr K CL "keeps"
 n_rows:NoAttr K CL "rows"
 n_marks:NoAttr K CL "marks"
 n_held:NoAttr K CL "held"
theorem Lok.keep {H H':Hp} {CL CS l m:Addr} {B:LA} {ds:List Df} {ks:List Kd} {ns:List Nm} {n:Nat} (h:Lok H CL CS l m B ds ks ns n) (k:∀ b∈B.mks::zas l B,∀ o,H b=some o→H' b=some o) (t:Tx H H'):Lok H' CL CS l m B ds ks ns n where
 o:=k _ (by simp[zas]) _ h.o
 s:=k _ (by simp[zas]) _ h.s
 sd:=by
  obtain ⟨v,h1,h2⟩:=h.sd
  exact ⟨v,k _ (by simp[zas]) _ h1,TdAll.tx t _ _ h2⟩
 sn:=by
  obtain ⟨v,h1,h2⟩:=h.sn
  exact ⟨v,k _ (by simp[zas]) _ h1,TdAll.tx t _ _ h2⟩
 kp:=by
  obtain ⟨v,h1,h2⟩:=h.kp
  exact ⟨v,k _ (by simp[zas]) _ h1,TdAll.tx t _ _ h2⟩
 mks:=by
  obtain ⟨v,h1,h2⟩:=h.mks
  exact ⟨v,k _ (by simp) _ h1,h2⟩
 nm:=h.nm
theorem Lok.ex {H H':Hp} {CL CS l m:Addr} {B:LA} {ds:List Df} {ks:List Kd} {ns:List Nm} {n:Nat} (h:Lok H CL CS l m B ds ks ns n) (e:Ex H H'):Lok H' CL CS l m B ds ks ns n:=h.keep (fun b _ o q=>e b o q) (Tx.of e)
/-- apart: a looker's own things and a machine's -/
structure Apt (l m:Addr) (B:LA) (A:MA):Prop where
 a:∀ b∈B.mks::zas l B,b∉own m A
 r:B.mks∉ro A
/-- a looker's step -/
structure StL (m mk:Addr) (H H':Hp) (A A':MA):Prop where
 k:Kp (mk::own m A) H H'
 o:∀ a∈own m A',a∈own m A∨H a=none
 r:∀ a∈ro A',a∈ro A∨H a=none
section
variable {P:Program} {w:World} {K:PySem.W.Frag} {mg:Str→Option Value} {base:Heap} {C CC CR CS CL aW aH aS:Addr}
abbrev zdB:Stmt:=(C8.clsBody (zaz 35)).getD 13 (.Pass ⟨0,0,0,0⟩)
theorem zhJ:FnScope ["self"] ["self"] (fnScope zdB):=fnScope_by (by decide +kernel)
theorem zhO (TL:zfF K CL) (c_q4:Met P w K mg base 1 C "row_ahead" (zcK C CC) []) {f:Addr} {fd:FuncData} (me:Meth K CL "where" f) (F:C8.Fun K "where" "Looker.where" zdB f fd) (b:Binds K fd ["self"] []):Met P w K mg base 2 CL "where" (zaK CL C CC) []:=by
 refine met0 TL.cls me F b zhJ (fun vs H Q E h=>?_) (fun cdv A0 outer s H vs Q E hr h=>?_)
 ·obtain ⟨_,_,_,_,_,_,_,_,rfl,_⟩:=h
  rfl
 ·obtain ⟨o,dx,fs,m,im,A,st,d,rfl,ho,hl,hM,hA,q⟩:=h
  refine ⟨_,(pss_one (ps_ret (C8.pe_mt0 c_q4 hr (by first|decide|exact Nat.le_refl _|omega) (pe_fld (pv 0) rfl)))),?_⟩
  exact ⟨_,rfl,o,CL,dx,fs,_,rfl,ho,TL.cls,TL.n_machine,hl,m,A.dx,_,rfl,hM.o,rfl,m,im,A,st,d,rfl,hM,hA,fun v H2 e2 hv=>q v H2 e2 hv⟩
abbrev zdE:Stmt:=(C8.clsBody (zaz 35)).getD 24 (.Pass ⟨0,0,0,0⟩)
theorem zil:FnScope ["self","frame"] ["self","frame"] (fnScope zdE):=fnScope_by (by decide +kernel)
def zbV (CL C CC:Addr):Sp:=fun vs H Q _=>∃ (l dx t m:Addr) (fs:List (Str×V)) (im:Img) (A:MA) (st:MS) (fr:Fr) (p:Pl),vs=[.ref l, .ref t]∧H l=some (.ins CL dx fs)∧fs.lookup (Str.ofString "machine")=some (.ref m)∧Mac H C CC im m A st∧H t=some fr.o∧zaH im fr.pc=some p∧RetV (.int p.row) H Q
theorem zd8 (T:zay K mg C CC aW aH aS) (TL:zfF K CL) {f:Addr} {fd:FuncData} (me:Meth K CL "row_of" f) (F:C8.Fun K "row_of" "Looker.row_of" zdE f fd) (b:Binds K fd ["self","frame"] []):Met P w K mg base 1 CL "row_of" (zbV CL C CC) []:=by
 refine met0 TL.cls me F b zil (fun vs H Q E h=>?_) (fun cdv A0 outer s H vs Q E hr h=>?_)
 ·obtain ⟨_,_,_,_,_,_,_,_,_,_,rfl,_⟩:=h
  rfl
 ·obtain ⟨l,dx,t,m,fs,im,A,st,fr,p,rfl,ho,hl,hM,ht,hp,q⟩:=h
  have hu:=hu_of hr
  refine ⟨_,(pss_one (ps_ret (pe_ix ix_tup (pe_ix ix_tup (pe_dget hu (pe_fld (pe_fld (pv 0) rfl) rfl) (pe_ix ix_tup (pv 1) pe_int (fun _ _=>rfl)) (fun _ _=>rfl)) pe_int (fun _ _=>rfl)) pe_int (fun _ _=>rfl)))),?_⟩
  have pl:EvD (tDGet (tFld K (tFld K (tVar 0) "machine") "places") (tOp (rIxT K) (tVar 1) (tC (.int 2)))) [some (.ref l),some (.ref t)] H (.tuple [.str p.file, .tuple [.int p.row, .int p.col]]):=zcn T hM hp (zad (ev_var rfl) ho TL.cls TL.n_machine hl) (ev_op (ev_var rfl) ev_c (rv_ixT (i:=2) (st_of ht) rfl))
  exact s_ret (zeS (K:=K) (j:=0) (zb5 (K:=K) (j:=1) pl rfl) rfl) fun H1 e1=>q H1 e1
abbrev zdv:Stmt:=(C8.clsBody (zaz 35)).getD 23 (.Pass ⟨0,0,0,0⟩)
theorem zgd:FnScope ["self","depth","frames"] ["self","depth"] (fnScope zdv):=fnScope_by (by decide +kernel)
def zcq (CL C CC:Addr):Sp:=fun vs H Q _=>∃ (l dx m:Addr) (fs:List (Str×V)) (im:Img) (A:MA) (st:MS) (n:Nat) (fr:Fr),vs=[.ref l, .int n]∧H l=some (.ins CL dx fs)∧fs.lookup (Str.ofString "machine")=some (.ref m)∧Mac H C CC im m A st∧st.ended=none∧st.callers.length≤1000∧(zbR A st)[n]?=some fr ∧
 ∀ t H2,Ex H H2→H2 t=some fr.o→Q (.ref t) H2
theorem zcv (T:zay K mg C CC aW aH aS) (TL:zfF K CL) (c_q2:Met P w K mg base 1 C "under_way" (zbK C CC) []) (c_q60:Cal P w K mg base 1 "is_between" zaZ []) {f:Addr} {fd:FuncData} (me:Meth K CL "frame_at" f) (F:C8.Fun K "frame_at" "Looker.frame_at" zdv f fd) (b:Binds K fd ["self","depth"] []):Met P w K mg base 2 CL "frame_at" (zcq CL C CC) []:=by
 refine met0 TL.cls me F b zgd (fun vs H Q E h=>?_) (fun cdv A0 outer s H vs Q E hr h=>?_)
 ·obtain ⟨_,_,_,_,_,_,_,_,_,rfl,_⟩:=h
  rfl
 ·obtain ⟨l,dx,m,fs,im,A,st,n,fr,rfl,ho,hl,hM,he,hc,hfr,q⟩:=h
  have m_len:=T.m_len
  refine ⟨_,(pss_cons (ps_set (i:=2) zgd.nd rfl (.inl rfl) (C8.pe_mt0 c_q2 hr (by first|decide|exact Nat.le_refl _|omega) (pe_fld (pv 0) rfl)))
   (pss_cons (ps_if (pt_not (pt_val (C8.pe_c c_q60 hr (by first|decide|exact Nat.le_refl _|omega) (by rfl) (pa_cons (pv 1) (pa_cons pe_int (pa_cons (pe_op op_sub (pe_callB call_len_seq (by rfl) m_len PySem.boot_len (pa_cons (pv 2) pa_nil)) pe_int) pa_nil)))))) (pss_one ps_never) pss_nil)
   (pss_one (ps_ret (pe_ix ix_list (pv 2) (pv 1) (fun _ _=>rfl)))))),?_⟩
  refine (show tSeq (tAsg (tMeth C "under_way" (zbK C CC) [] C8.E0 (tFld K (tVar 0) "machine") tNil) (gName 2)) _ _ [some (.ref l),some (.int n),none] H from ?_)
  refine ⟨_,rfl,l,CL,dx,fs,_,rfl,ho,TL.cls,TL.n_machine,hl,m,A.dx,_,rfl,hM.o,rfl,m,im,A,st,rfl,hM,he,hc,fun p us H2 hp e2 h2 hF=>?_⟩
  have hlt:=(List.getElem?_eq_some_iff.mp hfr).1
  have hul:=hF.len
  refine q_when (b:=false) (et_is (et_not (et_B (ev_call (dvs:=[]) (ea_cons (ev_var rfl) (ea_cons ev_c (ea_cons (ev_op (ev_len (ev_var (i:=2) (v:= .ref p) rfl) (sq_of h2)) ev_c rv_I0) ea_nil))) zbA))) (by
   rw[decide_eq_true (show (0:Int)≤(n:Int) by omega),decide_eq_true (show (n:Int)≤(us.length:Int)-1 by omega)]<;>rfl)) (fun z=>by cases z) (fun _ H3 e3=>?_)
  obtain ⟨v,hv⟩:∃ v,us[n]?=some v:=⟨_,List.getElem?_eq_getElem (by omega)⟩
  obtain ⟨t,x,rfl,hx,ht⟩:=hF.get hv
  rw[hfr] at hx
  cases hx
  exact s_ret (ev_op (ev_var (i:=2) (v:= .ref p) rfl) (ev_var rfl) (rv_ixL (sq_of (e3 _ _ h2)) (atI_nat hv))) fun H4 e4=>q t H4 (e2.trans (e3.trans e4)) (e4 _ _ (e3 _ _ ht))
abbrev zdI:Stmt:=(C8.clsBody (zaz 35)).getD 6 (.Pass ⟨0,0,0,0⟩)
theorem zhR:FnScope ["self"] ["self"] (fnScope zdI):=fnScope_by (by decide +kernel)
def zcA (CL CS C CC:Addr):Sp:=fun vs H Q _=>∃ (l m:Addr) (B:LA) (im:Img) (A:MA) (st st2:MS) (ks:List Kd) (ns:List Nm) (n:Nat) (d:PyData),vs=[.ref l]∧Lok H CL CS l m B im.defs ks ns n∧Mac H C CC im m A st∧Apt l m B A∧n<1000∧st.ended=none∧zfk im (zfe st) st2∧ze8 im st2 d ∧
 ∀ v H2 A2,StL m B.mks H H2 A A2→Apt l m B A2→Mac H2 C CC im m A2 st2→Lok H2 CL CS l m B im.defs ks ns (n+1)→Td H2 v d→Q v H2
theorem zhW (T:zay K mg C CC aW aH aS) (TL:zfF K CL) (c_q34:Met P w K mg base 1 C "mark" (zf6 C CC) []) (c_q19:Met P w K mg base 6 C "do_row" (zag C CC ziA) []) (c_q40:Met P w K mg base 2 CL "where" (zaK CL C CC) []) {f:Addr} {fd:FuncData} (me:Meth K CL "step" f) (F:C8.Fun K "step" "Looker.step" zdI f fd) (b:Binds K fd ["self"] []):Met P w K mg base 7 CL "step" (zcA CL CS C CC) []:=by
 refine met0 TL.cls me F b zhR (fun vs H Q E h=>?_) (fun cdv A0 outer s H vs Q E hr h=>?_)
 ·obtain ⟨_,_,_,_,_,_,_,_,_,_,_,rfl,_⟩:=h
  rfl
 ·obtain ⟨l,m,B,im,A,st,st2,ks,ns,n,d,rfl,hL,hM,ap,hn,he,hg,hA,q⟩:=h
  refine ⟨_,(pss_cons (ps_if (pt_cmpR op_notN (pe_fld (pe_fld (pv 0) rfl) rfl) pe_non (nomark _)) (pss_one ps_never) pss_nil)
   (pss_cons (ps_expr (pe_bm PySem.F.plainAttrs_list PySem.F.slot_list_append PySem.F.type_list_append mt_append (pe_fld (pv 0) rfl) (pa_cons (C8.pe_mt0 c_q34 hr (by first|decide|exact Nat.le_refl _|omega) (pe_fld (pv 0) rfl)) pa_nil)))
   (pss_cons (ps_expr (C8.pe_mt0 c_q19 hr (by first|decide|exact Nat.le_refl _|omega) (pe_fld (pv 0) rfl)))
   (pss_one (ps_ret (C8.pe_mt0 c_q40 hr (by first|decide|exact Nat.le_refl _|omega) (pv 0))))))),?_⟩
  refine q_when (b:=false) (et_is (zaG T hM (zad (ev_var rfl) hL.o TL.cls TL.n_machine rfl)) (by rw[he]<;>rfl)) (fun z=>by cases z) (fun _ H1 e1=>?_)
  have hL1:=hL.ex e1
  obtain ⟨ms,hms,hml⟩:=hL1.mks
  refine zf8 (zad (ev_var rfl) hL1.o TL.cls TL.n_marks rfl) hms fun H2 e2=>?_
  have hL2:=hL1.ex e2
  have hM2:=hM.ex (e1.trans e2)
  refine ⟨_,rfl,l,CL,B.dx,_,_,rfl,hL2.o,TL.cls,TL.n_machine,rfl,m,A.dx,_,rfl,hM2.o,rfl,m,im,A,st,rfl,hM2,fun v H3 e3=>⟨B.mks,ms,v,rfl,rfl,e3 _ _ (e2 _ _ hms),sz_lt (by omega),?_⟩⟩
  have e03:=e1.trans (e2.trans e3)
  have hM3:=hM.ex e03
  have hL3:=hL.ex e03
  have hm3:H3 B.mks=some (.lst ms):=e3 _ _ (e2 _ _ hms)
  have nmk:B.mks∉own m A:=ap.a _ (by simp)
  have t4:Tx H3 (upd H3 B.mks (.lst (ms++[v]))):=zai hm3 (by intro _ z;cases z)
  have hM4:Mac (upd H3 B.mks (.lst (ms++[v]))) C CC im m A st:=hM3.keep (zak _ (fun z=>by
   rcases List.mem_append.mp z with z|z
   ·exact nmk z
   ·exact ap.r z)) t4
  have hL4:Lok (upd H3 B.mks (.lst (ms++[v]))) CL CS l m B im.defs ks ns (n+1):=by
   have kf:∀ b∈zas l B,∀ o,H3 b=some o→(upd H3 B.mks (.lst (ms++[v]))) b=some o:=zak _ hL.nm
   obtain ⟨v1,a1,a2⟩:=hL3.sd
   obtain ⟨v2,b1,b2⟩:=hL3.sn
   obtain ⟨v3,c1,c2⟩:=hL3.kp
   exact ⟨kf _ (by simp[zas]) _ hL3.o,kf _ (by simp[zas]) _ hL3.s,⟨v1,kf _ (by simp[zas]) _ a1,TdAll.tx t4 _ _ a2⟩,⟨v2,kf _ (by simp[zas]) _ b1,TdAll.tx t4 _ _ b2⟩,⟨v3,kf _ (by simp[zas]) _ c1,TdAll.tx t4 _ _ c2⟩,⟨_,upd_same,by rw[List.length_append,List.length_singleton];omega⟩,hL.nm⟩
  have k4:Kp (B.mks::own m A) H (upd H3 B.mks (.lst (ms++[v]))):=⟨fun b o nb hb=>by
   rw[upd_ne fun z=>nb (by rw[z];exact List.mem_cons_self ..)]
   exact e03 _ _ hb,fun b hb=>by
   by_cases z:b=B.mks
   ·rw[z,upd_same] at hb;cases hb
   ·rw[upd_ne z] at hb;exact fresh_back e03 hb⟩
  generalize upd H3 B.mks (.lst (ms++[v]))=H4 at hM4 hL4 k4 ⊢
  refine ze3 (us:=[]) hM4 (zad (ev_var rfl) hL4.o TL.cls TL.n_machine rfl) (fun _ _ _=>rfl) (fun _ _=>ea_nil) ⟨rfl,hg⟩ fun H5 A5 s5 hM5=>?_
  have kL:∀ b∈B.mks::zas l B,∀ o,H4 b=some o→H5 b=some o:=fun b hb o ho=>s5.k.keep b o (ap.a b hb) ho
  have hL5:=hL4.keep kL (s5.tx hM4)
  have ap5a:∀ b∈B.mks::zas l B,b∉own m A5:=fun b hb z=>by
   rcases s5.o b z with y|y
   ·exact ap.a b hb y
   ·have hk:∃ o,H4 b=some o:=by
     obtain ⟨v1,a1,_⟩:=hL4.sd
     obtain ⟨v2,b1,_⟩:=hL4.sn
     obtain ⟨v3,c1,_⟩:=hL4.kp
     obtain ⟨v4,d1,_⟩:=hL4.mks
     simp only[zas,List.mem_cons,List.not_mem_nil,or_false] at hb
     rcases hb with rfl|rfl|rfl|rfl|rfl|rfl
     ·exact ⟨_,d1⟩
     ·exact ⟨_,hL4.o⟩
     ·exact ⟨_,hL4.s⟩
     ·exact ⟨_,a1⟩
     ·exact ⟨_,b1⟩
     ·exact ⟨_,c1⟩
    obtain ⟨o,hk⟩:=hk
    rw[hk] at y
    cases y
  have ap5r:B.mks∉ro A5:=fun z=>by
   rcases s5.r _ z with y|y
   ·exact ap.r y
   ·obtain ⟨v4,d1,_⟩:=hL4.mks
    rw[d1] at y
    cases y
  have ap5:Apt l m B A5:=⟨ap5a,ap5r⟩
  refine ⟨_,rfl,l,B.dx,_,rfl,hL5.o,rfl,l,B.dx,_,m,im,A5,st2,d,rfl,hL5.o,rfl,hM5,hA,fun u H6 e6 hu=>?_⟩
  refine q u H6 A5 ⟨⟨fun b o nb hb=>?_,fun b hb=>k4.there b (s5.k.there b (fresh_back e6 hb))⟩,fun a ha=>?_,fun a ha=>?_⟩ ap5 (hM5.ex e6) (hL5.ex e6) hu
  ·exact e6 _ _ (s5.k.keep b o (fun z=>nb (List.mem_cons_of_mem _ z)) (k4.keep b o nb hb))
  ·rcases s5.o a ha with y|y
   ·exact .inl y
   ·exact .inr (k4.there a y)
  ·rcases s5.r a ha with y|y
   ·exact .inl y
   ·exact .inr (k4.there a y)
end
section
variable {K:PySem.W.Frag} {σ:L2.St} {H H':Hp} {ta tb te tl tv:TE} {tt:TT} {D:Ends} {tz tu:TS} {g:TG} {E:XK} {Q:VK}
theorem zb8 {a C dx:Addr} {fs:List (Str×V)} {mth:Str} {sp:Sp} {i:Nat} {vs:List V} {tr:TA} (ha:Ev ta σ H (.ref a)) (h:H a=some (.ins C dx fs)) (l:fs.lookup mth=none) (hr:EvA tr σ H vs) (k:∀ H1,Ex H H1→sp (.ref a::(vs++[])) H1 (fun v H2=>tz D (σ.set i (some v)) H2) E):tSeq (tAsg (tMeth C mth sp [] E ta tr) (gName i)) tz D σ H :=
 ha H (Ex.refl H) _ fun H1 e1=>⟨a,dx,fs,rfl,e1 _ _ h,l,hr H1 e1 _ fun H2 e2=>k H2 (e1.trans e2)⟩
theorem zg4 {d:PyData} (h:EvD te σ H d) (k:∀ v H1,Ex H H1→Td H1 v d→g v σ H1 fun σ' H'=>tz D σ' H'):tSeq (tAsg te g) tz D σ H:=h H (Ex.refl H) _ k
theorem zgW {x:V} {p:Nm} (h:Td H x p.row):∃ t:Addr,x= .ref t∧H t=some (.tup [.str p.name, .str p.kind, .int p.cell]):=by
 unfold Nm.row at h
 cases h with
 | tup ha hT =>
  cases hT with
  | cons t1 t2 =>
   cases t1
   cases t2 with
   | cons t3 t4 =>
    cases t3
    cases t4 with
    | cons t5 t6 =>
     cases t5
     cases t6
     exact ⟨_,rfl,ha⟩
theorem zg1 {a:Addr} {xs:List V} {ys:List Nm} {vs:List Nat} {s:Nm→L2.St} {f:Nm→PyData} (h:Ev tl σ H (.ref a)) (ha:H a=some (.lst xs)) (hT:TdAll H xs (ys.map Nm.row)) (hz:ys.length≤1000)
  (hs:∀ x:Nm,((((wipe σ vs).set 4 (some (.str x.name))).set 5 (some (.str x.kind))).set 6 (some (.int x.cell)))=s x) (hw:∀ x,wipe (s x) vs=wipe σ vs) (he:∀ x∈ys,∀ H1,Ex H H1→EvD te (s x) H1 (f x))
  (q:∀ d H1 us,H d=none→Ex H H1→H1 d=some (.lst us)→TdAll H1 us (ys.map f)→Q (.ref d) H1):tLc (iList K tl) (gTup K 3 (gCons (gName 4) (gCons (gName 5) (gCons (gName 6) gNil)))) tYes te vs σ H Q:=by
 have hl:=hT.len
 rw[List.length_map] at hl
 refine h H (Ex.refl H) _ fun H1 e1=>⟨a,rfl,⟨xs,sq_of (e1 _ _ ha)⟩,fun Dl hD=>?_⟩
 refine lc_it (walk_list (a:=a) (xs:=xs)) (fun i H'=>Ex H1 H'∧∃ us,H' Dl=some (.lst us)∧TdAll H' us ((ys.take i).map f)) ⟨Ex.new hD,[],upd_same, .nil⟩ (fun i H' _ ⟨e2,_⟩=>sq_of ((e1.trans e2) _ _ ha)) ?_ ?_
 ·rintro i x H2 H3 hi ⟨e2,us,g1,g3⟩ ⟨rfl,hx⟩
  have hip:i<ys.length:=by omega
  obtain ⟨d,k1,k2⟩:=TdAll.at (TdAll.tx (Tx.of (e1.trans e2)) _ _ hT) hx
  rw[List.getElem?_map,List.getElem?_eq_getElem hip] at k1
  cases k1
  obtain ⟨t,rfl,ht2⟩:=zgW k2
  refine ⟨t,_,rfl,st_of ht2,rfl,_,_,rfl,_,_,rfl,_,_,rfl,rfl,?_⟩
  rw[hs]
  refine ⟨hw _,?_⟩
  refine zaV (σ:=s ys[i]) (f:=fun H3=>te (s ys[i]) H3 fun y H4=>∃ acc,H4 Dl=some (.lst acc)∧acc.length<sizeLine∧(fun i H'=>Ex H1 H'∧∃ us,H' Dl=some (.lst us)∧TdAll H' us ((ys.take i).map f)) (i+1) (upd H4 Dl (.lst (acc++[y])))) ?_
  refine he _ (List.getElem_mem hip) H3 (e1.trans e2) H3 (Ex.refl _) _ fun v H5 e5 hv=>⟨us,e5 _ _ g1,?_,Ex.mut (e2.trans e5) hD,us++[v],upd_same,?_⟩
  ·have:=g3.len
   rw[List.length_map,List.length_take] at this
   exact sz_lt (by omega)
  ·have tD:Tx H5 (upd H5 Dl (.lst (us++[v]))):=zai (e5 _ _ g1) (by intro _ z;cases z)
   rw[List.take_succ,List.getElem?_eq_getElem hip,List.map_append]
   exact (TdAll.tx ((Tx.of e5).trans tD) _ _ g3).app (.cons (Td.tx tD _ _ hv) .nil)
 ·rintro H2 ⟨e2,us,g1,g3⟩
  rw[hl,List.take_length] at g3
  exact q Dl H2 us (fresh_back e1 hD) (e1.trans e2) g1 g3
/-- a comprehension over keeps and their worths -/
theorem zgX {a b:Addr} {xs:List V} {ks:List Kd} {ws:List Int} {vs:List Nat} {s:Kd→Int→L2.St} {f:Kd→Int→PyData} {tr:TA} (h:EvA tr σ H [.ref a, .ref b]) (ha:H a=some (.lst xs)) (hT:TdAll H xs (ks.map Kd.d)) (hb:H b=some (iL ws)) (hlen:ws.length=ks.length) (hz:ks.length≤40000)
  (hs:∀ (k:Kd) (w:Int),((((((wipe σ vs).set 2 (some (.str k.file))).set 3 (some (.str k.name))).set 4 (some (.str k.kind))).set 5 (some (.int k.worth))).set 5 (some (.bl k.out))).set 1 (some (.int w))=s k w) (hw:∀ k w,wipe (s k w) vs=wipe σ vs) (he:∀ k w H1,Ex H H1→EvD te (s k w) H1 (f k w))
  (q:∀ d H1 us,H d=none→Ex H H1→H1 d=some (.lst us)→TdAll H1 us ((ks.zip ws).map fun p=>f p.1 p.2)→Q (.ref d) H1) :
  tLc (iZip K tr) (gTup K 2 (gCons (gTup K 5 (gCons (gName 2) (gCons (gName 3) (gCons (gName 4) (gCons (gName 5) (gCons (gName 5) gNil)))))) (gCons (gName 1) gNil))) tYes te vs σ H Q:=by
 have hl:=hT.len
 rw[List.length_map] at hl
 refine h H (Ex.refl H) _ fun H1 e1=>⟨a,b,xs,ws.map V.int,rfl,sq_of (e1 _ _ ha),sq_of (e1 _ _ hb),fun Dl hD=>?_⟩
 refine lc_it (walk_zip (a:=a) (b:=b) (xs:=xs) (ys:=ws.map V.int) (n:=ks.length) (by rw[List.length_map];omega)) (fun i H'=>Ex H1 H'∧∃ us,H' Dl=some (.lst us)∧TdAll H' us (((ks.zip ws).take i).map fun p=>f p.1 p.2)) ⟨Ex.new hD,[],upd_same, .nil⟩ (fun i H' _ ⟨e2,_⟩=>⟨sq_of ((e1.trans e2) _ _ ha),sq_of ((e1.trans e2) _ _ hb)⟩) ?_ ?_
 ·rintro i x H2 H3 hi ⟨e2,us,g1,g3⟩ ⟨T,x1,y1,rfl,hTn,rfl,hx,hy⟩
  have hiw:i<ws.length:=by omega
  have e3:Ex H2 (upd H2 T (.tup [x1,y1])):=Ex.new hTn
  obtain ⟨d,k1,k2⟩:=TdAll.at (TdAll.tx ((Tx.of (e1.trans e2)).trans (Tx.of e3)) _ _ hT) hx
  rw[List.getElem?_map,List.getElem?_eq_getElem hi] at k1
  cases k1
  have hy:(ws.map V.int)[i]?=some y1:=hy
  rw[List.getElem?_map,List.getElem?_eq_getElem hiw] at hy
  cases hy
  obtain ⟨t,rfl,ht2⟩:=zin k2
  refine ⟨T,_,rfl,st_of upd_same,rfl,_,_,rfl,⟨t,_,rfl,st_of ht2,rfl,_,_,rfl,_,_,rfl,_,_,rfl,_,_,rfl,_,_,rfl,rfl,_,_,rfl,rfl,?_⟩⟩
  rw[hs]
  refine ⟨hw _ _,?_⟩
  have g1':=e3 _ _ g1
  generalize upd H2 T (.tup [.ref t,V.int ws[i]])=H3 at e3 ht2 g1' ⊢
  refine zaV (σ:=s ks[i] ws[i]) (f:=fun H3=>te (s ks[i] ws[i]) H3 fun y H4=>∃ acc,H4 Dl=some (.lst acc)∧acc.length<sizeLine∧(fun i H'=>Ex H1 H'∧∃ us,H' Dl=some (.lst us)∧TdAll H' us (((ks.zip ws).take i).map fun p=>f p.1 p.2)) (i+1) (upd H4 Dl (.lst (acc++[y])))) ?_
  refine he _ _ H3 (e1.trans (e2.trans e3)) H3 (Ex.refl _) _ fun v H5 e5 hv=>⟨us,e5 _ _ g1',?_,Ex.mut (e2.trans (e3.trans e5)) hD,us++[v],upd_same,?_⟩
  ·have:=g3.len
   rw[List.length_map,List.length_take,List.length_zip] at this
   exact sz_lt (by omega)
  ·have tD:Tx H5 (upd H5 Dl (.lst (us++[v]))):=zai (e5 _ _ g1') (by intro _ z;cases z)
   have hzz:(ks.zip ws)[i]?=some (ks[i],ws[i]):=List.getElem?_zip_eq_some.mpr ⟨List.getElem?_eq_getElem hi,List.getElem?_eq_getElem hiw⟩
   rw[List.take_succ,hzz,List.map_append]
   exact (TdAll.tx (((Tx.of e3).trans (Tx.of e5)).trans tD) _ _ g3).app (.cons (Td.tx tD _ _ hv) .nil)
 ·rintro H2 ⟨e2,us,g1,g3⟩
  rw[List.take_of_length_le (by rw[List.length_zip];omega)] at g3
  exact q Dl H2 us (fresh_back e1 hD) (e1.trans e2) g1 g3
end
/-- frames as they are told -/
inductive zfo (im:Img):List Fr→List PyData→Prop
 | nil:zfo im [] []
 | cons {x:Fr} {xs:List Fr} {ys:List PyData} {df:Df} {p:Pl} (hd:im.defs[x.num]?=some df) (hp:zaH im x.pc=some p) (r:zfo im xs ys):zfo im (x::xs) (.tuple [.str df.file, .str df.name, .int p.row]::ys)
theorem zfo.len {im:Img}:∀ {xs:List Fr} {ys:List PyData},zfo im xs ys→xs.length=ys.length
 | _,_, .nil=>rfl
 | _,_, .cons _ _ r=>congrArg Nat.succ r.len
theorem zfo.get {im:Img}:∀ {xs:List Fr} {ys:List PyData} {i:Nat} {x:Fr},zfo im xs ys→xs[i]?=some x→∃ df p,im.defs[x.num]?=some df∧zaH im x.pc=some p∧ys[i]?=some (.tuple [.str df.file, .str df.name, .int p.row])
 | _,_,0,_, .cons hd hp _,e=>by
  cases e
  exact ⟨_,_,hd,hp,rfl⟩
 | _,_,i+1,_, .cons _ _ r,e=>r.get (i:=i) e
section
variable {P:Program} {w:World} {K:PySem.W.Frag} {mg:Str→Option Value} {base:Heap} {C CC CR CS CL aW aH aS:Addr}
abbrev zdu:Stmt:=(C8.clsBody (zaz 35)).getD 16 (.Pass ⟨0,0,0,0⟩)
theorem zb6:FnScope ["self","told","frame","file","name"] ["self"] (fnScope zdu):=fnScope_by (by decide +kernel)
def zbI (CL CS C CC:Addr):Sp:=fun vs H Q _=>∃ (l m:Addr) (B:LA) (im:Img) (A:MA) (st:MS) (ks:List Kd) (ns:List Nm) (n:Nat) (ys:List PyData),vs=[.ref l]∧Lok H CL CS l m B im.defs ks ns n∧Mac H C CC im m A st∧st.ended=none∧st.callers.length≤1000∧zfo im (zbR A st) ys ∧
 ∀ d H2 us,H d=none→Ex H H2→H2 d=some (.lst us)→TdAll H2 us ys→Q (.ref d) H2
theorem zeH (T:zay K mg C CC aW aH aS) (TL:zfF K CL) (TS:zhT K CS) (c_q2:Met P w K mg base 1 C "under_way" (zbK C CC) []) (c_q27:Met P w K mg base 1 CL "row_of" (zbV CL C CC) []) {f:Addr} {fd:FuncData} (me:Meth K CL "frames" f) (F:C8.Fun K "frames" "Looker.frames" zdu f fd) (b:Binds K fd ["self"] []):Met P w K mg base 2 CL "frames" (zbI CL CS C CC) []:=by
 refine met0 TL.cls me F b zb6 (fun vs H Q E h=>?_) (fun cdv A0 outer s H vs Q E hr h=>?_)
 ·obtain ⟨_,_,_,_,_,_,_,_,_,_,rfl,_⟩:=h
  rfl
 ·obtain ⟨l,m,B,im,A,st,ks,ns,n,ys,rfl,hL,hM,he,hc,hF,q⟩:=h
  refine ⟨_,(pss_cons (ps_set (i:=1) zb6.nd rfl (.inl rfl) (pe_lst pa_nil))
   (pss_cons (ps_for PassesOwn.never rfl (pi_list (C8.pe_mt0 c_q2 hr (by first|decide|exact Nat.le_refl _|omega) (pe_fld (pv 0) rfl))) (pg_name (i:=2) zb6.nd rfl (.inl rfl)) (pss_cons (ps_asg (pe_slice sl_tupA (pe_ix ix_list (pe_fld (pe_fld (pv 0) rfl) rfl) (pe_ix ix_tup (pv 2) pe_int (fun _ _=>rfl)) (fun _ _=>rfl)) po_none (po_some pe_int)) (pg_tup rfl (pgs_cons (pg_name (i:=3) zb6.nd rfl (.inl rfl)) (pgs_cons (pg_name (i:=4) zb6.nd rfl (.inl rfl)) pgs_nil))))
   (pss_one (ps_expr (pe_bm PySem.F.plainAttrs_list PySem.F.slot_list_append PySem.F.type_list_append mt_append (pv 1) (pa_cons (pe_tup (pa_cons (pv 3) (pa_cons (pv 4) (pa_cons (C8.pe_mt c_q27 hr (by first|decide|exact Nat.le_refl _|omega) (pv 0) (pa_cons (pv 2) pa_nil)) pa_nil)))) pa_nil))))))
   (pss_one (ps_ret (pv 1))))),?_⟩
  refine q_asgL (el_lst ea_nil (Nat.zero_le _)) fun lt H1 hlt e1 h1=>?_
  dsimp only[L2.start,List.map,List.set,List.length,List.append,List.replicate]
  have hL1:=hL.ex e1
  have hM1:=hM.ex e1
  refine zf7 (F:=fun a xs H2=>Ex H1 H2∧zaE H2 xs (zbR A st)∧a≠lt) (fun Q q2=>⟨_,rfl,l,CL,B.dx,_,_,rfl,hL1.o,TL.cls,TL.n_machine,rfl,m,A.dx,_,rfl,hM1.o,rfl,m,im,A,st,rfl,hM1,he,hc,fun p us H2 hp e2 h2 hF2=>q2 p us H2 h2 ⟨e2,hF2,fun z=>by rw[z,h1] at hp;cases hp⟩⟩) fun a xs H2 ha ⟨e2,hF2,nal⟩=>?_
  have hxl:=hF2.len
  have hyl:=hF.len
  refine ⟨fun i σ' H'=>(∃ y2 y3 y4,σ'=[some (.ref l),some (.ref lt),y2,y3,y4])∧(∀ b o,b≠lt→H2 b=some o→H' b=some o)∧∃ us,H' lt=some (.lst us)∧TdAll H' us (ys.take i),⟨⟨_,_,_,rfl⟩,fun b o _ h=>h,[],e2 _ _ h1, .nil⟩,fun i σ' H' ⟨_,k,_⟩=>sq_of (k _ _ nal ha),?_,?_⟩
  ·rintro i x σ' H' hx ⟨⟨y2,y3,y4,rfl⟩,k',us,hus,hT⟩
   obtain ⟨t,fr,rfl,hfr,ht⟩:=hF2.get hx
   obtain ⟨df,p,hdf,hp,hy⟩:=hF.get hfr
   show tSeq _ _ _ [some (.ref l),some (.ref lt),some (.ref t),y3,y4] H'
   have kx:∀ b o,H b=some o→H' b=some o:=fun b o hb=>k' b o (fun z=>by rw[z,hlt] at hb;cases hb) (e2 _ _ (e1 _ _ hb))
   have hL':=hL.ex kx
   have hM':=hM.ex kx
   have ht':=k' _ _ (fun z=>by rw[z,e2 _ _ h1] at ht;cases ht) ht
   obtain ⟨dv,d1,d2⟩:=hL'.sd
   have hdl:=d2.len
   rw[List.length_map] at hdl
   have hn:=(List.getElem?_eq_some_iff.mp hdf).1
   obtain ⟨d0,g1,g2⟩:=TdAll.at (i:=fr.num) (x:=dv[fr.num]'(by omega)) d2 (List.getElem?_eq_getElem (by omega))
   rw[List.getElem?_map,hdf] at g1
   cases g1
   have g2:Td H' (dv[fr.num]'(by omega)) (.tuple [.str df.file, .str df.name, .int df.pc, .int df.fin, .tuple df.kinds, .str df.kind, .bool df.out, .int df.cells]):=g2
   refine zg4 (d:= .tuple [.str df.file, .str df.name]) (zef (zec (K:=K) (k:=2) (ev_op (zad (zad (ev_var rfl) hL'.o TL.cls TL.n_sheet rfl) hL'.s TS.cls TS.n_defs rfl) (ev_op (ev_var rfl) ev_c (rv_ixT (i:=0) (st_of ht') rfl)) (rv_ixL (sq_of d1) (atI_nat (List.getElem?_eq_getElem (by omega))))) g2 (by show 2≤8;decide)) rfl) fun v H3 e3 hv=>?_
   obtain ⟨a2,u2,rfl,ha2,hu2⟩:=ze1 hv
   have:=zeE hu2
   subst this
   refine ⟨a2,_,rfl,st_of ha2,rfl,_,_,rfl,_,_,rfl,rfl,?_⟩
   show tDrop _ _ [some (.ref l),some (.ref lt),some (.ref t),some (.str df.file),some (.str df.name)] H3
   have hL3:=hL'.ex e3
   have hM3:=hM'.ex e3
   have hrow:Ev (tMeth CL "row_of" (zbV CL C CC) [] C8.E0 (tVar 0) (tCons (tVar 2) tNil)) [some (.ref l),some (.ref lt),some (.ref t),some (.str df.file),some (.str df.name)] H3 (.int p.row):=zee (ev_var rfl) hL3.o rfl (ea_cons (ev_var rfl) ea_nil) fun H4 e4 Q4 q4=>⟨l,B.dx,t,m,_,im,A,st,fr,p,rfl,e4 _ _ hL3.o,rfl,hM3.ex e4,e4 _ _ (e3 _ _ ht'),hp,fun H5 e5=>q4 H5 e5⟩
   refine zf1 (d:= .tuple [.str df.file, .str df.name, .int p.row]) (e3 _ _ hus) (ev_var rfl) (zaf (zaa (zac (ev_var rfl)) (zaa (zac (ev_var rfl)) (zaa (zae hrow) zab))) (by show 3≤100000;decide)) ?_ fun v2 H4 e4 hv2=>?_
   ·have:=hT.len
    rw[List.length_take] at this
    have:(zbR A st).length≤1001:=by
     unfold zbR
     rw[List.length_cons,List.length_reverse,List.length_map,List.length_zip]
     omega
    omega
   ·have h4:=e4 _ _ (e3 _ _ hus)
    have tD:Tx H4 (upd H4 lt (.lst (us++[v2]))):=zai h4 (by intro _ z;cases z)
    refine ⟨⟨_,_,_,rfl⟩,fun b o nb hb=>?_,_,upd_same,?_⟩
    ·rw[upd_ne nb]
     exact e4 _ _ (e3 _ _ (k' b o nb hb))
    ·rw[List.take_succ,hy]
     exact (TdAll.tx (((Tx.of e3).trans (Tx.of e4)).trans tD) _ _ hT).app (.cons (Td.tx tD _ _ hv2) .nil)
  ·rintro σ' H' ⟨⟨y2,y3,y4,rfl⟩,k',us,hus,hT⟩
   rw[hxl,hyl,List.take_length] at hT
   exact s_ret (ev_var rfl) fun H3 e3=>q lt H3 us hlt (fun b o hb=>e3 _ _ (k' b o (fun z=>by rw[z,hlt] at hb;cases hb) (e2 _ _ (e1 _ _ hb)))) (e3 _ _ hus) (TdAll.tx (Tx.of e3) _ _ hT)
abbrev zcS:Stmt:=(C8.clsBody (zaz 35)).getD 17 (.Pass ⟨0,0,0,0⟩)
theorem zbk:FnScope ["self","depth","frame","standing","name","kind","cell"] ["self","depth"] (fnScope zcS):=fnScope_by (by decide +kernel)
def zeu (CL CS C CC:Addr):Sp:=fun vs H Q _=>∃ (l m:Addr) (B:LA) (im:Img) (A:MA) (st:MS) (ks:List Kd) (ns:List Nm) (n:Nat) (df:Df) (p:Pl),vs=[.ref l, .int 0]∧Lok H CL CS l m B im.defs ks ns n∧Mac H C CC im m A st∧st.ended=none∧st.callers.length≤1000∧ns.length≤1000 ∧
 im.defs[st.num]?=some df∧zaH im st.pc=some p∧(∀ y∈ns,SeqAt.shaped (.tuple [.str y.file, .str y.of])=true∧y.cell<st.cells.length)∧SeqAt.shaped (.tuple [.str df.file, .str df.name])=true ∧
 ∀ d H2 us,H d=none→Ex H H2→H2 d=some (.lst us)→TdAll H2 us ((ns.filter (zhc df.file df.name p.row)).map fun y=> .tuple [.str y.name, .str y.kind,zbx y.kind (st.cells.getD y.cell 0)])→Q (.ref d) H2
theorem zgG (T:zay K mg C CC aW aH aS) (TL:zfF K CL) (TS:zhT K CS) (c_q17:Met P w K mg base 2 CL "frame_at" (zcq CL C CC) []) (c_q23:Met P w K mg base 1 CS "standing" (zbF CS) []) (c_q27:Met P w K mg base 1 CL "row_of" (zbV CL C CC) []) (c_q53:Cal P w K mg base 1 "told_worth" ziq []) {f:Addr} {fd:FuncData} (me:Meth K CL "seen" f) (F:C8.Fun K "seen" "Looker.seen" zcS f fd) (b:Binds K fd ["self","depth"] []):Met P w K mg base 3 CL "seen" (zeu CL CS C CC) []:=by
 refine met0 TL.cls me F b zbk (fun vs H Q E h=>?_) (fun cdv A0 outer s H vs Q E hr h=>?_)
 ·obtain ⟨_,_,_,_,_,_,_,_,_,_,_,rfl,_⟩:=h
  rfl
 ·obtain ⟨l,m,B,im,A,st,ks,ns,n,df,p,rfl,hL,hM,he,hc,hnl,hdf,hp,hns,hsd,q⟩:=h
  refine ⟨_,(pss_cons (ps_set (i:=2) zbk.nd rfl (.inr rfl) (C8.pe_mt c_q17 hr (by first|decide|exact Nat.le_refl _|omega) (pv 0) (pa_cons (pv 1) pa_nil)))
   (pss_cons (ps_set (i:=3) zbk.nd rfl (.inl rfl) (C8.pe_mt c_q23 hr (by first|decide|exact Nat.le_refl _|omega) (pe_fld (pv 0) rfl) (pa_cons (pe_ix ix_tup (pv 2) pe_int (fun _ _=>rfl)) (pa_cons (C8.pe_mt c_q27 hr (by first|decide|exact Nat.le_refl _|omega) (pv 0) (pa_cons (pv 2) pa_nil)) pa_nil))))
   (pss_one (ps_ret (pe_lc (own:=[("name",4),("kind",5),("cell",6)]) (g:=(gTup K 3 (gCons (gName 4) (gCons (gName 5) (gCons (gName 6) gNil))))) (tt:=tYes) rfl zbk.nd (pi_list (pv 3)) (blkOk_by (N:=["self","depth","frame","standing","name","kind","cell"]) (sc:=C8.fnScope zcS) (by decide +kernel)) (fun _ _ _ _ _=>pg_tup rfl (pgs_cons (pg_name (i:=4) zbk.nd rfl (Or.inl rfl)) (pgs_cons (pg_name (i:=5) zbk.nd rfl (Or.inl rfl)) (pgs_cons (pg_name (i:=6) zbk.nd rfl (Or.inl rfl)) pgs_nil)))) (fun _ _ _ _ _=>pts_nil) (fun _ _ _ _ _=>(pe_tup (pa_cons (pv 4) (pa_cons (pv 5) (pa_cons (C8.pe_c c_q53 hr (by first|decide|exact Nat.le_refl _|omega) (by rfl) (pa_cons (pv 5) (pa_cons (pe_ix (show IxR _ (rIxL K) from ix_list) (pe_ix (show IxR _ (rIxT K) from ix_tup) (pv 2) pe_int (fun _ _=>rfl)) (pv 6) (fun _ _=>rfl)) pa_nil))) pa_nil)))))))))),?_⟩
  refine zb8 (vs:=[.int 0]) (ev_var rfl) hL.o rfl (ea_cons (ev_var rfl) ea_nil) fun H1 e1=>⟨l,B.dx,m,zgF m B,im,A,st,0,⟨st.num,st.call,st.pc,A.lcl⟩,rfl,e1 _ _ hL.o,rfl,hM.ex e1,he,hc,rfl,fun t H2 e2 ht=>?_⟩
  have e12:=e1.trans e2
  have hL2:=hL.ex e12
  have hM2:=hM.ex e12
  dsimp only[L2.start,List.map,List.set,List.length,List.append,List.replicate]
  obtain ⟨dv,d1,d2⟩:=hL2.sd
  obtain ⟨nv,n1,n2⟩:=hL2.sn
  refine zb8 (vs:=[.int st.num, .int p.row]) (zad (ev_var rfl) hL2.o TL.cls TL.n_sheet rfl) hL2.s rfl (ea_cons (ev_op (ev_var rfl) ev_c (rv_ixT (i:=0) (st_of ht) rfl)) (ea_cons (zee (ev_var rfl) hL2.o rfl (ea_cons (ev_var rfl) ea_nil) fun H4 e4 Q4 q4=>⟨l,B.dx,t,m,_,im,A,st,_,p,rfl,e4 _ _ hL2.o,rfl,hM2.ex e4,e4 _ _ ht,hp,fun H5 e5=>q4 H5 e5⟩) ea_nil)) fun H3 e3=>?_
  refine ⟨B.sh,B.dxs,B.sd,B.sn,B.so,B.su,im.defs,dv,nv,ns,st.num,p.row,df,rfl,e3 _ _ hL2.s,e3 _ _ d1,TdAll.tx (Tx.of e3) _ _ d2,e3 _ _ n1,TdAll.tx (Tx.of e3) _ _ n2,hnl,hdf,fun y hy=>(hns y hy).1,hsd,fun d H4 us hd e4 h4 hT=>?_⟩
  dsimp only[List.set]
  have e24:=e3.trans e4
  have hM4:=hM2.ex e24
  refine zcj ?_
  refine zg1 (K:=K) (ys:=ns.filter (zhc df.file df.name p.row)) (s:=fun y=>[some (.ref l),some (.int 0),some (.ref t),some (.ref d),some (.str y.name),some (.str y.kind),some (.int y.cell)]) (f:=fun y=> .tuple [.str y.name, .str y.kind,zbx y.kind (st.cells.getD y.cell 0)]) (ev_var rfl) h4 hT (Nat.le_trans (List.length_filter_le _ _) hnl) (fun _=>rfl) (fun _=>rfl) (fun y hy H5 e5=>?_) fun d2 H5 us2 hd2 e5 h5 hT5=>q d2 H5 us2 (fresh_back (e12.trans e24) hd2) (e12.trans (e24.trans e5)) h5 hT5
  have hy2:=(List.mem_filter.mp hy).1
  have hc2:=(hns y hy2).2
  have ht5:=e5 _ _ (e24 _ _ ht)
  refine zaf (zaa (zac (ev_var rfl)) (zaa (zac (ev_var rfl)) (zaa (zaA (ev_call (dvs:=[]) (ea_cons (ev_var rfl) (ea_cons (ev_op (ev_op (ev_var rfl) ev_c (rv_ixT (i:=3) (v:= .ref A.lcl) (st_of ht5) rfl)) (ev_var rfl) (rv_ixL (v:= .int (st.cells.getD y.cell 0)) (sq_of (hM4.ex e5).cells) (atI_nat ?_))) ea_nil)) zcI) zcE) zab))) (by show 3≤100000;decide)
  rw[List.getElem?_map,List.getD_eq_getElem?_getD,List.getElem?_eq_getElem hc2]<;>rfl
abbrev zcN:Stmt:=(C8.clsBody (zaz 35)).getD 18 (.Pass ⟨0,0,0,0⟩)
theorem za8:FnScope ["self","worth","file","name","kind","_"] ["self"] (fnScope zcN):=fnScope_by (by decide +kernel)
def zbg (CL CS C CC:Addr):Sp:=fun vs H Q _=>∃ (l m:Addr) (B:LA) (im:Img) (A:MA) (st:MS) (ks:List Kd) (ns:List Nm) (n:Nat),vs=[.ref l]∧Lok H CL CS l m B im.defs ks ns n∧Mac H C CC im m A st∧st.kept.length=ks.length∧ks.length≤40000 ∧
 ∀ d H2 us,H d=none→Ex H H2→H2 d=some (.lst us)→TdAll H2 us ((ks.zip st.kept).map fun p=> .tuple [.str p.1.file, .str p.1.name, .str p.1.kind,zbx p.1.kind p.2])→Q (.ref d) H2
theorem zdJ (T:zay K mg C CC aW aH aS) (TL:zfF K CL) (m_zip:mg "zip"=none) (c_q53:Cal P w K mg base 1 "told_worth" ziq []) {f:Addr} {fd:FuncData} (me:Meth K CL "lasting" f) (F:C8.Fun K "lasting" "Looker.lasting" zcN f fd) (b:Binds K fd ["self"] []):Met P w K mg base 2 CL "lasting" (zbg CL CS C CC) []:=by
 refine met0 TL.cls me F b za8 (fun vs H Q E h=>?_) (fun cdv A0 outer s H vs Q E hr h=>?_)
 ·obtain ⟨_,_,_,_,_,_,_,_,_,rfl,_⟩:=h
  rfl
 ·obtain ⟨l,m,B,im,A,st,ks,ns,n,rfl,hL,hM,hl,hz,q⟩:=h
  refine ⟨_,(pss_one (ps_ret (pe_lc (own:=[("worth",1),("file",2),("name",3),("kind",4),("_",5)]) (g:=(gTup K 2 (gCons (gTup K 5 (gCons (gName 2) (gCons (gName 3) (gCons (gName 4) (gCons (gName 5) (gCons (gName 5) gNil)))))) (gCons (gName 1) gNil)))) (tt:=tYes) rfl za8.nd (pi_zip (by rfl) m_zip (pa_cons (pe_fld (pv 0) rfl) (pa_cons (pe_fld (pe_fld (pv 0) rfl) rfl) pa_nil))) (blkOk_by (N:=["self","worth","file","name","kind","_"]) (sc:=C8.fnScope zcN) (by decide +kernel)) (fun _ _ _ _ _=>pg_tup rfl (pgs_cons (pg_tup rfl (pgs_cons (pg_name (i:=2) za8.nd rfl (Or.inl rfl)) (pgs_cons (pg_name (i:=3) za8.nd rfl (Or.inl rfl)) (pgs_cons (pg_name (i:=4) za8.nd rfl (Or.inl rfl)) (pgs_cons (pg_name (i:=5) za8.nd rfl (Or.inl rfl)) (pgs_cons (pg_name (i:=5) za8.nd rfl (Or.inl rfl)) pgs_nil)))))) (pgs_cons (pg_name (i:=1) za8.nd rfl (Or.inl rfl)) pgs_nil))) (fun _ _ _ _ _=>pts_nil) (fun _ _ _ _ _=>(pe_tup (pa_cons (pv 2) (pa_cons (pv 3) (pa_cons (pv 4) (pa_cons (C8.pe_c c_q53 hr (by first|decide|exact Nat.le_refl _|omega) (by rfl) (pa_cons (pv 4) (pa_cons (pv 1) pa_nil))) pa_nil))))))))),?_⟩
  obtain ⟨kv,k1,k2⟩:=hL.kp
  refine zcj ?_
  exact zgX (K:=K) (ks:=ks) (ws:=st.kept) (s:=fun k w=>[some (.ref l),some (.int w),some (.str k.file),some (.str k.name),some (.str k.kind),some (.bl k.out)]) (f:=fun k w=> .tuple [.str k.file, .str k.name, .str k.kind,zbx k.kind w]) (ea_cons (zad (ev_var rfl) hL.o TL.cls TL.n_keeps rfl) (ea_cons (zb0 T hM (zad (ev_var rfl) hL.o TL.cls TL.n_machine rfl)) ea_nil)) k1 k2 hM.kept hl hz (fun _ _=>rfl) (fun _ _=>rfl) (fun k w H1 e1=>zaf (zaa (zac (ev_var rfl)) (zaa (zac (ev_var rfl)) (zaa (zac (ev_var rfl)) (zaa (zaA (ev_call (dvs:=[]) (ea_cons (ev_var rfl) (ea_cons (ev_var rfl) ea_nil)) zcI) zcE) zab)))) (by show 4≤100000;decide)) q
end
section
variable {P:Program} {w:World} {K:PySem.W.Frag} {mg:Str→Option Value} {base:Heap} {C CC CR CS CL aW aH aS:Addr}
theorem zei {m dx a:Addr} {H:Hp} {o o2:HO} (hm:H m=none) (hd:H dx=none) (h:(upd (upd H dx o) m o2) a=none):H a=none:=by
 by_cases ham:a=m
 ·rw[ham];exact hm
 ·rw[upd_ne ham] at h
  by_cases had:a=dx
  ·rw[had];exact hd
  ·rw[upd_ne had] at h
   exact h
theorem zfQ {σ:L2.St} {H:Hp} {ta:TA} {E:XK} {Q:VK} {v:V} {im:Img} {ks:List Kd} {us:List Use} {ns:List Nm} (h:EvA ta σ H [v]) (hv:Td H v (zcz im ks (zbY us ns))) (ok:zfz im ks us ns)
  (q:∀ s dx sd sn so su H2,H s=none→Ex H H2→H sd=none→H sn=none→H2 s=some (.ins CS dx (zgZ sd sn so su))→(∃ dv,H2 sd=some (.lst dv)∧TdAll H2 dv (im.defs.map Df.d))→(∃ nv,H2 sn=some (.lst nv)∧TdAll H2 nv (ns.map Nm.d))→Q (.ref s) H2):tMake CS (zcP CS) [] E ta σ H Q:=h H (Ex.refl H) _ fun H1 e1 s dx hm hd nd=>by
 have e2:Ex H1 (upd (upd H1 dx (.own s)) s (.ins CS dx [])):=(Ex.new hd).trans (Ex.new (by rw[upd_ne (Ne.symm nd)];exact hm))
 refine ⟨s,dx,v,im,ks,us,ns,rfl,upd_same,Td.tx (Tx.of (e1.trans e2)) _ _ hv,ok,fun H2 sd sn so su k h1 h2 hs hdv hnv=>⟨rfl,?_⟩⟩
 refine q s dx sd sn so su H2 (fresh_back e1 hm) (fun b o hb=>k b o (fun z=>by rw[z,fresh_back e1 hm] at hb;cases hb) (e2 _ _ (e1 _ _ hb))) (fresh_back e1 (zei hm hd h1)) (fresh_back e1 (zei hm hd h2)) hs hdv hnv
theorem zfd {σ:L2.St} {H:Hp} {ta:TA} {tb:TE} {E:XK} {D:Ends} {tz:TS} {o Co dx:Addr} {fs:List (Str×V)} {f:Str} {v:V} {im:Img} {ks:List Kd} {rest:List PyData} {fi n:Str} {num:Nat} {x:Df} {st2:MS} (h:EvA ta σ H [v, .str fi, .str n, .int im.most]) (hv:Td H v (zcz im ks rest)) (r:zfB im ks fi n num x st2)
  (ho:∀ H',Ev tb σ H' (.ref o)) (hf:H o=some (.ins Co dx fs)) (c:Cls K Co) (na:NoAttr K Co f) (hl:fs.length<1000)
  (q:∀ m H2 A2,Ex H H2→(∀ a∈own m A2++ro A2,H a=none)→Mac H2 C CC im m A2 st2→tz D σ (upd H2 o (.ins Co dx (putF f (.ref m) fs)))):tSeq (sFld K tb (tMake C (zcp C CC) [] E ta) f) tz D σ H:=zc9 (D:={ D with nx:=tz D }) h hv r ho hf c na hl q
theorem zh9 {σ:L2.St} {H:Hp} {ta tv:TE} {D:Ends} {x C dx:Addr} {fs:List (Str×V)} {f:Str} {P:Addr→Hp→Prop} (hv:∀ Q:VK,(∀ p H1,H p=none→Ex H H1→P p H1→Q (.ref p) H1)→tv σ H Q) (ha:∀ H',Ev ta σ H' (.ref x)) (h:H x=some (.ins C dx fs)) (c:Cls K C) (n:NoAttr K C f) (hl:fs.length<1000) (up:∀ p H1 H2,p≠x→Kp [x] H1 H2→Tx H1 H2→P p H1→P p H2)
  (k:∀ p H1,H p=none→Kp [x] H H1→Tx H H1→p≠x→P p H1→H1 x=some (.ins C dx (putF f (.ref p) fs))→D.nx σ H1):sFld K ta tv f D σ H:=zaQ (tz:=tNext) (D:=D) hv ha h c n hl up k
abbrev zgR:Stmt:=(C8.clsBody (zaz 35)).getD 0 (.Pass ⟨0,0,0,0⟩)
theorem zhq:FnScope ["self","image","file","name","most"] ["self","image","file","name","most"] (fnScope zgR):=fnScope_by (by decide +kernel)
def zfv (C CC CL CS:Addr):Sp:=fun vs H Q _=>∃ (l dx:Addr) (v:V) (im:Img) (ks:List Kd) (us:List Use) (ns:List Nm) (f n:Str) (num:Nat) (x:Df) (st2:MS),vs=[.ref l,v, .str f, .str n, .int im.most]∧H l=some (.ins CL dx [])∧Td H v (zcz im ks (zbY us ns))∧zfz im ks us ns∧ziy im∧zfB im ks f n num x st2 ∧
 ∀ H2 m A2 B,(∀ b o,b≠l→H b=some o→H2 b=some o)→(∀ a∈own m A2++ro A2,H a=none)→(∀ a∈B.mks::zas l B,a=l∨H a=none)→Apt l m B A2→Mac H2 C CC im m A2 st2→Lok H2 CL CS l m B im.defs ks ns 0→Q .non H2
theorem zhh (T:zay K mg C CC aW aH aS) (TL:zfF K CL) (c_q67:Mak P w K mg base 6 "Machine" C (zcp C CC) []) (c_q72:Mak P w K mg base 1 "Sheet" CS (zcP CS) []) (c_q26:Cal P w K mg base 2 "rows_by_place" zcr []) {f:Addr} {fd:FuncData} (F:C8.Fun K "__init__" "Looker.__init__" zgR f fd):FnOk P w K mg base C8.CX0 8 f fd ["self","image","file","name","most"] (zfv C CC CL CS):=by
 refine C8.fn0 F zhq (fun vs H Q E h=>?_) (fun cdv A0 outer s0 H vs Q E hr h=>?_)
 ·obtain ⟨_,_,_,_,_,_,_,_,_,_,_,_,rfl,_⟩:=h
  rfl
 ·obtain ⟨l,dx,v,im,ks,us,ns,fi,na,num,x,st2,rfl,hl0,hv,okS,okP,r0,q⟩:=h
  have m_list:=T.m_list
  refine ⟨_,(pss_cons (ps_fld (pv 0) (C8.pe_mk c_q67 hr (by first|decide|exact Nat.le_refl _|omega) (by rfl) (pa_cons (pv 1) (pa_cons (pv 2) (pa_cons (pv 3) (pa_cons (pv 4) pa_nil))))) rfl)
   (pss_cons (ps_fld (pv 0) (C8.pe_mk c_q72 hr (by first|decide|exact Nat.le_refl _|omega) (by rfl) (pa_cons (pv 1) pa_nil)) rfl)
   (pss_cons (ps_fld (pv 0) (pe_callTy call_list_of (by rfl) m_list Wt.bt_list (pa_cons (pe_ix ix_tup (pv 1) pe_int (fun _ _=>rfl)) pa_nil)) rfl)
   (pss_cons (ps_fld (pv 0) (C8.pe_c c_q26 hr (by first|decide|exact Nat.le_refl _|omega) (by rfl) (pa_cons (pv 1) pa_nil)) rfl)
   (pss_cons (ps_fld (pv 0) (pe_lst pa_nil) rfl)
   (pss_one (ps_fld (pv 0) pe_dnewK rfl))))))),?_⟩
  refine zfd (ks:=ks) (rest:=zbY us ns) (ea_cons (ev_var rfl) (ea_cons (ev_var rfl) (ea_cons (ev_var rfl) (ea_cons (ev_var rfl) ea_nil)))) hv r0 (fun _=>ev_var rfl) hl0 TL.cls TL.n_machine (by show 0<1000;decide) fun m H1 A1 e1 nw hM=>?_
  have hl1:=e1 _ _ hl0
  have nl:∀ a∈own m A1++ro A1,a≠l:=fun a ha z=>by
   have:=nw a ha
   rw[z,hl0] at this
   cases this
  have t2:Tx H1 (upd H1 l (.ins CL dx (putF "machine" (.ref m) []))):=zai hl1 (by intro _ z;cases z)
  have hM2:Mac (upd H1 l (.ins CL dx (putF "machine" (.ref m) []))) C CC im m A1 st2:=hM.keep (fun b hb o ho=>by rw[upd_ne (nl b hb)];exact ho) t2
  have x2:(upd H1 l (.ins CL dx (putF "machine" (.ref m) []))) l=some (.ins CL dx [("machine", .ref m)]):=upd_same
  have k2:Kp [l] H (upd H1 l (.ins CL dx (putF "machine" (.ref m) []))):=⟨fun b o nb hb=>by
   rw[upd_ne fun z=>nb (by rw[z];exact List.mem_singleton.mpr rfl)]
   exact e1 _ _ hb,fun b hb=>by
   by_cases z:b=l
   ·rw[z,upd_same] at hb;cases hb
   ·rw[upd_ne z] at hb;exact fresh_back e1 hb⟩
  have tx2:Tx H (upd H1 l (.ins CL dx (putF "machine" (.ref m) []))):=(Tx.of e1).trans t2
  generalize upd H1 l (.ins CL dx (putF "machine" (.ref m) []))=H2 at hM2 x2 k2 tx2 ⊢
  -- the sheet
  refine zaQ (P:=fun s H'=>∃ dxs sd sn so su,H2 sd=none∧H2 sn=none∧H' s=some (.ins CS dxs (zgZ sd sn so su))∧(∃ dv,H' sd=some (.lst dv)∧TdAll H' dv (im.defs.map Df.d))∧∃ nv,H' sn=some (.lst nv)∧TdAll H' nv (ns.map Nm.d)) (fun Q q=>zfQ (us:=us) (ea_cons (ev_var rfl) ea_nil) (Td.tx tx2 _ _ hv) okS fun s dxs sd sn so su H3 hs e3 h1 h2 hso hdv hnv=>q s H3 hs e3 ⟨dxs,sd,sn,so,su,h1,h2,hso,hdv,hnv⟩) (fun _=>ev_var rfl) x2 TL.cls TL.n_sheet (by show 1<1000;decide) (fun p Ha Hb n k t ⟨dxs,sd,sn,so,su,h1,h2,h3,⟨dv,h4,h5⟩,nv,h6,h7⟩=>⟨dxs,sd,sn,so,su,h1,h2,k.keep _ _ (by rw[List.mem_singleton];exact n) h3,⟨dv,k.keep _ _ (by rw[List.mem_singleton];intro z;rw[z,x2] at h1;cases h1) h4,TdAll.tx t _ _ h5⟩,nv,k.keep _ _ (by rw[List.mem_singleton];intro z;rw[z,x2] at h2;cases h2) h6,TdAll.tx t _ _ h7⟩) fun sh H3 hsh k3 t3 nsh hP3 x3=>?_
  obtain ⟨dxs,sd,sn,so,su,hsd,hsn,g3,⟨dv,g4,g5⟩,nv,g6,g7⟩:=hP3
  have nsd:sd≠l:=fun z=>by rw[z,x2] at hsd;cases hsd
  have nsn:sn≠l:=fun z=>by rw[z,x2] at hsn;cases hsn
  have tx3:=tx2.trans t3
  -- keeps
  obtain ⟨xk,hxk,evk⟩:=zbe (K:=K) (σ:=[some (.ref l),some v,some (.str fi),some (.str na),some (.int im.most)]) (H:=H3) (ta:=tVar 1) (tb:=tC (.int 3)) (j:=3) (d:= .tuple (ks.map Kd.d)) (ev_var rfl) (Td.tx tx3 _ _ hv) ev_c rfl
  refine zaQ (P:=fun p H'=>∃ kv,H' p=some (.lst kv)∧TdAll H' kv (ks.map Kd.d)) (fun Q q=>zbL (K:=K) evk hxk H3 (Ex.refl _) Q fun p H4 vs hp e4 h4 hT=>q p H4 hp e4 ⟨vs,h4,hT⟩) (fun _=>ev_var rfl) x3 TL.cls TL.n_keeps (by show 2<1000;decide) (fun p Ha Hb n k t ⟨kv,h1,h2⟩=>⟨kv,k.keep _ _ (by rw[List.mem_singleton];exact n) h1,TdAll.tx t _ _ h2⟩) fun kp H4 hkp k4 t4 nkp hP4 x4=>?_
  obtain ⟨kv,q1,q2⟩:=hP4
  have tx4:=tx3.trans t4
  -- rows
  refine zaQ (P:=fun _ _=>True) (fun Q q=>⟨_,rfl,v,im,ks,zbY us ns,rfl,Td.tx tx4 _ _ hv,okP,fun d H5 hd e5=>q d H5 hd e5 trivial⟩) (fun _=>ev_var rfl) x4 TL.cls TL.n_rows (by show 3<1000;decide) (fun _ _ _ _ _ _ _=>trivial) fun rw_ H5 hrw k5 t5 nrw _ x5=>?_
  -- marks,held
  refine zbl (xs:=[]) (el_lst ea_nil (Nat.zero_le _)) (fun _=>ev_var rfl) x5 TL.cls TL.n_marks (by show 4<1000;decide) fun mk H6 hmk k6 t6 nmk h6 x6=>?_
  refine zh9 (P:=fun _ _=>True) (fun Q q=>fun p hp=>q p _ hp (Ex.new hp) trivial) (fun _=>ev_var rfl) x6 TL.cls TL.n_held (by show 5<1000;decide) (fun _ _ _ _ _ _ _=>trivial) fun hd H7 hhd k7 t7 nhd _ x7=>?_
  have kz:∀ {Ha Hb Hc:Hp},Kp [l] Ha Hb→Kp [l] Hb Hc→Kp [l] Ha Hc:=fun a b=>⟨fun x o n h=>b.keep x o n (a.keep x o n h),fun x h=>a.there x (b.there x h)⟩
  have go:∀ {Ha Hb:Hp} {b:Addr} {o:HO},Kp [l] Ha Hb→b≠l→Ha b=some o→Hb b=some o:=fun k n h=>k.keep _ _ (by rw[List.mem_singleton];exact n) h
  have k37:Kp [l] H3 H7:=kz (kz (kz k4 k5) k6) k7
  have k47:Kp [l] H4 H7:=kz (kz k5 k6) k7
  have t37:Tx H3 H7:=((t4.trans t5).trans t6).trans t7
  have t47:Tx H4 H7:=(t5.trans t6).trans t7
  have k27:=kz k3 k37
  have k02:=kz k2 k27
  have hM7:Mac H7 C CC im m A1 st2:=hM2.keep (fun b hb o ho=>go k27 (nl b hb) ho) (t3.trans t37)
  have f2:∀ {p:Addr},H2 p=none→p∉own m A1∧p∉ro A1:=fun h=>⟨fun z=>hM2.known z h,fun z=>hM2.knownR z h⟩
  have e3':∀ {p:Addr},H3 p=none→H2 p=none:=fun h=>k3.there _ h
  have hmk2:H2 mk=none:=k3.there _ (k4.there _ (k5.there _ hmk))
  refine q H7 m A1 ⟨dx,sh,dxs,sd,sn,so,su,kp,rw_,mk,hd⟩ (fun b o nb hb=>go k02 nb hb) nw (fun a ha=>?_) ⟨fun a ha=>?_,(f2 hmk2).2⟩ hM7 ⟨x7,go k37 nsh g3,⟨dv,go k37 nsd g4,TdAll.tx t37 _ _ g5⟩,⟨nv,go k37 nsn g6,TdAll.tx t37 _ _ g7⟩,⟨kv,go k47 nkp q1,TdAll.tx t47 _ _ q2⟩,⟨[],go k7 nmk h6,Nat.le_refl _⟩,?_⟩
  ·simp only[zas,List.mem_cons,List.not_mem_nil,or_false] at ha
   rcases ha with rfl|rfl|rfl|rfl|rfl|rfl
   ·exact .inr (k2.there _ hmk2)
   ·exact .inl rfl
   ·exact .inr (k2.there _ hsh)
   ·exact .inr (k2.there _ hsd)
   ·exact .inr (k2.there _ hsn)
   ·exact .inr (k2.there _ (e3' hkp))
  ·simp only[zas,List.mem_cons,List.not_mem_nil,or_false] at ha
   rcases ha with rfl|rfl|rfl|rfl|rfl|rfl
   ·exact (f2 hmk2).1
   ·exact fun z=>nl _ (List.mem_append_left _ z) rfl
   ·exact (f2 hsh).1
   ·exact (f2 hsd).1
   ·exact (f2 hsn).1
   ·exact (f2 (e3' hkp)).1
  ·simp only[zas,List.mem_cons,List.not_mem_nil,or_false,not_or]
   have g35:Kp [l] H3 H5:=kz k4 k5
   refine ⟨nmk,fun z=>?_,fun z=>?_,fun z=>?_,fun z=>?_⟩
   ·have:=go g35 nsh g3
    rw[← z,hmk] at this;cases this
   ·have:=go g35 nsd g4
    rw[← z,hmk] at this;cases this
   ·have:=go g35 nsn g6
    rw[← z,hmk] at this;cases this
   ·have:=go k5 nkp q1
    rw[← z,hmk] at this;cases this
end
def za2:List (List Int):=[[1],[3,0],[3,1],[8],[4,3],[1],[3,3],[3,2],[9],[17,1]]
def zbs (a b c:Int):List (List Int):=[[1],[2,a],[2,b],[2,c],[2,a],[16,0,3,4],[7],[18,0],[1],[5,0],[2,1],[7],[6,0],[5,0],[18,0],[2,1],[17,1]]
/-- the places of rows: behind so many codes,the text's row r,one further behind the n-th -/
def zao (file:Str) (r n:Nat):Nat→Nat→List (List Int)→List Pl
 | _,_,[]=>[]
 | at_,k,x::xs=>⟨at_,file,if n<k then r+1 else r,3+k⟩::zao file r n (at_+x.length) (k+1) xs
def zeb (a b c:Int):List Int:=za2.flatten++(zbs a b c).flatten
def plK (a b c:Int):List Pl:=zao (Str.ofString "e") 2 4 0 0 za2++zao (Str.ofString "f") 5 7 16 0 (zbs a b c)
def zdS:PyData:= .str (Str.ofString "num")
def dfE:Df:=⟨Str.ofString "e",Str.ofString "q",0,16,[zdS,zdS,zdS],Str.ofString "num",true,4⟩
def dfF:Df:=⟨Str.ofString "f",Str.ofString "m",16,48,[],Str.ofString "yes",true,0⟩
def imK (a b c:Int) (most:Nat):Img:=⟨zeb a b c,plK a b c,[dfE,dfF],most⟩
def ksK:List Kd:=[⟨Str.ofString "f",Str.ofString "k",Str.ofString "num",40,false⟩]
def usK:List Use:=[(Str.ofString "e",[]),(Str.ofString "f",[.str (Str.ofString "e")])]
def nsK:List Nm:=[⟨Str.ofString "e",Str.ofString "q",Str.ofString "x",Str.ofString "num",0,1,4⟩,⟨Str.ofString "e",Str.ofString "q",Str.ofString "y",Str.ofString "num",3,3,4⟩]
def zg9 (a b c:Int):PyData:=zcz (imK a b c 0) ksK (zbY usK nsK)
theorem zcy (a b c:Int) (n:Nat):zcz (imK a b c n) ksK (zbY usK nsK)=zg9 a b c:=rfl
def clK (a:Int):CS:=⟨1,0,25,[],[a]⟩
def sK (a b c:Int):Nat→MS
 | 0=>zch 1 dfF [40]
 | 1=>⟨0,0,[b,c,a,0],[],[clK a],1,1,1,[],[40],none⟩
 | 2=>⟨0,8,[b,c,a,b-c],[],[clK a],1,1,2,[],[40],none⟩
 | 3=>⟨1,32,[],[],[],0,1,3,[.int (a+(b-c)*a)],[40],none⟩
 | _=>⟨1,46,[],[],[],0,1,4,[.int (a+(b-c)*a), .int 41],[41],some [.str (Str.ofString "end"), .bool true]⟩
theorem zbS {im:Img} {st:MS} {n:Nat} {p q:List Int} {x y:Int} (hc:im.code[st.pc]?=some (n:Int)) (hn:zce n) (hp:zdb st.pile=some (p,y)) (hp2:zdb p=some (q,x)) (hx:inM x=true) (hy:inM y=true) (hz:inM (zaL n x y)=true) (hl:q.length<90000):doC im st=some { st with pile:=q++[zaL n x y],pc:=st.pc+1 }:=by
 unfold doC
 rw[hc]
 have hs:zdl (n:Int)=true:=by
  unfold zdl
  rcases hn with rfl|rfl|rfl<;>decide
 show (if zdl (n:Int)=true then zek (n:Int).toNat st else _)=_
 rw[if_pos hs,Int.toNat_natCast]
 unfold zek
 rw[hp]
 dsimp only
 rw[hp2]
 dsimp only
 rw[if_pos (by rw[hx,hy,hz,decide_eq_true hl]<;>rfl)]
theorem za7 {x:Int} (h1 : -10000≤x) (h2:x≤10000):inM x=true:=by
 unfold inM zct
 rw[decide_eq_true (by omega),decide_eq_true (by omega)]<;>rfl
structure zdf (a b c:Int):Prop where
 a1 : -50≤a
 a2:a≤49
 b1 : -50≤b
 b2:b≤49
 c1 : -50≤c
 c2:c≤49
theorem zgV {a b c:Int} (h:zdf a b c) : -4950≤(b-c)*a∧(b-c)*a≤4950:=by
 obtain ⟨a1,a2,b1,b2,c1,c2⟩:=h
 have h1:(b-c).natAbs≤99:=by omega
 have h2:a.natAbs≤50:=by omega
 have h3:((b-c)*a).natAbs≤99*50:=by
  rw[Int.natAbs_mul]
  exact Nat.mul_le_mul h1 h2
 omega
section
variable {a b c:Int} {L:Nat}
theorem ziV (h:zdf a b c):zd5 (imK a b c L) 5 (zfe (sK a b c 0)) (sK a b c 1) :=
 .step rfl (n:=2) rfl (by decide) rfl (.step rfl (n:=2) rfl (by decide) rfl (.step rfl (n:=2) rfl (by decide) rfl (.step rfl (n:=2) rfl (by decide) rfl (.step rfl (n:=16) rfl (by decide) rfl (.row rfl rfl)))))
theorem ziI (h:zdf a b c):zd5 (imK a b c L) 4 (zfe (sK a b c 1)) (sK a b c 2) :=
 .step rfl (n:=3) rfl (by decide) rfl (.step rfl (n:=3) rfl (by decide) rfl (.step rfl (n:=8) rfl (by decide) (zbS (n:=8) (q:=[]) (x:=b) (y:=c) rfl (.inr (.inl rfl)) rfl rfl (za7 (by have:=h.b1;omega) (by have:=h.b2;omega)) (za7 (by have:=h.c1;omega) (by have:=h.c2;omega)) (za7 (show -10000≤b-c by have:=h.b1;have:=h.c2;omega) (show b-c≤10000 by have:=h.b2;have:=h.c1;omega)) (by decide)) (.step rfl (n:=4) rfl (by decide) rfl (.row rfl rfl))))
theorem ziY (h:zdf a b c):zd5 (imK a b c L) 6 (zfe (sK a b c 2)) (sK a b c 3):=by
 have hp:=zgV h
 have hd:inM (b-c)=true:=za7 (by have:=h.b1;have:=h.c2;omega) (by have:=h.b2;have:=h.c1;omega)
 have ha:inM a=true:=za7 (by have:=h.a1;omega) (by have:=h.a2;omega)
 exact .step rfl (n:=3) rfl (by decide) rfl (.step rfl (n:=3) rfl (by decide) rfl (.step rfl (n:=9) rfl (by decide) (zbS (n:=9) (q:=[]) (x:=b-c) (y:=a) rfl (.inr (.inr rfl)) rfl rfl hd ha (za7 (show -10000≤(b-c)*a by omega) (show (b-c)*a≤10000 by omega)) (by decide)) (.step rfl (n:=17) rfl (by decide) rfl (.step rfl (n:=7) rfl (by decide) (zbS (n:=7) (q:=[]) (x:=a) (y:=(b-c)*a) rfl (.inl rfl) rfl rfl ha (za7 (by omega) (by omega)) (za7 (show -10000≤a+(b-c)*a by have:=h.a1;omega) (show a+(b-c)*a≤10000 by have:=h.a2;omega)) (by decide)) (.step rfl (n:=18) rfl (by decide) rfl (.row rfl rfl))))))
theorem ziQ:zd5 (imK a b c L) 8 (zfe (sK a b c 3)) (sK a b c 4) :=
 .step rfl (n:=5) rfl (by decide) rfl (.step rfl (n:=2) rfl (by decide) rfl (.step rfl (n:=7) rfl (by decide) (zbS (n:=7) (q:=[]) (x:=40) (y:=1) rfl (.inl rfl) rfl rfl (by decide) (by decide) (by decide) (by decide)) (.step rfl (n:=6) rfl (by decide) rfl (.step rfl (n:=5) rfl (by decide) rfl (.step rfl (n:=18) rfl (by decide) rfl (.step rfl (n:=2) rfl (by decide) rfl (.step rfl (n:=17) rfl (by decide) rfl (.stop rfl))))))))
end
def zbq (f:Str) (r c:Nat):List PyData:=[.str (Str.ofString "fault"), .str (Str.ofString "tired"), .str f, .int r, .int c]
def ziW:List PyData:=[.str (Str.ofString "end"), .bool true]
section
variable {a b c:Int}
/-- the place where it is tired -/
def zfK:Nat→List PyData
 | 0=>zbq (Str.ofString "f") 5 3
 | 1=>zbq (Str.ofString "e") 2 3
 | 2=>zbq (Str.ofString "e") 3 8
 | _=>zbq (Str.ofString "f") 6 11
def fK (a b c:Int) (k:Nat):MS:={ sK a b c k with ended:=some (zfK k) }
theorem go0 {L:Nat}:∀ st2,zba (imK a b c L) (sK a b c 0)=some st2→zfk (imK a b c L) (zch 1 dfF (ksK.map Kd.worth)) st2:=fun st2 h=>⟨0,sK a b c 0, .row rfl rfl,h⟩
theorem zgl {L:Nat} {st2:MS} (hL:L≤100000) (h:zba (imK a b c L) (sK a b c 0)=some st2):zfB (imK a b c L) ksK (Str.ofString "f") (Str.ofString "m") 1 dfF st2 where
 hok:={ pn:=by show (List.map Pl.pc (plK a b c)).Nodup;exact (by decide:[0,1,3,5,6,8,9,11,13,14,16,17,19,21,23,25,29,30,32,33,35,37,38,40,42,44,46].Nodup),dn:=(by show [0,16].Nodup;decide),cl:=(by show 48≤40000;decide),pl:=(by show 27≤40000;decide),dl:=(by show 2≤40000;decide),kl:=(by show 1≤40000;decide),mo:=hL }
 hnum:=by
  show zbB [dfE,dfF] _ _=_
  decide +kernel
 hdf:=rfl
 hcells:=by decide
 hgo:=go0 st2 h
theorem plin {L:Nat}:ziy (imK a b c L) where
 inn:=fun p hp=>by
  have e:((plK a b c).all fun p=>decide (p.pc<48))=true:=rfl
  exact of_decide_eq_true (List.all_eq_true.mp e p hp)
 pl:=by show 27≤1000;decide
 dl:=by show 2≤80;decide
theorem ziU {L:Nat}:zfz (imK a b c L) ksK usK nsK where
 un:=by decide +kernel
 kf:=by decide +kernel
 ul:=by decide
 kl:=by decide
 nl:=by decide
 dl:=by show 2≤1000;decide
/-- steps,where it is not yet tired -/
theorem goK (h:zdf a b c) {L:Nat}:∀ k,k<4→∀ st2,zba (imK a b c L) (sK a b c (k+1))=some st2→zfk (imK a b c L) (zfe (sK a b c k)) st2
 | 0,_,st2,e=>⟨5,_,ziV h,e⟩
 | 1,_,st2,e=>⟨4,_,ziI h,e⟩
 | 2,_,st2,e=>⟨6,_,ziY h,e⟩
 | 3,_,st2,e=>⟨8,_,ziQ,e⟩
theorem zaU {L:Nat}:∀ k,k≤4→(k=4∨L≠k)→zba (imK a b c L) (sK a b c k)=some (sK a b c k):=fun k hk h=>by
 unfold zba
 refine if_pos ?_
 rcases h with rfl|h
 ·exact .inl rfl
 ·have hb:(sK a b c k).began=k:=by
   rcases (show k=0∨k=1∨k=2∨k=3∨k=4 by omega) with rfl|rfl|rfl|rfl|rfl<;>rfl
  exact .inr (by rw[hb];exact Ne.symm h)
theorem zbU:∀ k,k<4→zba (imK a b c k) (sK a b c k)=some (fK a b c k)
 | 0,_=>rfl
 | 1,_=>rfl
 | 2,_=>rfl
 | 3,_=>rfl
theorem zeh:∀ k,k<4→(sK a b c k).ended=none
 | 0,_=>rfl
 | 1,_=>rfl
 | 2,_=>rfl
 | 3,_=>rfl
/-- the run to its end,most: 4 or more -/
theorem zg2 (h:zdf a b c) {L:Nat} (hL:5≤L):zeG (imK a b c L) 4 (sK a b c 0) (sK a b c 4) :=
 .row rfl (goK h 0 (by decide) _ (zaU 1 (by decide) (.inr (by omega)))) (.row rfl (goK h 1 (by decide) _ (zaU 2 (by decide) (.inr (by omega)))) (.row rfl (goK h 2 (by decide) _ (zaU 3 (by decide) (.inr (by omega)))) (.row rfl (goK h 3 (by decide) _ (zaU 4 (by decide) (.inl rfl))) (.stop rfl))))
theorem ziN (h:zdf a b c):zeG (imK a b c 3) 3 (sK a b c 0) (fK a b c 3) :=
 .row rfl (goK h 0 (by decide) _ (zaU 1 (by decide) (.inr (by decide)))) (.row rfl (goK h 1 (by decide) _ (zaU 2 (by decide) (.inr (by decide)))) (.row rfl (goK h 2 (by decide) _ (zbU 3 (by decide))) (.stop rfl)))
theorem ziP (h:zdf a b c):zeG (imK a b c 2) 2 (sK a b c 0) (fK a b c 2) :=
 .row rfl (goK h 0 (by decide) _ (zaU 1 (by decide) (.inr (by decide)))) (.row rfl (goK h 1 (by decide) _ (zbU 2 (by decide))) (.stop rfl))
theorem ziJ (h:zdf a b c):zeG (imK a b c 1) 1 (sK a b c 0) (fK a b c 1):= .row rfl (goK h 0 (by decide) _ (zbU 1 (by decide))) (.stop rfl)
/-- a run that is asked: its image,what it starts with,how it ends -/
structure zdZ (a b c:Int) (L:Nat) (sp:List PyData) (en:List PyData):Prop where
 ex:∃ st1 st2 k,zfB (imK a b c L) ksK (Str.ofString "f") (Str.ofString "m") 1 dfF st1∧zeG (imK a b c L) k st1 st2∧st2.spoken=sp∧st2.ended=some en
theorem zem (h:zdf a b c):zdZ a b c 2000 [.int (a+(b-c)*a), .int 41] ziW:=⟨_,_,_,zgl (by decide) (zaU 0 (by decide) (.inr (by decide))),zg2 h (by decide),rfl,rfl⟩
theorem zic (h:zdf a b c):zdZ a b c 3 [.int (a+(b-c)*a)] (zfK 3):=⟨_,_,_,zgl (by decide) (zaU 0 (by decide) (.inr (by decide))),ziN h,rfl,rfl⟩
theorem zhm (h:zdf a b c):∀ k,k<3→zdZ a b c k [] (zfK k)
 | 0,_=>⟨_,_,0,zgl (by decide) (zbU 0 (by decide)), .stop rfl,rfl,rfl⟩
 | 1,_=>⟨_,_,_,zgl (by decide) (zaU 0 (by decide) (.inr (by decide))),ziJ h,rfl,rfl⟩
 | 2,_=>⟨_,_,_,zgl (by decide) (zaU 0 (by decide) (.inr (by decide))),ziP h,rfl,rfl⟩
/-- where it stands -/
def zaB:Nat→PyData
 | 0=> .tuple [.str (Str.ofString "f"), .int 5]
 | 1=> .tuple [.str (Str.ofString "e"), .int 2]
 | 2=> .tuple [.str (Str.ofString "e"), .int 3]
 | 3=> .tuple [.str (Str.ofString "f"), .int 6]
 | _=> .none
theorem zcZ {L:Nat}:∀ k,k≤4→ze8 (imK a b c L) (sK a b c k) (zaB k)
 | 0,_=> .inr ⟨rfl,⟨16,Str.ofString "f",5,3⟩,rfl,rfl⟩
 | 1,_=> .inr ⟨rfl,⟨0,Str.ofString "e",2,3⟩,rfl,rfl⟩
 | 2,_=> .inr ⟨rfl,⟨8,Str.ofString "e",3,8⟩,rfl,rfl⟩
 | 3,_=> .inr ⟨rfl,⟨32,Str.ofString "f",6,11⟩,rfl,rfl⟩
 | 4,_=> .inl ⟨rfl,rfl⟩
end
theorem zaT (file:Str) (r n:Nat):∀ (xs:List (List Int)) (a k i:Nat),i<xs.length→(zao file r n a k xs)[i]?=some ⟨a+(xs.take i).flatten.length,file,if n<k+i then r+1 else r,3+(k+i)⟩
 | x::xs,a,k,0,_=>rfl
 | x::xs,a,k,i+1,h=>by
  have:=zaT file r n xs (a+x.length) (k+1) i (Nat.lt_of_succ_lt_succ h)
  show (zao file r n (a+x.length) (k+1) xs)[i]?=_
  rw[this,List.take_succ_cons,List.flatten_cons,List.length_append,show k+1+i=k+(i+1) by omega,Nat.add_assoc]
theorem zco (file:Str) (r n:Nat) (xs:List (List Int)) (i:Nat) (h:i<xs.length):(zao file r n 0 0 xs).take (i+1)=(zao file r n 0 0 xs).take i++[⟨(xs.take i).flatten.length,file,if n<i then r+1 else r,3+i⟩]:=by
 rw[List.take_succ,zaT file r n xs 0 0 i h,Nat.zero_add,Nat.zero_add]<;>rfl
theorem zbW (file:Str) (r n a:Nat) (xs:List (List Int)) (i:Nat) (h:i<xs.length):(zao file r n a 0 xs).take (i+1)=(zao file r n a 0 xs).take i++[⟨a+(xs.take i).flatten.length,file,if n<i then r+1 else r,3+i⟩]:=by
 rw[List.take_succ,zaT file r n xs a 0 i h,Nat.zero_add]<;>rfl
theorem za1 (xs:List (List Int)) (i:Nat) (h:i<xs.length):(xs.take (i+1)).flatten=(xs.take i).flatten++xs[i]:=by
 rw[List.take_succ,List.getElem?_eq_getElem h,List.flatten_append]<;>simp
theorem zd7 (xs:List (List Int)) (i:Nat):(xs.take i).flatten.length≤xs.flatten.length:=by
 have h:(xs.take i++xs.drop i).flatten.length=xs.flatten.length:=congrArg (fun z:List (List Int)=>z.flatten.length) (List.take_append_drop i xs)
 rw[List.flatten_append,List.length_append] at h
 omega
def zcF (xs:List (List Int)):List PyData:=xs.map fun r=> .tuple (r.map .int)
section
variable {K:PySem.W.Frag} {σ:L2.St} {H H':Hp} {ta tb te tl tv t1 t2 t3 t4:TE} {tt:TT} {D:Ends} {tz tu:TS} {g:TG} {E:XK} {Q:VK}
theorem er1 {x:Int} (h:Ev t1 σ H (.int x)):EvD (tTup (tCons t1 tNil)) σ H (.tuple ([x].map .int)):=zaf (zaa (zae h) zab) (by show 1≤100000;decide)
theorem er2 {x y:Int} (h:Ev t1 σ H (.int x)) (h2:Ev t2 σ H (.int y)):EvD (tTup (tCons t1 (tCons t2 tNil))) σ H (.tuple ([x,y].map .int)):=zaf (zaa (zae h) (zaa (zae h2) zab)) (by show 2≤100000;decide)
theorem er4 {x y z u:Int} (h:Ev t1 σ H (.int x)) (h2:Ev t2 σ H (.int y)) (h3:Ev t3 σ H (.int z)) (h4:Ev t4 σ H (.int u)):EvD (tTup (tCons t1 (tCons t2 (tCons t3 (tCons t4 tNil))))) σ H (.tuple ([x,y,z,u].map .int)):=zaf (zaa (zae h) (zaa (zae h2) (zaa (zae h3) (zaa (zae h4) zab)))) (by show 4≤100000;decide)
theorem zgL {i j l:Nat} {v:V} (h3:∀ H',Ev t3 σ H' v) (k:∀ p q H1,H p=none→H q=none→p≠q→Ex H H1→H1 p=some (.lst [])→H1 q=some (.lst [])→tz D (((σ.set i (some (.ref p))).set j (some (.ref q))).set l (some v)) H1):tSeq (tPar3 i j l (tCons (tLst tNil) (tCons (tLst tNil) (tCons t3 tNil)))) tz D σ H:=by
 have g:tCons (tLst tNil) (tCons (tLst tNil) (tCons t3 tNil)) σ H fun vs H1=>∃ u v w,vs=[u,v,w]∧tz D (((σ.set i (some u)).set j (some v)).set l (some w)) H1 :=
  el_lst ea_nil (Nat.zero_le _) H (Ex.refl H) _ fun p H1 hp e1 h1=>el_lst ea_nil (Nat.zero_le _) H1 (Ex.refl H1) _ fun q H2 hq e2 h2=>h3 H2 H2 (Ex.refl H2) _ fun H3 e3=>⟨_,_,_,rfl,k p q H3 hp (fresh_back e1 hq) (fun z=>by rw[← z,h1] at hq;cases hq) (e1.trans (e2.trans e3)) (e3 _ _ (e2 _ _ h1)) (e3 _ _ h2)⟩
 exact g
/-- the image's lists,while its rows are laid -/
structure zdp (H0 H:Hp) (pl cp:Addr) (cs:List Int) (ps:List Pl):Prop where
 e:Ex H0 H
 hc:H cp=some (iL cs)
 hp:∃ us,H pl=some (.lst us)∧TdAll H us (ps.map Pl.row3)
 ne:cp≠pl
theorem zdp.ex {H0:Hp} {pl cp:Addr} {cs:List Int} {ps:List Pl} (I:zdp H0 H pl cp cs ps) (e:Ex H H'):zdp H0 H' pl cp cs ps:=⟨I.e.trans e,e _ _ I.hc,by
 obtain ⟨us,h1,h2⟩:=I.hp
 exact ⟨us,e _ _ h1,TdAll.tx (Tx.of e) _ _ h2⟩,I.ne⟩
theorem zb1 {H0:Hp} {pl cp:Addr} {cs:List Int} {ps:List Pl} {t5 t8:TE} {f:Str} {r n i:Nat} {rr:List V→Hp→VK→Prop} (I:zdp H0 H pl cp cs ps) (h5:Ev t5 σ H (.ref cp)) (h8:Ev t8 σ H (.int (i:Int))) (hr:∀ b H1 Q,Q (.int (if b=true then 1 else 0)) H1→rr [.bl b] H1 Q) :
  EvD (tTup (tCons (tCB (rLenS K) (tCons t5 tNil)) (tCons (tC (.str f)) (tCons (tTup (tCons (tOp (rI0 fun i j=> .int (i+j)) (tC (.int (r:Int))) (tCB rr (tCons (tOp (rI0 fun i j=> .bl (decide (j<i))) t8 (tC (.int (n:Int)))) tNil))) (tCons (tOp (rI0 fun i j=> .int (i+j)) (tC (.int 3)) t8) tNil))) tNil)))) σ H (Pl.row3 ⟨cs.length,f,if n<i then r+1 else r,3+i⟩):=by
 have hl:Ev (tCB (rLenS K) (tCons t5 tNil)) σ H (.int (cs.length:Int)):=ev_is (ev_len h5 (sq_of I.hc)) (by rw[List.length_map])
 refine zaf (zaa (zae hl) (zaa (zac ev_c) (zaa (zaf (zaa (zae (ev_is (ev_op ev_c (zgx (b:=decide ((n:Int)<i)) (ev_op h8 ev_c rv_I0) (hr _)) rv_I0) ?_)) (zaa (zae (ev_is (ev_op ev_c h8 rv_I0) ?_)) zab)) (by show 2≤100000;decide)) zab))) (by show 3≤100000;decide)
 ·by_cases h:n<i
  ·rw[if_pos h,decide_eq_true (show (n:Int)<i by omega)]<;>rfl
  ·rw[if_neg h,decide_eq_false (show ¬ (n:Int)<i by omega)]<;>simp
 ·show V.int ((3:Int)+i)= .int ((3+i:Nat):Int)
  rw[Int.natCast_add]<;>rfl
theorem zcl {H0:Hp} {pl cp:Addr} {cs row:List Int} {ps:List Pl} {p:Pl} {i:Nat} {tpl:TE} (I:zdp H0 H pl cp cs ps) (h0:H0 pl=none) (hv:Ev tpl σ H (.ref pl)) (hd:EvD te σ H p.row3) (hz:ps.length<100000) (hcat:∀ H1,zdp H0 H1 pl cp cs (ps++[p])→EvL tb σ H1 ((cs++row).map V.int)) (k:∀ c2 H2,zdp H0 H2 pl c2 (cs++row) (ps++[p])→D.nx (σ.set i (some (.ref c2))) H2):tSeq (tDrop (tBM K "list" rAppend tpl (tCons te tNil))) (tAsg tb (gName i)) D σ H:=by
 obtain ⟨us,h1,h2⟩:=I.hp
 refine zib (K:=K) h1 hv hd (by rw[h2.len,List.length_map];exact hz) fun v H1 e1 hT=>?_
 have tx1:Tx H1 (upd H1 pl (.lst (us++[v]))):=Tx.lst (e1 _ _ h1)
 have J:zdp H0 (upd H1 pl (.lst (us++[v]))) pl cp cs (ps++[p]):=⟨Ex.mut (I.e.trans e1) h0,by rw[upd_ne I.ne];exact e1 _ _ I.hc,⟨_,upd_same,by
  rw[List.map_append]
  exact (TdAll.tx ((Tx.of e1).trans tx1) _ _ h2).snoc (Td.tx tx1 _ _ hT)⟩,I.ne⟩
 refine s_asgL (hcat _ J) fun c2 H2 hc2 e2 hh=>k c2 H2 ?_
 have J2:=J.ex e2
 exact ⟨J2.e,hh,J2.hp,fun z=>by rw[z,upd_same] at hc2;cases hc2⟩
theorem zeT {a:Addr} {xs:List V} {ds:List PyData} (h:Ev ta σ H (.ref a)) (ha:H a=some (.lst xs)) (hT:TdAll H xs ds):EvD (tCB (ziE K) (tCons ta tNil)) σ H (.tuple ds):=fun H1 e Q q=>h H1 e _ fun H2 e2=>⟨a,xs,rfl, .inl ⟨sq_of ((e.trans e2) _ _ ha),fun l hl=>q _ _ (e2.trans (Ex.new hl)) (.tup upd_same (TdAll.tx (Tx.of ((e.trans e2).trans (Ex.new hl))) _ _ hT))⟩⟩
theorem zaY:∀ is:List Int,TdAll H (is.map V.int) (is.map .int)
 | []=> .nil
 | i::is=> .cons (.int i) (zaY is)
end
section
variable {P:Program} {w:World} {K:PySem.W.Frag} {mg:Str→Option Value} {base:Heap}
abbrev zdn:Stmt:=zaz 41
theorem zaw:FnScope ["_law_a","_law_b","_law_c","_law_rows","_law_first","_law_code","_law_places","_law_at","_law_k","_law_end","_law_kinds","_law_defs","_law_names","_law_tables"] ["_law_a","_law_b","_law_c"] (fnScope zdn):=fnScope_by (by decide +kernel)
def zf4:Sp:=fun vs H Q _=>∃ a b c:Int,vs=[.int a, .int b, .int c]∧∀ v H2,Ex H H2→Td H2 v (zg9 a b c)→Q v H2
theorem zds (T:zcC K mg) {f:Addr} {fd:FuncData} (F:Def K mg "_law_by_hand" zdn f fd) (b:Binds K fd ["_law_a","_law_b","_law_c"] []):Cal P w K mg base 1 "_law_by_hand" zf4 []:=by
 refine cal0 F b .nil zaw (fun vs H Q E h=>?_) (fun cdv A outer s H vs Q E hr h=>?_)
 ·obtain ⟨_,_,_,rfl,_⟩:=h
  rfl
 ·obtain ⟨a,b,c,rfl,q⟩:=h
  have m_len:=T.m_len
  have m_range:=T.m_range
  have m_int:=T.m_int
  have m_list:=T.m_list
  have m_tuple:=T.m_tuple
  refine ⟨_,(pss_cons (ps_set (i:=3) zaw.nd rfl (.inl rfl) (pe_lst (pa_cons (pe_tup (pa_cons pe_int pa_nil)) (pa_cons (pe_tup (pa_cons pe_int (pa_cons (pv 0) pa_nil))) (pa_cons (pe_tup (pa_cons pe_int (pa_cons (pv 1) pa_nil))) (pa_cons (pe_tup (pa_cons pe_int (pa_cons (pv 2) pa_nil))) (pa_cons (pe_tup (pa_cons pe_int (pa_cons (pv 0) pa_nil))) (pa_cons (pe_tup (pa_cons pe_int (pa_cons pe_int (pa_cons pe_int (pa_cons pe_int pa_nil))))) (pa_cons (pe_tup (pa_cons pe_int pa_nil)) (pa_cons (pe_tup (pa_cons pe_int (pa_cons pe_int pa_nil))) (pa_cons (pe_tup (pa_cons pe_int pa_nil)) (pa_cons (pe_tup (pa_cons pe_int (pa_cons pe_int pa_nil))) (pa_cons (pe_tup (pa_cons pe_int (pa_cons pe_int pa_nil))) pa_nil)))))))))))))
   (pss_cons (ps_set (i:=3) zaw.nd rfl (.inl rfl) (pe_op op_cat (pv 3) (pe_lst (pa_cons (pe_tup (pa_cons pe_int pa_nil)) (pa_cons (pe_tup (pa_cons pe_int (pa_cons pe_int pa_nil))) (pa_cons (pe_tup (pa_cons pe_int (pa_cons pe_int pa_nil))) (pa_cons (pe_tup (pa_cons pe_int (pa_cons pe_int pa_nil))) (pa_cons (pe_tup (pa_cons pe_int (pa_cons pe_int pa_nil))) (pa_cons (pe_tup (pa_cons pe_int (pa_cons pe_int pa_nil))) pa_nil)))))))))
   (pss_cons (ps_set (i:=4) zaw.nd rfl (.inl rfl) (pe_lst (pa_cons (pe_tup (pa_cons pe_int pa_nil)) (pa_cons (pe_tup (pa_cons pe_int (pa_cons pe_int pa_nil))) (pa_cons (pe_tup (pa_cons pe_int (pa_cons pe_int pa_nil))) (pa_cons (pe_tup (pa_cons pe_int pa_nil)) (pa_cons (pe_tup (pa_cons pe_int (pa_cons pe_int pa_nil))) (pa_cons (pe_tup (pa_cons pe_int pa_nil)) (pa_cons (pe_tup (pa_cons pe_int (pa_cons pe_int pa_nil))) (pa_cons (pe_tup (pa_cons pe_int (pa_cons pe_int pa_nil))) (pa_cons (pe_tup (pa_cons pe_int pa_nil)) (pa_cons (pe_tup (pa_cons pe_int (pa_cons pe_int pa_nil))) pa_nil))))))))))))
   (pss_cons (ps_par3 (i:=5) (j:=6) (l:=7) rfl zaw.nd rfl rfl rfl (by decide) (by decide) (by decide) (by rfl) (by rfl) (by rfl) (pa_cons (pe_lst pa_nil) (pa_cons (pe_lst pa_nil) (pa_cons pe_int pa_nil))) (by rfl))
   (pss_cons (ps_for PassesOwn.never rfl (pi_range1 (by rfl) m_range (pa_cons (pe_callB call_len_seq (by rfl) m_len PySem.boot_len (pa_cons (pv 4) pa_nil)) pa_nil)) (pg_name (i:=8) zaw.nd rfl (.inl rfl)) (pss_cons (ps_expr (pe_bm PySem.F.plainAttrs_list PySem.F.slot_list_append PySem.F.type_list_append mt_append (pv 6) (pa_cons (pe_tup (pa_cons (pe_callB call_len_seq (by rfl) m_len PySem.boot_len (pa_cons (pv 5) pa_nil)) (pa_cons pe_str (pa_cons (pe_tup (pa_cons (pe_op op_add pe_int (pe_callTy call_int1 (by rfl) m_int Wt.bt_int (pa_cons (pe_cmpR op_gt (pv 8) pe_int (nomark _)) pa_nil))) (pa_cons (pe_op op_add pe_int (pv 8)) pa_nil))) pa_nil)))) pa_nil)))
   (pss_one (ps_set (i:=5) zaw.nd rfl (.inl rfl) (pe_op op_cat (pv 5) (pe_callTy call_list_of (by rfl) m_list Wt.bt_list (pa_cons (pe_ix ix_list (pv 4) (pv 8) (fun _ _=>rfl)) pa_nil)))))))
   (pss_cons (ps_set (i:=9) zaw.nd rfl (.inl rfl) (pe_callB call_len_seq (by rfl) m_len PySem.boot_len (pa_cons (pv 5) pa_nil)))
   (pss_cons (ps_for PassesOwn.never rfl (pi_range1 (by rfl) m_range (pa_cons (pe_callB call_len_seq (by rfl) m_len PySem.boot_len (pa_cons (pv 3) pa_nil)) pa_nil)) (pg_name (i:=8) zaw.nd rfl (.inl rfl)) (pss_cons (ps_expr (pe_bm PySem.F.plainAttrs_list PySem.F.slot_list_append PySem.F.type_list_append mt_append (pv 6) (pa_cons (pe_tup (pa_cons (pe_callB call_len_seq (by rfl) m_len PySem.boot_len (pa_cons (pv 5) pa_nil)) (pa_cons pe_str (pa_cons (pe_tup (pa_cons (pe_op op_add pe_int (pe_callTy call_int1 (by rfl) m_int Wt.bt_int (pa_cons (pe_cmpR op_gt (pv 8) pe_int (nomark _)) pa_nil))) (pa_cons (pe_op op_add pe_int (pv 8)) pa_nil))) pa_nil)))) pa_nil)))
   (pss_one (ps_set (i:=5) zaw.nd rfl (.inl rfl) (pe_op op_cat (pv 5) (pe_callTy call_list_of (by rfl) m_list Wt.bt_list (pa_cons (pe_ix ix_list (pv 3) (pv 8) (fun _ _=>rfl)) pa_nil)))))))
   (pss_cons (ps_set (i:=10) zaw.nd rfl (.inl rfl) (pe_tup (pa_cons pe_str (pa_cons pe_str (pa_cons pe_str pa_nil)))))
   (pss_cons (ps_set (i:=11) zaw.nd rfl (.inl rfl) (pe_tup (pa_cons (pe_tup (pa_cons pe_str (pa_cons pe_str (pa_cons pe_int (pa_cons (pv 9) (pa_cons (pv 10) (pa_cons pe_str (pa_cons pe_bl (pa_cons pe_int pa_nil))))))))) (pa_cons (pe_tup (pa_cons pe_str (pa_cons pe_str (pa_cons (pv 9) (pa_cons (pe_callB call_len_seq (by rfl) m_len PySem.boot_len (pa_cons (pv 5) pa_nil)) (pa_cons (pe_tup pa_nil) (pa_cons pe_str (pa_cons pe_bl (pa_cons pe_int pa_nil))))))))) pa_nil))))
   (pss_cons (ps_set (i:=12) zaw.nd rfl (.inl rfl) (pe_tup (pa_cons (pe_tup (pa_cons pe_str (pa_cons pe_str (pa_cons pe_str (pa_cons pe_str (pa_cons pe_int (pa_cons pe_int (pa_cons pe_int pa_nil)))))))) (pa_cons (pe_tup (pa_cons pe_str (pa_cons pe_str (pa_cons pe_str (pa_cons pe_str (pa_cons pe_int (pa_cons pe_int (pa_cons pe_int pa_nil)))))))) pa_nil))))
   (pss_cons (ps_set (i:=13) zaw.nd rfl (.inl rfl) (pe_tup (pa_cons (pe_tup (pa_cons (pe_tup (pa_cons pe_str (pa_cons pe_str (pa_cons pe_str (pa_cons pe_int (pa_cons pe_bl pa_nil)))))) pa_nil)) (pa_cons (pe_tup pa_nil) (pa_cons (pe_tup (pa_cons (pe_tup (pa_cons pe_str (pa_cons (pe_tup pa_nil) pa_nil))) (pa_cons (pe_tup (pa_cons pe_str (pa_cons (pe_tup (pa_cons pe_str pa_nil)) pa_nil))) pa_nil))) (pa_cons (pv 12) pa_nil))))))
   (pss_one (ps_ret (pe_op op_catA (pe_tup (pa_cons (pe_callTy call_tuple_of (by rfl) m_tuple Wt.bt_tuple (pa_cons (pv 5) pa_nil)) (pa_cons (pe_callTy call_tuple_of (by rfl) m_tuple Wt.bt_tuple (pa_cons (pv 6) pa_nil)) (pa_cons (pv 11) pa_nil)))) (pv 13))))))))))))))),?_⟩
  refine zbp (ds:=zcF ((zbs a b c).take 11)) (zat (zaa (er1 ev_c) (zaa (er2 ev_c (ev_var rfl)) (zaa (er2 ev_c (ev_var rfl)) (zaa (er2 ev_c (ev_var rfl)) (zaa (er2 ev_c (ev_var rfl)) (zaa (er4 ev_c ev_c ev_c ev_c) (zaa (er1 ev_c) (zaa (er2 ev_c ev_c) (zaa (er1 ev_c) (zaa (er2 ev_c ev_c) (zaa (er2 ev_c ev_c) zab))))))))))) (by show 11≤100000;decide)) fun r0 H1 us0 hr0 e1 h1 hT1=>?_
  refine zbp (ds:=zcF (zbs a b c)) (zeF (zg5 (ev_var rfl) h1 hT1 (zat (zaa (er1 ev_c) (zaa (er2 ev_c ev_c) (zaa (er2 ev_c ev_c) (zaa (er2 ev_c ev_c) (zaa (er2 ev_c ev_c) (zaa (er2 ev_c ev_c) zab)))))) (by show 6≤100000;decide)) (by show 11+6≤100000;decide)) rfl) fun rp H2 us2 hrp e2 h2 hT2=>?_
  refine zbp (ds:=zcF za2) (zat (zaa (er1 ev_c) (zaa (er2 ev_c ev_c) (zaa (er2 ev_c ev_c) (zaa (er1 ev_c) (zaa (er2 ev_c ev_c) (zaa (er1 ev_c) (zaa (er2 ev_c ev_c) (zaa (er2 ev_c ev_c) (zaa (er1 ev_c) (zaa (er2 ev_c ev_c) zab)))))))))) (by show 10≤100000;decide)) fun fp H3 us3 hfp e3 h3 hT3=>?_
  dsimp only[L2.start,List.map,List.set,List.length,List.append,List.replicate]
  have h23:=e3 _ _ h2
  have hT23:=TdAll.tx (Tx.of e3) _ _ hT2
  have l3:us3.length=10:=hT3.len
  have l2:us2.length=17:=hT2.len
  refine zgL (v:= .int 0) (fun _=>ev_c) fun cp pl H4 hcp hpl ncp e4 hc4 hp4=>?_
  have ex3:∀ {H'},Ex H3 H'→Ex H H':=fun e=>(e1.trans (e2.trans e3)).trans e
  refine q_forR1 (n:=(10:Nat)) (ea_cons (ev_is (ev_len (ev_var rfl) (sq_of (e4 _ _ h3))) (by rw[l3])) ea_nil) (by decide)
   (fun i σ' H'=>∃ (c2:Addr) (kv:Option V),zdp H3 H' pl c2 ((za2.take i).flatten) ((zao (Str.ofString "e") 2 4 0 0 za2).take i)∧σ'=[some (.int a),some (.int b),some (.int c),some (.ref rp),some (.ref fp),some (.ref c2),some (.ref pl),some (.int 0),kv,none,none,none,none,none])
   (fun H5 e5=>⟨cp,none,⟨e4.trans e5,e5 _ _ hc4,⟨[],e5 _ _ hp4, .nil⟩,ncp⟩,rfl⟩) (fun i σ' H' hi p=>?_) fun σ' H' p=>?_
  ·obtain ⟨c2,kv,I,rfl⟩:=p
   have hi':i<za2.length:=show i<10 by omega
   obtain ⟨v,hv,hT⟩:=za9 hT3 (show (zcF za2)[i]?=some (.tuple (za2[i].map .int)) by rw[zcF,List.getElem?_map,List.getElem?_eq_getElem hi']<;>rfl)
   refine zcl (K:=K) (row:=za2[i]) I hpl (ev_var rfl) (zb1 (r:=2) (n:=4) I (ev_var rfl) (ev_var rfl) fun b H1 Q q=> .inr ⟨_,rfl,q⟩) (by rw[List.length_take];exact Nat.lt_of_le_of_lt (Nat.min_le_left _ _) (by omega)) (fun H1 J=>?_) fun c3 H2 J=>⟨c3,_,?_,rfl⟩
   ·rw[List.map_append]
    refine zer (ev_var rfl) J.hc (zbM (K:=K) (ev_op (ev_var rfl) (ev_var rfl) (rv_ixL (sq_of (J.e _ _ h3)) (atI_nat hv))) (Td.tx (Tx.of J.e) _ _ hT)) ?_
    rw[← List.length_append,← List.map_append,← za1 _ _ hi',List.length_map]
    exact Nat.le_trans (zd7 za2 (i+1)) (show 16≤100000 by decide)
   ·rw[zco _ _ _ _ _ hi',za1 _ _ hi']
    exact J
  obtain ⟨c2,kv,I,rfl⟩:=p
  replace I:zdp H3 H' pl c2 za2.flatten (zao (Str.ofString "e") 2 4 0 0 za2):=I
  refine q_asg (v:= .int (16:Nat)) (ev_is (ev_len (ev_var rfl) (sq_of I.hc)) rfl) fun H5 e5=>?_
  dsimp only[List.set]
  refine q_forR1 (n:=(17:Nat)) (ea_cons (ev_is (ev_len (ev_var rfl) (sq_of (e5 _ _ (I.e _ _ h23)))) (by rw[l2])) ea_nil) (by decide)
   (fun i σ' H'=>∃ (c2:Addr) (kv:Option V),zdp H3 H' pl c2 (za2.flatten++((zbs a b c).take i).flatten) (zao (Str.ofString "e") 2 4 0 0 za2++(zao (Str.ofString "f") 5 7 16 0 (zbs a b c)).take i)∧σ'=[some (.int a),some (.int b),some (.int c),some (.ref rp),some (.ref fp),some (.ref c2),some (.ref pl),some (.int 0),kv,some (.int (16:Nat)),none,none,none,none])
   (fun H6 e6=>⟨c2,kv,I.ex (e5.trans e6),rfl⟩) (fun i σ' H' hi p=>?_) fun σ' H' p=>?_
  ·obtain ⟨c2,kv,I,rfl⟩:=p
   have hi':i<(zbs a b c).length:=show i<17 by omega
   obtain ⟨v,hv,hT⟩:=za9 hT23 (show (zcF (zbs a b c))[i]?=some (.tuple ((zbs a b c)[i].map .int)) by rw[zcF,List.getElem?_map,List.getElem?_eq_getElem hi']<;>rfl)
   refine zcl (K:=K) (row:=(zbs a b c)[i]) I hpl (ev_var rfl) (zb1 (r:=5) (n:=7) I (ev_var rfl) (ev_var rfl) fun b H1 Q q=> .inr ⟨_,rfl,q⟩) (by rw[List.length_append,List.length_take];exact Nat.lt_of_le_of_lt (Nat.add_le_add (Nat.le_refl _) (Nat.min_le_left _ _)) (show 10+i<100000 by omega)) (fun H1 J=>?_) fun c3 H2 J=>⟨c3,_,?_,rfl⟩
   ·rw[List.map_append]
    refine zer (ev_var rfl) J.hc (zbM (K:=K) (ev_op (ev_var rfl) (ev_var rfl) (rv_ixL (sq_of (J.e _ _ h23)) (atI_nat hv))) (Td.tx (Tx.of J.e) _ _ hT)) ?_
    rw[← List.length_append,← List.map_append,List.append_assoc,← za1 _ _ hi',List.length_map,List.length_append]
    exact Nat.le_trans (Nat.add_le_add (Nat.le_refl _) (zd7 (zbs a b c) (i+1))) (show 16+32≤100000 by decide)
   ·rw[zbW _ _ _ _ _ _ hi',za1 _ _ hi',← List.append_assoc,← List.append_assoc]
    rw[List.length_append] at J
    exact J
  obtain ⟨c4,k4,J,rfl⟩:=p
  replace J:zdp H3 H' pl c4 (zeb a b c) (plK a b c):=J
  refine zb9 (d:= .tuple [zdS,zdS,zdS]) (zaf (zaa (zac ev_c) (zaa (zac ev_c) (zaa (zac ev_c) zab))) (by show 3≤100000;decide)) fun v10 H6 e6 hv10=>?_
  dsimp only[List.set]
  refine zb9 (d:= .tuple ([dfE,dfF].map Df.d)) (zaf (zaa (zaf (zaa (zac ev_c) (zaa (zac ev_c) (zaa (zae ev_c) (zaa (zae (ev_var rfl)) (zaa (zaA (ev_var rfl) hv10) (zaa (zac ev_c) (zaa (zfR ev_c) (zaa (zae ev_c) zab)))))))) (by show 8≤100000;decide)) (zaa (zaf (zaa (zac ev_c) (zaa (zac ev_c) (zaa (zae (ev_var rfl)) (zaa (zae (ev_is (ev_len (ev_var rfl) (sq_of (e6 _ _ J.hc))) rfl)) (zaa (zaf zab (by show 0≤100000;decide)) (zaa (zac ev_c) (zaa (zfR ev_c) (zaa (zae ev_c) zab)))))))) (by show 8≤100000;decide)) zab)) (by show 2≤100000;decide)) fun v11 H7 e7 hv11=>?_
  dsimp only[List.set]
  refine zb9 (d:= .tuple (nsK.map Nm.d)) (zaf (zaa (zaf (zaa (zac ev_c) (zaa (zac ev_c) (zaa (zac ev_c) (zaa (zac ev_c) (zaa (zae ev_c) (zaa (zae ev_c) (zaa (zae ev_c) zab))))))) (by show 7≤100000;decide)) (zaa (zaf (zaa (zac ev_c) (zaa (zac ev_c) (zaa (zac ev_c) (zaa (zac ev_c) (zaa (zae ev_c) (zaa (zae ev_c) (zaa (zae ev_c) zab))))))) (by show 7≤100000;decide)) zab)) (by show 2≤100000;decide)) fun v12 H8 e8 hv12=>?_
  dsimp only[List.set]
  refine zb9 (d:= .tuple [.tuple (ksK.map Kd.d), .tuple [], .tuple (usK.map zhC), .tuple (nsK.map Nm.d)]) (zaf (zaa (zaf (zaa (zaf (zaa (zac ev_c) (zaa (zac ev_c) (zaa (zac ev_c) (zaa (zae ev_c) (zaa (zfR ev_c) zab))))) (by show 5≤100000;decide)) zab) (by show 1≤100000;decide)) (zaa (zaf zab (by show 0≤100000;decide)) (zaa (zaf (zaa (zaf (zaa (zac ev_c) (zaa (zaf zab (by show 0≤100000;decide)) zab)) (by show 2≤100000;decide)) (zaa (zaf (zaa (zac ev_c) (zaa (zaf (zaa (zac ev_c) zab) (by show 1≤100000;decide)) zab)) (by show 2≤100000;decide)) zab)) (by show 2≤100000;decide)) (zaa (zaA (ev_var rfl) hv12) zab)))) (by show 4≤100000;decide)) fun v13 H9 e9 hv13=>?_
  dsimp only[List.set]
  have J9:zdp H3 H9 pl c4 (zeb a b c) (plK a b c):=J.ex (e6.trans (e7.trans (e8.trans e9)))
  obtain ⟨us,hu,hTu⟩:=J9.hp
  refine zcj ?_
  refine zc4 (K:=K) (ds1:=[.tuple ((zeb a b c).map .int), .tuple ((plK a b c).map Pl.row3), .tuple ([dfE,dfF].map Df.d)]) (zaf (zaa (zeT (K:=K) (ev_var rfl) J9.hc (zaY (zeb a b c))) (zaa (zeT (K:=K) (ev_var rfl) hu hTu) (zaa (zaA (ev_var rfl) (Td.tx (Tx.of (e8.trans e9)) _ _ hv11)) zab))) (by show 3≤100000;decide)) (by intro h;cases h) (by show 3≤100;decide) (zaA (ev_var rfl) hv13) (by intro h;cases h) (by show 4≤100;decide) H9 (Ex.refl H9) _ fun v H10 e10 hT=>q v H10 ((e1.trans (e2.trans e3)).trans (J9.e.trans e10)) hT
end
section
variable {P:Program} {w:World} {K:PySem.W.Frag} {mg:Str→Option Value} {base:Heap}
abbrev zdr:Stmt:=zaz 38
theorem zcW:FnScope ["_law_script","_law_mixed","_law_cell"] ["_law_script"] (fnScope zdr):=fnScope_by (by decide +kernel)
theorem zft (T:zcC K mg) {f:Addr} {fd:FuncData} (F:Def K mg "_law_dice" zdr f fd) (b:Binds K fd ["_law_script"] []):Cal P w K mg base 1 "_law_dice" (zew K) []:=by
 refine cal0 F b .nil zcW (fun vs H Q E h=>?_) (fun cdv A outer s H vs Q E hr h=>?_)
 ·obtain ⟨_,_,rfl,_⟩:=h
  rfl
 ·obtain ⟨a,ns,rfl,hS,q⟩:=h
  have m_int:=T.m_int
  have m_len:=T.m_len
  refine ⟨_,(pss_cons (ps_set (i:=1) zcW.nd rfl (.inl rfl) pe_int)
   (pss_cons (ps_for PassesOwn.never rfl (pi_list (pv 0)) (pg_name (i:=2) zcW.nd rfl (.inl rfl)) (pss_one (ps_set (i:=1) zcW.nd rfl (.inl rfl) (pe_op op_mod (pe_op op_add (pe_op op_add (pe_op op_mul (pv 1) pe_int) (pe_op op_mul (pe_op op_mod (pv 2) pe_int) pe_int)) pe_int) pe_int))))
   (pss_one (ps_ret (pe_lst (pa_cons (pv 0) (pa_cons pe_int (pa_cons (pe_op op_mul (pv 1) (pe_callTy call_int1 (by rfl) m_int Wt.bt_int (pa_cons (pe_cmpR op_gt (pe_callB call_len_seq (by rfl) m_len PySem.boot_len (pa_cons (pv 0) pa_nil)) pe_int (nomark _)) pa_nil))) (pa_cons pe_int pa_nil))))))))),?_⟩
  refine q_asg ev_c fun H1 e1=>?_
  refine q_forLn (ev_var rfl) (hS.ex e1).sq (fun i σ' H'=>∃ (m:Int) (y:Option V),σ'=[some (.ref a),some (.int m),y]∧0≤m∧m<2147483647∧Ex H H')
   (fun H2 e2=>⟨0,none,rfl,by decide,by decide,e1.trans e2⟩) (fun i σ' H' _ ⟨_,_,_,_,_,e⟩=>(hS.ex e).sq) ?_ ?_
  ·rintro i x σ' H' hx ⟨m,y,rfl,h0,h1,eH⟩
   rw[List.getElem?_map] at hx
   obtain ⟨c,rfl⟩:∃ c,x=V.int c:=by
    cases hc:ns[i]? with
    | none =>
     rw[hc] at hx
     cases hx
    | some c =>
     rw[hc] at hx
     exact ⟨c,(Option.some.inj hx).symm⟩
   have b1:=Int.emod_nonneg c (show (2147483647:Int)≠0 by decide)
   have b2:=Int.emod_lt_of_pos c (show (0:Int)<2147483647 by decide)
   refine s_asg (ev_op (ev_op (ev_op (ev_op (ev_var rfl) ev_c (rv_I (.inl ⟨by omega,by omega⟩))) (ev_op (ev_op (ev_var rfl) ev_c (rv_I (show (0:Int)<2147483647 by decide))) ev_c (rv_I (.inl ⟨by omega,by omega⟩))) rv_I0) ev_c rv_I0) ev_c (rv_I (show (0:Int)<2147483647 by decide))) fun H2 e2=>?_
   exact ⟨_,_,rfl,Int.emod_nonneg _ (by decide),Int.emod_lt_of_pos _ (by decide),eH.trans e2⟩
  ·rintro σ' H' ⟨m,y,rfl,h0,h1,eH⟩
   have hq:=hS.ex eH
   refine s_retL (xs:=[.ref a, .int 0, .int (m*(if decide ((2:Int)<((ns.map V.int).length:Int))=true then 1 else 0)), .int 0])
    (el_lst (ea_cons (ev_var rfl) (ea_cons ev_c (ea_cons (ev_op (ev_var rfl) (ev_cb (ea_cons (ev_op (ev_len (K:=K) (ev_var rfl) hq.sq) ev_c rv_I0) ea_nil) (fun H1 _ Q q=> .inr ⟨_,rfl,q H1 (Ex.refl H1)⟩)) (rv_I (.inl ⟨by omega,by omega⟩))) (ea_cons ev_c ea_nil)))) (by show 4≤100000;decide))
    fun p H2 hp e2 h2=>q p H2 _ (fresh_back eH hp) (eH.trans e2) ?_ ?_ h2
   ·split<;>omega
   ·split<;>omega
theorem zgO (c:Cal P w K mg base 1 "_law_dice" (zew K) []):Cal P w K mg base 1 "_law_dice" (zf0 K) []:=by
 obtain ⟨f,fd,ps,ds,F,h1,h2,h3,h4⟩:=c.ex
 cases h4
 refine ⟨f,fd,ps,[],zeW F (fun vs H Q E h=>?_) (fun vs H Q E h hp ok=>?_),h1,h2,h3, .nil⟩
 ·obtain ⟨a,ns,rfl,hS,q⟩:=h
  exact F.len [.ref a] H (fun v H'=>True) E ⟨a,ns,rfl,hS,fun _ _ _ _ _ _ _ _=>trivial⟩
 ·obtain ⟨a,ns,rfl,hS,q⟩:=h
  refine ⟨H,fun v H2=>∃ p m,v= .ref p∧H p=none∧Ex H H2∧0≤m∧m<2147483647∧H2 p=some (.lst [.ref a, .int 0, .int m, .int 0]),⟨fun _ h=>h,fun _ _ h=>h,fun _ _ _ h=>h,fun _ _ h=>h⟩,ok,
   ⟨a,ns,rfl,hS,fun p H2 m hp2 e h0 h1 h2=>⟨p,m,rfl,hp2,e,h0,h1,h2⟩⟩,?_⟩
  rintro v H2 hp2 ok2 ⟨p,m,rfl,hn,e,h0,h1,h2⟩
  obtain ⟨al,ok3⟩:=zeN ok2 h2 (Int.le_refl 0) h0 h1
  exact ⟨_,al,ok3,q p _ hn (Ex.mut e hn) upd_same⟩
abbrev zdF:Stmt:=zaz 39
theorem zeK:FnScope ["_law_dice_here","_law_many","_law_found","_law_cell"] ["_law_dice_here","_law_many"] (fnScope zdF):=fnScope_by (by decide +kernel)
theorem zfL (T:zcC K mg) {f:Addr} {fd:FuncData} (F:Def K mg "_law_next" zdF f fd) (b:Binds K fd ["_law_dice_here","_law_many"] []):Cal P w K mg base 1 "_law_next" (zeA K) []:=by
 refine cal0 F b .nil zeK (fun vs H Q E h=>?_) (fun cdv A outer s H vs Q E hr h=>?_)
 ·obtain ⟨_,_,_,_,_,_,_,rfl,_⟩:=h
  rfl
 ·obtain ⟨d,a,ns,many,i,m,r,rfl,hm0,hm1,hd,hi,h0,h1,hS,q⟩:=h
  have m_len:=T.m_len
  refine ⟨_,(pss_cons (ps_if (pt_cmpR op_gt (pe_ix ix_list (pv 0) pe_int (fun _ _=>rfl)) pe_int (nomark _)) (pss_cons (ps_set (i:=2) zeK.nd rfl (.inl rfl) (pe_op op_mod (pe_ix ix_list (pv 0) pe_int (fun _ _=>rfl)) (pv 1)))
   (pss_cons (ps_asg (pe_op op_fdiv (pe_ix ix_list (pv 0) pe_int (fun _ _=>rfl)) (pv 1)) (pg_sub (pv 0) pe_int set_list))
   (pss_one (ps_ret (pv 2))))) pss_nil)
   (pss_cons (ps_asg (pe_op op_add (pe_ix ix_list (pv 0) pe_int (fun _ _=>rfl)) pe_int) (pg_sub (pv 0) pe_int set_list))
   (pss_cons (ps_if (pt_cmpR op_le (pe_ix ix_list (pv 0) pe_int (fun _ _=>rfl)) (pe_callB call_len_seq (by rfl) m_len PySem.boot_len (pa_cons (pe_ix ix_list (pv 0) pe_int (fun _ _=>rfl)) pa_nil)) (nomark _)) (pss_cons (ps_set (i:=3) zeK.nd rfl (.inl rfl) (pe_ix ix_list (pe_ix ix_list (pv 0) pe_int (fun _ _=>rfl)) (pe_op op_sub (pe_ix ix_list (pv 0) pe_int (fun _ _=>rfl)) pe_int) (fun _ _=>rfl)))
   (pss_cons (ps_asg (pe_ifExp (pt_cmpR op_ge (pv 3) (pe_op op_pow pe_int pe_int) (nomark _)) (pe_op op_fdiv (pv 3) (pv 1)) pe_int) (pg_sub (pv 0) pe_int set_list))
   (pss_one (ps_ret (pe_op op_mod (pv 3) (pv 1)))))) pss_nil)
   (pss_cons (ps_asg (pe_op op_mod (pe_op op_mul (pe_ix ix_list (pv 0) pe_int (fun _ _=>rfl)) pe_int) pe_int) (pg_sub (pv 0) pe_int set_list))
   (pss_one (ps_ret (pe_op op_mod (pe_op op_fdiv (pe_ix ix_list (pv 0) pe_int (fun _ _=>rfl)) pe_int) (pv 1)))))))),?_⟩
  have ix:∀ {H':Hp} {σ:L2.St} {ta tb:TE} {xs:List V} {j:Nat} {v:V},Ev ta σ H' (.ref d)→Ev tb σ H' (.int (j:Int))→H' d=some (.lst xs)→xs[j]?=some v→Ev (tOp (rIxL K) ta tb) σ H' v :=
   fun ha hb h1 h2=>ev_op ha hb (rv_ixL (sq_of h1) (atI_nat h2))
  have c0:∀ {H':Hp} {σ:L2.St},Ev (tC (.int 0)) σ H' (.int ((0:Nat):Int)):=ev_c
  have c1:∀ {H':Hp} {σ:L2.St},Ev (tC (.int 1)) σ H' (.int ((1:Nat):Int)):=ev_c
  have c2:∀ {H':Hp} {σ:L2.St},Ev (tC (.int 2)) σ H' (.int ((2:Nat):Int)):=ev_c
  have c3:∀ {H':Hp} {σ:L2.St},Ev (tC (.int 3)) σ H' (.int ((3:Nat):Int)):=ev_c
  have hdiv:∀ x:Int,CDiv x many:=fun x=>⟨hm0,hm1⟩
  have rz:∀ x:Int,0≤x % many∧x % many<many:=fun x=>⟨Int.emod_nonneg x (by omega),Int.emod_lt_of_pos x hm0⟩
  refine q_when (et_test (ev_op (ix (ev_var rfl) c3 hd rfl) ev_c rv_I0)) (fun hb H1 e1=>?_) (fun hb H1 e1=>?_)
  ·have hd1:=e1 d _ hd
   refine q_asg (ev_op (ix (ev_var rfl) c3 hd1 rfl) (ev_var rfl) (rv_I hm0)) fun H2 e2=>?_
   have hd2:=e2 d _ hd1
   refine q_setL (xs:=[.ref a, .int i, .int m, .int r]) (j:=3) hd2 (ev_op (ix (ev_var rfl) c3 hd2 rfl) (ev_var rfl) (rv_I (hdiv r))) (ev_var rfl) c3 (by show 3<4;decide) fun H3 e3=>?_
   have x3:Exd d H (upd H3 d (.lst ([V.ref a, .int i, .int m, .int r].set 3 (.int (r / many))))):=fun b o hb2 ho=>by
    rw[upd_ne hb2]
    exact e3 b o (e2 b o (e1 b o ho))
   refine s_ret (ev_var rfl) fun H4 e4=>q _ H4 i m (r / many) (rz r).1 (rz r).2 hi h0 h1 (e4 d _ upd_same) fun b o hb2 ho=>e4 b o (x3 b o hb2 ho)
  ·have hd1:=e1 d _ hd
   refine q_setL (xs:=[.ref a, .int i, .int m, .int r]) (j:=1) hd1 (ev_op (ix (ev_var rfl) c1 hd1 rfl) ev_c rv_I0) (ev_var rfl) c1 (by show 1<4;decide) fun H2 e2=>?_
   have hd2:=e2 d _ hd1
   have hd3:(upd H2 d (.lst ([V.ref a, .int i, .int m, .int r].set 1 (.int (i+1))))) d=some (.lst [.ref a, .int (i+1), .int m, .int r]):=upd_same
   have x3:Exd d H (upd H2 d (.lst ([V.ref a, .int i, .int m, .int r].set 1 (.int (i+1))))):=fun b o hb2 ho=>by
    rw[upd_ne hb2]
    exact e2 b o (e1 b o ho)
   have hS3:Scr K (upd H2 d (.lst ([V.ref a, .int i, .int m, .int r].set 1 (.int (i+1))))) a ns:=(hS.ex (e1.trans e2)).fx (Fx.mut hd2 True.intro)
   generalize upd H2 d (.lst ([V.ref a, .int i, .int m, .int r].set 1 (.int (i+1))))=H3 at hd3 x3 hS3 ⊢
   refine q_when (et_test (ev_op (ix (ev_var rfl) c1 hd3 rfl) (ev_len (K:=K) (ix (ev_var rfl) c0 hd3 rfl) hS3.sq) rv_I0)) (fun hb2 H4 e4=>?_) (fun hb2 H4 e4=>?_)
   ·have hle:=of_decide_eq_true hb2
    rw[List.length_map] at hle
    have hd4:=e4 d _ hd3
    have hlt:i.toNat<ns.length:=by omega
    have hg:(ns.map V.int)[i.toNat]?=some (.int ns[i.toNat]):=by
     rw[List.getElem?_map,List.getElem?_eq_getElem hlt]<;>rfl
    refine q_asg (ev_op (ix (ev_var rfl) c0 hd4 rfl) (ev_is (ev_op (ix (ev_var rfl) c1 hd4 rfl) ev_c rv_I0) (show V.int (i+1-1)=V.int ((i.toNat:Nat):Int) by rw[show i+1-1=((i.toNat:Nat):Int) by omega])) (rv_ixL (hS3.ex e4).sq (atI_nat hg))) fun H5 e5=>?_
    have hd5:=e5 d _ hd4
    refine q_setL (xs:=[.ref a, .int (i+1), .int m, .int r]) (j:=3) (v:= .int (if decide ((10:Int) ^ (18:Int).toNat≤ns[i.toNat])=true then ns[i.toNat] / many else 0)) hd5
     (ev_if (et_test (ev_op (ev_var rfl) (ev_op ev_c ev_c (rv_I ⟨by decide,by decide,by decide⟩)) rv_I0)) (fun z=>?_) (fun z=>?_)) (ev_var rfl) c3 (by show 3<4;decide) fun H6 e6=>?_
    ·rw[if_pos z]
     exact ev_op (ev_var rfl) (ev_var rfl) (rv_I (hdiv _))
    ·rw[if_neg (by rw[z];exact Bool.false_ne_true)]
     exact ev_c
    ·have x6:Exd d H (upd H6 d (.lst ([V.ref a, .int (i+1), .int m, .int r].set 3 (.int (if decide ((10:Int) ^ (18:Int).toNat≤ns[i.toNat])=true then ns[i.toNat] / many else 0))))):=fun b o hb2 ho=>by
      rw[upd_ne hb2]
      exact e6 b o (e5 b o (e4 b o (x3 b o hb2 ho)))
     refine s_ret (ev_op (ev_var rfl) (ev_var rfl) (rv_I hm0)) fun H7 e7=>q _ H7 (i+1) m _ (rz _).1 (rz _).2 (by omega) h0 h1 (e7 d _ upd_same) fun b o hb2 ho=>e7 b o (x6 b o hb2 ho)
   ·have hd4:=e4 d _ hd3
    refine q_setL (xs:=[.ref a, .int (i+1), .int m, .int r]) (j:=2) hd4 (ev_op (ev_op (ix (ev_var rfl) c2 hd4 rfl) ev_c (rv_I (.inl ⟨by omega,by omega⟩))) ev_c (rv_I (show (0:Int)<2147483647 by decide))) (ev_var rfl) c2 (by show 2<4;decide) fun H5 e5=>?_
    have hd6:(upd H5 d (.lst ([V.ref a, .int (i+1), .int m, .int r].set 2 (.int (m*48271 % 2147483647))))) d=some (.lst [.ref a, .int (i+1), .int (m*48271 % 2147483647), .int r]):=upd_same
    have x6:Exd d H (upd H5 d (.lst ([V.ref a, .int (i+1), .int m, .int r].set 2 (.int (m*48271 % 2147483647))))):=fun b o hb2 ho=>by
     rw[upd_ne hb2]
     exact e5 b o (e4 b o (x3 b o hb2 ho))
    generalize upd H5 d (.lst ([V.ref a, .int (i+1), .int m, .int r].set 2 (.int (m*48271 % 2147483647))))=H6 at hd6 x6 ⊢
    refine s_ret (ev_op (ev_op (ix (ev_var rfl) c2 hd6 rfl) ev_c (rv_I ⟨by decide,by decide⟩)) (ev_var rfl) (rv_I hm0)) fun H7 e7=>q _ H7 (i+1) _ r (rz _).1 (rz _).2 (by omega) (Int.emod_nonneg _ (by decide)) (Int.emod_lt_of_pos _ (by decide)) (e7 d _ hd6) fun b o hb2 ho=>e7 b o (x6 b o hb2 ho)
theorem zgv (c:Cal P w K mg base 1 "_law_next" (zeA K) []):Cal P w K mg base 1 "_law_next" (zcX K) []:=by
 obtain ⟨f,fd,ps,ds,F,h1,h2,h3,h4⟩:=c.ex
 cases h4
 refine ⟨f,fd,ps,[],zeW F (fun vs H Q E h=>?_) (fun vs H Q E h hp ok=>?_),h1,h2,h3, .nil⟩
 ·obtain ⟨d,a,ns,many,rfl,m0,m1,hd,hS,q⟩:=h
  have hS2:Scr K (upd H d (.lst [.ref a, .int 0, .int 0, .int 0])) a ns:=hS.fx (Fx.mut hd True.intro)
  exact F.len [.ref d, .int many] _ (fun v H'=>True) E ⟨d,a,ns,many,0,0,0,rfl,m0,m1,upd_same,by decide,by decide,by decide,hS2,fun _ _ _ _ _ _ _ _ _ _ _ _=>trivial⟩
 ·obtain ⟨d,a,ns,many,rfl,m0,m1,hd,hS,q⟩:=h
  obtain ⟨i,m,r,b0,b1,b2,al,ok1⟩:=zfN ok hd
  refine ⟨_,fun v H2=>∃ z i' m' r',v= .int z∧0≤z∧z<many∧0≤i'∧0≤m'∧m'<2147483647∧H2 d=some (.lst [.ref a, .int i', .int m', .int r'])∧Exd d (upd H d (.lst [.ref a, .int i, .int m, .int r])) H2,al,ok1,
   ⟨d,a,ns,many,i,m,r,rfl,m0,m1,upd_same,b0,b1,b2,hS.fx (Fx.mut hd True.intro),fun z H2 i' m' r' z0 z1 z2 z3 z4 z5 z6=>⟨z,i',m',r',rfl,z0,z1,z2,z3,z4,z5,z6⟩⟩,?_⟩
  rintro v H2 hp2 ok2 ⟨z,i',m',r',rfl,z0,z1,z2,z3,z4,z5,z6⟩
  obtain ⟨al2,ok3⟩:=zeN ok2 z5 z2 z3 z4
  refine ⟨_,al2,ok3,q z _ z0 z1 fun b o ho=>?_⟩
  by_cases hb:b=d
  ·subst hb
   rw[hd] at ho
   cases ho
   exact upd_same
  ·rw[upd_ne hb]
   exact z6 b o hb (by rw[upd_ne hb];exact ho)
end
section
variable {P:Program} {w:World} {K:PySem.W.Frag} {mg:Str→Option Value} {base:Heap}
abbrev zcb:Stmt:=zaz 40
theorem zeZ:FnScope ["_law_found","_law_due","_law_k"] ["_law_found","_law_due"] (fnScope zcb):=fnScope_by (by decide +kernel)
def za5 (K:PySem.W.Frag) (n:Nat):Sp:=fun vs H Q _=>∃ (x y:V) (d:PyData),vs=[x,y]∧Dp K H x d∧Dp K H y d∧d.depth<n∧zaF d=true∧RetV (.bl true) H Q
theorem zfA (T:zcC K mg) (n:Nat) (c_q64:Cal P w K mg base n "_law_like" (za5 K n) []) {f:Addr} {fd:FuncData} (F:Def K mg "_law_like" zcb f fd) (b:Binds K fd ["_law_found","_law_due"] []):Cal P w K mg base (n+1) "_law_like" (za5 K (n+1)) []:=by
 refine cal0 F b .nil zeZ (fun vs H Q E h=>?_) (fun cdv A outer s H vs Q E hr h=>?_)
 ·obtain ⟨_,_,_,rfl,_⟩:=h
  rfl
 ·obtain ⟨x,y,d,rfl,hx,hy,hdep,hwd,q⟩:=h
  have m_isinstance:=T.m_isinstance
  have m_tuple:=T.m_tuple
  have m_list:=T.m_list
  have m_len:=T.m_len
  have m_range:=T.m_range
  have m_bool:=T.m_bool
  have m_int:=T.m_int
  have m_str:=T.m_str
  have hu64:=hr.units
  refine ⟨_,(pss_cons (ps_if (PW.pt (pw_or (pt_val (pe_callB call_isi (by rfl) m_isinstance Wt.bt_isinstance (pa_cons (pv 1) (pa_cons (pe_bltn (v:= .ty "tuple") (by rfl) m_tuple Wt.bt_tuple rfl) pa_nil)))) (pw_or1 (pt_val (pe_callB call_isi (by rfl) m_isinstance Wt.bt_isinstance (pa_cons (pv 1) (pa_cons (pe_bltn (v:= .ty "list") (by rfl) m_list Wt.bt_list rfl) pa_nil))))))) (pss_cons (ps_if (pt_cmpR op_ne (pe_callB call_isi (by rfl) m_isinstance Wt.bt_isinstance (pa_cons (pv 0) (pa_cons (pe_bltn (v:= .ty "tuple") (by rfl) m_tuple Wt.bt_tuple rfl) pa_nil))) (pe_callB call_isi (by rfl) m_isinstance Wt.bt_isinstance (pa_cons (pv 1) (pa_cons (pe_bltn (v:= .ty "tuple") (by rfl) m_tuple Wt.bt_tuple rfl) pa_nil))) (nomark _)) (pss_one (ps_ret pe_bl)) pss_nil)
   (pss_cons (ps_if (PW.pt (pw_or (pt_cmpR op_ne (pe_callB call_isi (by rfl) m_isinstance Wt.bt_isinstance (pa_cons (pv 0) (pa_cons (pe_bltn (v:= .ty "list") (by rfl) m_list Wt.bt_list rfl) pa_nil))) (pe_callB call_isi (by rfl) m_isinstance Wt.bt_isinstance (pa_cons (pv 1) (pa_cons (pe_bltn (v:= .ty "list") (by rfl) m_list Wt.bt_list rfl) pa_nil))) (nomark _)) (pw_or1 (pt_cmpR op_ne (pe_callB call_len_seq (by rfl) m_len PySem.boot_len (pa_cons (pv 0) pa_nil)) (pe_callB call_len_seq (by rfl) m_len PySem.boot_len (pa_cons (pv 1) pa_nil)) (nomark _))))) (pss_one (ps_ret pe_bl)) pss_nil)
   (pss_one (ps_ret (pe_cmpR (op_eqD hu64) (pe_lc (own:=[("_law_k",2)]) (g:=(gName 2)) rfl zeZ.nd (pi_range1 (by rfl) m_range (pa_cons (pe_callB call_len_seq (by rfl) m_len PySem.boot_len (pa_cons (pv 1) pa_nil)) pa_nil)) (blkOk_by (N:=["_law_found","_law_due","_law_k"]) (sc:=C8.fnScope zcb) (by decide +kernel)) (fun _ _ _ _ _=>pg_name (i:=2) zeZ.nd rfl (Or.inl rfl)) (fun _ _ _ _ _=>pts_one (pt_not (pt_val (C8.pe_c c_q64 hr (by first|decide|exact Nat.le_refl _|omega) (by rfl) (pa_cons (pe_ix (show IxR _ (rIx K) from ix_seq) (pv 0) (pv 2) (fun _ _=>rfl)) (pa_cons (pe_ix (show IxR _ (rIx K) from ix_seq) (pv 1) (pv 2) (fun _ _=>rfl)) pa_nil)))))) (fun _ _ _ _ _=>(pv 2))) (pe_lst pa_nil) (nomark _)))))) pss_nil)
   (pss_cons (ps_if (pt_cmpR op_ne (pe_callB call_isi (by rfl) m_isinstance Wt.bt_isinstance (pa_cons (pv 0) (pa_cons (pe_bltn (v:= .ty "bool") (by rfl) m_bool Wt.bt_bool rfl) pa_nil))) (pe_callB call_isi (by rfl) m_isinstance Wt.bt_isinstance (pa_cons (pv 1) (pa_cons (pe_bltn (v:= .ty "bool") (by rfl) m_bool Wt.bt_bool rfl) pa_nil))) (nomark _)) (pss_one (ps_ret pe_bl)) pss_nil)
   (pss_cons (ps_if (PW.pt (pw_or (pt_cmpR op_ne (pe_callB call_isi (by rfl) m_isinstance Wt.bt_isinstance (pa_cons (pv 0) (pa_cons (pe_bltn (v:= .ty "int") (by rfl) m_int Wt.bt_int rfl) pa_nil))) (pe_callB call_isi (by rfl) m_isinstance Wt.bt_isinstance (pa_cons (pv 1) (pa_cons (pe_bltn (v:= .ty "int") (by rfl) m_int Wt.bt_int rfl) pa_nil))) (nomark _)) (pw_or1 (pt_cmpR op_ne (pe_callB call_isi (by rfl) m_isinstance Wt.bt_isinstance (pa_cons (pv 0) (pa_cons (pe_bltn (v:= .ty "str") (by rfl) m_str Wt.bt_str rfl) pa_nil))) (pe_callB call_isi (by rfl) m_isinstance Wt.bt_isinstance (pa_cons (pv 1) (pa_cons (pe_bltn (v:= .ty "str") (by rfl) m_str Wt.bt_str rfl) pa_nil))) (nomark _))))) (pss_one (ps_ret pe_bl)) pss_nil)
   (pss_one (ps_ret (pe_cmpR op_eq (pv 0) (pv 1) (nomark _))))))),?_⟩
  by_cases hs:∃ ds,d= .list ds∨d= .tuple ds
  ·obtain ⟨ds,hd⟩:=hs
   obtain ⟨p,xs,pq,ys,rfl,rfl,gx,gy,ax,ay⟩:=zfm hd hx hy
   have lx:=zbr ax
   have ly:=zbr ay
   have hw2:ds.length≤40000∧wideAll ds=true∧PyData.depthAll ds<n:=by
    rcases hd with rfl|rfl
    ·unfold zaF at hwd
     rw[Bool.and_eq_true] at hwd
     unfold PyData.depth at hdep
     exact ⟨of_decide_eq_true hwd.1,hwd.2,by omega⟩
    ·unfold zaF at hwd
     rw[Bool.and_eq_true] at hwd
     unfold PyData.depth at hdep
     exact ⟨of_decide_eq_true hwd.1,hwd.2,by omega⟩
   obtain ⟨bt,bl,kt,kl,hor⟩:∃ bt bl:Bool,kitB (tyN d) "tuple"=some bt∧kitB (tyN d) "list"=some bl∧(bt||bl)=true:=by
    rcases hd with rfl|rfl
    ·exact ⟨false,true,(show kitB "list" "tuple"=some false by decide +kernel),(show kitB "list" "list"=some true by decide +kernel),rfl⟩
    ·exact ⟨true,false,(show kitB "tuple" "tuple"=some true by decide +kernel),(show kitB "tuple" "list"=some false by decide +kernel),rfl⟩
   refine q_when (et_is (et_or (et_B (zaq (ev_var rfl) ev_c hy kt)) fun _=>et_B (zaq (ev_var rfl) ev_c hy kl)) hor) (fun _ H1 e1=>?_) (fun z=>by cases z)
   have hx1:=Dp.ex e1 d _ hx
   have hy1:=Dp.ex e1 d _ hy
   refine q_when (b:=false) (et_is (et_test (ev_op (zaq (ev_var rfl) ev_c hx1 kt) (zaq (ev_var rfl) ev_c hy1 kt) (rv_ne rfl))) (by simp)) (fun z=>by cases z) (fun _ H2 e2=>?_)
   have hx2:=Dp.ex e2 d _ hx1
   have hy2:=Dp.ex e2 d _ hy1
   have e12:=e1.trans e2
   refine q_when (b:=false) (et_is (et_or (et_test (ev_op (zaq (ev_var rfl) ev_c hx2 kl) (zaq (ev_var rfl) ev_c hy2 kl) (rv_ne rfl))) fun _ =>
    et_test (ev_op (zcG (K:=K) (ev_var rfl) (gx.imp (ex_l e12) (ex_t e12))) (zcG (K:=K) (ev_var rfl) (gy.imp (ex_l e12) (ex_t e12))) (rv_ne rfl))) (by simp[lx,ly])) (fun z=>by cases z) (fun _ H3 e3=>?_)
   have e13:=e12.trans e3
   have gx3:=gx.imp (ex_l e13) (ex_t e13)
   have gy3:=gy.imp (ex_l e13) (ex_t e13)
   refine s_ret (zfq (K:=K) ?_) fun H4 e4=>q.go (e13.trans e4)
   have lc:=el_lcR1 (j:=2) (vs:=[2]) (n:=(ys.length:Int)) (σ:=[some (V.ref p),some (V.ref pq),none]) (H:=H3) (fun _=>false) (fun _=>V.non)
    (ta:=tCons (tCB (rLenS K) (tCons (tVar 1) tNil)) tNil) (te:=tVar 2)
    (t:=tNot (tB (tCall (za5 K n) [] C8.E0 (tCons (tOp (rIx K) (tVar 0) (tVar 2)) (tCons (tOp (rIx K) (tVar 1) (tVar 2)) tNil)))))
    (ea_cons (zcG (K:=K) (ev_var rfl) gy3) ea_nil) ⟨by omega,by rw[ly];omega⟩ (fun _=>rfl) (fun i H4 e4 hi=>?_) (fun i H4 e4 hi z=>by cases z)
   ·rw[Int.toNat_natCast,zdN] at lc
    exact lc
   ·have hid:i<ds.length:=by omega
    obtain ⟨vx,d1,g1,g2,g3⟩:=zcD ax hid
    obtain ⟨vy,d2,k1,k2,k3⟩:=zcD ay hid
    rw[g2] at k2
    cases k2
    have e14:=e13.trans e4
    refine et_not (et_B (b:=true) ?_)
    refine ev_call (dvs:=[]) (vs:=[vx,vy]) (ea_cons (zfZ (ev_var rfl) (ev_var rfl) (gx.imp (ex_l e14) (ex_t e14)) g1) (ea_cons (zfZ (ev_var rfl) (ev_var rfl) (gy.imp (ex_l e14) (ex_t e14)) k1) ea_nil)) fun H5 e5 Q5 q5 E5=>?_
    have e15:=e14.trans e5
    exact ⟨vx,vy,d1,rfl,Dp.ex e15 d1 _ g3,Dp.ex e15 d1 _ k3,Nat.lt_of_le_of_lt (zb4 g2) hw2.2.2,zc7 hw2.2.1 g2,fun H6 e6=>q5 H6 e6⟩
  ·have n1:∀ ds,d≠ .list ds:=fun ds e=>hs ⟨ds, .inl e⟩
   have n2:∀ ds,d≠ .tuple ds:=fun ds e=>hs ⟨ds, .inr e⟩
   obtain ⟨rfl,hsc⟩:=zeP n1 n2 hx hy
   obtain ⟨bb,bi,bs,kt,kl,kb,ki,ks⟩:∃ bb bi bs:Bool,kitB (tyN d) "tuple"=some false∧kitB (tyN d) "list"=some false∧kitB (tyN d) "bool"=some bb∧kitB (tyN d) "int"=some bi∧kitB (tyN d) "str"=some bs:=by
    cases d with
    | none=>exact ⟨false,false,false,(show kitB "NoneType" "tuple"=some false by decide +kernel),(show kitB "NoneType" "list"=some false by decide +kernel),(show kitB "NoneType" "bool"=some false by decide +kernel),(show kitB "NoneType" "int"=some false by decide +kernel),(show kitB "NoneType" "str"=some false by decide +kernel)⟩
    | bool _=>exact ⟨true,true,false,(show kitB "bool" "tuple"=some false by decide +kernel),(show kitB "bool" "list"=some false by decide +kernel),(show kitB "bool" "bool"=some true by decide +kernel),(show kitB "bool" "int"=some true by decide +kernel),(show kitB "bool" "str"=some false by decide +kernel)⟩
    | int _=>exact ⟨false,true,false,(show kitB "int" "tuple"=some false by decide +kernel),(show kitB "int" "list"=some false by decide +kernel),(show kitB "int" "bool"=some false by decide +kernel),(show kitB "int" "int"=some true by decide +kernel),(show kitB "int" "str"=some false by decide +kernel)⟩
    | str _=>exact ⟨false,false,true,(show kitB "str" "tuple"=some false by decide +kernel),(show kitB "str" "list"=some false by decide +kernel),(show kitB "str" "bool"=some false by decide +kernel),(show kitB "str" "int"=some false by decide +kernel),(show kitB "str" "str"=some true by decide +kernel)⟩
    | list ds=>exact absurd rfl (n1 ds)
    | tuple ds=>exact absurd rfl (n2 ds)
    | dict _=>cases hx
   refine q_when (et_is (et_or (et_B (zaq (ev_var rfl) ev_c hy kt)) fun _=>et_B (zaq (ev_var rfl) ev_c hy kl)) rfl) (fun z=>by cases z) (fun _ H1 e1=>?_)
   have hx1:=Dp.ex e1 d _ hx
   refine q_when (b:=false) (et_is (et_test (ev_op (zaq (ev_var rfl) ev_c hx1 kb) (zaq (ev_var rfl) ev_c hx1 kb) (rv_ne rfl))) (by simp)) (fun z=>by cases z) (fun _ H2 e2=>?_)
   have hx2:=Dp.ex e2 d _ hx1
   refine q_when (b:=false) (et_is (et_or (et_test (ev_op (zaq (ev_var rfl) ev_c hx2 ki) (zaq (ev_var rfl) ev_c hx2 ki) (rv_ne rfl))) fun _ =>
    et_test (ev_op (zaq (ev_var rfl) ev_c hx2 ks) (zaq (ev_var rfl) ev_c hx2 ks) (rv_ne rfl))) (by simp)) (fun z=>by cases z) (fun _ H3 e3=>?_)
   refine s_ret (ev_is (ev_op (ev_var rfl) (ev_var rfl) (rv_eq hsc)) (show V.bl (decide (x=x))= .bl true by rw[decide_eq_true rfl])) fun H4 e4=>q.go (((e1.trans e2).trans e3).trans e4)
/-- to any depth -/
theorem zeM (T:zcC K mg) {f:Addr} {fd:FuncData} (F:Def K mg "_law_like" zcb f fd) (b:Binds K fd ["_law_found","_law_due"] []):∀ n,Cal P w K mg base n "_law_like" (za5 K n) []
 | 0=>⟨f,fd,_,[],⟨fun vs H Q E ⟨_,_,d,_,_,_,h,_⟩=>absurd h (Nat.not_lt_zero _),fun A outer s H args us vs Q E _ _ _ _ ⟨_,_,d,_,_,_,h,_⟩=>absurd h (Nat.not_lt_zero _)⟩,F.mgf,F.kp,b, .nil⟩
 | n+1=>zfA T n (zeM T F b n) F b
end
/-- a value of such data,lists within it too -/
def EvX (K:PySem.W.Frag) (te:TE) (σ:L2.St) (H:Hp) (d:PyData):Prop:=∀ H1,Ex H H1→∀ Q:VK,(∀ v H2,Ex H1 H2→Dp K H2 v d→Q v H2)→te σ H1 Q
def EaX (K:PySem.W.Frag) (tr:TA) (σ:L2.St) (H:Hp) (ds:List PyData):Prop:=∀ H1,Ex H H1→∀ Q:List V→Hp→Prop,(∀ vs H2,Ex H1 H2→DpAll K H2 vs ds→Q vs H2)→tr σ H1 Q
section
variable {K:PySem.W.Frag} {σ:L2.St} {H H':Hp} {te ta tb:TE} {tr tk:TA} {v:V} {d:PyData} {ds:List PyData} {D:Ends} {tu tz:TS} {E:XK} {n:Nat}
theorem EvX.mono (e:Ex H H') (h:EvX K te σ H d):EvX K te σ H' d:=fun H1 e1 Q q=>h H1 (e.trans e1) Q q
theorem ziZ (h:EvD te σ H d):EvX K te σ H d:=fun H1 e Q q=>h H1 e Q fun v H2 e2 hv=>q v H2 e2 (Td.dp d v hv)
theorem vx_V (h:Ev te σ H v) (hv:Dp K H v d):EvX K te σ H d:=fun H1 e Q q=>h H1 e Q fun H2 e2=>q v H2 e2 (Dp.ex (e.trans e2) d v hv)
theorem zfc (h:zbC te σ H ds):EvX K te σ H (.list ds):=fun H1 e Q q=>h H1 e Q fun p H2 vs hp e2 h2 hT=>q (.ref p) H2 e2 (.lst (sq_of h2) (TdAll.dp ds vs hT))
theorem ziS {is:List Int} (h:EvL te σ H (is.map V.int)):EvX K te σ H (.list (is.map .int)):=fun H1 e Q q=>h H1 e Q fun p H2 hp e2 h2=>q (.ref p) H2 e2 (.lst (sq_of h2) (TdAll.dp _ _ (zaY is)))
theorem zdd:EaX K tNil σ H []:=fun H1 _ Q q=>q [] H1 (Ex.refl _) .nil
theorem za4 (h:EvX K te σ H d) (hr:EaX K tr σ H ds):EaX K (tCons te tr) σ H (d::ds):=fun H1 e Q q =>
 h H1 e _ fun v H2 e2 hv=>hr H2 (e.trans e2) _ fun vs H3 e3 hvs=>q (v::vs) H3 (e2.trans e3) (.cons (Dp.ex e3 d v hv) hvs)
theorem ze4 (h:EaX K tr σ H ds) (hl:ds.length≤100000):EvX K (tTup tr) σ H (.tuple ds):=fun H1 e Q q =>
 h H1 e _ fun vs H2 e2 hvs=>⟨sz_of (by rw[zbr hvs];exact hl),fun p hp=>q (.ref p) _ (e2.trans (Ex.new hp)) (.tup (st_of upd_same) (DpAll.ex (Ex.new hp) _ _ hvs))⟩
theorem zh2 (h:EaX K tr σ H ds) (hl:ds.length≤100000):EvX K (tLst tr) σ H (.list ds):=fun H1 e Q q =>
 h H1 e _ fun vs H2 e2 hvs=>⟨sz_of (by rw[zbr hvs];exact hl),fun p hp=>q (.ref p) _ (e2.trans (Ex.new hp)) (.lst (sq_of upd_same) (DpAll.ex (Ex.new hp) _ _ hvs))⟩
/-- likeness asked of two of the same data -/
theorem zgh {Q:Bool→Hp→Prop} {F:V→Hp→Prop} (h:∀ P:VK,(∀ v H1,F v H1→P v H1)→ta σ H P) (k:∀ v H1,F v H1→∃ d,Dp K H1 v d∧EvX K tb σ H1 d∧d.depth<n∧zaF d=true∧∀ H2,Ex H1 H2→Q false H2):tNot (tB (tCall (za5 K n) [] E (tCons ta (tCons tb tNil)))) σ H Q :=
 h _ fun v H1 f=>by
  obtain ⟨d,hv,hb,hd,hw,q⟩:=k v H1 f
  exact hb H1 (Ex.refl _) _ fun w H2 e2 hw2=>⟨v,w,d,rfl,Dp.ex e2 d v hv,hw2,hd,hw,fun H3 e3=>⟨true,rfl,q H3 (e2.trans e3)⟩⟩
theorem zaM (ha:EvX K ta σ H d) (hb:EvX K tb σ H d) (hd:d.depth<n) (hw:zaF d=true):EvT (tNot (tB (tCall (za5 K n) [] E (tCons ta (tCons tb tNil))))) σ H false:=fun H1 e1 Q q =>
 ha H1 e1 _ fun v H2 e2 hv=>hb H2 (e1.trans e2) _ fun w H3 e3 hw2=>⟨v,w,d,rfl,Dp.ex e3 d v hv,hw2,hd,hw,fun H4 e4=>⟨true,rfl,q H4 (e2.trans (e3.trans e4))⟩⟩
/-- a statement under it -/
theorem zhE {F:V→Hp→Prop} (h:∀ P:VK,(∀ v H1,F v H1→P v H1)→ta σ H P) (k:∀ v H1,F v H1→∃ d,Dp K H1 v d∧EvX K tb σ H1 d∧d.depth<n∧zaF d=true∧∀ H2,Ex H1 H2→D.nx σ H2):tIfS (tNot (tB (tCall (za5 K n) [] E (tCons ta (tCons tb tNil))))) tu tNext D σ H :=
 zgh (K:=K) h fun v H1 f=>by
  obtain ⟨d,hv,hb,hd,hw,q⟩:=k v H1 f
  exact ⟨d,hv,hb,hd,hw,fun H2 e2=>q H2 e2⟩
theorem zfY {a b c:Int} {L:Nat} {sp en:List PyData} (A:zdZ a b c L sp en) (hv:Td H v (zg9 a b c)):∀ H1,Ex H H1→∀ Q:VK,(∀ w H2,Ex H1 H2→Dp K H2 w (.tuple [.list sp, .tuple en])→Q w H2)→zbH [v, .str (Str.ofString "f"), .str (Str.ofString "m"), .int L] H1 Q E:=fun H1 e1 Q q=>by
 obtain ⟨st1,st2,k,h0,hr,rfl,he⟩:=A.ex
 refine ⟨v,imK a b c L,ksK,zbY usK nsK,_,_,1,dfF,st1,st2,k,rfl,?_,h0,hr,fun t l sv ve H2 e2 h1 h2 hT hE=>q _ H2 e2 ?_⟩
 ·rw[zcy]
  exact Td.tx (Tx.of e1) _ _ hv
 ·rw[he] at hE
  exact .tup (st_of h1) (.cons (.lst (sq_of h2) (TdAll.dp _ _ hT)) (.cons (Td.dp _ _ hE) .nil))
theorem zhi {a b c:Int} {sp en:List PyData} (A:zdZ a b c 2000 sp en) (h:EvA tr σ H [v, .str (Str.ofString "f"), .str (Str.ofString "m")]) (hv:Td H v (zg9 a b c)):EvX K (tCall zbH [.int 2000] E tr) σ H (.tuple [.list sp, .tuple en]):=fun H1 e1 Q q =>
 h H1 e1 _ fun H2 e2=>zfY (K:=K) A hv H2 (e1.trans e2) Q fun w H3 e3=>q w H3 (e2.trans e3)
theorem zen {a b c:Int} {L:Nat} {sp en:List PyData} (A:zdZ a b c L sp en) (h:EvA tr σ H [v, .str (Str.ofString "f"), .str (Str.ofString "m")]) (hk:EvA tk σ H [.int L]) (hv:Td H v (zg9 a b c)):EvX K (tCallN 3 1 zbH (fun vs zs=>vs++zs) E tr tk) σ H (.tuple [.list sp, .tuple en]):=fun H1 e1 Q q =>
 h H1 e1 _ fun H2 e2=>hk H2 (e1.trans e2) _ fun H3 e3=>⟨rfl,rfl,zfY (K:=K) A hv H3 ((e1.trans e2).trans e3) Q fun w H4 e4=>q w H4 ((e2.trans e3).trans e4)⟩
end
structure Duo (CL CS CR C CC:Addr) (a b c:Int) (H0 H:Hp) (l m1:Addr) (B:LA) (A1:MA) (r dr m2:Addr) (A2:MA) (k1 k2:Nat):Prop where
 e:Ex H0 H
 lok:Lok H CL CS l m1 B [dfE,dfF] ksK nsK k1
 mc1:Mac H C CC (imK a b c 9) m1 A1 (sK a b c k1)
 apt:Apt l m1 B A1
 ho:H r=some (.ins CR dr [("machine", .ref m2)])
 nr:r∉own m2 A2
 mc2:Mac H C CC (imK a b c 9) m2 A2 (sK a b c k2)
 n1:∀ x∈own m1 A1,H0 x=none
 nm:H0 B.mks=none
 n2:∀ x∈own m2 A2,H0 x=none
 d1:∀ x∈own m2 A2,x∉own m1 A1++ro A1∧x∉B.mks::zas l B
 d2:∀ x∈B.mks::own m1 A1,x≠r∧x∉own m2 A2++ro A2
theorem Lok.known {H:Hp} {CL CS l m:Addr} {B:LA} {ds:List Df} {ks:List Kd} {ns:List Nm} {n:Nat} (h:Lok H CL CS l m B ds ks ns n) {b:Addr} (hb:b∈B.mks::zas l B):H b≠none:=fun z=>by
 simp only[zas,List.mem_cons,List.not_mem_nil,or_false] at hb
 obtain ⟨_,h1,_⟩:=h.sd
 obtain ⟨_,h2,_⟩:=h.sn
 obtain ⟨_,h3,_⟩:=h.kp
 obtain ⟨_,h4,_⟩:=h.mks
 rcases hb with rfl|rfl|rfl|rfl|rfl|rfl
 ·rw[h4] at z;cases z
 ·rw[h.o] at z;cases z
 ·rw[h.s] at z;cases z
 ·rw[h1] at z;cases z
 ·rw[h2] at z;cases z
 ·rw[h3] at z;cases z
section
variable {CL CS CR C CC l m1 r dr m2:Addr} {a b c:Int} {H0 H H':Hp} {B:LA} {A1 A2 A':MA} {k1 k2:Nat}
theorem Duo.ex (D:Duo CL CS CR C CC a b c H0 H l m1 B A1 r dr m2 A2 k1 k2) (e:Ex H H'):Duo CL CS CR C CC a b c H0 H' l m1 B A1 r dr m2 A2 k1 k2:=⟨D.e.trans e,D.lok.ex e,D.mc1.ex e,D.apt,e _ _ D.ho,D.nr,D.mc2.ex e,D.n1,D.nm,D.n2,D.d1,D.d2⟩
theorem Duo.look (D:Duo CL CS CR C CC a b c H0 H l m1 B A1 r dr m2 A2 k1 k2) (S:StL m1 B.mks H H' A1 A') (ap:Apt l m1 B A') (M:Mac H' C CC (imK a b c 9) m1 A' (sK a b c (k1+1))) (L:Lok H' CL CS l m1 B [dfE,dfF] ksK nsK (k1+1)):Duo CL CS CR C CC a b c H0 H' l m1 B A' r dr m2 A2 (k1+1) k2 where
 e:=fun x o hx=>S.k.keep x o (fun z=>by
  rcases List.mem_cons.mp z with z|z
  ·rw[z,D.nm] at hx;cases hx
  ·rw[D.n1 x z] at hx;cases hx) (D.e x o hx)
 lok:=L
 mc1:=M
 apt:=ap
 ho:=S.k.keep r _ (fun z=>(D.d2 r z).1 rfl) D.ho
 nr:=D.nr
 mc2:=D.mc2.keep (fun x hx o ho=>S.k.keep x o (fun z=>(D.d2 x z).2 hx) ho) fun x xs hx=>S.k.keep x _ (fun z=>by
  rcases List.mem_cons.mp z with z|z
  ·obtain ⟨ms,h,_⟩:=D.lok.mks
   rw[z,h] at hx;cases hx
  ·exact D.mc1.notup hx z) hx
 n1:=fun x hx=>by
  rcases S.o x hx with z|z
  ·exact D.n1 x z
  ·exact fresh_back D.e z
 nm:=D.nm
 n2:=D.n2
 d1:=fun x hx=>⟨fun z=>by
  rcases List.mem_append.mp z with z|z
  ·rcases S.o x z with y|y
   ·exact (D.d1 x hx).1 (List.mem_append_left _ y)
   ·exact D.mc2.known hx y
  ·rcases S.r x z with y|y
   ·exact (D.d1 x hx).1 (List.mem_append_right _ y)
   ·exact D.mc2.known hx y,(D.d1 x hx).2⟩
 d2:=fun x hx=>by
  rcases List.mem_cons.mp hx with rfl|hx
  ·exact D.d2 _ (List.mem_cons_self ..)
  ·rcases S.o x hx with y|y
   ·exact D.d2 x (List.mem_cons_of_mem _ y)
   ·refine ⟨fun z=>?_,fun z=>?_⟩
    ·have:=D.ho
     rw[← z,y] at this;cases this
    ·rcases List.mem_append.mp z with z|z
     ·exact D.mc2.known z y
     ·exact D.mc2.knownR z y
theorem Duo.run (D:Duo CL CS CR C CC a b c H0 H l m1 B A1 r dr m2 A2 k1 k2) (S:Stp m2 H H' A2 A') (M:Mac H' C CC (imK a b c 9) m2 A' (sK a b c (k2+1))):Duo CL CS CR C CC a b c H0 H' l m1 B A1 r dr m2 A' k1 (k2+1) where
 e:=fun x o hx=>S.k.keep x o (fun z=>by rw[D.n2 x z] at hx;cases hx) (D.e x o hx)
 lok:=D.lok.keep (fun x hx o ho=>S.k.keep x o (fun z=>(D.d1 x z).2 hx) ho) (S.tx D.mc2)
 mc1:=D.mc1.keep (fun x hx o ho=>S.k.keep x o (fun z=>(D.d1 x z).1 hx) ho) (S.tx D.mc2)
 apt:=D.apt
 ho:=S.k.keep r _ D.nr D.ho
 nr:=fun z=>by
  rcases S.o r z with y|y
  ·exact D.nr y
  ·rw[D.ho] at y;cases y
 mc2:=M
 n1:=D.n1
 nm:=D.nm
 n2:=fun x hx=>by
  rcases S.o x hx with z|z
  ·exact D.n2 x z
  ·exact fresh_back D.e z
 d1:=fun x hx=>by
  rcases S.o x hx with y|y
  ·exact D.d1 x y
  ·refine ⟨fun z=>?_,fun z=>D.lok.known z y⟩
   rcases List.mem_append.mp z with z|z
   ·exact D.mc1.known z y
   ·exact D.mc1.knownR z y
 d2:=fun x hx=>⟨(D.d2 x hx).1,fun z=>by
  have kn:H x≠none:=by
   rcases List.mem_cons.mp hx with rfl|hx
   ·exact D.lok.known (List.mem_cons_self ..)
   ·exact D.mc1.known hx
  rcases List.mem_append.mp z with z|z
  ·rcases S.o x z with y|y
   ·exact (D.d2 x hx).2 (List.mem_append_left _ y)
   ·exact kn y
  ·rcases S.r x z with y|y
   ·exact (D.d2 x hx).2 (List.mem_append_right _ y)
   ·exact kn y⟩
end
theorem zaD {H:Hp} {p x:Addr} {o:HO} (h:upd H p o x=none):H x=none∧x≠p:=by
 by_cases e:x=p
 ·rw[e,upd_same] at h;cases h
 ·rw[upd_ne e] at h;exact ⟨h,e⟩
theorem zbJ (i:Int):zbx (Str.ofString "num") i= .int i:=if_neg (by decide +kernel)
theorem zfC:nsK.filter (zhc dfE.file dfE.name 3)=nsK:=by
 have h:nsK.all (zhc dfE.file dfE.name 3)=true:=by decide +kernel
 exact List.filter_eq_self.mpr fun x hx=>List.all_eq_true.mp h x hx
section
variable {K:PySem.W.Frag} {σ:L2.St} {H H':Hp} {te ta tb:TE} {tr tk tr2 tk2:TA} {v:V} {d:PyData} {ds:List PyData} {D:Ends} {tu tz:TS} {E E1 E2:XK} {n i j:Nat}
variable {CL CS CR C CC:Addr} {a b c:Int}
theorem zis (h1:EvA tr σ H [v, .str (Str.ofString "f"), .str (Str.ofString "m")]) (k1:EvA tk σ H [.int (9:Nat)]) (h2:EvA tr2 σ H [v, .str (Str.ofString "f"), .str (Str.ofString "m")]) (k2:EvA tk2 σ H [.int (9:Nat)]) (hv:Td H v (zg9 a b c))
  (q:∀ l m1 B A1 r dr m2 A2 H',Duo CL CS CR C CC a b c H H' l m1 B A1 r dr m2 A2 0 0→tz D ((σ.set i (some (.ref l))).set j (some (.ref r))) H') :
  tSeq (tPar i j (tCons (tMakeK CL 3 1 (zfv C CC CL CS) (fun vs zs=>vs++zs) E1 tr tk) (tCons (tMakeK CR 3 1 (zfj C CC CR) (fun vs zs=>vs++zs) E2 tr2 tk2) tNil))) tz D σ H:=by
 have g:tCons (tMakeK CL 3 1 (zfv C CC CL CS) (fun vs zs=>vs++zs) E1 tr tk) (tCons (tMakeK CR 3 1 (zfj C CC CR) (fun vs zs=>vs++zs) E2 tr2 tk2) tNil) σ H fun vs H1=>∃ x y,vs=[x,y]∧tz D ((σ.set i (some x)).set j (some y)) H1:=by
  refine h1 H (Ex.refl H) _ fun H1 e1=>k1 H1 e1 _ fun H2 e2=>⟨rfl,rfl,fun l dx hl hdx nd=>?_⟩
  have e12:=e1.trans e2
  have eu:Ex H2 (upd (upd H2 dx (.own l)) l (.ins CL dx [])):=(Ex.new hdx).trans (Ex.new (by rw[upd_ne (Ne.symm nd)];exact hl))
  refine ⟨l,dx,v,imK a b c 9,ksK,usK,nsK,_,_,1,dfF,sK a b c 0,rfl,upd_same,by rw[zcy];exact Td.tx (Tx.of (e12.trans eu)) _ _ hv,ziU,plin,zgl (by decide) (zaU 0 (by decide) (.inr (by decide))),fun H3 m1 A1 B keep new newB ap M L=>⟨rfl,?_⟩⟩
  have e23:Ex H2 H3:=fun x o hx=>keep x o (fun z=>by rw[z,hl] at hx;cases hx) (eu x o hx)
  have e03:=e12.trans e23
  refine h2 H3 e03 _ fun H4 e4=>k2 H4 (e03.trans e4) _ fun H5 e5=>⟨rfl,rfl,fun r dr hr hdr nd2=>?_⟩
  have e35:=e4.trans e5
  have e05:=e03.trans e35
  have eu2:Ex H5 (upd (upd H5 dr (.own r)) r (.ins CR dr [])):=(Ex.new hdr).trans (Ex.new (by rw[upd_ne (Ne.symm nd2)];exact hr))
  refine ⟨r,dr,v,imK a b c 9,ksK,zbY usK nsK,_,_,1,dfF,sK a b c 0,rfl,upd_same,by rw[zcy];exact Td.tx (Tx.of (e05.trans eu2)) _ _ hv,zgl (by decide) (zaU 0 (by decide) (.inr (by decide))),fun H6 m2 A2 keep2 new2 ho M2=>⟨rfl,_,_,rfl,?_⟩⟩
  have e56:Ex H5 H6:=fun x o hx=>keep2 x o (fun z=>by rw[z,hr] at hx;cases hx) (eu2 x o hx)
  have e36:=e35.trans e56
  have nw:∀ x∈own m1 A1++ro A1,H2 x=none:=fun x hx=>(zaD (zaD (new x hx)).1).1
  have nw2:∀ x∈own m2 A2++ro A2,H5 x=none∧x≠r:=fun x hx=>⟨(zaD (zaD (new2 x hx)).1).1,(zaD (new2 x hx)).2⟩
  have kn:∀ {x},H3 x≠none→H5 x≠none:=fun h z=>h (fresh_back e35 z)
  refine q l m1 B A1 r dr m2 A2 H6 ⟨e05.trans e56,L.ex e36,M.ex e36,ap,ho,fun z=>(nw2 r (List.mem_append_left _ z)).2 rfl,M2,fun x hx=>fresh_back e12 (nw x (List.mem_append_left _ hx)),?_,fun x hx=>fresh_back e05 (nw2 x (List.mem_append_left _ hx)).1,fun x hx=>⟨fun z=>?_,fun z=>kn (L.known z) (nw2 x (List.mem_append_left _ hx)).1⟩,fun x hx=>?_⟩
  ·rcases newB B.mks (List.mem_cons_self ..) with z|z
   ·rw[z];exact fresh_back e12 hl
   ·exact fresh_back e12 (zaD (zaD z).1).1
  ·have h5:=(nw2 x (List.mem_append_left _ hx)).1
   rcases List.mem_append.mp z with z|z
   ·exact kn (M.known z) h5
   ·exact kn (M.knownR z) h5
  ·have h5:H5 x≠none:=by
    rcases List.mem_cons.mp hx with rfl|hx
    ·exact kn (L.known (List.mem_cons_self ..))
    ·exact kn (M.known hx)
   exact ⟨fun z=>h5 (by rw[z];exact hr),fun z=>h5 (nw2 x z).1⟩
 exact g
variable {H0:Hp} {l m1 r dr m2:Addr} {B:LA} {A1 A2:MA} {k1 k2:Nat}
theorem zfb (D:Duo CL CS CR C CC a b c H0 H l m1 B A1 r dr m2 A2 k1 k2) (h:Ev te σ H (.ref l)) (hk:k1≤4):EvD (tMeth CL "where" (zaK CL C CC) [] E te tNil) σ H (zaB k1):=fun H1 e1 Q q =>
 h H1 e1 _ fun H2 e2=>⟨l,B.dx,zgF m1 B,rfl,(D.ex (e1.trans e2)).lok.o,rfl,l,B.dx,_,m1,imK a b c 9,A1,sK a b c k1,_,rfl,(D.ex (e1.trans e2)).lok.o,rfl,(D.ex (e1.trans e2)).mc1,zcZ k1 hk,fun v H3 e3 hv=>q v H3 (e2.trans e3) hv⟩
theorem zeL (D:Duo CL CS CR C CC a b c H0 H l m1 B A1 r dr m2 A2 k1 k2) (h:Ev te σ H (.ref r)) (hk:k2≤4):EvD (tMeth CR "where" (zaK CR C CC) [] E te tNil) σ H (zaB k2):=fun H1 e1 Q q =>
 h H1 e1 _ fun H2 e2=>⟨r,dr,_,rfl,(D.ex (e1.trans e2)).ho,rfl,r,dr,_,m2,imK a b c 9,A2,sK a b c k2,_,rfl,(D.ex (e1.trans e2)).ho,rfl,(D.ex (e1.trans e2)).mc2,zcZ k2 hk,fun v H3 e3 hv=>q v H3 (e2.trans e3) hv⟩
/-- the frames under way,in the middle -/
theorem zgJ (D:Duo CL CS CR C CC a b c H0 H l m1 B A1 r dr m2 A2 k1 k2) (hk:k1=1∨k1=2):zfo (imK a b c 9) (zbR A1 (sK a b c k1)) [.tuple [.str (Str.ofString "e"), .str (Str.ofString "q"), .int ((k1:Int)+1)], .tuple [.str (Str.ofString "f"), .str (Str.ofString "m"), .int 5]]:=by
 have hl:=D.mc1.r.clrs.len
 rcases hk with rfl|rfl
 ·obtain ⟨p,hp⟩:∃ p,A1.cs=[p]:=List.length_eq_one_iff.mp hl
  unfold zbR
  rw[hp]
  exact .cons (df:=dfE) (p:=⟨0,Str.ofString "e",2,3⟩) rfl rfl (.cons (df:=dfF) (p:=⟨25,Str.ofString "f",5,8⟩) rfl rfl .nil)
 ·obtain ⟨p,hp⟩:∃ p,A1.cs=[p]:=List.length_eq_one_iff.mp hl
  unfold zbR
  rw[hp]
  exact .cons (df:=dfE) (p:=⟨8,Str.ofString "e",3,8⟩) rfl rfl (.cons (df:=dfF) (p:=⟨25,Str.ofString "f",5,8⟩) rfl rfl .nil)
theorem zdY (D:Duo CL CS CR C CC a b c H0 H l m1 B A1 r dr m2 A2 k1 k2) (h:Ev te σ H (.ref l)) (hk:k1=1∨k1=2):zbC (tMeth CL "frames" (zbI CL CS C CC) [] E te tNil) σ H [.tuple [.str (Str.ofString "e"), .str (Str.ofString "q"), .int ((k1:Int)+1)], .tuple [.str (Str.ofString "f"), .str (Str.ofString "m"), .int 5]]:=fun H1 e1 Q q =>
 h H1 e1 _ fun H2 e2=>by
  have D2:=D.ex (e1.trans e2)
  exact ⟨l,B.dx,zgF m1 B,rfl,D2.lok.o,rfl,l,m1,B,imK a b c 9,A1,sK a b c k1,ksK,nsK,k1,_,rfl,D2.lok,D2.mc1,zeh k1 (by omega),by rcases hk with rfl|rfl<;>exact (by decide:1≤1000),zgJ D2 hk,fun d H3 us hd e3 h3 hT=>q d H3 us (fresh_back e2 hd) (e2.trans e3) h3 hT⟩
theorem zfh (D:Duo CL CS CR C CC a b c H0 H l m1 B A1 r dr m2 A2 2 k2) (h:Ev te σ H (.ref l)) (ht:EvA tr σ H [.int 0]):zbC (tMeth CL "seen" (zeu CL CS C CC) [] E te tr) σ H [.tuple [.str (Str.ofString "x"),zdS, .int b], .tuple [.str (Str.ofString "y"),zdS, .int (b-c)]]:=fun H1 e1 Q q =>
 h H1 e1 _ fun H2 e2=>by
  have D2:=D.ex (e1.trans e2)
  refine ⟨l,B.dx,zgF m1 B,rfl,D2.lok.o,rfl,ht H2 (e1.trans e2) _ fun H3 e3=>?_⟩
  have D3:=D2.ex e3
  refine ⟨l,m1,B,imK a b c 9,A1,sK a b c 2,ksK,nsK,2,dfE,⟨8,Str.ofString "e",3,8⟩,rfl,D3.lok,D3.mc1,rfl,(by decide:1≤1000),by decide,rfl,rfl,fun y hy=>?_,?_,fun d H4 us hd e4 h4 hT=>q d H4 us (fresh_back (e2.trans e3) hd) ((e2.trans e3).trans e4) h4 ?_⟩
  ·simp only[nsK,List.mem_cons,List.not_mem_nil,or_false] at hy
   rcases hy with rfl|rfl
   ·exact ⟨by decide +kernel,(by decide:0<4)⟩
   ·exact ⟨by decide +kernel,(by decide:3<4)⟩
  ·decide +kernel
  ·rw[zfC] at hT
   rw[← zbJ b,← zbJ (b-c)]
   exact hT
theorem zcJ (D:Duo CL CS CR C CC a b c H0 H l m1 B A1 r dr m2 A2 4 k2) (h:Ev te σ H (.ref l)):zbC (tMeth CL "lasting" (zbg CL CS C CC) [] E te tNil) σ H [.tuple [.str (Str.ofString "f"), .str (Str.ofString "k"),zdS, .int 41]]:=fun H1 e1 Q q =>
 h H1 e1 _ fun H2 e2=>by
  have D2:=D.ex (e1.trans e2)
  refine ⟨l,B.dx,zgF m1 B,rfl,D2.lok.o,rfl,l,m1,B,imK a b c 9,A1,sK a b c 4,ksK,nsK,4,rfl,D2.lok,D2.mc1,rfl,by decide,fun d H3 us hd e3 h3 hT=>q d H3 us (fresh_back e2 hd) (e2.trans e3) h3 ?_⟩
  rw[← zbJ 41]
  exact hT
theorem zfT (D:Duo CL CS CR C CC a b c H0 H l m1 B A1 r dr m2 A2 k1 4) (h:Ev te σ H (.ref r)):zbC (tMeth CR "said" (zeU CR C CC) [] E te tNil) σ H [.int (a+(b-c)*a), .int 41]:=fun H1 e1 Q q =>
 h H1 e1 _ fun H2 e2=>by
  have D2:=D.ex (e1.trans e2)
  exact ⟨r,dr,_,rfl,D2.ho,rfl,r,dr,m2,imK a b c 9,A2,sK a b c 4,rfl,D2.ho,D2.mc2,fun p us H3 hp e3 h3 hT=>q p H3 us (fresh_back e2 hp) (e2.trans e3) h3 hT⟩
/-- a list aside of them -/
structure Spt (H:Hp) (B:LA) (m1:Addr) (A1:MA) (m2:Addr) (A2:MA) (p:Addr) (us:List V) (ds:List PyData):Prop where
 h:H p=some (.lst us)
 t:TdAll H us ds
 n1:p∉B.mks::own m1 A1
 n2:p∉own m2 A2
theorem Spt.ex {p:Addr} {us:List V} (Z:Spt H B m1 A1 m2 A2 p us ds) (e:Ex H H'):Spt H' B m1 A1 m2 A2 p us ds:=⟨e _ _ Z.h,TdAll.tx (Tx.of e) _ _ Z.t,Z.n1,Z.n2⟩
theorem Spt.mk2 (D:Duo CL CS CR C CC a b c H0 H l m1 B A1 r dr m2 A2 k1 k2) {p:Addr} {us:List V} (hp:H p=none) (h:H' p=some (.lst us)) (t:TdAll H' us ds):Spt H' B m1 A1 m2 A2 p us ds:=⟨h,t,fun z=>by
 rcases List.mem_cons.mp z with z|z
 ·exact D.lok.known (List.mem_cons_self ..) (z▸hp)
 ·exact D.mc1.known z hp,fun z=>D.mc2.known z hp⟩
theorem Spt.look {A':MA} {p:Addr} {us:List V} (Z:Spt H B m1 A1 m2 A2 p us ds) (D:Duo CL CS CR C CC a b c H0 H l m1 B A1 r dr m2 A2 k1 k2) (S:StL m1 B.mks H H' A1 A'):Spt H' B m1 A' m2 A2 p us ds:=⟨S.k.keep p _ Z.n1 Z.h,TdAll.tx (fun x xs hx=>S.k.keep x _ (fun z=>by
  rcases List.mem_cons.mp z with z|z
  ·obtain ⟨ms,h,_⟩:=D.lok.mks
   rw[z,h] at hx;cases hx
  ·exact D.mc1.notup hx z) hx) _ _ Z.t,fun z=>by
 rcases List.mem_cons.mp z with z|z
 ·exact Z.n1 (z▸List.mem_cons_self ..)
 ·rcases S.o p z with y|y
  ·exact Z.n1 (List.mem_cons_of_mem _ y)
  ·rw[Z.h] at y
   exact absurd y (by intro h;cases h),Z.n2⟩
theorem Spt.run {A':MA} {p:Addr} {us:List V} (Z:Spt H B m1 A1 m2 A2 p us ds) (D:Duo CL CS CR C CC a b c H0 H l m1 B A1 r dr m2 A2 k1 k2) (S:Stp m2 H H' A2 A'):Spt H' B m1 A1 m2 A' p us ds:=⟨S.k.keep p _ Z.n2 Z.h,TdAll.tx (S.tx D.mc2) _ _ Z.t,Z.n1,fun z=>by
 rcases S.o p z with y|y
 ·exact Z.n2 y
 ·rw[Z.h] at y;cases y⟩
/-- a step of both -/
theorem zhI {p:Addr} {us:List V} (D:Duo CL CS CR C CC a b c H0 H l m1 B A1 r dr m2 A2 k1 k1) (Z:Spt H B m1 A1 m2 A2 p us ds) (hb:zdf a b c) (hk:k1<4) (h1:∀ H',Ev ta σ H' (.ref l)) (h2:∀ H',Ev tb σ H' (.ref r)) {Q:VK} (q:∀ v H',((∃ A1 A2,Duo CL CS CR C CC a b c H0 H' l m1 B A1 r dr m2 A2 (k1+1) (k1+1)∧Spt H' B m1 A1 m2 A2 p us ds)∧Dp K H' v (.list [zaB (k1+1),zaB (k1+1)]))→Q v H') :
  tLst (tCons (tMeth CL "step" (zcA CL CS C CC) [] E1 ta tNil) (tCons (tMeth CR "next" (zcL CR C CC) [] E2 tb tNil) tNil)) σ H Q :=
 h1 H H (Ex.refl _) _ fun H2 e2=>by
  have D2:=D.ex e2
  refine ⟨l,B.dx,zgF m1 B,rfl,D2.lok.o,rfl,l,m1,B,imK a b c 9,A1,sK a b c k1,sK a b c (k1+1),ksK,nsK,k1,_,rfl,D2.lok,D2.mc1,D2.apt,by omega,zeh k1 hk,goK hb k1 hk _ (zaU (k1+1) (by omega) (by omega)),zcZ (k1+1) (by omega),fun v H3 A3 S ap M L hv=>h2 H3 H3 (Ex.refl _) _ fun H4 e4=>?_⟩
  have D4:=(D2.look S ap M L).ex e4
  have Z4:=((Z.ex e2).look D2 S).ex e4
  refine ⟨r,dr,_,rfl,D4.ho,rfl,r,dr,m2,imK a b c 9,A2,sK a b c k1,sK a b c (k1+1),_,rfl,D4.ho,D4.nr,D4.mc2,zeh k1 hk,goK hb k1 hk _ (zaU (k1+1) (by omega) (by omega)),zcZ (k1+1) (by omega),fun w H5 A5 S5 M5 hw=>⟨by show 2≤_;decide,fun p hp=>q _ _ ⟨⟨A3,A5,(D4.run S5 M5).ex (Ex.new hp),(Z4.run D4 S5).ex (Ex.new hp)⟩, .lst (sq_of upd_same) (.cons (Dp.ex (Ex.new hp) _ _ (Td.dp _ _ (Td.tx ?_ _ _ hv))) (.cons (Dp.ex (Ex.new hp) _ _ (Td.dp _ _ hw)) .nil))⟩⟩⟩
  exact (Tx.of e4).trans (S5.tx D4.mc2)
end
theorem zea:∀ k,(PyData.list [zaB k,zaB k]).depth<7∧zaF (.list [zaB k,zaB k])=true
 | 0|1|2|3|_+4=>by simp[zaB,PyData.depth,PyData.depthAll,zaF,wideAll]
def zcc:List PyData:=[zaB 0,zaB 1,zaB 2,zaB 3,zaB 4]
theorem zdg:∀ k,k≤4→zcc[k]?=some (zaB k)
 | 0,_|1,_|2,_|3,_|4,_=>rfl
def ze9:List PyData:=[.tuple [.str (Str.ofString "f"), .int 5, .int 3], .tuple [.str (Str.ofString "e"), .int 2, .int 3], .tuple [.str (Str.ofString "e"), .int 3, .int 8]]
theorem zev:∀ k,k<3→∃ zs,ze9[k]?=some (.tuple zs)∧PyData.tuple (zfK k)= .tuple ([.str (Str.ofString "fault"), .str (Str.ofString "tired")]++zs)∧zs≠[]∧zs.length=3
 | 0,_|1,_|2,_=>⟨_,rfl,rfl,(by intro h;cases h),rfl⟩
theorem zhU:∀ k,k<4→(PyData.tuple [.list [], .tuple (zfK k)]).depth<7∧zaF (.tuple [.list [], .tuple (zfK k)])=true
 | 0,_|1,_|2,_|3,_=>by simp[zfK,zbq,PyData.depth,PyData.depthAll,zaF,wideAll]
theorem in12:∀ k:Nat,k<4→inV (.int (k:Int)) [.int 1, .int 2]=true→k=1∨k=2
 | 0,_,h=>absurd h (by decide)
 | 1,_,_=> .inl rfl
 | 2,_,_=> .inr rfl
 | 3,_,h=>absurd h (by decide)
section
variable {K:PySem.W.Frag} {σ:L2.St} {H H':Hp} {te ta tb:TE} {tr:TA} {v:V} {D:Ends} {tu tz:TS} {E:XK} {i j l:Nat} {vs:List V}
theorem zbD {sp:Sp} (h:EvA tr σ H vs) (k:∀ H1,Ex H H1→sp (vs++[]) H1 (fun v H2=>tz D (σ.set i (some v)) H2) E):tSeq (tAsg (tCall sp [] E tr) (gName i)) tz D σ H:=h H (Ex.refl H) _ fun H1 e1=>k H1 e1
theorem zhH {L:List V→Prop} (h:ziC te σ H L) (k:∀ xs H1,L xs→Ex H H1→∃ x y z,xs=[x,y,z]∧tz D (((σ.set i (some x)).set j (some y)).set l (some z)) H1):tSeq (tAsg te (gLst K 3 (gCons (gName i) (gCons (gName j) (gCons (gName l) gNil))))) tz D σ H :=
 h H (Ex.refl H) _ fun p H1 xs hL hp e1 h1=>by
  obtain ⟨x,y,z,rfl,q⟩:=k xs H1 hL e1
  exact ⟨p,_,rfl,sq_of h1,rfl,x,[y,z],rfl,y,[z],rfl,z,[],rfl,rfl,q⟩
def In50 (v:V):Prop:=∃ z:Int,v= .int z ∧ -50≤z∧z≤49
theorem zeC (h:EvN te σ H fun v=>∃ z:Int,v= .int z∧0≤z∧z<100):EvN (tOp (rI0 fun i j=> .int (i-j)) te (tC (.int 50))) σ H In50 :=
 zhD h (fun _ _=>EvN.of ev_c) fun x y hx hy=>by
  obtain ⟨z,rfl,z0,z1⟩:=hx
  subst hy
  exact ⟨_,⟨z-50,rfl,by omega,by omega⟩,rv_I0⟩
end
section
variable {P:Program} {w:World} {K:PySem.W.Frag} {mg:Str→Option Value} {base:Heap} {C CC CR CS CL:Addr}
abbrev zbu:Stmt:=zaz 42
theorem zau:FnScope ["_law_script","_law_d","_law_turn","_law_k","_law_a","_law_b","_law_c","_law_image","_law_said","_law_tired","_law_limit","_law_looker","_law_runner","_law_spots"] ["_law_script"] (fnScope zbu):=fnScope_by (by decide +kernel)
def spLaw (K:PySem.W.Frag):Sp:=fun vs H Q _=>∃ (a:Addr) (ns:List Int),vs=[.ref a]∧Scr K H a ns∧∀ H',Q (.bl true) H'
theorem zit (T:zcC K mg) (c_q61:Cal P w K mg base 1 "_law_dice" (zf0 K) []) (c_q62:Cal P w K mg base 1 "_law_next" (zcX K) []) (c_q33:Cal P w K mg base 1 "_law_by_hand" zf4 []) (c_q64:Cal P w K mg base 7 "_law_like" (za5 K 7) [])
  (c_run:Cal P w K mg base 8 "run" zbH [.int 2000]) (k_run:CalK P w K mg base 8 "run" zbH 3 ["most"]) (k_q70:ziH P w K mg base 8 "Looker" CL (zfv C CC CL CS) 3 ["most"]) (k_q68:ziH P w K mg base 8 "Runner" CR (zfj C CC CR) 3 ["most"])
  (c_q40:Met P w K mg base 2 CL "where" (zaK CL C CC) []) (c_q38:Met P w K mg base 2 CR "where" (zaK CR C CC) []) (c_q28:Met P w K mg base 2 CL "frames" (zbI CL CS C CC) []) (c_q43:Met P w K mg base 3 CL "seen" (zeu CL CS C CC) [])
  (c_q50:Met P w K mg base 7 CL "step" (zcA CL CS C CC) []) (c_q42:Met P w K mg base 7 CR "next" (zcL CR C CC) []) (c_q21:Met P w K mg base 2 CL "lasting" (zbg CL CS C CC) []) (c_q48:Met P w K mg base 1 CR "said" (zeU CR C CC) [])
  {f:Addr} {fd:FuncData} (F:Def K mg "law" zbu f fd):FnOk P w K mg base C8.CX0 10 f fd ["_law_script"] (spLaw K):=by
 refine C8.fn0 F.fn zau (fun vs H Q E h=>?_) (fun cdv A outer s H vs Q E hr h=>?_)
 ·obtain ⟨_,_,rfl,_⟩:=h
  rfl
 ·obtain ⟨sc,ns,rfl,hS,q⟩:=h
  have m_range:=T.m_range
  refine ⟨_,(pss_cons (ps_set (i:=1) zau.nd rfl (.inr rfl) (C8.pe_c c_q61 hr (by first|decide|exact Nat.le_refl _|omega) (by rfl) (pa_cons (pv 0) pa_nil)))
   (pss_cons (ps_for PassesOwn.never rfl (pi_range1 (by rfl) m_range (pa_cons pe_int pa_nil)) (pg_name (i:=2) zau.nd rfl (.inl rfl)) (pss_cons (ps_asg (pe_lc (own:=[("_law_k",3)]) (g:=(gName 3)) (tt:=tYes) rfl zau.nd (pi_range1 (by rfl) m_range (pa_cons pe_int pa_nil)) (blkOk_by (N:=["_law_script","_law_d","_law_turn","_law_k","_law_a","_law_b","_law_c","_law_image","_law_said","_law_tired","_law_limit","_law_looker","_law_runner","_law_spots"]) (sc:=C8.fnScope zbu) (by decide +kernel)) (fun _ _ _ _ _=>pg_name (i:=3) zau.nd rfl (Or.inl rfl)) (fun _ _ _ _ _=>pts_nil) (fun _ _ _ _ _=>(pe_op op_sub (C8.pe_c c_q62 hr (by first|decide|exact Nat.le_refl _|omega) (by rfl) (pa_cons (pv 1) (pa_cons pe_int pa_nil))) pe_int))) (L2.pg_lst rfl (pgs_cons (pg_name (i:=4) zau.nd rfl (.inl rfl)) (pgs_cons (pg_name (i:=5) zau.nd rfl (.inl rfl)) (pgs_cons (pg_name (i:=6) zau.nd rfl (.inl rfl)) pgs_nil)))))
   (pss_cons (ps_set (i:=7) zau.nd rfl (.inl rfl) (C8.pe_c c_q33 hr (by first|decide|exact Nat.le_refl _|omega) (by rfl) (pa_cons (pv 4) (pa_cons (pv 5) (pa_cons (pv 6) pa_nil)))))
   (pss_cons (ps_set (i:=8) zau.nd rfl (.inl rfl) (pe_lst (pa_cons (pe_op op_add (pv 4) (pe_op op_mul (pe_op op_sub (pv 5) (pv 6)) (pv 4))) (pa_cons pe_int pa_nil))))
   (pss_cons (ps_if (pt_not (pt_val (C8.pe_c c_q64 hr (by first|decide|exact Nat.le_refl _|omega) (by rfl) (pa_cons (C8.pe_c c_run hr (by first|decide|exact Nat.le_refl _|omega) (by rfl) (pa_cons (pv 7) (pa_cons pe_str (pa_cons pe_str pa_nil)))) (pa_cons (pe_tup (pa_cons (pv 8) (pa_cons (pe_tup (pa_cons pe_str (pa_cons pe_bl pa_nil))) pa_nil))) pa_nil))))) (pss_one (ps_ret pe_bl)) pss_nil)
   (pss_cons (ps_if (pt_not (pt_val (C8.pe_c c_q64 hr (by first|decide|exact Nat.le_refl _|omega) (by rfl) (pa_cons (Wt.pe_cK k_run hr (by first|decide|exact Nat.le_refl _|omega) (by rfl) (pa_cons (pv 7) (pa_cons pe_str (pa_cons pe_str pa_nil))) (L2.pk_cons pe_int L2.pk_nil)) (pa_cons (pe_tup (pa_cons (pe_slice sl_list (pv 8) po_none (po_some pe_int)) (pa_cons (pe_tup (pa_cons pe_str (pa_cons pe_str (pa_cons pe_str (pa_cons pe_int (pa_cons pe_int pa_nil)))))) pa_nil))) pa_nil))))) (pss_one (ps_ret pe_bl)) pss_nil)
   (pss_cons (ps_set (i:=9) zau.nd rfl (.inl rfl) (pe_lst (pa_cons (pe_tup (pa_cons pe_str (pa_cons pe_int (pa_cons pe_int pa_nil)))) (pa_cons (pe_tup (pa_cons pe_str (pa_cons pe_int (pa_cons pe_int pa_nil)))) (pa_cons (pe_tup (pa_cons pe_str (pa_cons pe_int (pa_cons pe_int pa_nil)))) pa_nil)))))
   (pss_cons (ps_for PassesOwn.never rfl (pi_range1 (by rfl) m_range (pa_cons pe_int pa_nil)) (pg_name (i:=10) zau.nd rfl (.inl rfl)) (pss_one (ps_if (pt_not (pt_val (C8.pe_c c_q64 hr (by first|decide|exact Nat.le_refl _|omega) (by rfl) (pa_cons (Wt.pe_cK k_run hr (by first|decide|exact Nat.le_refl _|omega) (by rfl) (pa_cons (pv 7) (pa_cons pe_str (pa_cons pe_str pa_nil))) (L2.pk_cons (pv 10) L2.pk_nil)) (pa_cons (pe_tup (pa_cons (pe_lst pa_nil) (pa_cons (pe_op op_catA (pe_tup (pa_cons pe_str (pa_cons pe_str pa_nil))) (pe_ix ix_list (pv 9) (pv 10) (fun _ _=>rfl))) pa_nil))) pa_nil))))) (pss_one (ps_ret pe_bl)) pss_nil)))
   (pss_cons (ps_par (i:=11) (j:=12) rfl zau.nd rfl rfl (by decide) (by rfl) (by rfl) (pa_cons (Wt.pe_mkK k_q70 hr (by first|decide|exact Nat.le_refl _|omega) (by rfl) (pa_cons (pv 7) (pa_cons pe_str (pa_cons pe_str pa_nil))) (L2.pk_cons pe_int L2.pk_nil)) (pa_cons (Wt.pe_mkK k_q68 hr (by first|decide|exact Nat.le_refl _|omega) (by rfl) (pa_cons (pv 7) (pa_cons pe_str (pa_cons pe_str pa_nil))) (L2.pk_cons pe_int L2.pk_nil)) pa_nil)) (by rfl))
   (pss_cons (ps_set (i:=13) zau.nd rfl (.inl rfl) (pe_lst (pa_cons (pe_tup (pa_cons pe_str (pa_cons pe_int pa_nil))) (pa_cons (pe_tup (pa_cons pe_str (pa_cons pe_int pa_nil))) (pa_cons (pe_tup (pa_cons pe_str (pa_cons pe_int pa_nil))) (pa_cons (pe_tup (pa_cons pe_str (pa_cons pe_int pa_nil))) (pa_cons pe_non pa_nil)))))))
   (pss_cons (ps_for PassesOwn.never rfl (pi_range1 (by rfl) m_range (pa_cons pe_int pa_nil)) (pg_name (i:=3) zau.nd rfl (.inl rfl)) (pss_cons (ps_if (pt_not (pt_val (C8.pe_c c_q64 hr (by first|decide|exact Nat.le_refl _|omega) (by rfl) (pa_cons (pe_lst (pa_cons (C8.pe_mt0 c_q40 hr (by first|decide|exact Nat.le_refl _|omega) (pv 11)) (pa_cons (C8.pe_mt0 c_q38 hr (by first|decide|exact Nat.le_refl _|omega) (pv 12)) pa_nil))) (pa_cons (pe_op op_rep (pe_lst (pa_cons (pe_ix ix_list (pv 13) (pv 3) (fun _ _=>rfl)) pa_nil)) pe_int) pa_nil))))) (pss_one (ps_ret pe_bl)) pss_nil)
   (pss_cons (ps_if (PW.pt (pw_and (pt_cmpR op_in_seq (pv 3) (pe_tup (pa_cons pe_int (pa_cons pe_int pa_nil))) (by with_unfolding_all rfl)) (pw_and1 (pt_not (pt_val (C8.pe_c c_q64 hr (by first|decide|exact Nat.le_refl _|omega) (by rfl) (pa_cons (C8.pe_mt0 c_q28 hr (by first|decide|exact Nat.le_refl _|omega) (pv 11)) (pa_cons (pe_lst (pa_cons (pe_tup (pa_cons pe_str (pa_cons pe_str (pa_cons (pe_op op_add (pv 3) pe_int) pa_nil)))) (pa_cons (pe_tup (pa_cons pe_str (pa_cons pe_str (pa_cons pe_int pa_nil)))) pa_nil))) pa_nil)))))))) (pss_one (ps_ret pe_bl)) pss_nil)
   (pss_cons (ps_if (PW.pt (pw_and (pt_cmpR op_eq (pv 3) pe_int (nomark _)) (pw_and1 (pt_not (pt_val (C8.pe_c c_q64 hr (by first|decide|exact Nat.le_refl _|omega) (by rfl) (pa_cons (C8.pe_mt c_q43 hr (by first|decide|exact Nat.le_refl _|omega) (pv 11) (pa_cons pe_int pa_nil)) (pa_cons (pe_lst (pa_cons (pe_tup (pa_cons pe_str (pa_cons pe_str (pa_cons (pv 5) pa_nil)))) (pa_cons (pe_tup (pa_cons pe_str (pa_cons pe_str (pa_cons (pe_op op_sub (pv 5) (pv 6)) pa_nil)))) pa_nil))) pa_nil)))))))) (pss_one (ps_ret pe_bl)) pss_nil)
   (pss_one (ps_if (pt_not (pt_val (C8.pe_c c_q64 hr (by first|decide|exact Nat.le_refl _|omega) (by rfl) (pa_cons (pe_lst (pa_cons (C8.pe_mt0 c_q50 hr (by first|decide|exact Nat.le_refl _|omega) (pv 11)) (pa_cons (C8.pe_mt0 c_q42 hr (by first|decide|exact Nat.le_refl _|omega) (pv 12)) pa_nil))) (pa_cons (pe_op op_rep (pe_lst (pa_cons (pe_ix ix_list (pv 13) (pe_op op_add (pv 3) pe_int) (fun _ _=>rfl)) pa_nil)) pe_int) pa_nil))))) (pss_one (ps_ret pe_bl)) pss_nil))))))
   (pss_one (ps_if (PW.pt (pw_or (pt_not (pt_val (C8.pe_c c_q64 hr (by first|decide|exact Nat.le_refl _|omega) (by rfl) (pa_cons (C8.pe_mt0 c_q21 hr (by first|decide|exact Nat.le_refl _|omega) (pv 11)) (pa_cons (pe_lst (pa_cons (pe_tup (pa_cons pe_str (pa_cons pe_str (pa_cons pe_str (pa_cons pe_int pa_nil))))) pa_nil)) pa_nil))))) (pw_or1 (pt_not (pt_val (C8.pe_c c_q64 hr (by first|decide|exact Nat.le_refl _|omega) (by rfl) (pa_cons (C8.pe_mt0 c_q48 hr (by first|decide|exact Nat.le_refl _|omega) (pv 12)) (pa_cons (pv 8) pa_nil)))))))) (pss_one (ps_ret pe_bl)) pss_nil)))))))))))))
   (pss_one (ps_ret pe_bl)))),?_⟩
  refine zbD (ea_cons (ev_var rfl) ea_nil) fun H1 e1=>⟨sc,ns,rfl,hS.ex e1,fun d H2 hd e2 h2=>?_⟩
  have hD:Dc K H2 d sc ns:=⟨h2,hS.ex (e1.trans e2)⟩
  refine q_forR1 (n:=3) (ea_cons ev_c ea_nil) (by decide) (fun _ σ' H'=>∃ y2 y3 y4 y5 y6 y7 y8 y9 y10 y11 y12 y13,σ'=[some (.ref sc),some (.ref d),y2,y3,y4,y5,y6,y7,y8,y9,y10,y11,y12,y13]∧Dc K H' d sc ns)
   (fun H3 e3=>⟨_,_,_,_,_,_,_,_,_,_,_,_,rfl,hD.ex e3⟩) ?_ (fun σ' H' _=>s_ret ev_c fun H3 e3=>q H3)
  rintro tn σ' H3 htn ⟨y2,y3,y4,y5,y6,y7,y8,y9,y10,y11,y12,y13,rfl,hD3⟩
  refine zhH (zgi (n:=3) (P:=In50) ev_c (by decide) (fun _=>rfl) fun i H4 e4=>zeC (zgB (hD3.ex e4) (ev_var rfl) ev_c)) fun xs H4 hxs e4=>?_
  obtain ⟨hl,hx⟩:=hxs
  obtain ⟨va,vb,vc,rfl⟩:∃ va vb vc,xs=[va,vb,vc]:=by
   match xs,hl with
   | [x,y,z],_=>exact ⟨x,y,z,rfl⟩
  obtain ⟨a,rfl,a1,a2⟩:=hx va (by simp)
  obtain ⟨b,rfl,b1,b2⟩:=hx vb (by simp)
  obtain ⟨c,rfl,c1,c2⟩:=hx vc (by simp)
  have hB:zdf a b c:=⟨a1,a2,b1,b2,c1,c2⟩
  refine ⟨_,_,_,rfl,?_⟩
  dsimp only[List.set]
  have hD4:=hD3.ex e4
  refine zbD (ea_cons (ev_var rfl) (ea_cons (ev_var rfl) (ea_cons (ev_var rfl) ea_nil))) fun H5 e5=>⟨a,b,c,rfl,fun v H6 e6 hv=>?_⟩
  dsimp only[List.set]
  have hD6:=hD4.ex (e5.trans e6)
  refine q_asgL (xs:=[a+(b-c)*a,41].map V.int) (el_lst (ea_cons (ev_op (ev_var rfl) (ev_op (ev_op (ev_var rfl) (ev_var rfl) rv_I0) (ev_var rfl) (rv_I (.inr ⟨by omega,by omega⟩))) rv_I0) (ea_cons ev_c ea_nil)) (by show 2≤100000;decide)) fun ps H7 hps e7 h7=>?_
  dsimp only[List.set]
  have hD7:=hD6.ex e7
  have hv7:=Td.tx (Tx.of e7) _ _ hv
  have hs7:Dp K H7 (.ref ps) (.list [.int (a+(b-c)*a), .int 41]):= .lst (sq_of h7) (TdAll.dp _ _ (zaY [a+(b-c)*a,41]))
  refine q_when (b:=false) (zaM (zhi (zem hB) (ea_cons (ev_var rfl) (ea_cons ev_c (ea_cons ev_c ea_nil))) hv7) (ze4 (za4 (vx_V (ev_var rfl) hs7) (za4 (ziZ (zaf (zaa (zac ev_c) (zaa (zfR ev_c) zab)) (by show 2≤100000;decide))) zdd)) (by show 2≤100000;decide)) (by simp[PyData.depth,PyData.depthAll,ziW]) (by simp[zaF,wideAll,ziW])) (fun z=>by cases z) (fun _ H8 e8=>?_)
  have hv8:=Td.tx (Tx.of e8) _ _ hv7
  have h8:=e8 _ _ h7
  refine q_when (b:=false) (zaM (zen (zic hB) (ea_cons (ev_var rfl) (ea_cons ev_c (ea_cons ev_c ea_nil))) (ea_cons ev_c ea_nil) hv8) (ze4 (za4 (ziS (is:=[a+(b-c)*a]) (el_sl (K:=K) (lo:=none) (hi:=some 1) (ev_var rfl) eo_none (eo_some ev_c) (sq_of h8))) (za4 (ziZ (zaf (zaa (zac ev_c) (zaa (zac ev_c) (zaa (zac ev_c) (zaa (zae ev_c) (zaa (zae ev_c) zab))))) (by show 5≤100000;decide))) zdd)) (by show 2≤100000;decide)) (by simp[PyData.depth,PyData.depthAll,zfK,zbq]) (by simp[zaF,wideAll,zfK,zbq])) (fun z=>by cases z) (fun _ H9 e9=>?_)
  have hv9:=Td.tx (Tx.of e9) _ _ hv8
  refine zbp (ds:=ze9) (zat (zaa (zaf (zaa (zac ev_c) (zaa (zae ev_c) (zaa (zae ev_c) zab))) (by show 3≤100000;decide)) (zaa (zaf (zaa (zac ev_c) (zaa (zae ev_c) (zaa (zae ev_c) zab))) (by show 3≤100000;decide)) (zaa (zaf (zaa (zac ev_c) (zaa (zae ev_c) (zaa (zae ev_c) zab))) (by show 3≤100000;decide)) zab))) (by show 3≤100000;decide)) fun pt H10 ust hpt e10 h10 hT10=>?_
  dsimp only[List.set]
  have hv10:=Td.tx (Tx.of e10) _ _ hv9
  refine q_forR1 (n:=3) (ea_cons ev_c ea_nil) (by decide) (fun _ σ' H'=>∃ y10,σ'=[some (.ref sc),some (.ref d),some (.int (tn:Int)),y3,some (.int a),some (.int b),some (.int c),some v,some (.ref ps),some (.ref pt),y10,y11,y12,y13]∧Ex H10 H')
   (fun H11 e11=>⟨_,rfl,e11⟩) ?_ (fun σ' H11 p=>?_)
  ·rintro k σ' H11 hk ⟨y10,rfl,e11⟩
   have hk':k<3:=by omega
   obtain ⟨zs,z1,z2,z3,z4⟩:=zev k hk'
   obtain ⟨v2,g1,g2⟩:=za9 hT10 z1
   obtain ⟨o1,o2⟩:=zhU k (by omega)
   refine s_when (b:=false) (zaM (zen (zhm hB k hk') (ea_cons (ev_var rfl) (ea_cons ev_c (ea_cons ev_c ea_nil))) (ea_cons (ev_var rfl) ea_nil) (Td.tx (Tx.of e11) _ _ hv10)) (ze4 (za4 (zh2 zdd (by show 0≤100000;decide)) (za4 (ziZ (zef (zc4 (K:=K) (zaf (zaa (zac ev_c) (zaa (zac ev_c) zab)) (by show 2≤100000;decide)) (by intro h;cases h) (by show 2≤100;decide) (zaA (ev_op (ev_var rfl) (ev_var rfl) (rv_ixL (sq_of (e11 _ _ h10)) (atI_nat g1))) (Td.tx (Tx.of e11) _ _ g2)) z3 (by omega)) z2.symm)) zdd)) (by show 2≤100000;decide)) o1 o2) (fun z=>by cases z) (fun _ H12 e12=>⟨_,rfl,e11.trans e12⟩)
  obtain ⟨y10,rfl,e11⟩:=p
  have hv11:=Td.tx (Tx.of e11) _ _ hv10
  have hD11:=((((hD7.ex e8).ex e9).ex e10).ex e11)
  have hs11:=Dp.ex ((e8.trans e9).trans (e10.trans e11)) _ _ hs7
  refine zis (a:=a) (b:=b) (c:=c) (ea_cons (ev_var rfl) (ea_cons ev_c (ea_cons ev_c ea_nil))) (ea_cons ev_c ea_nil) (ea_cons (ev_var rfl) (ea_cons ev_c (ea_cons ev_c ea_nil))) (ea_cons ev_c ea_nil) hv11 fun l m1 B A1 r dr m2 A2 H12 Du=>?_
  dsimp only[List.set]
  refine zbp (ds:=zcc) (zat (zaa (zaf (zaa (zac ev_c) (zaa (zae ev_c) zab)) (by show 2≤100000;decide)) (zaa (zaf (zaa (zac ev_c) (zaa (zae ev_c) zab)) (by show 2≤100000;decide)) (zaa (zaf (zaa (zac ev_c) (zaa (zae ev_c) zab)) (by show 2≤100000;decide)) (zaa (zaf (zaa (zac ev_c) (zaa (zae ev_c) zab)) (by show 2≤100000;decide)) (zaa (zir ev_c) zab))))) (by show 5≤100000;decide)) fun pp H13 usp hpp e13 h13 hT13=>?_
  dsimp only[List.set]
  refine q_forR1 (n:=(4:Nat)) (ea_cons ev_c ea_nil) (by decide) (fun k σ' H'=>∃ y3 A1 A2,σ'=[some (.ref sc),some (.ref d),some (.int (tn:Int)),y3,some (.int a),some (.int b),some (.int c),some v,some (.ref ps),some (.ref pt),y10,some (.ref l),some (.ref r),some (.ref pp)]∧Duo CL CS CR C CC a b c H11 H' l m1 B A1 r dr m2 A2 k k∧Spt H' B m1 A1 m2 A2 pp usp zcc)
   (fun H14 e14=>⟨_,A1,A2,rfl,Du.ex (e13.trans e14),(Spt.mk2 Du hpp h13 hT13).ex e14⟩) ?_ (fun σ' H14 p=>?_)
  ·rintro k σ' H14 hk ⟨z3,A1,A2,rfl,D14,Z14⟩
   have hk':k<4:=by omega
   have spotE:∀ {H':Hp},Spt H' B m1 A1 m2 A2 pp usp zcc→zbC (tOp rRep (tLst (tCons (tOp (rIxL K) (tVar 13) (tVar 3)) tNil)) (tC (.int 2))) [some (.ref sc),some (.ref d),some (.int (tn:Int)),some (.int (k:Int)),some (.int a),some (.int b),some (.int c),some v,some (.ref ps),some (.ref pt),y10,some (.ref l),some (.ref r),some (.ref pp)] H' [zaB k,zaB k]:=fun {H'} Z=>by
    obtain ⟨v2,g1,g2⟩:=za9 Z.t (zdg k (by omega))
    exact zeF (zeD (k:=2) (zat (zaa (zaA (ev_op (ev_var rfl) (ev_var rfl) (rv_ixL (sq_of Z.h) (atI_nat g1))) g2) zab) (by show 1≤100000;decide)) ev_c rfl (by show 2≤100000;decide) (by decide)) rfl
   have spotF:∀ {H':Hp} {A1 A2:MA},Spt H' B m1 A1 m2 A2 pp usp zcc→zbC (tOp rRep (tLst (tCons (tOp (rIxL K) (tVar 13) (tOp (rI0 fun i j=> .int (i+j)) (tVar 3) (tC (.int 1)))) tNil)) (tC (.int 2))) [some (.ref sc),some (.ref d),some (.int (tn:Int)),some (.int (k:Int)),some (.int a),some (.int b),some (.int c),some v,some (.ref ps),some (.ref pt),y10,some (.ref l),some (.ref r),some (.ref pp)] H' [zaB (k+1),zaB (k+1)]:=fun {H' _ _} Z=>by
    obtain ⟨v2,g1,g2⟩:=za9 Z.t (zdg (k+1) (by omega))
    exact zeF (zeD (k:=2) (zat (zaa (zaA (ev_op (ev_var rfl) (ev_op (ev_var rfl) ev_c rv_I0) (rv_ixL (sq_of Z.h) (at_of (j:=k+1) (by omega) g1))) g2) zab) (by show 1≤100000;decide)) ev_c rfl (by show 2≤100000;decide) (by decide)) rfl
   obtain ⟨o1,o2⟩:=zea k
   refine q_when (b:=false) (zaM (zfc (zat (zaa (zfb D14 (ev_var rfl) (by omega)) (zaa (zeL D14 (ev_var rfl) (by omega)) zab)) (by show 2≤100000;decide))) (zfc (spotE Z14)) o1 o2) (fun z=>by cases z) (fun _ H15 e15=>?_)
   have D15:=D14.ex e15
   refine q_when (b:=false) (et_is (et_and (b:=false) (et_test (ev_inU (ev_var rfl) (eu_tup (ea_cons ev_c (ea_cons ev_c ea_nil)) (by show 2≤100000;decide)) rfl rfl)) fun h=>?_) (Bool.and_false _)) (fun z=>by cases z) (fun _ H16 e16=>?_)
   ·exact zaM (zfc (zdY D15 (ev_var rfl) (in12 k hk' h))) (zfc (zat (zaa (zaf (zaa (zac ev_c) (zaa (zac ev_c) (zaa (zae (ev_op (ev_var rfl) ev_c rv_I0)) zab))) (by show 3≤100000;decide)) (zaa (zaf (zaa (zac ev_c) (zaa (zac ev_c) (zaa (zae ev_c) zab))) (by show 3≤100000;decide)) zab)) (by show 2≤100000;decide))) (by simp[PyData.depth,PyData.depthAll]) (by simp[zaF,wideAll])
   have D16:=D15.ex e16
   refine q_when (b:=false) (et_is (et_and (b:=false) (et_test (ev_op (ev_var rfl) ev_c (rv_eq rfl))) fun h=>?_) (Bool.and_false _)) (fun z=>by cases z) (fun _ H17 e17=>?_)
   ·obtain rfl:k=2:=by
     have h2:=of_decide_eq_true h
     injection h2 with h2
     omega
    exact zaM (zfc (zfh D16 (ev_var rfl) (ea_cons ev_c ea_nil))) (zfc (zat (zaa (zaf (zaa (zac ev_c) (zaa (zac ev_c) (zaa (zae (ev_var rfl)) zab))) (by show 3≤100000;decide)) (zaa (zaf (zaa (zac ev_c) (zaa (zac ev_c) (zaa (zae (ev_op (ev_var rfl) (ev_var rfl) rv_I0)) zab))) (by show 3≤100000;decide)) zab)) (by show 2≤100000;decide))) (by simp[PyData.depth,PyData.depthAll,zdS]) (by simp[zaF,wideAll,zdS])
   have D17:=D16.ex e17
   have Z17:=((Z14.ex e15).ex e16).ex e17
   refine zhE (fun P h=>zhI (K:=K) D17 Z17 hB hk' (fun _=>ev_var rfl) (fun _=>ev_var rfl) h) fun w H18 ⟨⟨A3,A4,D18,Z18⟩,hw⟩=>?_
   obtain ⟨o3,o4⟩:=zea (k+1)
   exact ⟨_,hw,zfc (spotF Z18),o3,o4,fun H19 e19=>⟨_,A3,A4,rfl,D18.ex e19,Z18.ex e19⟩⟩
  obtain ⟨z3,A3,A4,rfl,D14,Z14⟩:=p
  refine s_when (b:=false) (et_is (et_or (a:=false) (b:=false) (zaM (zfc (zcJ D14 (ev_var rfl))) (zfc (zat (zaa (zaf (zaa (zac ev_c) (zaa (zac ev_c) (zaa (zac ev_c) (zaa (zae ev_c) zab)))) (by show 4≤100000;decide)) zab) (by show 1≤100000;decide))) (by simp[PyData.depth,PyData.depthAll,zdS]) (by simp[zaF,wideAll,zdS])) fun _=>zaM (zfc (zfT D14 (ev_var rfl))) (vx_V (ev_var rfl) (Dp.ex D14.e _ _ hs11)) (by simp[PyData.depth,PyData.depthAll]) (by simp[zaF,wideAll])) rfl) (fun z=>by cases z) (fun _ H15 e15=>⟨_,_,_,_,_,_,_,_,_,_,_,_,rfl,hD11.ex (D14.e.trans e15)⟩)
end
open C8 (Def Cal Met Mak cal0 fnScope_by fnScope)
abbrev zfE:Stmt:=zhg
abbrev zbv:Stmt:=zgP
abbrev zfi:Stmt:=zdQ
abbrev zbt:Stmt:=zgR
theorem scr_of {K:PySem.W.Frag} {H:Hp} {a:Addr} {ns:List Int} (hl:ns.length≤63) (o:Only H) (h:SqL K H a (ns.map V.int)):Scr K H a ns:=by
 refine ⟨hl,fun H' f=>?_⟩
 rcases h with (h|⟨ob,h⟩)|h
 ·rcases o a with z|⟨ob,xs,z⟩
  ·rw[z] at h
   cases h
  ·rw[z] at h
   cases h
 ·exact .inl (.inr ⟨ob,f a ob _ h⟩)
 ·exact .inr h
def zii:Value→Option V
 | .str x _=>some (.str x)
 | .int i _=>some (.int i)
 | _=>none
theorem zck:∀ (us:List Value) (ws:List V),us.map zii=ws.map some→Vals ws us
 | [],[],_=> .nil
 | [],_::_,h=>by cases h
 | _::_,[],h=>by cases h
 | u::us,w::ws,h=>by
  rw[List.map_cons,List.map_cons] at h
  injection h with h1 h2
  refine .cons ?_ (zck us ws h2)
  cases u with
  | str x t =>
   have e:V.str x=w:=Option.some.inj h1
   subst e
   exact ⟨t,rfl⟩
  | int x t =>
   have e:V.int x=w:=Option.some.inj h1
   subst e
   exact ⟨t,rfl⟩
  | _=>cases h1
theorem zcu {K:PySem.W.Frag} {a:Addr} {od:Option Addr} {its:Array Value} {n:Nat} {sl:Array (Option Value)} {ws:List V} (l:K.lookup a=some ⟨.type "tuple",od, .seq its n,sl⟩) (v:its.toList.map zii=ws.map some) (hl:ws.length≤1000) (H:Hp):SqT K H a ws:=by
 have r:=zck _ _ v
 refine .inr ⟨_,its,n,l,rfl,rfl,?_,r⟩
 have e:=r.length
 rw[← Array.length_toList,← e]
 exact Nat.le_of_lt (small1000 hl)
theorem zhG {K:PySem.W.Frag} {kws:List (Str×V)} {f:Addr} {fd:FuncData} (F:FunD K "run" "run" (C8.fnArgs zbb) (C8.fnBody zbb) (C8.fnScope zbb) [] [("most", .int 2000)] f fd):(∃ ds,Vals [V.int 2000] ds∧Binds K fd ["image","file","name","most"] ds)∧∃ g:List Value→List Value→List Value,KBn K fd ["image","file","name","most"] 3 ["most"] g (fun vs zs=>vs++zs):=by
 refine ⟨F.binds0 3 (by intro h;cases h) rfl fun D doc pm an cdv ct us ks h1 h2=>?_,?_⟩
 ·match us,ks,h1,h2 with
  | [_,_,_],[_],_,_=>exact ⟨_,_,_,_,_,_,rfl,rfl,rfl⟩
 ·obtain ⟨mv,h⟩:=F.kbinds0 (ps:=["image","file","name","most"]) 3 ["most"] [] (fun us _ ws=>us++ws) (by intro h;cases h) (fun _ h=>by cases h) (fun r1 _ r3=>r1.append r3) fun D doc pm an cdv ct us mv ws h1 h2 h3=>by
   match us,mv,ws,h1,h2,h3 with
   | [_,_,_],[],[_],_,_,_=>exact rfl
  exact ⟨_,h⟩
theorem zbz {K:PySem.W.Frag} {kws:List (Str×V)} {f:Addr} {fd:FuncData} (F:FunD K "__init__" "Runner.__init__" (C8.fnArgs zbv) (C8.fnBody zbv) (C8.fnScope zbv) [] [("most", .int 2000)] f fd):(∃ ds,Vals [V.int 2000] ds∧Binds K fd ["self","image","file","name","most"] ds)∧∃ g:List Value→List Value→List Value,KBn K fd ["self","image","file","name","most"] 4 ["most"] g (fun vs zs=>vs++zs):=by
 refine ⟨F.binds0 4 (by intro h;cases h) rfl fun D doc pm an cdv ct us ks h1 h2=>?_,?_⟩
 ·match us,ks,h1,h2 with
  | [_,_,_,_],[_],_,_=>exact ⟨_,_,_,_,_,_,rfl,rfl,rfl⟩
 ·obtain ⟨mv,h⟩:=F.kbinds0 (ps:=["self","image","file","name","most"]) 4 ["most"] [] (fun us _ ws=>us++ws) (by intro h;cases h) (fun _ h=>by cases h) (fun r1 _ r3=>r1.append r3) fun D doc pm an cdv ct us mv ws h1 h2 h3=>by
   match us,mv,ws,h1,h2,h3 with
   | [_,_,_,_],[],[_],_,_,_=>exact rfl
  exact ⟨_,h⟩
theorem zby {K:PySem.W.Frag} {kws:List (Str×V)} {f:Addr} {fd:FuncData} (F:FunD K "__init__" "Looker.__init__" (C8.fnArgs zbt) (C8.fnBody zbt) (C8.fnScope zbt) [] [("most", .int 2000)] f fd):(∃ ds,Vals [V.int 2000] ds∧Binds K fd ["self","image","file","name","most"] ds)∧∃ g:List Value→List Value→List Value,KBn K fd ["self","image","file","name","most"] 4 ["most"] g (fun vs zs=>vs++zs):=by
 refine ⟨F.binds0 4 (by intro h;cases h) rfl fun D doc pm an cdv ct us ks h1 h2=>?_,?_⟩
 ·match us,ks,h1,h2 with
  | [_,_,_,_],[_],_,_=>exact ⟨_,_,_,_,_,_,rfl,rfl,rfl⟩
 ·obtain ⟨mv,h⟩:=F.kbinds0 (ps:=["self","image","file","name","most"]) 4 ["most"] [] (fun us _ ws=>us++ws) (by intro h;cases h) (fun _ h=>by cases h) (fun r1 _ r3=>r1.append r3) fun D doc pm an cdv ct us mv ws h1 h2 h3=>by
   match us,mv,ws,h1,h2,h3 with
   | [_,_,_,_],[],[_],_,_,_=>exact rfl
  exact ⟨_,h⟩
theorem all_mk {l:PySem.W.OpenLaw} {w:World} {K:PySem.W.Frag} {h:Heap} {mg:Str→Option Value} {fa:Addr} (X:K.In h) (G:h.Ns mainGlobals mg) (hfa:mg "law"=some (.ref fa))
  {od_q75 an_q75:Option Addr} {sl_q75:Array (Option Value)} {oc_q75 kV_q75 dc_q75 pm_q75 cd_q75 ct_q75:Value} {f_q75:Addr}
  (a_q75:PySem.W.nsIn K mainGlobals "done"=some (some (.ref f_q75))) (l_q75:K.lookup f_q75=some ⟨oc_q75,od_q75, .func (PySem.W.fnOf "done" "done" (C8.fnArgs zdW) (C8.fnBody zdW) (C8.fnScope zdW) .none kV_q75 dc_q75 pm_q75 an_q75 cd_q75 ct_q75),sl_q75⟩)
  (c_q75:PySem.W.codeIn K cd_q75 "done"=true) (k_q75:PySem.W.keepIn K (.ref f_q75)=true)
  {od_q57 an_q57:Option Addr} {sl_q57:Array (Option Value)} {oc_q57 kV_q57 dc_q57 pm_q57 cd_q57 ct_q57:Value} {f_q57:Addr}
  (a_q57:PySem.W.nsIn K mainGlobals "trouble_of"=some (some (.ref f_q57))) (l_q57:K.lookup f_q57=some ⟨oc_q57,od_q57, .func (PySem.W.fnOf "trouble_of" "trouble_of" (C8.fnArgs zd3) (C8.fnBody zd3) (C8.fnScope zd3) .none kV_q57 dc_q57 pm_q57 an_q57 cd_q57 ct_q57),sl_q57⟩)
  (c_q57:PySem.W.codeIn K cd_q57 "trouble_of"=true) (k_q57:PySem.W.keepIn K (.ref f_q57)=true)
  {od_q53 an_q53:Option Addr} {sl_q53:Array (Option Value)} {oc_q53 kV_q53 dc_q53 pm_q53 cd_q53 ct_q53:Value} {f_q53:Addr}
  (a_q53:PySem.W.nsIn K mainGlobals "told_worth"=some (some (.ref f_q53))) (l_q53:K.lookup f_q53=some ⟨oc_q53,od_q53, .func (PySem.W.fnOf "told_worth" "told_worth" (C8.fnArgs zdU) (C8.fnBody zdU) (C8.fnScope zdU) .none kV_q53 dc_q53 pm_q53 an_q53 cd_q53 ct_q53),sl_q53⟩)
  (c_q53:PySem.W.codeIn K cd_q53 "told_worth"=true) (k_q53:PySem.W.keepIn K (.ref f_q53)=true)
  {od_q60 an_q60:Option Addr} {sl_q60:Array (Option Value)} {oc_q60 kV_q60 dc_q60 pm_q60 cd_q60 ct_q60:Value} {f_q60:Addr}
  (a_q60:PySem.W.nsIn K mainGlobals "is_between"=some (some (.ref f_q60))) (l_q60:K.lookup f_q60=some ⟨oc_q60,od_q60, .func (PySem.W.fnOf "is_between" "is_between" (C8.fnArgs zdH) (C8.fnBody zdH) (C8.fnScope zdH) .none kV_q60 dc_q60 pm_q60 an_q60 cd_q60 ct_q60),sl_q60⟩)
  (c_q60:PySem.W.codeIn K cd_q60 "is_between"=true) (k_q60:PySem.W.keepIn K (.ref f_q60)=true)
  {od_q32 an_q32:Option Addr} {sl_q32:Array (Option Value)} {oc_q32 kV_q32 dc_q32 pm_q32 cd_q32 ct_q32:Value} {f_q32:Addr}
  (a_q32:PySem.W.nsIn K mainGlobals "number_to_run"=some (some (.ref f_q32))) (l_q32:K.lookup f_q32=some ⟨oc_q32,od_q32, .func (PySem.W.fnOf "number_to_run" "number_to_run" (C8.fnArgs zdx) (C8.fnBody zdx) (C8.fnScope zdx) .none kV_q32 dc_q32 pm_q32 an_q32 cd_q32 ct_q32),sl_q32⟩)
  (c_q32:PySem.W.codeIn K cd_q32 "number_to_run"=true) (k_q32:PySem.W.keepIn K (.ref f_q32)=true)
  {od_q59 an_q59:Option Addr} {sl_q59:Array (Option Value)} {oc_q59 kV_q59 dc_q59 pm_q59 cd_q59 ct_q59:Value} {f_q59:Addr}
  (a_q59:PySem.W.nsIn K mainGlobals "rows_begun"=some (some (.ref f_q59))) (l_q59:K.lookup f_q59=some ⟨oc_q59,od_q59, .func (PySem.W.fnOf "rows_begun" "rows_begun" (C8.fnArgs zcB) (C8.fnBody zcB) (C8.fnScope zcB) .none kV_q59 dc_q59 pm_q59 an_q59 cd_q59 ct_q59),sl_q59⟩)
  (c_q59:PySem.W.codeIn K cd_q59 "rows_begun"=true) (k_q59:PySem.W.keepIn K (.ref f_q59)=true)
  {od_q26 an_q26:Option Addr} {sl_q26:Array (Option Value)} {oc_q26 kV_q26 dc_q26 pm_q26 cd_q26 ct_q26:Value} {f_q26:Addr}
  (a_q26:PySem.W.nsIn K mainGlobals "rows_by_place"=some (some (.ref f_q26))) (l_q26:K.lookup f_q26=some ⟨oc_q26,od_q26, .func (PySem.W.fnOf "rows_by_place" "rows_by_place" (C8.fnArgs zdG) (C8.fnBody zdG) (C8.fnScope zdG) .none kV_q26 dc_q26 pm_q26 an_q26 cd_q26 ct_q26),sl_q26⟩)
  (c_q26:PySem.W.codeIn K cd_q26 "rows_by_place"=true) (k_q26:PySem.W.keepIn K (.ref f_q26)=true)
  {od_q61 an_q61:Option Addr} {sl_q61:Array (Option Value)} {oc_q61 kV_q61 dc_q61 pm_q61 cd_q61 ct_q61:Value} {f_q61:Addr}
  (a_q61:PySem.W.nsIn K mainGlobals "_law_dice"=some (some (.ref f_q61))) (l_q61:K.lookup f_q61=some ⟨oc_q61,od_q61, .func (PySem.W.fnOf "_law_dice" "_law_dice" (C8.fnArgs zdr) (C8.fnBody zdr) (C8.fnScope zdr) .none kV_q61 dc_q61 pm_q61 an_q61 cd_q61 ct_q61),sl_q61⟩)
  (c_q61:PySem.W.codeIn K cd_q61 "_law_dice"=true) (k_q61:PySem.W.keepIn K (.ref f_q61)=true)
  {od_q62 an_q62:Option Addr} {sl_q62:Array (Option Value)} {oc_q62 kV_q62 dc_q62 pm_q62 cd_q62 ct_q62:Value} {f_q62:Addr}
  (a_q62:PySem.W.nsIn K mainGlobals "_law_next"=some (some (.ref f_q62))) (l_q62:K.lookup f_q62=some ⟨oc_q62,od_q62, .func (PySem.W.fnOf "_law_next" "_law_next" (C8.fnArgs zdF) (C8.fnBody zdF) (C8.fnScope zdF) .none kV_q62 dc_q62 pm_q62 an_q62 cd_q62 ct_q62),sl_q62⟩)
  (c_q62:PySem.W.codeIn K cd_q62 "_law_next"=true) (k_q62:PySem.W.keepIn K (.ref f_q62)=true)
  {od_q64 an_q64:Option Addr} {sl_q64:Array (Option Value)} {oc_q64 kV_q64 dc_q64 pm_q64 cd_q64 ct_q64:Value} {f_q64:Addr}
  (a_q64:PySem.W.nsIn K mainGlobals "_law_like"=some (some (.ref f_q64))) (l_q64:K.lookup f_q64=some ⟨oc_q64,od_q64, .func (PySem.W.fnOf "_law_like" "_law_like" (C8.fnArgs zcb) (C8.fnBody zcb) (C8.fnScope zcb) .none kV_q64 dc_q64 pm_q64 an_q64 cd_q64 ct_q64),sl_q64⟩)
  (c_q64:PySem.W.codeIn K cd_q64 "_law_like"=true) (k_q64:PySem.W.keepIn K (.ref f_q64)=true)
  {od_q33 an_q33:Option Addr} {sl_q33:Array (Option Value)} {oc_q33 kV_q33 dc_q33 pm_q33 cd_q33 ct_q33:Value} {f_q33:Addr}
  (a_q33:PySem.W.nsIn K mainGlobals "_law_by_hand"=some (some (.ref f_q33))) (l_q33:K.lookup f_q33=some ⟨oc_q33,od_q33, .func (PySem.W.fnOf "_law_by_hand" "_law_by_hand" (C8.fnArgs zdn) (C8.fnBody zdn) (C8.fnScope zdn) .none kV_q33 dc_q33 pm_q33 an_q33 cd_q33 ct_q33),sl_q33⟩)
  (c_q33:PySem.W.codeIn K cd_q33 "_law_by_hand"=true) (k_q33:PySem.W.keepIn K (.ref f_q33)=true)
  {od_law an_law:Option Addr} {sl_law:Array (Option Value)} {oc_law kV_law dc_law pm_law cd_law ct_law:Value} {f_law:Addr}
  (a_law:PySem.W.nsIn K mainGlobals "law"=some (some (.ref f_law))) (l_law:K.lookup f_law=some ⟨oc_law,od_law, .func (PySem.W.fnOf "law" "law" (C8.fnArgs zbu) (C8.fnBody zbu) (C8.fnScope zbu) .none kV_law dc_law pm_law an_law cd_law ct_law),sl_law⟩)
  (c_law:PySem.W.codeIn K cd_law "law"=true) (k_law:PySem.W.keepIn K (.ref f_law)=true)
  {od_run an_run:Option Addr} {sl_run:Array (Option Value)} {oc_run kV_run dc_run pm_run cd_run ct_run:Value} {f_run:Addr}
  (a_run:PySem.W.nsIn K mainGlobals "run"=some (some (.ref f_run))) (l_run:K.lookup f_run=some ⟨oc_run,od_run, .func (PySem.W.fnOf "run" "run" (C8.fnArgs zbb) (C8.fnBody zbb) (C8.fnScope zbb) .none kV_run dc_run pm_run an_run cd_run ct_run),sl_run⟩)
  (c_run:PySem.W.codeIn K cd_run "run"=true) (k_run:PySem.W.keepIn K (.ref f_run)=true)
  {C_Caller:Addr} (g_Caller:PySem.W.nsIn K mainGlobals "Caller"=some (some (.ref C_Caller))) (pg_Caller:PySem.W.plainGet K C_Caller Str.empty=true) (hd_Caller:PySem.W.hasDictIn K C_Caller=true) (po_Caller:PySem.W.plainOver K C_Caller=true) (sa_Caller:PySem.W.findIn K (.ref C_Caller) "__setattr__"=some (some (.builtin "object.__setattr__"))) (mk_Caller:PySem.W.makesIn K C_Caller=true) (kp_Caller:PySem.W.keepIn K (.ref C_Caller)=true) (na_Caller_number:PySem.W.findIn K (.ref C_Caller) (Str.ofString "number")=some none) (na_Caller_call:PySem.W.findIn K (.ref C_Caller) (Str.ofString "call")=some none) (na_Caller_at:PySem.W.findIn K (.ref C_Caller) (Str.ofString "at")=some none) (na_Caller_cells:PySem.W.findIn K (.ref C_Caller) (Str.ofString "cells")=some none) (na_Caller_pile:PySem.W.findIn K (.ref C_Caller) (Str.ofString "pile")=some none)
  {C_Machine:Addr} (g_Machine:PySem.W.nsIn K mainGlobals "Machine"=some (some (.ref C_Machine))) (pg_Machine:PySem.W.plainGet K C_Machine Str.empty=true) (hd_Machine:PySem.W.hasDictIn K C_Machine=true) (po_Machine:PySem.W.plainOver K C_Machine=true) (sa_Machine:PySem.W.findIn K (.ref C_Machine) "__setattr__"=some (some (.builtin "object.__setattr__"))) (mk_Machine:PySem.W.makesIn K C_Machine=true) (kp_Machine:PySem.W.keepIn K (.ref C_Machine)=true) (na_Machine_number:PySem.W.findIn K (.ref C_Machine) (Str.ofString "number")=some none) (na_Machine_most:PySem.W.findIn K (.ref C_Machine) (Str.ofString "most")=some none) (na_Machine_code:PySem.W.findIn K (.ref C_Machine) (Str.ofString "code")=some none) (na_Machine_places:PySem.W.findIn K (.ref C_Machine) (Str.ofString "places")=some none) (na_Machine_defs:PySem.W.findIn K (.ref C_Machine) (Str.ofString "defs")=some none) (na_Machine_numbers:PySem.W.findIn K (.ref C_Machine) (Str.ofString "numbers")=some none) (na_Machine_kept:PySem.W.findIn K (.ref C_Machine) (Str.ofString "kept")=some none) (na_Machine_at:PySem.W.findIn K (.ref C_Machine) (Str.ofString "at")=some none) (na_Machine_cells:PySem.W.findIn K (.ref C_Machine) (Str.ofString "cells")=some none) (na_Machine_pile:PySem.W.findIn K (.ref C_Machine) (Str.ofString "pile")=some none) (na_Machine_callers:PySem.W.findIn K (.ref C_Machine) (Str.ofString "callers")=some none) (na_Machine_call:PySem.W.findIn K (.ref C_Machine) (Str.ofString "call")=some none) (na_Machine_calls:PySem.W.findIn K (.ref C_Machine) (Str.ofString "calls")=some none) (na_Machine_began:PySem.W.findIn K (.ref C_Machine) (Str.ofString "began")=some none) (na_Machine_spoken:PySem.W.findIn K (.ref C_Machine) (Str.ofString "spoken")=some none) (na_Machine_ended:PySem.W.findIn K (.ref C_Machine) (Str.ofString "ended")=some none)
  {C_Runner:Addr} (g_Runner:PySem.W.nsIn K mainGlobals "Runner"=some (some (.ref C_Runner))) (pg_Runner:PySem.W.plainGet K C_Runner Str.empty=true) (hd_Runner:PySem.W.hasDictIn K C_Runner=true) (po_Runner:PySem.W.plainOver K C_Runner=true) (sa_Runner:PySem.W.findIn K (.ref C_Runner) "__setattr__"=some (some (.builtin "object.__setattr__"))) (mk_Runner:PySem.W.makesIn K C_Runner=true) (kp_Runner:PySem.W.keepIn K (.ref C_Runner)=true) (na_Runner_machine:PySem.W.findIn K (.ref C_Runner) (Str.ofString "machine")=some none)
  {C_Sheet:Addr} (g_Sheet:PySem.W.nsIn K mainGlobals "Sheet"=some (some (.ref C_Sheet))) (pg_Sheet:PySem.W.plainGet K C_Sheet Str.empty=true) (hd_Sheet:PySem.W.hasDictIn K C_Sheet=true) (po_Sheet:PySem.W.plainOver K C_Sheet=true) (sa_Sheet:PySem.W.findIn K (.ref C_Sheet) "__setattr__"=some (some (.builtin "object.__setattr__"))) (mk_Sheet:PySem.W.makesIn K C_Sheet=true) (kp_Sheet:PySem.W.keepIn K (.ref C_Sheet)=true) (na_Sheet_defs:PySem.W.findIn K (.ref C_Sheet) (Str.ofString "defs")=some none) (na_Sheet_names:PySem.W.findIn K (.ref C_Sheet) (Str.ofString "names")=some none) (na_Sheet_own:PySem.W.findIn K (.ref C_Sheet) (Str.ofString "own")=some none) (na_Sheet_uses:PySem.W.findIn K (.ref C_Sheet) (Str.ofString "uses")=some none)
  {C_Looker:Addr} (g_Looker:PySem.W.nsIn K mainGlobals "Looker"=some (some (.ref C_Looker))) (pg_Looker:PySem.W.plainGet K C_Looker Str.empty=true) (hd_Looker:PySem.W.hasDictIn K C_Looker=true) (po_Looker:PySem.W.plainOver K C_Looker=true) (sa_Looker:PySem.W.findIn K (.ref C_Looker) "__setattr__"=some (some (.builtin "object.__setattr__"))) (mk_Looker:PySem.W.makesIn K C_Looker=true) (kp_Looker:PySem.W.keepIn K (.ref C_Looker)=true) (na_Looker_machine:PySem.W.findIn K (.ref C_Looker) (Str.ofString "machine")=some none) (na_Looker_sheet:PySem.W.findIn K (.ref C_Looker) (Str.ofString "sheet")=some none) (na_Looker_keeps:PySem.W.findIn K (.ref C_Looker) (Str.ofString "keeps")=some none) (na_Looker_rows:PySem.W.findIn K (.ref C_Looker) (Str.ofString "rows")=some none) (na_Looker_marks:PySem.W.findIn K (.ref C_Looker) (Str.ofString "marks")=some none) (na_Looker_held:PySem.W.findIn K (.ref C_Looker) (Str.ofString "held")=some none)
  {od_q45 an_q45:Option Addr} {sl_q45:Array (Option Value)} {oc_q45 kV_q45 dc_q45 pm_q45 cd_q45 ct_q45:Value} {f_q45:Addr}
  (m_q45:PySem.W.findIn K (.ref C_Caller) "__init__"=some (some (.ref f_q45))) (i_q45:PySem.W.isFn K (.ref f_q45)=true) (l_q45:K.lookup f_q45=some ⟨oc_q45,od_q45, .func (PySem.W.fnOf "__init__" "Caller.__init__" (C8.fnArgs zdV) (C8.fnBody zdV) (C8.fnScope zdV) .none kV_q45 dc_q45 pm_q45 an_q45 cd_q45 ct_q45),sl_q45⟩)
  (c_q45:PySem.W.codeIn K cd_q45 "Caller.__init__"=true) (k_q45:PySem.W.keepIn K (.ref f_q45)=true)
  {od_q29 an_q29:Option Addr} {sl_q29:Array (Option Value)} {oc_q29 kV_q29 dc_q29 pm_q29 cd_q29 ct_q29:Value} {f_q29:Addr}
  (m_q29:PySem.W.findIn K (.ref C_Machine) "fault"=some (some (.ref f_q29))) (i_q29:PySem.W.isFn K (.ref f_q29)=true) (l_q29:K.lookup f_q29=some ⟨oc_q29,od_q29, .func (PySem.W.fnOf "fault" "Machine.fault" (C8.fnArgs zdq) (C8.fnBody zdq) (C8.fnScope zdq) .none kV_q29 dc_q29 pm_q29 an_q29 cd_q29 ct_q29),sl_q29⟩)
  (c_q29:PySem.W.codeIn K cd_q29 "Machine.fault"=true) (k_q29:PySem.W.keepIn K (.ref f_q29)=true)
  {od_q25 an_q25:Option Addr} {sl_q25:Array (Option Value)} {oc_q25 kV_q25 dc_q25 pm_q25 cd_q25 ct_q25:Value} {f_q25:Addr}
  (m_q25:PySem.W.findIn K (.ref C_Machine) "end_by"=some (some (.ref f_q25))) (i_q25:PySem.W.isFn K (.ref f_q25)=true) (l_q25:K.lookup f_q25=some ⟨oc_q25,od_q25, .func (PySem.W.fnOf "end_by" "Machine.end_by" (C8.fnArgs zdT) (C8.fnBody zdT) (C8.fnScope zdT) .none kV_q25 dc_q25 pm_q25 an_q25 cd_q25 ct_q25),sl_q25⟩)
  (c_q25:PySem.W.codeIn K cd_q25 "Machine.end_by"=true) (k_q25:PySem.W.keepIn K (.ref f_q25)=true)
  {od_q49 an_q49:Option Addr} {sl_q49:Array (Option Value)} {oc_q49 kV_q49 dc_q49 pm_q49 cd_q49 ct_q49:Value} {f_q49:Addr}
  (m_q49:PySem.W.findIn K (.ref C_Machine) "say"=some (some (.ref f_q49))) (i_q49:PySem.W.isFn K (.ref f_q49)=true) (l_q49:K.lookup f_q49=some ⟨oc_q49,od_q49, .func (PySem.W.fnOf "say" "Machine.say" (C8.fnArgs zdX) (C8.fnBody zdX) (C8.fnScope zdX) .none kV_q49 dc_q49 pm_q49 an_q49 cd_q49 ct_q49),sl_q49⟩)
  (c_q49:PySem.W.codeIn K cd_q49 "Machine.say"=true) (k_q49:PySem.W.keepIn K (.ref f_q49)=true)
  {od_q3 an_q3:Option Addr} {sl_q3:Array (Option Value)} {oc_q3 kV_q3 dc_q3 pm_q3 cd_q3 ct_q3:Value} {f_q3:Addr}
  (m_q3:PySem.W.findIn K (.ref C_Machine) "do_signed"=some (some (.ref f_q3))) (i_q3:PySem.W.isFn K (.ref f_q3)=true) (l_q3:K.lookup f_q3=some ⟨oc_q3,od_q3, .func (PySem.W.fnOf "do_signed" "Machine.do_signed" (C8.fnArgs zhe) (C8.fnBody zhe) (C8.fnScope zhe) .none kV_q3 dc_q3 pm_q3 an_q3 cd_q3 ct_q3),sl_q3⟩)
  (c_q3:PySem.W.codeIn K cd_q3 "Machine.do_signed"=true) (k_q3:PySem.W.keepIn K (.ref f_q3)=true)
  {od_q7 an_q7:Option Addr} {sl_q7:Array (Option Value)} {oc_q7 kV_q7 dc_q7 pm_q7 cd_q7 ct_q7:Value} {f_q7:Addr}
  (m_q7:PySem.W.findIn K (.ref C_Machine) "do_plain"=some (some (.ref f_q7))) (i_q7:PySem.W.isFn K (.ref f_q7)=true) (l_q7:K.lookup f_q7=some ⟨oc_q7,od_q7, .func (PySem.W.fnOf "do_plain" "Machine.do_plain" (C8.fnArgs zhb) (C8.fnBody zhb) (C8.fnScope zhb) .none kV_q7 dc_q7 pm_q7 an_q7 cd_q7 ct_q7),sl_q7⟩)
  (c_q7:PySem.W.codeIn K cd_q7 "Machine.do_plain"=true) (k_q7:PySem.W.keepIn K (.ref f_q7)=true)
  {od_q0 an_q0:Option Addr} {sl_q0:Array (Option Value)} {oc_q0 kV_q0 dc_q0 pm_q0 cd_q0 ct_q0:Value} {f_q0:Addr}
  (m_q0:PySem.W.findIn K (.ref C_Machine) "begin_call"=some (some (.ref f_q0))) (i_q0:PySem.W.isFn K (.ref f_q0)=true) (l_q0:K.lookup f_q0=some ⟨oc_q0,od_q0, .func (PySem.W.fnOf "begin_call" "Machine.begin_call" (C8.fnArgs zg7) (C8.fnBody zg7) (C8.fnScope zg7) .none kV_q0 dc_q0 pm_q0 an_q0 cd_q0 ct_q0),sl_q0⟩)
  (c_q0:PySem.W.codeIn K cd_q0 "Machine.begin_call"=true) (k_q0:PySem.W.keepIn K (.ref f_q0)=true)
  {od_q35 an_q35:Option Addr} {sl_q35:Array (Option Value)} {oc_q35 kV_q35 dc_q35 pm_q35 cd_q35 ct_q35:Value} {f_q35:Addr}
  (m_q35:PySem.W.findIn K (.ref C_Machine) "give"=some (some (.ref f_q35))) (i_q35:PySem.W.isFn K (.ref f_q35)=true) (l_q35:K.lookup f_q35=some ⟨oc_q35,od_q35, .func (PySem.W.fnOf "give" "Machine.give" (C8.fnArgs zdO) (C8.fnBody zdO) (C8.fnScope zdO) .none kV_q35 dc_q35 pm_q35 an_q35 cd_q35 ct_q35),sl_q35⟩)
  (c_q35:PySem.W.codeIn K cd_q35 "Machine.give"=true) (k_q35:PySem.W.keepIn K (.ref f_q35)=true)
  {od_q15 an_q15:Option Addr} {sl_q15:Array (Option Value)} {oc_q15 kV_q15 dc_q15 pm_q15 cd_q15 ct_q15:Value} {f_q15:Addr}
  (m_q15:PySem.W.findIn K (.ref C_Machine) "do_code"=some (some (.ref f_q15))) (i_q15:PySem.W.isFn K (.ref f_q15)=true) (l_q15:K.lookup f_q15=some ⟨oc_q15,od_q15, .func (PySem.W.fnOf "do_code" "Machine.do_code" (C8.fnArgs zdK) (C8.fnBody zdK) (C8.fnScope zdK) .none kV_q15 dc_q15 pm_q15 an_q15 cd_q15 ct_q15),sl_q15⟩)
  (c_q15:PySem.W.codeIn K cd_q15 "Machine.do_code"=true) (k_q15:PySem.W.keepIn K (.ref f_q15)=true)
  {od_q30 an_q30:Option Addr} {sl_q30:Array (Option Value)} {oc_q30 kV_q30 dc_q30 pm_q30 cd_q30 ct_q30:Value} {f_q30:Addr}
  (m_q30:PySem.W.findIn K (.ref C_Machine) "go_on"=some (some (.ref f_q30))) (i_q30:PySem.W.isFn K (.ref f_q30)=true) (l_q30:K.lookup f_q30=some ⟨oc_q30,od_q30, .func (PySem.W.fnOf "go_on" "Machine.go_on" (C8.fnArgs zdo) (C8.fnBody zdo) (C8.fnScope zdo) .none kV_q30 dc_q30 pm_q30 an_q30 cd_q30 ct_q30),sl_q30⟩)
  (c_q30:PySem.W.codeIn K cd_q30 "Machine.go_on"=true) (k_q30:PySem.W.keepIn K (.ref f_q30)=true)
  {od_q19 an_q19:Option Addr} {sl_q19:Array (Option Value)} {oc_q19 kV_q19 dc_q19 pm_q19 cd_q19 ct_q19:Value} {f_q19:Addr}
  (m_q19:PySem.W.findIn K (.ref C_Machine) "do_row"=some (some (.ref f_q19))) (i_q19:PySem.W.isFn K (.ref f_q19)=true) (l_q19:K.lookup f_q19=some ⟨oc_q19,od_q19, .func (PySem.W.fnOf "do_row" "Machine.do_row" (C8.fnArgs zdD) (C8.fnBody zdD) (C8.fnScope zdD) .none kV_q19 dc_q19 pm_q19 an_q19 cd_q19 ct_q19),sl_q19⟩)
  (c_q19:PySem.W.codeIn K cd_q19 "Machine.do_row"=true) (k_q19:PySem.W.keepIn K (.ref f_q19)=true)
  {od_q37 an_q37:Option Addr} {sl_q37:Array (Option Value)} {oc_q37 kV_q37 dc_q37 pm_q37 cd_q37 ct_q37:Value} {f_q37:Addr}
  (m_q37:PySem.W.findIn K (.ref C_Machine) "__init__"=some (some (.ref f_q37))) (i_q37:PySem.W.isFn K (.ref f_q37)=true) (l_q37:K.lookup f_q37=some ⟨oc_q37,od_q37, .func (PySem.W.fnOf "__init__" "Machine.__init__" (C8.fnArgs zfE) (C8.fnBody zfE) (C8.fnScope zfE) .none kV_q37 dc_q37 pm_q37 an_q37 cd_q37 ct_q37),sl_q37⟩)
  (c_q37:PySem.W.codeIn K cd_q37 "Machine.__init__"=true) (k_q37:PySem.W.keepIn K (.ref f_q37)=true)
  {od_q34 an_q34:Option Addr} {sl_q34:Array (Option Value)} {oc_q34 kV_q34 dc_q34 pm_q34 cd_q34 ct_q34:Value} {f_q34:Addr}
  (m_q34:PySem.W.findIn K (.ref C_Machine) "mark"=some (some (.ref f_q34))) (i_q34:PySem.W.isFn K (.ref f_q34)=true) (l_q34:K.lookup f_q34=some ⟨oc_q34,od_q34, .func (PySem.W.fnOf "mark" "Machine.mark" (C8.fnArgs zdL) (C8.fnBody zdL) (C8.fnScope zdL) .none kV_q34 dc_q34 pm_q34 an_q34 cd_q34 ct_q34),sl_q34⟩)
  (c_q34:PySem.W.codeIn K cd_q34 "Machine.mark"=true) (k_q34:PySem.W.keepIn K (.ref f_q34)=true)
  {od_q4 an_q4:Option Addr} {sl_q4:Array (Option Value)} {oc_q4 kV_q4 dc_q4 pm_q4 cd_q4 ct_q4:Value} {f_q4:Addr}
  (m_q4:PySem.W.findIn K (.ref C_Machine) "row_ahead"=some (some (.ref f_q4))) (i_q4:PySem.W.isFn K (.ref f_q4)=true) (l_q4:K.lookup f_q4=some ⟨oc_q4,od_q4, .func (PySem.W.fnOf "row_ahead" "Machine.row_ahead" (C8.fnArgs zhd) (C8.fnBody zhd) (C8.fnScope zhd) .none kV_q4 dc_q4 pm_q4 an_q4 cd_q4 ct_q4),sl_q4⟩)
  (c_q4:PySem.W.codeIn K cd_q4 "Machine.row_ahead"=true) (k_q4:PySem.W.keepIn K (.ref f_q4)=true)
  {od_q2 an_q2:Option Addr} {sl_q2:Array (Option Value)} {oc_q2 kV_q2 dc_q2 pm_q2 cd_q2 ct_q2:Value} {f_q2:Addr}
  (m_q2:PySem.W.findIn K (.ref C_Machine) "under_way"=some (some (.ref f_q2))) (i_q2:PySem.W.isFn K (.ref f_q2)=true) (l_q2:K.lookup f_q2=some ⟨oc_q2,od_q2, .func (PySem.W.fnOf "under_way" "Machine.under_way" (C8.fnArgs zg8) (C8.fnBody zg8) (C8.fnScope zg8) .none kV_q2 dc_q2 pm_q2 an_q2 cd_q2 ct_q2),sl_q2⟩)
  (c_q2:PySem.W.codeIn K cd_q2 "Machine.under_way"=true) (k_q2:PySem.W.keepIn K (.ref f_q2)=true)
  {od_q58 an_q58:Option Addr} {sl_q58:Array (Option Value)} {oc_q58 kV_q58 dc_q58 pm_q58 cd_q58 ct_q58:Value} {f_q58:Addr}
  (m_q58:PySem.W.findIn K (.ref C_Sheet) "__init__"=some (some (.ref f_q58))) (i_q58:PySem.W.isFn K (.ref f_q58)=true) (l_q58:K.lookup f_q58=some ⟨oc_q58,od_q58, .func (PySem.W.fnOf "__init__" "Sheet.__init__" (C8.fnArgs zfi) (C8.fnBody zfi) (C8.fnScope zfi) .none kV_q58 dc_q58 pm_q58 an_q58 cd_q58 ct_q58),sl_q58⟩)
  (c_q58:PySem.W.codeIn K cd_q58 "Sheet.__init__"=true) (k_q58:PySem.W.keepIn K (.ref f_q58)=true)
  {od_q23 an_q23:Option Addr} {sl_q23:Array (Option Value)} {oc_q23 kV_q23 dc_q23 pm_q23 cd_q23 ct_q23:Value} {f_q23:Addr}
  (m_q23:PySem.W.findIn K (.ref C_Sheet) "standing"=some (some (.ref f_q23))) (i_q23:PySem.W.isFn K (.ref f_q23)=true) (l_q23:K.lookup f_q23=some ⟨oc_q23,od_q23, .func (PySem.W.fnOf "standing" "Sheet.standing" (C8.fnArgs zcw) (C8.fnBody zcw) (C8.fnScope zcw) .none kV_q23 dc_q23 pm_q23 an_q23 cd_q23 ct_q23),sl_q23⟩)
  (c_q23:PySem.W.codeIn K cd_q23 "Sheet.standing"=true) (k_q23:PySem.W.keepIn K (.ref f_q23)=true)
  {od_q38 an_q38:Option Addr} {sl_q38:Array (Option Value)} {oc_q38 kV_q38 dc_q38 pm_q38 cd_q38 ct_q38:Value} {f_q38:Addr}
  (m_q38:PySem.W.findIn K (.ref C_Runner) "where"=some (some (.ref f_q38))) (i_q38:PySem.W.isFn K (.ref f_q38)=true) (l_q38:K.lookup f_q38=some ⟨oc_q38,od_q38, .func (PySem.W.fnOf "where" "Runner.where" (C8.fnArgs zdM) (C8.fnBody zdM) (C8.fnScope zdM) .none kV_q38 dc_q38 pm_q38 an_q38 cd_q38 ct_q38),sl_q38⟩)
  (c_q38:PySem.W.codeIn K cd_q38 "Runner.where"=true) (k_q38:PySem.W.keepIn K (.ref f_q38)=true)
  {od_q42 an_q42:Option Addr} {sl_q42:Array (Option Value)} {oc_q42 kV_q42 dc_q42 pm_q42 cd_q42 ct_q42:Value} {f_q42:Addr}
  (m_q42:PySem.W.findIn K (.ref C_Runner) "next"=some (some (.ref f_q42))) (i_q42:PySem.W.isFn K (.ref f_q42)=true) (l_q42:K.lookup f_q42=some ⟨oc_q42,od_q42, .func (PySem.W.fnOf "next" "Runner.next" (C8.fnArgs zdt) (C8.fnBody zdt) (C8.fnScope zdt) .none kV_q42 dc_q42 pm_q42 an_q42 cd_q42 ct_q42),sl_q42⟩)
  (c_q42:PySem.W.codeIn K cd_q42 "Runner.next"=true) (k_q42:PySem.W.keepIn K (.ref f_q42)=true)
  {od_q48 an_q48:Option Addr} {sl_q48:Array (Option Value)} {oc_q48 kV_q48 dc_q48 pm_q48 cd_q48 ct_q48:Value} {f_q48:Addr}
  (m_q48:PySem.W.findIn K (.ref C_Runner) "said"=some (some (.ref f_q48))) (i_q48:PySem.W.isFn K (.ref f_q48)=true) (l_q48:K.lookup f_q48=some ⟨oc_q48,od_q48, .func (PySem.W.fnOf "said" "Runner.said" (C8.fnArgs zdC) (C8.fnBody zdC) (C8.fnScope zdC) .none kV_q48 dc_q48 pm_q48 an_q48 cd_q48 ct_q48),sl_q48⟩)
  (c_q48:PySem.W.codeIn K cd_q48 "Runner.said"=true) (k_q48:PySem.W.keepIn K (.ref f_q48)=true)
  {od_q40 an_q40:Option Addr} {sl_q40:Array (Option Value)} {oc_q40 kV_q40 dc_q40 pm_q40 cd_q40 ct_q40:Value} {f_q40:Addr}
  (m_q40:PySem.W.findIn K (.ref C_Looker) "where"=some (some (.ref f_q40))) (i_q40:PySem.W.isFn K (.ref f_q40)=true) (l_q40:K.lookup f_q40=some ⟨oc_q40,od_q40, .func (PySem.W.fnOf "where" "Looker.where" (C8.fnArgs zdB) (C8.fnBody zdB) (C8.fnScope zdB) .none kV_q40 dc_q40 pm_q40 an_q40 cd_q40 ct_q40),sl_q40⟩)
  (c_q40:PySem.W.codeIn K cd_q40 "Looker.where"=true) (k_q40:PySem.W.keepIn K (.ref f_q40)=true)
  {od_q27 an_q27:Option Addr} {sl_q27:Array (Option Value)} {oc_q27 kV_q27 dc_q27 pm_q27 cd_q27 ct_q27:Value} {f_q27:Addr}
  (m_q27:PySem.W.findIn K (.ref C_Looker) "row_of"=some (some (.ref f_q27))) (i_q27:PySem.W.isFn K (.ref f_q27)=true) (l_q27:K.lookup f_q27=some ⟨oc_q27,od_q27, .func (PySem.W.fnOf "row_of" "Looker.row_of" (C8.fnArgs zdE) (C8.fnBody zdE) (C8.fnScope zdE) .none kV_q27 dc_q27 pm_q27 an_q27 cd_q27 ct_q27),sl_q27⟩)
  (c_q27:PySem.W.codeIn K cd_q27 "Looker.row_of"=true) (k_q27:PySem.W.keepIn K (.ref f_q27)=true)
  {od_q17 an_q17:Option Addr} {sl_q17:Array (Option Value)} {oc_q17 kV_q17 dc_q17 pm_q17 cd_q17 ct_q17:Value} {f_q17:Addr}
  (m_q17:PySem.W.findIn K (.ref C_Looker) "frame_at"=some (some (.ref f_q17))) (i_q17:PySem.W.isFn K (.ref f_q17)=true) (l_q17:K.lookup f_q17=some ⟨oc_q17,od_q17, .func (PySem.W.fnOf "frame_at" "Looker.frame_at" (C8.fnArgs zdv) (C8.fnBody zdv) (C8.fnScope zdv) .none kV_q17 dc_q17 pm_q17 an_q17 cd_q17 ct_q17),sl_q17⟩)
  (c_q17:PySem.W.codeIn K cd_q17 "Looker.frame_at"=true) (k_q17:PySem.W.keepIn K (.ref f_q17)=true)
  {od_q50 an_q50:Option Addr} {sl_q50:Array (Option Value)} {oc_q50 kV_q50 dc_q50 pm_q50 cd_q50 ct_q50:Value} {f_q50:Addr}
  (m_q50:PySem.W.findIn K (.ref C_Looker) "step"=some (some (.ref f_q50))) (i_q50:PySem.W.isFn K (.ref f_q50)=true) (l_q50:K.lookup f_q50=some ⟨oc_q50,od_q50, .func (PySem.W.fnOf "step" "Looker.step" (C8.fnArgs zdI) (C8.fnBody zdI) (C8.fnScope zdI) .none kV_q50 dc_q50 pm_q50 an_q50 cd_q50 ct_q50),sl_q50⟩)
  (c_q50:PySem.W.codeIn K cd_q50 "Looker.step"=true) (k_q50:PySem.W.keepIn K (.ref f_q50)=true)
  {od_q28 an_q28:Option Addr} {sl_q28:Array (Option Value)} {oc_q28 kV_q28 dc_q28 pm_q28 cd_q28 ct_q28:Value} {f_q28:Addr}
  (m_q28:PySem.W.findIn K (.ref C_Looker) "frames"=some (some (.ref f_q28))) (i_q28:PySem.W.isFn K (.ref f_q28)=true) (l_q28:K.lookup f_q28=some ⟨oc_q28,od_q28, .func (PySem.W.fnOf "frames" "Looker.frames" (C8.fnArgs zdu) (C8.fnBody zdu) (C8.fnScope zdu) .none kV_q28 dc_q28 pm_q28 an_q28 cd_q28 ct_q28),sl_q28⟩)
  (c_q28:PySem.W.codeIn K cd_q28 "Looker.frames"=true) (k_q28:PySem.W.keepIn K (.ref f_q28)=true)
  {od_q43 an_q43:Option Addr} {sl_q43:Array (Option Value)} {oc_q43 kV_q43 dc_q43 pm_q43 cd_q43 ct_q43:Value} {f_q43:Addr}
  (m_q43:PySem.W.findIn K (.ref C_Looker) "seen"=some (some (.ref f_q43))) (i_q43:PySem.W.isFn K (.ref f_q43)=true) (l_q43:K.lookup f_q43=some ⟨oc_q43,od_q43, .func (PySem.W.fnOf "seen" "Looker.seen" (C8.fnArgs zcS) (C8.fnBody zcS) (C8.fnScope zcS) .none kV_q43 dc_q43 pm_q43 an_q43 cd_q43 ct_q43),sl_q43⟩)
  (c_q43:PySem.W.codeIn K cd_q43 "Looker.seen"=true) (k_q43:PySem.W.keepIn K (.ref f_q43)=true)
  {od_q21 an_q21:Option Addr} {sl_q21:Array (Option Value)} {oc_q21 kV_q21 dc_q21 pm_q21 cd_q21 ct_q21:Value} {f_q21:Addr}
  (m_q21:PySem.W.findIn K (.ref C_Looker) "lasting"=some (some (.ref f_q21))) (i_q21:PySem.W.isFn K (.ref f_q21)=true) (l_q21:K.lookup f_q21=some ⟨oc_q21,od_q21, .func (PySem.W.fnOf "lasting" "Looker.lasting" (C8.fnArgs zcN) (C8.fnBody zcN) (C8.fnScope zcN) .none kV_q21 dc_q21 pm_q21 an_q21 cd_q21 ct_q21),sl_q21⟩)
  (c_q21:PySem.W.codeIn K cd_q21 "Looker.lasting"=true) (k_q21:PySem.W.keepIn K (.ref f_q21)=true)
  {od_q41 an_q41:Option Addr} {sl_q41:Array (Option Value)} {oc_q41 kV_q41 dc_q41 pm_q41 cd_q41 ct_q41:Value} {f_q41:Addr}
  (m_q41:PySem.W.findIn K (.ref C_Runner) "__init__"=some (some (.ref f_q41))) (i_q41:PySem.W.isFn K (.ref f_q41)=true) (l_q41:K.lookup f_q41=some ⟨oc_q41,od_q41, .func (PySem.W.fnOf "__init__" "Runner.__init__" (C8.fnArgs zbv) (C8.fnBody zbv) (C8.fnScope zbv) .none kV_q41 dc_q41 pm_q41 an_q41 cd_q41 ct_q41),sl_q41⟩)
  (c_q41:PySem.W.codeIn K cd_q41 "Runner.__init__"=true) (k_q41:PySem.W.keepIn K (.ref f_q41)=true)
  {od_q52 an_q52:Option Addr} {sl_q52:Array (Option Value)} {oc_q52 kV_q52 dc_q52 pm_q52 cd_q52 ct_q52:Value} {f_q52:Addr}
  (m_q52:PySem.W.findIn K (.ref C_Looker) "__init__"=some (some (.ref f_q52))) (i_q52:PySem.W.isFn K (.ref f_q52)=true) (l_q52:K.lookup f_q52=some ⟨oc_q52,od_q52, .func (PySem.W.fnOf "__init__" "Looker.__init__" (C8.fnArgs zbt) (C8.fnBody zbt) (C8.fnScope zbt) .none kV_q52 dc_q52 pm_q52 an_q52 cd_q52 ct_q52),sl_q52⟩)
  (c_q52:PySem.W.codeIn K cd_q52 "Looker.__init__"=true) (k_q52:PySem.W.keepIn K (.ref f_q52)=true)
  {N_run:Addr} {T_run:Tok} (d_run:kV_run= .ref N_run) (n_run:PySem.W.nsIn K N_run "most"=some (some (.int 2000 T_run)))
  {N_Runner_init:Addr} {T_Runner_init:Tok} (d_Runner_init:kV_q41= .ref N_Runner_init) (n_Runner_init:PySem.W.nsIn K N_Runner_init "most"=some (some (.int 2000 T_Runner_init)))
  {N_Looker_init:Addr} {T_Looker_init:Tok} (d_Looker_init:kV_q52= .ref N_Looker_init) (n_Looker_init:PySem.W.nsIn K N_Looker_init "most"=some (some (.int 2000 T_Looker_init)))
  (z_len:PySem.W.nsIn K mainGlobals "len"=some none)
  (z_int:PySem.W.nsIn K mainGlobals "int"=some none)
  (z_str:PySem.W.nsIn K mainGlobals "str"=some none)
  (z_bool:PySem.W.nsIn K mainGlobals "bool"=some none)
  (z_tuple:PySem.W.nsIn K mainGlobals "tuple"=some none)
  (z_list:PySem.W.nsIn K mainGlobals "list"=some none)
  (z_range:PySem.W.nsIn K mainGlobals "range"=some none)
  (z_isinstance:PySem.W.nsIn K mainGlobals "isinstance"=some none)
  (z_abs:PySem.W.nsIn K mainGlobals "abs"=some none)
  (z_enumerate:PySem.W.nsIn K mainGlobals "enumerate"=some none)
  (z_reversed:PySem.W.nsIn K mainGlobals "reversed"=some none)
  (z_zip:PySem.W.nsIn K mainGlobals "zip"=some none)
  {tROW:Tok} (gROW:PySem.W.nsIn K mainGlobals "ROW"=some (some (.int 1 tROW))) {tCALL_SIZE:Tok} (gCALL_SIZE:PySem.W.nsIn K mainGlobals "CALL_SIZE"=some (some (.int 4 tCALL_SIZE))) {tMOST_CALLS:Tok} (gMOST_CALLS:PySem.W.nsIn K mainGlobals "MOST_CALLS"=some (some (.int 32 tMOST_CALLS))) {tMOST_ROWS:Tok} (gMOST_ROWS:PySem.W.nsIn K mainGlobals "MOST_ROWS"=some (some (.int 100000 tMOST_ROWS))) {tMOST:Tok} (gMOST:PySem.W.nsIn K mainGlobals "MOST"=some (some (.int 1000000000000 tMOST)))
  {aW:Addr} {odW:Option Addr} {itW:Array Value} {nW:Nat} {slW:Array (Option Value)} (gW:PySem.W.nsIn K mainGlobals "WORDS"=some (some (.ref aW))) (lW:K.lookup aW=some ⟨.type "tuple",odW, .seq itW nW,slW⟩) (vW:itW.toList.map zii=(zcY.map V.str).map some)
  {aH:Addr} {odH:Option Addr} {itH:Array Value} {nH:Nat} {slH:Array (Option Value)} (gH:PySem.W.nsIn K mainGlobals "HAS"=some (some (.ref aH))) (lH:K.lookup aH=some ⟨.type "tuple",odH, .seq itH nH,slH⟩) (vH:itH.toList.map zii=(hasT.map V.int).map some)
  {aS:Addr} {odS:Option Addr} {itS:Array Value} {nS:Nat} {slS:Array (Option Value)} (gS:PySem.W.nsIn K mainGlobals "SIGNED"=some (some (.ref aS))) (lS:K.lookup aS=some ⟨.type "tuple",odS, .seq itS nS,slS⟩) (vS:itS.toList.map zii=(zgN.map V.str).map some) :
  ∃ fd:FuncData,(∀ (s:Shared) (v:Value),BindsTo s fd ⟨[v],[]⟩ [("_law_script",v)])∧∀ base:Heap,K.In base→base.Ns mainGlobals mg→FnOk l.prog w K mg base C8.CX0 10 fa fd ["_law_script"] (spLaw K):=by
 have e:f_law=fa:=by
  have z:=(PySem.W.mg_of X G a_law).symm.trans hfa
  injection z with z
  injection z
 subst e
 have D_q75:Def K mg "done" zdW f_q75 _:=⟨⟨_,_,_,_,_,_,_,_,_,_,rfl,l_q75,c_q75⟩,PySem.W.mg_of X G a_q75,k_q75⟩
 have b_q75:=C8.Fun.binds D_q75.fn rfl (ps:=["word","first","second"]) fun _ _ _ _ _ _ us hl=>match us,hl with|[_,_,_],_=>rfl
 have D_q57:Def K mg "trouble_of" zd3 f_q57 _:=⟨⟨_,_,_,_,_,_,_,_,_,_,rfl,l_q57,c_q57⟩,PySem.W.mg_of X G a_q57,k_q57⟩
 have b_q57:=C8.Fun.binds D_q57.fn rfl (ps:=["word","first","second"]) fun _ _ _ _ _ _ us hl=>match us,hl with|[_,_,_],_=>rfl
 have D_q53:Def K mg "told_worth" zdU f_q53 _:=⟨⟨_,_,_,_,_,_,_,_,_,_,rfl,l_q53,c_q53⟩,PySem.W.mg_of X G a_q53,k_q53⟩
 have b_q53:=C8.Fun.binds D_q53.fn rfl (ps:=["kind","worth"]) fun _ _ _ _ _ _ us hl=>match us,hl with|[_,_],_=>rfl
 have D_q60:Def K mg "is_between" zdH f_q60 _:=⟨⟨_,_,_,_,_,_,_,_,_,_,rfl,l_q60,c_q60⟩,PySem.W.mg_of X G a_q60,k_q60⟩
 have b_q60:=C8.Fun.binds D_q60.fn rfl (ps:=["thing","least","most"]) fun _ _ _ _ _ _ us hl=>match us,hl with|[_,_,_],_=>rfl
 have D_q32:Def K mg "number_to_run" zdx f_q32 _:=⟨⟨_,_,_,_,_,_,_,_,_,_,rfl,l_q32,c_q32⟩,PySem.W.mg_of X G a_q32,k_q32⟩
 have b_q32:=C8.Fun.binds D_q32.fn rfl (ps:=["defs","file","name"]) fun _ _ _ _ _ _ us hl=>match us,hl with|[_,_,_],_=>rfl
 have D_q59:Def K mg "rows_begun" zcB f_q59 _:=⟨⟨_,_,_,_,_,_,_,_,_,_,rfl,l_q59,c_q59⟩,PySem.W.mg_of X G a_q59,k_q59⟩
 have b_q59:=C8.Fun.binds D_q59.fn rfl (ps:=["image"]) fun _ _ _ _ _ _ us hl=>match us,hl with|[_],_=>rfl
 have D_q26:Def K mg "rows_by_place" zdG f_q26 _:=⟨⟨_,_,_,_,_,_,_,_,_,_,rfl,l_q26,c_q26⟩,PySem.W.mg_of X G a_q26,k_q26⟩
 have b_q26:=C8.Fun.binds D_q26.fn rfl (ps:=["image"]) fun _ _ _ _ _ _ us hl=>match us,hl with|[_],_=>rfl
 have D_q61:Def K mg "_law_dice" zdr f_q61 _:=⟨⟨_,_,_,_,_,_,_,_,_,_,rfl,l_q61,c_q61⟩,PySem.W.mg_of X G a_q61,k_q61⟩
 have b_q61:=C8.Fun.binds D_q61.fn rfl (ps:=["_law_script"]) fun _ _ _ _ _ _ us hl=>match us,hl with|[_],_=>rfl
 have D_q62:Def K mg "_law_next" zdF f_q62 _:=⟨⟨_,_,_,_,_,_,_,_,_,_,rfl,l_q62,c_q62⟩,PySem.W.mg_of X G a_q62,k_q62⟩
 have b_q62:=C8.Fun.binds D_q62.fn rfl (ps:=["_law_dice_here","_law_many"]) fun _ _ _ _ _ _ us hl=>match us,hl with|[_,_],_=>rfl
 have D_q64:Def K mg "_law_like" zcb f_q64 _:=⟨⟨_,_,_,_,_,_,_,_,_,_,rfl,l_q64,c_q64⟩,PySem.W.mg_of X G a_q64,k_q64⟩
 have b_q64:=C8.Fun.binds D_q64.fn rfl (ps:=["_law_found","_law_due"]) fun _ _ _ _ _ _ us hl=>match us,hl with|[_,_],_=>rfl
 have D_q33:Def K mg "_law_by_hand" zdn f_q33 _:=⟨⟨_,_,_,_,_,_,_,_,_,_,rfl,l_q33,c_q33⟩,PySem.W.mg_of X G a_q33,k_q33⟩
 have b_q33:=C8.Fun.binds D_q33.fn rfl (ps:=["_law_a","_law_b","_law_c"]) fun _ _ _ _ _ _ us hl=>match us,hl with|[_,_,_],_=>rfl
 have D_law:Def K mg "law" zbu f_law _:=⟨⟨_,_,_,_,_,_,_,_,_,_,rfl,l_law,c_law⟩,PySem.W.mg_of X G a_law,k_law⟩
 have b_law:=C8.Fun.binds D_law.fn rfl (ps:=["_law_script"]) fun _ _ _ _ _ _ us hl=>match us,hl with|[_],_=>rfl
 have CL_Caller:Cls K C_Caller:=⟨pg_Caller,hd_Caller,po_Caller,sa_Caller⟩
 have hm_Caller:mg "Caller"=some (.ref C_Caller):=PySem.W.mg_of X G g_Caller
 have CL_Machine:Cls K C_Machine:=⟨pg_Machine,hd_Machine,po_Machine,sa_Machine⟩
 have hm_Machine:mg "Machine"=some (.ref C_Machine):=PySem.W.mg_of X G g_Machine
 have CL_Runner:Cls K C_Runner:=⟨pg_Runner,hd_Runner,po_Runner,sa_Runner⟩
 have hm_Runner:mg "Runner"=some (.ref C_Runner):=PySem.W.mg_of X G g_Runner
 have CL_Sheet:Cls K C_Sheet:=⟨pg_Sheet,hd_Sheet,po_Sheet,sa_Sheet⟩
 have hm_Sheet:mg "Sheet"=some (.ref C_Sheet):=PySem.W.mg_of X G g_Sheet
 have CL_Looker:Cls K C_Looker:=⟨pg_Looker,hd_Looker,po_Looker,sa_Looker⟩
 have hm_Looker:mg "Looker"=some (.ref C_Looker):=PySem.W.mg_of X G g_Looker
 have D_q45:C8.Fun K "__init__" "Caller.__init__" zdV f_q45 _:=⟨_,_,_,_,_,_,_,_,_,_,rfl,l_q45,c_q45⟩
 have b_q45:=C8.Fun.binds D_q45 rfl (ps:=["self","machine"]) fun _ _ _ _ _ _ us hl=>match us,hl with|[_,_],_=>rfl
 have e_q45:Meth K C_Caller "__init__" f_q45:=⟨m_q45,i_q45,k_q45⟩
 have D_q29:C8.Fun K "fault" "Machine.fault" zdq f_q29 _:=⟨_,_,_,_,_,_,_,_,_,_,rfl,l_q29,c_q29⟩
 have b_q29:=C8.Fun.binds D_q29 rfl (ps:=["self","word"]) fun _ _ _ _ _ _ us hl=>match us,hl with|[_,_],_=>rfl
 have e_q29:Meth K C_Machine "fault" f_q29:=⟨m_q29,i_q29,k_q29⟩
 have D_q25:C8.Fun K "end_by" "Machine.end_by" zdT f_q25 _:=⟨_,_,_,_,_,_,_,_,_,_,rfl,l_q25,c_q25⟩
 have b_q25:=C8.Fun.binds D_q25 rfl (ps:=["self","worth"]) fun _ _ _ _ _ _ us hl=>match us,hl with|[_,_],_=>rfl
 have e_q25:Meth K C_Machine "end_by" f_q25:=⟨m_q25,i_q25,k_q25⟩
 have D_q49:C8.Fun K "say" "Machine.say" zdX f_q49 _:=⟨_,_,_,_,_,_,_,_,_,_,rfl,l_q49,c_q49⟩
 have b_q49:=C8.Fun.binds D_q49 rfl (ps:=["self","kind"]) fun _ _ _ _ _ _ us hl=>match us,hl with|[_,_],_=>rfl
 have e_q49:Meth K C_Machine "say" f_q49:=⟨m_q49,i_q49,k_q49⟩
 have D_q3:C8.Fun K "do_signed" "Machine.do_signed" zhe f_q3 _:=⟨_,_,_,_,_,_,_,_,_,_,rfl,l_q3,c_q3⟩
 have b_q3:=C8.Fun.binds D_q3 rfl (ps:=["self","word"]) fun _ _ _ _ _ _ us hl=>match us,hl with|[_,_],_=>rfl
 have e_q3:Meth K C_Machine "do_signed" f_q3:=⟨m_q3,i_q3,k_q3⟩
 have D_q7:C8.Fun K "do_plain" "Machine.do_plain" zhb f_q7 _:=⟨_,_,_,_,_,_,_,_,_,_,rfl,l_q7,c_q7⟩
 have b_q7:=C8.Fun.binds D_q7 rfl (ps:=["self","word","has"]) fun _ _ _ _ _ _ us hl=>match us,hl with|[_,_,_],_=>rfl
 have e_q7:Meth K C_Machine "do_plain" f_q7:=⟨m_q7,i_q7,k_q7⟩
 have D_q0:C8.Fun K "begin_call" "Machine.begin_call" zg7 f_q0 _:=⟨_,_,_,_,_,_,_,_,_,_,rfl,l_q0,c_q0⟩
 have b_q0:=C8.Fun.binds D_q0 rfl (ps:=["self"]) fun _ _ _ _ _ _ us hl=>match us,hl with|[_],_=>rfl
 have e_q0:Meth K C_Machine "begin_call" f_q0:=⟨m_q0,i_q0,k_q0⟩
 have D_q35:C8.Fun K "give" "Machine.give" zdO f_q35 _:=⟨_,_,_,_,_,_,_,_,_,_,rfl,l_q35,c_q35⟩
 have b_q35:=C8.Fun.binds D_q35 rfl (ps:=["self","many"]) fun _ _ _ _ _ _ us hl=>match us,hl with|[_,_],_=>rfl
 have e_q35:Meth K C_Machine "give" f_q35:=⟨m_q35,i_q35,k_q35⟩
 have D_q15:C8.Fun K "do_code" "Machine.do_code" zdK f_q15 _:=⟨_,_,_,_,_,_,_,_,_,_,rfl,l_q15,c_q15⟩
 have b_q15:=C8.Fun.binds D_q15 rfl (ps:=["self"]) fun _ _ _ _ _ _ us hl=>match us,hl with|[_],_=>rfl
 have e_q15:Meth K C_Machine "do_code" f_q15:=⟨m_q15,i_q15,k_q15⟩
 have D_q30:C8.Fun K "go_on" "Machine.go_on" zdo f_q30 _:=⟨_,_,_,_,_,_,_,_,_,_,rfl,l_q30,c_q30⟩
 have b_q30:=C8.Fun.binds D_q30 rfl (ps:=["self"]) fun _ _ _ _ _ _ us hl=>match us,hl with|[_],_=>rfl
 have e_q30:Meth K C_Machine "go_on" f_q30:=⟨m_q30,i_q30,k_q30⟩
 have D_q19:C8.Fun K "do_row" "Machine.do_row" zdD f_q19 _:=⟨_,_,_,_,_,_,_,_,_,_,rfl,l_q19,c_q19⟩
 have b_q19:=C8.Fun.binds D_q19 rfl (ps:=["self"]) fun _ _ _ _ _ _ us hl=>match us,hl with|[_],_=>rfl
 have e_q19:Meth K C_Machine "do_row" f_q19:=⟨m_q19,i_q19,k_q19⟩
 have D_q37:C8.Fun K "__init__" "Machine.__init__" zfE f_q37 _:=⟨_,_,_,_,_,_,_,_,_,_,rfl,l_q37,c_q37⟩
 have b_q37:=C8.Fun.binds D_q37 rfl (ps:=["self","image","file","name","most"]) fun _ _ _ _ _ _ us hl=>match us,hl with|[_,_,_,_,_],_=>rfl
 have e_q37:Meth K C_Machine "__init__" f_q37:=⟨m_q37,i_q37,k_q37⟩
 have D_q34:C8.Fun K "mark" "Machine.mark" zdL f_q34 _:=⟨_,_,_,_,_,_,_,_,_,_,rfl,l_q34,c_q34⟩
 have b_q34:=C8.Fun.binds D_q34 rfl (ps:=["self"]) fun _ _ _ _ _ _ us hl=>match us,hl with|[_],_=>rfl
 have e_q34:Meth K C_Machine "mark" f_q34:=⟨m_q34,i_q34,k_q34⟩
 have D_q4:C8.Fun K "row_ahead" "Machine.row_ahead" zhd f_q4 _:=⟨_,_,_,_,_,_,_,_,_,_,rfl,l_q4,c_q4⟩
 have b_q4:=C8.Fun.binds D_q4 rfl (ps:=["self"]) fun _ _ _ _ _ _ us hl=>match us,hl with|[_],_=>rfl
 have e_q4:Meth K C_Machine "row_ahead" f_q4:=⟨m_q4,i_q4,k_q4⟩
 have D_q2:C8.Fun K "under_way" "Machine.under_way" zg8 f_q2 _:=⟨_,_,_,_,_,_,_,_,_,_,rfl,l_q2,c_q2⟩
 have b_q2:=C8.Fun.binds D_q2 rfl (ps:=["self"]) fun _ _ _ _ _ _ us hl=>match us,hl with|[_],_=>rfl
 have e_q2:Meth K C_Machine "under_way" f_q2:=⟨m_q2,i_q2,k_q2⟩
 have D_q58:C8.Fun K "__init__" "Sheet.__init__" zfi f_q58 _:=⟨_,_,_,_,_,_,_,_,_,_,rfl,l_q58,c_q58⟩
 have b_q58:=C8.Fun.binds D_q58 rfl (ps:=["self","image"]) fun _ _ _ _ _ _ us hl=>match us,hl with|[_,_],_=>rfl
 have e_q58:Meth K C_Sheet "__init__" f_q58:=⟨m_q58,i_q58,k_q58⟩
 have D_q23:C8.Fun K "standing" "Sheet.standing" zcw f_q23 _:=⟨_,_,_,_,_,_,_,_,_,_,rfl,l_q23,c_q23⟩
 have b_q23:=C8.Fun.binds D_q23 rfl (ps:=["self","number","row"]) fun _ _ _ _ _ _ us hl=>match us,hl with|[_,_,_],_=>rfl
 have e_q23:Meth K C_Sheet "standing" f_q23:=⟨m_q23,i_q23,k_q23⟩
 have D_q38:C8.Fun K "where" "Runner.where" zdM f_q38 _:=⟨_,_,_,_,_,_,_,_,_,_,rfl,l_q38,c_q38⟩
 have b_q38:=C8.Fun.binds D_q38 rfl (ps:=["self"]) fun _ _ _ _ _ _ us hl=>match us,hl with|[_],_=>rfl
 have e_q38:Meth K C_Runner "where" f_q38:=⟨m_q38,i_q38,k_q38⟩
 have D_q42:C8.Fun K "next" "Runner.next" zdt f_q42 _:=⟨_,_,_,_,_,_,_,_,_,_,rfl,l_q42,c_q42⟩
 have b_q42:=C8.Fun.binds D_q42 rfl (ps:=["self"]) fun _ _ _ _ _ _ us hl=>match us,hl with|[_],_=>rfl
 have e_q42:Meth K C_Runner "next" f_q42:=⟨m_q42,i_q42,k_q42⟩
 have D_q48:C8.Fun K "said" "Runner.said" zdC f_q48 _:=⟨_,_,_,_,_,_,_,_,_,_,rfl,l_q48,c_q48⟩
 have b_q48:=C8.Fun.binds D_q48 rfl (ps:=["self"]) fun _ _ _ _ _ _ us hl=>match us,hl with|[_],_=>rfl
 have e_q48:Meth K C_Runner "said" f_q48:=⟨m_q48,i_q48,k_q48⟩
 have D_q40:C8.Fun K "where" "Looker.where" zdB f_q40 _:=⟨_,_,_,_,_,_,_,_,_,_,rfl,l_q40,c_q40⟩
 have b_q40:=C8.Fun.binds D_q40 rfl (ps:=["self"]) fun _ _ _ _ _ _ us hl=>match us,hl with|[_],_=>rfl
 have e_q40:Meth K C_Looker "where" f_q40:=⟨m_q40,i_q40,k_q40⟩
 have D_q27:C8.Fun K "row_of" "Looker.row_of" zdE f_q27 _:=⟨_,_,_,_,_,_,_,_,_,_,rfl,l_q27,c_q27⟩
 have b_q27:=C8.Fun.binds D_q27 rfl (ps:=["self","frame"]) fun _ _ _ _ _ _ us hl=>match us,hl with|[_,_],_=>rfl
 have e_q27:Meth K C_Looker "row_of" f_q27:=⟨m_q27,i_q27,k_q27⟩
 have D_q17:C8.Fun K "frame_at" "Looker.frame_at" zdv f_q17 _:=⟨_,_,_,_,_,_,_,_,_,_,rfl,l_q17,c_q17⟩
 have b_q17:=C8.Fun.binds D_q17 rfl (ps:=["self","depth"]) fun _ _ _ _ _ _ us hl=>match us,hl with|[_,_],_=>rfl
 have e_q17:Meth K C_Looker "frame_at" f_q17:=⟨m_q17,i_q17,k_q17⟩
 have D_q50:C8.Fun K "step" "Looker.step" zdI f_q50 _:=⟨_,_,_,_,_,_,_,_,_,_,rfl,l_q50,c_q50⟩
 have b_q50:=C8.Fun.binds D_q50 rfl (ps:=["self"]) fun _ _ _ _ _ _ us hl=>match us,hl with|[_],_=>rfl
 have e_q50:Meth K C_Looker "step" f_q50:=⟨m_q50,i_q50,k_q50⟩
 have D_q28:C8.Fun K "frames" "Looker.frames" zdu f_q28 _:=⟨_,_,_,_,_,_,_,_,_,_,rfl,l_q28,c_q28⟩
 have b_q28:=C8.Fun.binds D_q28 rfl (ps:=["self"]) fun _ _ _ _ _ _ us hl=>match us,hl with|[_],_=>rfl
 have e_q28:Meth K C_Looker "frames" f_q28:=⟨m_q28,i_q28,k_q28⟩
 have D_q43:C8.Fun K "seen" "Looker.seen" zcS f_q43 _:=⟨_,_,_,_,_,_,_,_,_,_,rfl,l_q43,c_q43⟩
 have b_q43:=C8.Fun.binds D_q43 rfl (ps:=["self","depth"]) fun _ _ _ _ _ _ us hl=>match us,hl with|[_,_],_=>rfl
 have e_q43:Meth K C_Looker "seen" f_q43:=⟨m_q43,i_q43,k_q43⟩
 have D_q21:C8.Fun K "lasting" "Looker.lasting" zcN f_q21 _:=⟨_,_,_,_,_,_,_,_,_,_,rfl,l_q21,c_q21⟩
 have b_q21:=C8.Fun.binds D_q21 rfl (ps:=["self"]) fun _ _ _ _ _ _ us hl=>match us,hl with|[_],_=>rfl
 have e_q21:Meth K C_Looker "lasting" f_q21:=⟨m_q21,i_q21,k_q21⟩
 have D_run:Def K mg "run" zbb f_run _:=⟨⟨_,_,_,_,_,_,_,_,_,_,rfl,l_run,c_run⟩,PySem.W.mg_of X G a_run,k_run⟩
 have D_q41:C8.Fun K "__init__" "Runner.__init__" zbv f_q41 _:=⟨_,_,_,_,_,_,_,_,_,_,rfl,l_q41,c_q41⟩
 have D_q52:C8.Fun K "__init__" "Looker.__init__" zbt f_q52 _:=⟨_,_,_,_,_,_,_,_,_,_,rfl,l_q52,c_q52⟩
 have F_run:FunD K "run" "run" (C8.fnArgs zbb) (C8.fnBody zbb) (C8.fnScope zbb) [] [("most", .int 2000)] f_run _:=⟨⟨_,_,_,_,_,_,_,_,_,_,rfl,l_run,c_run, .inl ⟨rfl,rfl⟩, .inr ⟨N_run,d_run,fun q hq=>by
  rw[List.mem_singleton.mp hq]
  exact ⟨_,n_run,_,rfl⟩⟩⟩,k_run⟩
 obtain ⟨⟨ds_run,hv_run,hb_run⟩,gg_run,hk_run⟩:=zhG (kws:=[]) F_run
 have F_Runner_init:FunD K "__init__" "Runner.__init__" (C8.fnArgs zbv) (C8.fnBody zbv) (C8.fnScope zbv) [] [("most", .int 2000)] f_q41 _:=⟨⟨_,_,_,_,_,_,_,_,_,_,rfl,l_q41,c_q41, .inl ⟨rfl,rfl⟩, .inr ⟨N_Runner_init,d_Runner_init,fun q hq=>by
  rw[List.mem_singleton.mp hq]
  exact ⟨_,n_Runner_init,_,rfl⟩⟩⟩,k_q41⟩
 obtain ⟨⟨ds_Runner_init,hv_Runner_init,hb_Runner_init⟩,gg_Runner_init,hk_Runner_init⟩:=zbz (kws:=[]) F_Runner_init
 have F_Looker_init:FunD K "__init__" "Looker.__init__" (C8.fnArgs zbt) (C8.fnBody zbt) (C8.fnScope zbt) [] [("most", .int 2000)] f_q52 _:=⟨⟨_,_,_,_,_,_,_,_,_,_,rfl,l_q52,c_q52, .inl ⟨rfl,rfl⟩, .inr ⟨N_Looker_init,d_Looker_init,fun q hq=>by
  rw[List.mem_singleton.mp hq]
  exact ⟨_,n_Looker_init,_,rfl⟩⟩⟩,k_q52⟩
 obtain ⟨⟨ds_Looker_init,hv_Looker_init,hb_Looker_init⟩,gg_Looker_init,hk_Looker_init⟩:=zby (kws:=[]) F_Looker_init
 have TL:zcC K mg:=⟨PySem.W.mg_none_of X G z_len,PySem.W.mg_none_of X G z_int,PySem.W.mg_none_of X G z_str,PySem.W.mg_none_of X G z_bool,PySem.W.mg_none_of X G z_tuple,PySem.W.mg_none_of X G z_list,PySem.W.mg_none_of X G z_range,PySem.W.mg_none_of X G z_isinstance⟩
 have T:zay K mg C_Machine C_Caller aW aH aS:=⟨CL_Machine,CL_Caller,na_Machine_number,na_Machine_most,na_Machine_code,na_Machine_places,na_Machine_defs,na_Machine_numbers,na_Machine_kept,na_Machine_at,na_Machine_cells,na_Machine_pile,na_Machine_callers,na_Machine_call,na_Machine_calls,na_Machine_began,na_Machine_spoken,na_Machine_ended,na_Caller_number,na_Caller_call,na_Caller_at,na_Caller_cells,na_Caller_pile,PySem.W.mg_none_of X G z_len,PySem.W.mg_none_of X G z_list,PySem.W.mg_none_of X G z_abs,PySem.W.mg_none_of X G z_enumerate,PySem.W.mg_none_of X G z_reversed,PySem.W.mg_none_of X G z_isinstance,PySem.W.mg_none_of X G z_int,PySem.W.mg_none_of X G z_bool,
  ⟨_,PySem.W.mg_of X G gROW,_,rfl⟩,⟨_,PySem.W.mg_of X G gCALL_SIZE,_,rfl⟩,⟨_,PySem.W.mg_of X G gMOST_CALLS,_,rfl⟩,⟨_,PySem.W.mg_of X G gMOST_ROWS,_,rfl⟩,⟨_,PySem.W.mg_of X G gMOST,_,rfl⟩,⟨_,PySem.W.mg_of X G gW,rfl⟩,⟨_,PySem.W.mg_of X G gH,rfl⟩,⟨_,PySem.W.mg_of X G gS,rfl⟩,zcu lW vW (by decide),zcu lH vH (by decide),zcu lS vS (by decide)⟩
 have TS:zhT K C_Sheet:=⟨CL_Sheet,na_Sheet_defs,na_Sheet_names,na_Sheet_own,na_Sheet_uses⟩
 have TR:zhy K C_Runner:=⟨CL_Runner,na_Runner_machine⟩
 have TK:zfF K C_Looker:=⟨CL_Looker,na_Looker_machine,na_Looker_sheet,na_Looker_keeps,na_Looker_rows,na_Looker_marks,na_Looker_held⟩
 refine ⟨PySem.W.fnOf "law" "law" (C8.fnArgs zbu) (C8.fnBody zbu) (C8.fnScope zbu) .none kV_law dc_law pm_law an_law cd_law ct_law,fun s v=> .of_eq rfl,fun base _ _=>?_⟩
 have cdn:=zhz (P:=l.prog) (w:=w) (base:=base) D_q75 b_q75 T
 have ctr:=zig T cdn D_q57 b_q57
 have ctw:=zh3 (P:=l.prog) (w:=w) (base:=base) D_q53 b_q53
 have cib:=zia (P:=l.prog) (w:=w) (base:=base) T D_q60 b_q60
 have mfa:=zfH (P:=l.prog) (w:=w) (base:=base) T e_q29 D_q29 b_q29
 have meb:=zey T ctw e_q25 D_q25 b_q25
 have msa:=zht (P:=l.prog) (w:=w) (base:=base) T e_q49 D_q49 b_q49
 have mds:=zcg T cdn ctr mfa e_q3 D_q3 b_q3
 have mdp:=zcx T msa e_q7 D_q7 b_q7
 have mca:=zhl (P:=l.prog) (w:=w) (base:=base) T ⟨mk_Caller,m_q45,i_q45,kp_Caller⟩ hm_Caller D_q45 b_q45
 have mbc:=zbN T mfa mca e_q0 D_q0 b_q0
 have mgi:=zg0 T meb e_q35 D_q35 b_q35
 have mdc:=zdm T mds mbc mgi mfa mdp e_q15 D_q15 b_q15
 have mgo:=zfS T mdc mfa e_q30 D_q30 b_q30
 have mdr:=zep T mgo e_q19 D_q19 b_q19
 have cnr:=zhn (P:=l.prog) (w:=w) (base:=base) T D_q32 b_q32
 have mma:=zhZ T cnr cib mgo ⟨mk_Machine,m_q37,i_q37,kp_Machine⟩ hm_Machine D_q37 b_q37 .nil
 have mmk:=zgo (P:=l.prog) (w:=w) (base:=base) T e_q34 D_q34 b_q34
 have mra:=zb3 (P:=l.prog) (w:=w) (base:=base) T e_q4 D_q4 b_q4
 have muw:=zcs (P:=l.prog) (w:=w) (base:=base) T e_q2 D_q2 b_q2
 have frn:=zhj T mma mdr D_run
 have msh:=zhu (P:=l.prog) (w:=w) (base:=base) T TS ⟨mk_Sheet,m_q58,i_q58,kp_Sheet⟩ hm_Sheet D_q58 b_q58
 have mst:=zcO (P:=l.prog) (w:=w) (mg:=mg) (base:=base) TS e_q23 D_q23 b_q23
 have crb:=zhL (P:=l.prog) (w:=w) (base:=base) T D_q59 b_q59
 have crp:=zhx T crb D_q26 b_q26
 have fri:=zhN TR mma D_q41
 have rwh:=zh7 TR mra e_q38 D_q38 b_q38
 have rne:=zik T TR mdr rwh e_q42 D_q42 b_q42
 have rsa:=zhP (P:=l.prog) (w:=w) (base:=base) (C:=C_Machine) (CC:=C_Caller) T TR e_q48 D_q48 b_q48
 have fli:=zhh T TK mma msh crp D_q52
 have lwh:=zhO TK mra e_q40 D_q40 b_q40
 have lro:=zd8 (P:=l.prog) (w:=w) (base:=base) T TK e_q27 D_q27 b_q27
 have lfa:=zcv T TK muw cib e_q17 D_q17 b_q17
 have lst:=zhW (CS:=C_Sheet) T TK mmk mdr lwh e_q50 D_q50 b_q50
 have lfr:=zeH T TK TS muw lro e_q28 D_q28 b_q28
 have lse:=zgG T TK TS lfa mst lro ctw e_q43 D_q43 b_q43
 have lla:=zdJ (CS:=C_Sheet) T TK (PySem.W.mg_none_of X G z_zip) ctw e_q21 D_q21 b_q21
 have cd:=zgO (zft (P:=l.prog) (w:=w) (base:=base) TL D_q61 b_q61)
 have cn:=zgv (zfL (P:=l.prog) (w:=w) (base:=base) TL D_q62 b_q62)
 have cl:=zeM (P:=l.prog) (w:=w) (base:=base) TL D_q64 b_q64 7
 have cbh:=zds (P:=l.prog) (w:=w) (base:=base) TL D_q33 b_q33
 exact zit TL cd cn cbh cl ⟨f_run,_,_,ds_run,frn,D_run.mgf,D_run.kp,hb_run,hv_run⟩ ⟨f_run,_,_,gg_run,frn,D_run.mgf,D_run.kp,hk_run⟩
  ⟨f_q52,_,_,gg_Looker_init,⟨mk_Looker,m_q52,i_q52,kp_Looker⟩,fli,hm_Looker,hk_Looker_init⟩ ⟨f_q41,_,_,gg_Runner_init,⟨mk_Runner,m_q41,i_q41,kp_Runner⟩,fri,hm_Runner,hk_Runner_init⟩
  lwh rwh lfr lse lst rne lla rsa D_law
end Wt
open PySem PySem.W PyProof.Rows
set_option maxRecDepth 100000 in
set_option maxHeartbeats 0 in
theorem PySem.Challenge.cw_wholetongue_k88_images_made_by_hand_holds : PySem.Challenge.rw_wholetongue_k88_images_made_by_hand.Holds := by
  w_on; o_law; k_head; (case hw => w_witness2)
  k_fill
  refine L2.walk_of (l := PySem.Challenge.rw_wholetongue_k88_images_made_by_hand) (n := 63) (k := 10) (x := "_law_script") (CX := fun _ => C8.CX0) (sp := fun w => Wt.spLaw _) rfl (by decide) rfl ⟨rfl, by decide, by decide⟩ (fun w h Y => PySem.W.kIn_of Y) ?F (fun _ _ a ns hl ho hS => ⟨a, ns, rfl, Wt.scr_of hl ho hS, fun _ => rfl⟩) (fun _ _ _ _ _ h => h)
  case F =>
    intro w mg fa h KX G hmg
    refine' Wt.all_mk KX G hmg ?a_q75 ?l_q75 ?c_q75 ?k_q75 ?a_q57 ?l_q57 ?c_q57 ?k_q57 ?a_q53 ?l_q53 ?c_q53 ?k_q53 ?a_q60 ?l_q60 ?c_q60 ?k_q60 ?a_q32 ?l_q32 ?c_q32 ?k_q32 ?a_q59 ?l_q59 ?c_q59 ?k_q59 ?a_q26 ?l_q26 ?c_q26 ?k_q26 ?a_q61 ?l_q61 ?c_q61 ?k_q61 ?a_q62 ?l_q62 ?c_q62 ?k_q62 ?a_q64 ?l_q64 ?c_q64 ?k_q64 ?a_q33 ?l_q33 ?c_q33 ?k_q33 ?a_law ?l_law ?c_law ?k_law ?a_run ?l_run ?c_run ?k_run ?g_Caller ?pg_Caller ?hd_Caller ?po_Caller ?sa_Caller ?mk_Caller ?kp_Caller ?na_Caller_number ?na_Caller_call ?na_Caller_at ?na_Caller_cells ?na_Caller_pile ?g_Machine ?pg_Machine ?hd_Machine ?po_Machine ?sa_Machine ?mk_Machine ?kp_Machine ?na_Machine_number ?na_Machine_most ?na_Machine_code ?na_Machine_places ?na_Machine_defs ?na_Machine_numbers ?na_Machine_kept ?na_Machine_at ?na_Machine_cells ?na_Machine_pile ?na_Machine_callers ?na_Machine_call ?na_Machine_calls ?na_Machine_began ?na_Machine_spoken ?na_Machine_ended ?g_Runner ?pg_Runner ?hd_Runner ?po_Runner ?sa_Runner ?mk_Runner ?kp_Runner ?na_Runner_machine ?g_Sheet ?pg_Sheet ?hd_Sheet ?po_Sheet ?sa_Sheet ?mk_Sheet ?kp_Sheet ?na_Sheet_defs ?na_Sheet_names ?na_Sheet_own ?na_Sheet_uses ?g_Looker ?pg_Looker ?hd_Looker ?po_Looker ?sa_Looker ?mk_Looker ?kp_Looker ?na_Looker_machine ?na_Looker_sheet ?na_Looker_keeps ?na_Looker_rows ?na_Looker_marks ?na_Looker_held ?m_q45 ?i_q45 ?l_q45 ?c_q45 ?k_q45 ?m_q29 ?i_q29 ?l_q29 ?c_q29 ?k_q29 ?m_q25 ?i_q25 ?l_q25 ?c_q25 ?k_q25 ?m_q49 ?i_q49 ?l_q49 ?c_q49 ?k_q49 ?m_q3 ?i_q3 ?l_q3 ?c_q3 ?k_q3 ?m_q7 ?i_q7 ?l_q7 ?c_q7 ?k_q7 ?m_q0 ?i_q0 ?l_q0 ?c_q0 ?k_q0 ?m_q35 ?i_q35 ?l_q35 ?c_q35 ?k_q35 ?m_q15 ?i_q15 ?l_q15 ?c_q15 ?k_q15 ?m_q30 ?i_q30 ?l_q30 ?c_q30 ?k_q30 ?m_q19 ?i_q19 ?l_q19 ?c_q19 ?k_q19 ?m_q37 ?i_q37 ?l_q37 ?c_q37 ?k_q37 ?m_q34 ?i_q34 ?l_q34 ?c_q34 ?k_q34 ?m_q4 ?i_q4 ?l_q4 ?c_q4 ?k_q4 ?m_q2 ?i_q2 ?l_q2 ?c_q2 ?k_q2 ?m_q58 ?i_q58 ?l_q58 ?c_q58 ?k_q58 ?m_q23 ?i_q23 ?l_q23 ?c_q23 ?k_q23 ?m_q38 ?i_q38 ?l_q38 ?c_q38 ?k_q38 ?m_q42 ?i_q42 ?l_q42 ?c_q42 ?k_q42 ?m_q48 ?i_q48 ?l_q48 ?c_q48 ?k_q48 ?m_q40 ?i_q40 ?l_q40 ?c_q40 ?k_q40 ?m_q27 ?i_q27 ?l_q27 ?c_q27 ?k_q27 ?m_q17 ?i_q17 ?l_q17 ?c_q17 ?k_q17 ?m_q50 ?i_q50 ?l_q50 ?c_q50 ?k_q50 ?m_q28 ?i_q28 ?l_q28 ?c_q28 ?k_q28 ?m_q43 ?i_q43 ?l_q43 ?c_q43 ?k_q43 ?m_q21 ?i_q21 ?l_q21 ?c_q21 ?k_q21 ?m_q41 ?i_q41 ?l_q41 ?c_q41 ?k_q41 ?m_q52 ?i_q52 ?l_q52 ?c_q52 ?k_q52 ?d_run ?n_run ?d_Runner_init ?n_Runner_init ?d_Looker_init ?n_Looker_init ?z_len ?z_int ?z_str ?z_bool ?z_tuple ?z_list ?z_range ?z_isinstance ?z_abs ?z_enumerate ?z_reversed ?z_zip ?gROW ?gCALL_SIZE ?gMOST_CALLS ?gMOST_ROWS ?gMOST ?gW ?lW ?vW ?gH ?lH ?vH ?gS ?lS ?vS
    (case a_q75 => k_is); (case l_q75 => k_is); (case c_q75 => k_is); (case k_q75 => k_is)
    (case a_q57 => k_is); (case l_q57 => k_is); (case c_q57 => k_is); (case k_q57 => k_is)
    (case a_q53 => k_is); (case l_q53 => k_is); (case c_q53 => k_is); (case k_q53 => k_is)
    (case a_q60 => k_is); (case l_q60 => k_is); (case c_q60 => k_is); (case k_q60 => k_is)
    (case a_q32 => k_is); (case l_q32 => k_is); (case c_q32 => k_is); (case k_q32 => k_is)
    (case a_q59 => k_is); (case l_q59 => k_is); (case c_q59 => k_is); (case k_q59 => k_is)
    (case a_q26 => k_is); (case l_q26 => k_is); (case c_q26 => k_is); (case k_q26 => k_is)
    (case a_q61 => k_is); (case l_q61 => k_is); (case c_q61 => k_is); (case k_q61 => k_is)
    (case a_q62 => k_is); (case l_q62 => k_is); (case c_q62 => k_is); (case k_q62 => k_is)
    (case a_q64 => k_is); (case l_q64 => k_is); (case c_q64 => k_is); (case k_q64 => k_is)
    (case a_q33 => k_is); (case l_q33 => k_is); (case c_q33 => k_is); (case k_q33 => k_is)
    (case a_law => k_is); (case l_law => k_is); (case c_law => k_is); (case k_law => k_is)
    (case a_run => k_is); (case l_run => k_is); (case c_run => k_is); (case k_run => k_is)
    (case g_Caller => k_is); (case pg_Caller => k_is); (case hd_Caller => k_is); (case po_Caller => k_is); (case sa_Caller => k_is); (case mk_Caller => k_is); (case kp_Caller => k_is); (case na_Caller_number => k_is); (case na_Caller_call => k_is); (case na_Caller_at => k_is); (case na_Caller_cells => k_is); (case na_Caller_pile => k_is)
    (case g_Machine => k_is); (case pg_Machine => k_is); (case hd_Machine => k_is); (case po_Machine => k_is); (case sa_Machine => k_is); (case mk_Machine => k_is); (case kp_Machine => k_is); (case na_Machine_number => k_is); (case na_Machine_most => k_is); (case na_Machine_code => k_is); (case na_Machine_places => k_is); (case na_Machine_defs => k_is); (case na_Machine_numbers => k_is); (case na_Machine_kept => k_is); (case na_Machine_at => k_is); (case na_Machine_cells => k_is); (case na_Machine_pile => k_is); (case na_Machine_callers => k_is); (case na_Machine_call => k_is); (case na_Machine_calls => k_is); (case na_Machine_began => k_is); (case na_Machine_spoken => k_is); (case na_Machine_ended => k_is)
    (case g_Runner => k_is); (case pg_Runner => k_is); (case hd_Runner => k_is); (case po_Runner => k_is); (case sa_Runner => k_is); (case mk_Runner => k_is); (case kp_Runner => k_is); (case na_Runner_machine => k_is)
    (case g_Sheet => k_is); (case pg_Sheet => k_is); (case hd_Sheet => k_is); (case po_Sheet => k_is); (case sa_Sheet => k_is); (case mk_Sheet => k_is); (case kp_Sheet => k_is); (case na_Sheet_defs => k_is); (case na_Sheet_names => k_is); (case na_Sheet_own => k_is); (case na_Sheet_uses => k_is)
    (case g_Looker => k_is); (case pg_Looker => k_is); (case hd_Looker => k_is); (case po_Looker => k_is); (case sa_Looker => k_is); (case mk_Looker => k_is); (case kp_Looker => k_is); (case na_Looker_machine => k_is); (case na_Looker_sheet => k_is); (case na_Looker_keeps => k_is); (case na_Looker_rows => k_is); (case na_Looker_marks => k_is); (case na_Looker_held => k_is)
    (case m_q45 => k_is); (case i_q45 => k_is); (case l_q45 => k_is); (case c_q45 => k_is); (case k_q45 => k_is)
    (case m_q29 => k_is); (case i_q29 => k_is); (case l_q29 => k_is); (case c_q29 => k_is); (case k_q29 => k_is)
    (case m_q25 => k_is); (case i_q25 => k_is); (case l_q25 => k_is); (case c_q25 => k_is); (case k_q25 => k_is)
    (case m_q49 => k_is); (case i_q49 => k_is); (case l_q49 => k_is); (case c_q49 => k_is); (case k_q49 => k_is)
    (case m_q3 => k_is); (case i_q3 => k_is); (case l_q3 => k_is); (case c_q3 => k_is); (case k_q3 => k_is)
    (case m_q7 => k_is); (case i_q7 => k_is); (case l_q7 => k_is); (case c_q7 => k_is); (case k_q7 => k_is)
    (case m_q0 => k_is); (case i_q0 => k_is); (case l_q0 => k_is); (case c_q0 => k_is); (case k_q0 => k_is)
    (case m_q35 => k_is); (case i_q35 => k_is); (case l_q35 => k_is); (case c_q35 => k_is); (case k_q35 => k_is)
    (case m_q15 => k_is); (case i_q15 => k_is); (case l_q15 => k_is); (case c_q15 => k_is); (case k_q15 => k_is)
    (case m_q30 => k_is); (case i_q30 => k_is); (case l_q30 => k_is); (case c_q30 => k_is); (case k_q30 => k_is)
    (case m_q19 => k_is); (case i_q19 => k_is); (case l_q19 => k_is); (case c_q19 => k_is); (case k_q19 => k_is)
    (case m_q37 => k_is); (case i_q37 => k_is); (case l_q37 => k_is); (case c_q37 => k_is); (case k_q37 => k_is)
    (case m_q34 => k_is); (case i_q34 => k_is); (case l_q34 => k_is); (case c_q34 => k_is); (case k_q34 => k_is)
    (case m_q4 => k_is); (case i_q4 => k_is); (case l_q4 => k_is); (case c_q4 => k_is); (case k_q4 => k_is)
    (case m_q2 => k_is); (case i_q2 => k_is); (case l_q2 => k_is); (case c_q2 => k_is); (case k_q2 => k_is)
    (case m_q58 => k_is); (case i_q58 => k_is); (case l_q58 => k_is); (case c_q58 => k_is); (case k_q58 => k_is)
    (case m_q23 => k_is); (case i_q23 => k_is); (case l_q23 => k_is); (case c_q23 => k_is); (case k_q23 => k_is)
    (case m_q38 => k_is); (case i_q38 => k_is); (case l_q38 => k_is); (case c_q38 => k_is); (case k_q38 => k_is)
    (case m_q42 => k_is); (case i_q42 => k_is); (case l_q42 => k_is); (case c_q42 => k_is); (case k_q42 => k_is)
    (case m_q48 => k_is); (case i_q48 => k_is); (case l_q48 => k_is); (case c_q48 => k_is); (case k_q48 => k_is)
    (case m_q40 => k_is); (case i_q40 => k_is); (case l_q40 => k_is); (case c_q40 => k_is); (case k_q40 => k_is)
    (case m_q27 => k_is); (case i_q27 => k_is); (case l_q27 => k_is); (case c_q27 => k_is); (case k_q27 => k_is)
    (case m_q17 => k_is); (case i_q17 => k_is); (case l_q17 => k_is); (case c_q17 => k_is); (case k_q17 => k_is)
    (case m_q50 => k_is); (case i_q50 => k_is); (case l_q50 => k_is); (case c_q50 => k_is); (case k_q50 => k_is)
    (case m_q28 => k_is); (case i_q28 => k_is); (case l_q28 => k_is); (case c_q28 => k_is); (case k_q28 => k_is)
    (case m_q43 => k_is); (case i_q43 => k_is); (case l_q43 => k_is); (case c_q43 => k_is); (case k_q43 => k_is)
    (case m_q21 => k_is); (case i_q21 => k_is); (case l_q21 => k_is); (case c_q21 => k_is); (case k_q21 => k_is)
    (case m_q41 => k_is); (case i_q41 => k_is); (case l_q41 => k_is); (case c_q41 => k_is); (case k_q41 => k_is)
    (case m_q52 => k_is); (case i_q52 => k_is); (case l_q52 => k_is); (case c_q52 => k_is); (case k_q52 => k_is)
    (case d_run => exact rfl); (case n_run => k_is); (case d_Runner_init => exact rfl); (case n_Runner_init => k_is); (case d_Looker_init => exact rfl); (case n_Looker_init => k_is)
    (case z_len => k_is)
    (case z_int => k_is)
    (case z_str => k_is)
    (case z_bool => k_is)
    (case z_tuple => k_is)
    (case z_list => k_is)
    (case z_range => k_is)
    (case z_isinstance => k_is)
    (case z_abs => k_is)
    (case z_enumerate => k_is)
    (case z_reversed => k_is)
    (case z_zip => k_is)
    (case gROW => k_is); (case gCALL_SIZE => k_is); (case gMOST_CALLS => k_is); (case gMOST_ROWS => k_is); (case gMOST => k_is)
    (case gW => k_is); (case lW => k_is); (case vW => first | decide +kernel | kernel_rfl); (case gH => k_is); (case lH => k_is); (case vH => first | decide +kernel | kernel_rfl); (case gS => k_is); (case lS => k_is); (case vS => first | decide +kernel | kernel_rfl)
