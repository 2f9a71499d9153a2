import PyProof.Rows.All
import Wide.All
import OpenK.AllK
import Wide.FinOn
import Lean
import PyProof.EqAt
import PyProof.EqKinds
import PyProof.TupleCall
import KE.KSortTup
import KE.KRevIter
import KE.KLam
import KE.KNestM
import KE.KTryDeep
import KE.KTryOn
import OpenK.KOwn
import PyProof.MeetsDict
import PySem.Challenge.RW_turnery_k71_wants_that_are_met
set_option hygiene false
local macro_rules|`((0:))=>`((by decide +kernel))
local macro_rules|`((1:))=>`(⟨rfl,rfl,rfl,by decide +kernel,rfl,by decide +kernel,by decide +kernel⟩)
local macro_rules|`((2:))=>`((vS "law_turnery_k71_wants_that_are_met" 328))
local macro_rules|`((3:))=>`((fun cdv A outer s H vs Q E hr h=>?_))
local macro_rules|`((4:))=>`((by lia))
local macro_rules|`((5:))=>`((fun _ _=>rfl))
local macro_rules|`((6:))=>`((model X.prog X.w))
local macro_rules|`((7:))=>`((Nat.le_refl _))
local macro_rules|`((8:))=>`((B (oT #[]) N N))
local macro_rules|`((9:))=>`((fun vs H Q E h=>?_))
local macro_rules|`((10:))=>`((∀ b o,b≠zp→b≠tu→b≠j1→b≠j2→s.heap.get? b=some o→h'.get? b=some o))
local macro_rules|`((11:))=>`((Addr × Obj))
local macro_rules|`((12:))=>`(((s.heap.update a (Obj.mapSeq fun _=>(#[]:Array Value))).push (seqObj "tuple" vs.toArray 0)))
local macro_rules|`((13:))=>`(⟨.ref s.heap.objs.size,_,I2,rfl,⟨s.heap.objs.size,_,_,I.fresh,rfl,rfl,ex,ey⟩,⟨hz',hs'.extBut _ _ Ap.TIz (hk _ _ Ap.TIz Ap.TITO Ap.TIi1 Ap.TIi2 hTI),⟨_,_,hs'.extBut _ _ Ap.TOz a2⟩,a3.extBut hs'.extBut Ap.i1z,a4.extBut hs'.extBut Ap.i2z⟩,hfr⟩)
local macro_rules|`((14:))=>`(⟨X.K,fs,ms,nr,sr⟩)
local macro_rules|`((15:))=>`((model prog w))
local macro_rules|`((16:))=>`((Heap.get?_push_of_some _ (Heap.get?_push_of_some _ (Heap.get?_push_size _ rfl))))
local macro_rules|`((17:))=>`((s.heap.objs.size + 1))
noncomputable section
set_option Elab.async false
set_option linter.all false
set_option maxRecDepth 100000
namespace L2
open PySem PySem.Spec PyProof.Rows
abbrev Key:=Sum Int Str
def Ut:Key→Value→Bool
 | .inl k,v=>Value.isInt k v
 | .inr x,v=>Value.isStrOf x v
def Pd (w:World):Key→Int
 | .inl k=>hashInt k
 | .inr x=>hashStr w x
theorem QC:∀ {k:Key} {v:Value},Ut k v=true→(∃ i t,k=Sum.inl i∧v=Value.int i t)∨(∃ x t,k=Sum.inr x∧v=Value.str x t)
 | .inl i,v,h=>by
  obtain ⟨t,e⟩:=Value.isInt_shape (k:=i) (v:=v) h
  exact .inl ⟨i,t,rfl,e⟩
 | .inr x,v,h=>by
  obtain ⟨t,e⟩:=Value.isStrOf_shape (x:=x) (v:=v) h
  exact .inr ⟨x,t,rfl,e⟩
theorem Vq (i:Int) (t:Tok):Ut (.inl i) (.int i t)=true:=by simp [Ut,Value.isInt]
theorem Vu (x:Str) (t:Tok):Ut (.inr x) (.str x t)=true:=by simp [Ut,Value.isStrOf]
theorem NU (a b:Int):decide ((Sum.inl a:Key)=Sum.inl b)=(a == b):=by
 by_cases e:a=b
 ·subst e;simp
 ·have h:¬ (Sum.inl a:Key)=Sum.inl b:=fun q=>e (Sum.inl.inj q)
  rw [decide_eq_false h]
  exact (beq_eq_false_iff_ne.mpr e).symm
theorem NE (a b:Str):decide ((Sum.inr a:Key)=Sum.inr b)=decide (a=b):=by
 by_cases e:a=b
 ·subst e;simp
 ·have h:¬ (Sum.inr a:Key)=Sum.inr b:=fun q=>e (Sum.inr.inj q)
  rw [decide_eq_false h,decide_eq_false e]
theorem NF (a:Int) (b:Str):decide ((Sum.inl a:Key)=Sum.inr b)=false:=decide_eq_false (fun q=>nomatch q)
theorem NR (a:Str) (b:Int):decide ((Sum.inr a:Key)=Sum.inl b)=false:=decide_eq_false (fun q=>nomatch q)
def Qt (prog:Program) (w:World):PySem.KeyKind prog w Key where
 is:=Ut
 hash:=Pd w
 inj:=fun v a b ha hb=>by
  rcases QC ha with ⟨i,t,rfl,rfl⟩ | ⟨x,t,rfl,rfl⟩
  ·rcases QC hb with ⟨j,u,rfl,e⟩ | ⟨y,u,rfl,e⟩
   ·injection e with e1 _;rw [e1]
   ·exact nomatch e
  ·rcases QC hb with ⟨j,u,rfl,e⟩ | ⟨y,u,rfl,e⟩
   ·exact nomatch e
   ·injection e with e1 _;rw [e1]
 byValue:=fun k v h=>by
  rcases QC h with ⟨i,t,rfl,rfl⟩ | ⟨x,t,rfl,rfl⟩ <;> rfl
 pyHash:=fun hv h=>by
  rcases QC hv with ⟨i,t,rfl,rfl⟩ | ⟨x,t,rfl,rfl⟩
  ·exact wpAny_pyHash_int h
  ·exact wpAny_pyHash_str h
 eqBool:=fun hu hv h=>by
  rcases QC hu with ⟨i,t,rfl,rfl⟩ | ⟨x,t,rfl,rfl⟩
  ·rcases QC hv with ⟨j,u,rfl,rfl⟩ | ⟨y,u,rfl,rfl⟩
   ·rw [NU] at h;exact wpAny_eqBool_int h
   ·rw [NF] at h;exact SeqAt.EqAt.int_str i t y u _ _ _ _ h
  ·rcases QC hv with ⟨j,u,rfl,rfl⟩ | ⟨y,u,rfl,rfl⟩
   ·rw [NR] at h;exact SeqAt.EqAt.str_int x t j u _ _ _ _ h
   ·rw [NE] at h;exact wpAny_eqBool_str h
 «strs»:=fun k x t v h=>by
  rcases QC h with ⟨i,u,rfl,e⟩ | ⟨y,u,rfl,e⟩
  ·exact nomatch e
  ·injection e with e1 _
   subst e1
   cases v <;> rfl
theorem J8 (prog:Program) (w:World) (i:Int) (t:Tok):(Qt prog w).is (.inl i) (.int i t)=true:=Vq i t
theorem Xt (prog:Program) (w:World) (x:Str) (t:Tok):(Qt prog w).is (.inr x) (.str x t)=true:=Vu x t
end L2
namespace L2
open PySem PySem.Spec PyProof.Rows
inductive V where
 | non | bl (b:Bool) | int (i:Int) | str (x:Str) | byt (b:Array UInt8) | flt (b:UInt64) | ref (a:Addr) | ty (n:String)
 deriving DecidableEq
def RelV:V→Value→Prop
 | .non,u=>u=Value.none
 | .bl b,u=>u=Value.bool b
 | .int i,u=>∃ t,u=Value.int i t
 | .str x,u=>∃ t,u=Value.str x t
 | .byt b,u=>∃ t,u=Value.bytes b t
 | .flt b,u=>∃ t,u=Value.float b t
 | .ref a,u=>u=Value.ref a
 | .ty n,u=>u=Value.type n
abbrev Vals:List V→List Value→Prop:=Paired RelV
theorem Vals.length {xs:List V} {us:List Value} (r:Vals xs us):xs.length=us.length:=Paired.length r
theorem Vals.get:∀ {xs:List V} {us:List Value} {i:Nat} {x:V},Vals xs us→xs[i]?=some x→∃ u,us[i]?=some u∧RelV x u
 | _,_,_,_,.nil,e=>by simp at e
 | _,_,0,_,.cons r _,e=>by simp at e;subst e;exact ⟨_,rfl,r⟩
 | _,_,i + 1,x,.cons _ t,e=>by
  obtain ⟨u,h1,h2⟩:=Vals.get (i:=i) (x:=x) t (by simpa using e)
  exact ⟨u,by simpa using h1,h2⟩
theorem Vals.append:∀ {xs ys:List V} {us ws:List Value},Vals xs us→Vals ys ws→Vals (xs ++ ys) (us ++ ws)
 | _,_,_,_,.nil,s=>s
 | _,_,_,_,.cons r t,s=>.cons r (Vals.append t s)
theorem Vals.take:∀ {xs:List V} {us:List Value} (n:Nat),Vals xs us→Vals (xs.take n) (us.take n)
 | _,_,0,_=>.nil
 | _,_,_ + 1,.nil=>.nil
 | _,_,n + 1,.cons r t=>.cons r (Vals.take n t)
theorem Vals.drop:∀ {xs:List V} {us:List Value} (n:Nat),Vals xs us→Vals (xs.drop n) (us.drop n)
 | _,_,0,r=>r
 | _,_,_ + 1,.nil=>.nil
 | _,_,n + 1,.cons _ t=>Vals.drop n t
def RelO:Option V→Option Value→Prop
 | some v,some u=>RelV v u
 | none,none=>True
 | _,_=>False
def KV {κ:Type}:List (κ × V)→List (κ × Value)→Prop:=Paired fun (p:κ × V) (q:κ × Value)=>p.1=q.1∧RelV p.2 q.2
def kV:Key→V
 | .inl i=>.int i
 | .inr x=>.str x
inductive HO where
 /-- a list -/
 | lst (xs:List V)
 /-- a tuple (never changes) -/
 | tup (xs:List V)
 /-- a dict whose keys are ints and texts;one whose keys are tuples of ints and texts (the empty one is both) -/
 | dK (kvs:List (Key × V)) | dT (kvs:List (List Key × V))
 /-- a set of ints: its members,its size -/
 | set (S:Int→Bool) (n:Nat)
 /-- an instance of the class at C,its dict at dx,its attributes -/
 | ins (C dx:Addr) (fs:List (Str × V))
 /-- the dict of the instance at x -/
 | own (x:Addr)
 /-- the dict of an exception -/
 | xd (fs:List (Str × V))
 /-- a bound method,f of x -/
 | met (f x:Addr)
 /-- a range object lo,lo + 1,.. below hi -/
 | rng (lo hi:Int)
 /-- a thing that is known to the object (the script;a dict while a loop walks it): read,never written while it is so -/
 | frz (o:Obj) (u:HO)
 /-- a code object's table -/
 | tbl (ps:Array Value)
 /-- any other thing,by what is true of its one object (a def of one's own: SetO a S n:=HO.ext fun h=>..) -/
 | ext (φ:Heap→Prop)
abbrev Hp:=Addr→Option HO
def upd (H:Hp) (a:Addr) (o:HO):Hp:=fun b=>if b=a then some o else H b
theorem Qb {H:Hp} {a:Addr} {o:HO}:upd H a o a=some o:=by unfold upd;rw [if_pos rfl]
theorem Qg {H:Hp} {a b:Addr} {o:HO} (h:b≠a):upd H a o b=H b:=by unfold upd;rw [if_neg h]
theorem Q4 {H:Hp} {a b:Addr} {o u:HO} (h:H a=some o) (h':H b=some u) (d:o≠u):a≠b:=by
 intro e;subst e;rw [h] at h';exact d (Option.some.inj h')
theorem Qh {H:Hp} {a b:Addr} {o:HO} (h:H a=some o) (h':H b=none):a≠b:=by
 intro e;subst e;rw [h] at h';cases h'
section
variable (P:Program) (w:World)
def ObjOk (H:Hp) (h:Heap) (a:Addr):HO→Prop
 | .lst xs=>xs.length≤sizeLine∧∃ (its:List Value) (n:Nat),Vals xs its∧h.get? a=some { cls:=.type "list", data:=.seq its.toArray n }
 | .tup xs=>xs.length≤sizeLine∧∃ its:List Value,Vals xs its∧IsTup h a its.toArray
 | .dK kvs=>kvs.length≤sizeLine∧(a == sysModules)=false∧∃ vs,KV kvs vs∧h.DictOf (Qt P w) a vs
 | .dT kvs=>kvs.length≤sizeLine∧(a == sysModules)=false∧∃ xs:List (List Key × Addr × Value),
  Paired (fun (p:List Key × V) (q:List Key × Addr × Value)=>p.1=q.1∧H q.2.1=some (.tup (p.1.map kV))∧RelV p.2 q.2.2) kvs xs ∧
  ∃ o es ep,h.get? a=some o∧o.ExactDict∧o.data=.dict es ep∧es.toList=xs.map (entryOfKey (tupleKind (Qt P w)))∧(xs.map (·.1)).Nodup
 | .set S n=>h.SetOf (intKind P w) a S n
 | .ins C dx fs=>H dx=some (.own a)∧fs.length≤1000∧dx≠a∧h.get? a=some (PySem.W.instObj C dx) ∧
  ∃ mA,h.Ns1 dx mA∧(∀ f,RelO (fs.lookup f) (mA f))∧PySem.Within mA (fs.map (·.1))
 | .own _=>∃ o,h.get? a=some o
 | .xd fs=>∃ mA,h.Ns1 a mA∧∀ f,RelO (fs.lookup f) (mA f)
 | .rng lo hi=>∃ t u v,h.get? a=some { cls:=.type "range", data:=.fields #[.int lo t,.int hi u,.int 1 v] }
 | .frz o u=>h.get? a=some o∧ObjOk H h a u
 | .tbl ps=>h.get? a=some { cls:=.none,data:=.fields ps }
 | .met f x=>h.get? a=some (PySem.W.methodObj (.ref f) (.ref x))
 | .ext φ=>φ h∧(∃ o,h.get? a=some o)∧∀ h1 h2:Heap,φ h1→(∀ o,h1.get? a=some o→h2.get? a=some o)→φ h2
def HOk (H:Hp) (h:Heap):Prop:=∀ a o,H a=some o→ObjOk P w H h a o
end
section
variable {P:Program} {w:World} {H H':Hp} {h h':Heap} {a:Addr} {o:HO}
theorem ObjOk.lt (x:ObjOk P w H h a o):a < h.objs.size:=by
 cases o with
 | lst xs=>obtain ⟨_,_,_,_,e⟩:=x;exact Heap.lt_size e
 | tup xs=>obtain ⟨_,_,_,p⟩:=x;exact p.lt
 | dK kvs=>obtain ⟨_,_,_,_,o,_,_,e,_⟩:=x;exact Heap.lt_size e
 | dT kvs=>obtain ⟨_,_,_,_,o,_,_,e,_⟩:=x;exact Heap.lt_size e
 | set S n=>obtain ⟨o,_,_,_,e,_⟩:=x;exact Heap.lt_size e
 | ins C dx fs=>obtain ⟨_,_,_,e,_⟩:=x;exact Heap.lt_size e
 | own y=>obtain ⟨_,e⟩:=x;exact Heap.lt_size e
 | xd fs=>obtain ⟨_,⟨_,_,_,e,_⟩,_⟩:=x;exact Heap.lt_size e
 | rng lo hi=>obtain ⟨_,_,_,e⟩:=x;exact Heap.lt_size e
 | frz ob u=>obtain ⟨e,_⟩:=x;exact Heap.lt_size e
 | tbl ps=>exact Heap.lt_size (show h.get? a=some _ from x)
 | met f y=>exact Heap.lt_size (show h.get? a=some _ from x)
 | ext φ=>obtain ⟨_,⟨_,e⟩,_⟩:=x;exact Heap.lt_size e
theorem Paired.mapP {α β:Type} {F G:α→β→Prop}:∀ {l₁:List α} {l₂:List β},Paired F l₁ l₂→(∀ a b,F a b→G a b)→Paired G l₁ l₂
 | _,_,.nil,_=>.nil
 | _,_,.cons r t,f=>.cons (f _ _ r) (Paired.mapP t f)
theorem ObjOk.stay (x:ObjOk P w H h a o) (k:∀ b u,(b=a∨H b=some (.own a))→h.get? b=some u→h'.get? b=some u)
 (ho:∀ b,H b=some (.own a)→H' b=some (.own a)) (ht:∀ b xs,H b=some (.tup xs)→H' b=some (.tup xs)):ObjOk P w H' h' a o:=by
 induction o with
 | lst xs=>obtain ⟨z,its,n,r,e⟩:=x;exact ⟨z,its,n,r,k _ _ (.inl rfl) e⟩
 | tup xs=>obtain ⟨z,its,r,ob,e,c⟩:=x;exact ⟨z,its,r,ob,k _ _ (.inl rfl) e,c⟩
 | dK kvs=>obtain ⟨z,y,vs,r,ob,es,ep,e,c⟩:=x;exact ⟨z,y,vs,r,ob,es,ep,k _ _ (.inl rfl) e,c⟩
 | dT kvs =>
  obtain ⟨z,y,xs,r,ob,es,ep,e,c⟩:=x
  exact ⟨z,y,xs,Paired.mapP r fun p q z=>⟨z.1,ht _ _ z.2.1,z.2.2⟩,ob,es,ep,k _ _ (.inl rfl) e,c⟩
 | set S n=>obtain ⟨ob,es,ep,t,e,c⟩:=x;exact ⟨ob,es,ep,t,k _ _ (.inl rfl) e,c⟩
 | ins C dx fs =>
  obtain ⟨d,z,ne,e,mA,⟨od,es,ep,e2,c⟩,r⟩:=x
  exact ⟨ho _ d,z,ne,k _ _ (.inl rfl) e,mA,⟨od,es,ep,k _ _ (.inr d) e2,c⟩,r⟩
 | own y=>obtain ⟨ob,e⟩:=x;exact ⟨ob,k _ _ (.inl rfl) e⟩
 | xd fs=>obtain ⟨mA,⟨od,es,ep,e,c⟩,r⟩:=x;exact ⟨mA,⟨od,es,ep,k _ _ (.inl rfl) e,c⟩,r⟩
 | rng lo hi=>obtain ⟨t,u,v,e⟩:=x;exact ⟨t,u,v,k _ _ (.inl rfl) e⟩
 | frz ob u ih=>obtain ⟨e,q⟩:=x;exact ⟨k _ _ (.inl rfl) e,ih q⟩
 | tbl ps =>
  have e:h.get? a=some { cls:=.none,data:=.fields ps }:=x
  show h'.get? a=some { cls:=.none,data:=.fields ps }
  exact k a _ (.inl rfl) e
 | met f y =>
  have e:h.get? a=some (PySem.W.methodObj (.ref f) (.ref y)):=x
  show h'.get? a=some (PySem.W.methodObj (.ref f) (.ref y))
  exact k a _ (.inl rfl) e
 | ext φ=>obtain ⟨p,⟨o,e⟩,st⟩:=x;exact ⟨st _ _ p fun o q=>k _ _ (.inl rfl) q,⟨o,k _ _ (.inl rfl) e⟩,st⟩
theorem HOk.lt (x:HOk P w H h) (e:H a=some o):a < h.objs.size:=(x a o e).lt
theorem HOk.fresh (x:HOk P w H h) (e:h.objs.size≤a):H a=none:=by
 cases q:H a with
 | none=>rfl
 | some u=>exact absurd (Nat.lt_of_lt_of_le (x.lt q) e) (Nat.lt_irrefl _)
theorem HOk.kept (x:HOk P w H h) (k:∀ b u,h.get? b=some u→h'.get? b=some u):HOk P w H h':=fun a o e =>
 (x a o e).stay (fun b u _ q=>k b u q) (fun _ q=>q) fun _ _ q=>q
theorem HOk.laid (x:HOk P w H h) (k:∀ b u,h.get? b=some u→h'.get? b=some u) (hp:h.objs.size≤a) (new:ObjOk P w (upd H a o) h' a o):HOk P w (upd H a o) h':=fun b u e=>by
 have hn:=x.fresh hp
 by_cases hb:b=a
 ·subst hb;rw [Qb] at e;cases e;exact new
 ·rw [Qg hb] at e
  exact (x b u e).stay (fun c v _ q=>k c v q) (fun c q=>by rw [Qg (Qh q hn)];exact q) fun c xs q=>by rw [Qg (Qh q hn)];exact q
end
def Rd (H:Hp) (a:Addr) (u:HO):Prop:=H a=some u∨∃ o,H a=some (.frz o u)
theorem Rd.ok {P:Program} {w:World} {H:Hp} {h:Heap} {a:Addr} {u:HO} (r:Rd H a u) (x:HOk P w H h):ObjOk P w H h a u:=by
 rcases r with r | ⟨o,r⟩
 ·exact x a u r
 ·obtain ⟨_,q⟩:=x a _ r
  exact q
def Mut:Option HO→Prop
 | some (.lst _)=>True
 | some (.dK _)=>True
 | some (.dT _)=>True
 | some (.set _ _)=>True
 | some (.ins _ _ _)=>True
 | some (.ext _)=>True
 | _=>False
section
variable {P:Program} {w:World} {H:Hp} {h h':Heap} {x e:Addr} {o':HO}
theorem HOk.write (ok:HOk P w H h) (mu:Mut (H x)) (he:e=x∨H e=some (.own x)) (k:∀ b u,b≠e→h.get? b=some u→h'.get? b=some u) (heo:∃ u,h'.get? e=some u)
 (new:ObjOk P w (upd H x o') h' x o'):HOk P w (upd H x o') h':=fun b u q=>by
 have nown:∀ c y,H c=some (.own y)→c≠x:=fun c y r z=>by subst z;rw [r] at mu;exact mu
 have ntup:∀ c xs,H c=some (.tup xs)→c≠x:=fun c xs r z=>by subst z;rw [r] at mu;exact mu
 by_cases hb:b=x
 ·subst hb;rw [Qb] at q;cases q;exact new
 ·rw [Qg hb] at q
  by_cases hbe:b=e
  ·have q':H b=some (.own x):=by
    rcases he with z | z
    ·exact absurd (hbe.trans z) hb
    ·rw [hbe];exact z
   rw [q] at q';cases q'
   obtain ⟨v,hv⟩:=heo
   exact ⟨v,by rw [hbe];exact hv⟩
  ·refine (ok b u q).stay (fun c v hc r=>k c v ?_ r) (fun c r=>by rw [Qg (nown c b r)];exact r) fun c xs r=>by rw [Qg (ntup c xs r)];exact r
   rcases hc with rfl | hc
   ·exact hbe
   ·rintro rfl
    rcases he with z | z
    ·exact nown c b hc z
    ·rw [hc] at z;cases z;exact hb rfl
end
structure Un (fs ex:List Addr) (H H':Hp) (h h':Heap):Prop where
 keep:∀ b o,h.get? b=some o→H b=none→b ∉ fs→b ∉ ex→h'.get? b=some o
 slot:∀ b o,h.get? b=some o→H b=none→b ∈ fs→b ∉ ex→∃ sl,h'.get? b=some { o with slots:=sl }
 free:∀ b o,h.get? b=some o→H b=none→b ∉ ex→H' b=none
 there:∀ b o,h.get? b=some o→b ∉ ex→∃ o',h'.get? b=some o'
 tups:∀ b xs,H b=some (.tup xs)→H' b=some (.tup xs)
 frzs:∀ b o u,H b=some (.frz o u)→H' b=some (.frz o u)
 tbls:∀ b ps,H b=some (.tbl ps)→∃ more,H' b=some (.tbl (ps ++ more))
section
variable {fs fs' ex ex':List Addr} {H H1 H2:Hp} {h h1 h2 h':Heap} {a x e:Addr} {o:HO}
theorem Un.any (u:Un fs ex H H1 h h1) {b:Addr} {ob:Obj} (q:h.get? b=some ob) (n:H b=none) (hx:b ∉ ex):∃ sl,h1.get? b=some { ob with slots:=sl }:=by
 by_cases hb:b ∈ fs
 ·exact u.slot b ob q n hb hx
 ·exact ⟨ob.slots,u.keep b ob q n hb hx⟩
theorem Un.kept (k:∀ b u,h.get? b=some u→h'.get? b=some u):Un fs ex H H h h' :=
 ⟨fun b ob q _ _ _=>k b ob q,fun b ob q _ _ _=>⟨ob.slots,k b ob q⟩,fun _ _ _ n _=>n,fun b ob q _=>⟨ob,k b ob q⟩,fun _ _ q=>q,fun _ _ _ q=>q,fun _ ps q=>⟨#[],by rw [q];simp⟩⟩
theorem Un.refl:Un fs ex H H h h:=Un.kept fun _ _ q=>q
theorem Un.laid (k:∀ b u,h.get? b=some u→h'.get? b=some u) (hp:h.objs.size≤a) (hn:H a=none):Un fs ex H (upd H a o) h h' where
 keep:=fun b u q _ _ _=>k b u q
 slot:=fun b u q _ _ _=>⟨u.slots,k b u q⟩
 free:=fun b u q n _=>by rw [Qg (Nat.ne_of_lt (Nat.lt_of_lt_of_le (Heap.lt_size q) hp))];exact n
 there:=fun b u q _=>⟨u,k b u q⟩
 tups:=fun b xs q=>by rw [Qg (Qh q hn)];exact q
 frzs:=fun b u xs q=>by rw [Qg (Qh q hn)];exact q
 tbls:=fun b ps q=>⟨#[],by rw [Qg (Qh q hn),q];simp⟩
theorem Un.write (mu:Mut (H x)) (he:e=x∨H e=some (.own x)) (k:∀ b u,b≠e→h.get? b=some u→h'.get? b=some u) (heo:∃ u,h'.get? e=some u):Un fs ex H (upd H x o) h h':=by
 have hx:∀ b,H b=none→b≠x:=fun b n z=>by subst z;rw [n] at mu;exact mu
 have hb:∀ b,H b=none→b≠e:=fun b n z=>by
  subst z
  rcases he with r | r
  ·exact hx b n r
  ·rw [n] at r;cases r
 have hm:∀ b u,H b=some u→¬ Mut (some u)→b≠x:=fun b u q nm z=>by subst z;rw [q] at mu;exact nm mu
 refine ⟨fun b u q n _ _=>k b u (hb b n) q,fun b u q n _ _=>⟨u.slots,k b u (hb b n) q⟩,fun b u q n _=>by rw [Qg (hx b n)];exact n,fun b u q _=>?_,fun b xs q=>by rw [Qg (hm b _ q fun z=>z)];exact q,fun b u xs q=>by rw [Qg (hm b _ q fun z=>z)];exact q,fun b ps q=>⟨#[],by rw [Qg (hm b _ q fun z=>z),q];simp⟩⟩
 by_cases hbe:b=e
 ·subst hbe;exact heo
 ·exact ⟨u,k b u hbe q⟩
end
def trk (h:Heap) (H:Hp):List Addr:=(List.range h.objs.size).filter fun a=>(H a).isSome
def Jx (h:Heap) (H:Hp):Heap:=PySem.W.hideAll h (trk h H)
theorem VE (h:Heap) (H:Hp):(Jx h H).objs.size=h.objs.size:=PySem.W.hideAll_size _ _
theorem Lf {h:Heap} {H:Hp} {b:Addr} {o:Obj} (e:h.get? b=some o) (n:H b=none):(Jx h H).get? b=some o :=
 PySem.W.hideAll_get _ e fun hm=>by
  have q:(H b).isSome=true:=(List.mem_filter.mp hm).2
  rw [n] at q;simp at q
theorem Lz {h:Heap} {H:Hp} {b:Addr} {o:Obj} (e:(Jx h H).get? b=some o):h.get? b=some o∧H b=none:=by
 have e':h.get? b=some o:=PySem.W.of_hideAll (trk h H) e
 refine ⟨e',?_⟩
 cases q:H b with
 | none=>rfl
 | some x =>
  have hm:b ∈ trk h H:=List.mem_filter.mpr ⟨List.mem_range.mpr (Heap.lt_size e'),by simp [q]⟩
  have z:(Jx h H).get? b=none:=PySem.W.hideAll_none (trk h H) hm
  rw [z] at e;cases e
def Ly (g h:Heap) (L:Addr):List (11:):=(List.range h.objs.size).filterMap fun a=>if a=L∨(g.get? a).isSome=true then none else (h.get? a).map fun o=>(a,o)
def rest (g h:Heap) (L d:Addr):List (11:):=(Ly g h L).filter fun p=>decide (p.1≠d)
end L2
namespace L2
open PySem PySem.Spec PyProof.Rows
structure Mod (K:PySem.W.Frag) (mg:Str→Option Value) (base:Heap):Prop where
 kin:K.In base
 glob:base.Ns mainGlobals mg
 blt:∃ mb,base.Ns builtinsNs mb∧∀ x:Str,x ≠ "__name__" → mb x=bootBuiltins x
 nolimit:base.NoLimit
structure Cx where
 prog:Program
 w:World
 K:PySem.W.Frag
 mg:Str→Option Value
 base:Heap
 A:Around
 N:List Str
 s₀:Shared
 H₀:Hp
 env:Env
 outer:List Env
 stack:List Env
 ex:List Addr
 fn:Str→Bool
 calm:Bool
 pn:List (11:)
 xe:Value→Shared→Prop
def frs (l:List Env):List Addr:=l.filterMap (·.frame)
abbrev Cx.fs (X:Cx):List Addr:=frs X.outer
def Vis (sc:Scope) (x:Str):Prop:=sc.names.lookup x=some .local∨sc.names.lookup x=some .cell∨sc.names.lookup x=some .free
def Loc (sc:Scope) (x:Str):Prop:=sc.names.lookup x=some .local∨sc.names.lookup x=some .cell
def O6 (env:Env) (h:Heap) (m:Str→Option Value) (x:Str) (u:Value):Prop :=
 (env.kindOf x=some .local∧m x=some u)∨((env.kindOf x=some .cell∨env.kindOf x=some .free)∧∃ c,env.cells.lookup x=some c∧h.IsCell c (some u))
structure Cx.Ok (X:Cx):Prop where
 mod:Mod X.K X.mg X.base
 kind:X.env.scope.kind=.function
 glob:X.env.globals=mainGlobals
 blt:X.env.builtins=builtinsNs
 above:X.s₀.heap.objs.size≤X.env.locals
 inj:∀ x y c,X.env.cells.lookup x=some c→X.env.cells.lookup y=some c→x=y
 has:∀ x,(X.env.kindOf x=some .cell∨X.env.kindOf x=some .free)→∃ c,X.env.cells.lookup x=some c
 cab:∀ x c,X.fn x=true→X.env.cells.lookup x=some c→X.s₀.heap.objs.size≤c
 hd:X.calm=true→X.A.handled=none
 frames:X.A.frames=some X.stack
 stk:X.stack=X.outer∨(X.stack=X.env :: X.outer∧X.env.frame=some X.env.locals)
 exf:∀ b ∈ X.ex,b≠X.env.locals∧∀ x c,X.env.cells.lookup x=some c→c≠b
 bs:∀ b o,X.base.get? b=some o→X.s₀.heap.get? b=some o∧X.H₀ b=none
 bsz:X.base.objs.size≤X.s₀.heap.objs.size
 noex:∀ b o,X.base.get? b=some o→b ∉ X.ex
 exfs:∀ b ∈ X.ex,b ∉ X.fs
 funs:X.s₀.heap.FunFrames X.base X.outer
 frf:∀ b ∈ X.fs,X.H₀ b=none
structure Inv (X:Cx) (pins:List (11:)) (σ:List (Option V)) (H:Hp) (s:Shared):Prop where
 ok:X.Ok
 os:s.os=X.s₀.os
 bare:AllBare s.gens
 base:Un X.fs X.ex X.H₀ H X.s₀.heap s.heap
 loc:∃ m,s.heap.Ns X.env.locals m∧∀ (i:Nat) (x:Str) (v:V),X.N[i]?=some x→σ[i]?=some (some v)→Vis X.env.scope x→∃ u,RelV v u∧O6 X.env s.heap m x u
 cell:∀ x c,X.env.cells.lookup x=some c→∃ v,s.heap.IsCell c v
 free:H X.env.locals=none
 freeC:∀ x c,X.env.cells.lookup x=some c→H c=none
 pin:∀ p ∈ X.pn ++ pins,s.heap.get? p.1=some p.2∧H p.1=none∧p.1≠X.env.locals∧p.1 ∉ X.fs∧∀ v,p.2.data≠.cell v
 hok:HOk X.prog X.w H s.heap
 len:σ.length=X.N.length
section
variable {X:Cx} {pins:List (11:)} {σ:List (Option V)} {H H':Hp} {s:Shared} {h':Heap}
theorem Cx.Ok.nofr (ok:X.Ok) {b:Addr} {o:Obj} (e:X.base.get? b=some o):b ∉ X.fs:=fun hb=>by
 have:=(ok.funs.mem hb).1
 rw [e] at this;cases this
theorem Inv.bs (I:Inv X pins σ H s):∀ b o,X.base.get? b=some o→s.heap.get? b=some o∧H b=none:=fun b o e =>
 ⟨I.base.keep b o (I.ok.bs b o e).1 (I.ok.bs b o e).2 (I.ok.nofr e) (I.ok.noex b o e),I.base.free b o (I.ok.bs b o e).1 (I.ok.bs b o e).2 (I.ok.noex b o e)⟩
theorem Inv.bk (I:Inv X pins σ H s):∀ b o,X.base.get? b=some o→s.heap.get? b=some o:=fun b o e=>(I.bs b o e).1
theorem Inv.mod (I:Inv X pins σ H s):Mod X.K X.mg X.base:=I.ok.mod
theorem Inv.kIn (I:Inv X pins σ H s):X.K.In s.heap:=I.ok.mod.kin.keeps I.bk
theorem Inv.lt (I:Inv X pins σ H s):X.env.locals < s.heap.objs.size:=let ⟨_,hn,_⟩:=I.loc;hn.lt
theorem Inv.sz (I:Inv X pins σ H s):X.s₀.heap.objs.size≤s.heap.objs.size:=Nat.le_trans I.ok.above (Nat.le_of_lt I.lt)
theorem Inv.nofs (I:Inv X pins σ H s) {a:Addr} (h:s.heap.objs.size≤a):a ∉ X.fs:=fun hb=>by
 obtain ⟨_,o,ho,_⟩:=I.ok.funs.mem hb
 exact absurd (Nat.lt_of_lt_of_le (Heap.lt_size ho) (Nat.le_trans I.sz h)) (Nat.lt_irrefl _)
theorem Inv.cne (I:Inv X pins σ H s):∀ x c,X.env.cells.lookup x=some c→c≠X.env.locals:=fun x c e z=>by
 obtain ⟨v,o,ho,hd⟩:=I.cell x c e
 obtain ⟨m,⟨o',es,ep,ho',hd',_⟩,_⟩:=I.loc
 rw [z,ho'] at ho;cases ho;rw [hd'] at hd;cases hd
theorem Inv.funs (I:Inv X pins σ H s):s.heap.FunFrames X.base X.outer:=by
 have all:∀ (l:List Env),(∀ b ∈ frs l,b ∈ X.fs)→X.s₀.heap.FunFrames X.base l→s.heap.FunFrames X.base l:=by
  intro l
  induction l with
  | nil=>intro _ _;trivial
  | cons env r ih =>
   intro hs hl
   obtain ⟨hk,⟨L,o,hf,hn,ho,hd⟩,hr⟩:=hl
   have hL:L ∈ X.fs:=hs L (by unfold frs;rw [List.filterMap_cons,hf];exact List.mem_cons_self)
   obtain ⟨sl,e⟩:=I.base.slot L o ho (I.ok.frf L hL) hL fun z=>I.ok.exfs L z hL
   exact ⟨hk,⟨L,_,hf,hn,e,hd⟩,ih (fun b hb=>hs b (by unfold frs;rw [List.filterMap_cons,hf];exact List.mem_cons_of_mem _ hb)) hr⟩
 exact all X.outer (fun _ hb=>hb) I.ok.funs
theorem Inv.stack (I:Inv X pins σ H s):s.heap.FunFrames X.base X.stack:=by
 rcases I.ok.stk with e | ⟨e,hf⟩
 ·rw [e];exact I.funs
 ·rw [e]
  obtain ⟨m,hn,_⟩:=I.loc
  refine .cons (by rw [I.ok.kind];decide) hf hn ?_ I.funs
  exact Heap.get?_none_of_le (Nat.le_trans I.ok.bsz I.ok.above)
theorem Inv.stkSub (I:Inv X pins σ H s):∀ b ∈ frs X.stack,b ∈ X.env.locals :: X.fs:=fun b hb=>by
 rcases I.ok.stk with e | ⟨e,hf⟩
 ·rw [e] at hb;exact List.mem_cons_of_mem _ hb
 ·rw [e] at hb
  unfold frs at hb
  rw [List.filterMap_cons,hf] at hb
  exact hb
theorem Inv.stkFree (I:Inv X pins σ H s):∀ b ∈ frs X.stack,H b=none:=fun b hb=>by
 rcases List.mem_cons.mp (I.stkSub b hb) with e | hb
 ·rw [e];exact I.free
 ·obtain ⟨_,o,ho,_⟩:=I.ok.funs.mem hb
  exact I.base.free b o ho (I.ok.frf b hb) fun z=>I.ok.exfs b z hb
theorem Inv.step {g':Array GenState} {t':Nat} {d':Drawn} {ch:List Addr} (I:Inv X pins σ H s)
 (hch:∀ b ∈ ch,(b ∈ X.ex∨X.s₀.heap.objs.size≤b)∧b≠X.env.locals∧(∀ x c,X.env.cells.lookup x=some c→c≠b)∧∀ p ∈ X.pn ++ pins,p.1≠b)
 (keep:∀ b o,b≠X.env.locals→b ∉ X.fs→b ∉ ch→s.heap.get? b=some o→H b=none→h'.get? b=some o)
 (slot:∀ b o,b≠X.env.locals→b ∈ X.fs→b ∉ ch→s.heap.get? b=some o→H b=none→∃ sl,h'.get? b=some { o with slots:=sl }) (free:∀ b o,b ∉ ch→s.heap.get? b=some o→H b=none→H' b=none)
 (there:∀ b o,b ∉ ch→s.heap.get? b=some o→∃ o',h'.get? b=some o')
 (tups:∀ b xs,H b=some (.tup xs)→H' b=some (.tup xs)) (frzs:∀ b o u,H b=some (.frz o u)→H' b=some (.frz o u)) (tbls:∀ b ps,H b=some (.tbl ps)→∃ more,H' b=some (.tbl (ps ++ more)))
 (ns:∀ m,s.heap.Ns X.env.locals m→h'.Ns X.env.locals m) (hok:HOk X.prog X.w H' h') (hg:AllBare g') :
 Inv X pins σ H' { s with heap:=h',gens:=g',drawn:=d',toks:=t' }:=by
 have neL:∀ b o,X.s₀.heap.get? b=some o→b≠X.env.locals:=fun b o e=>Nat.ne_of_lt (Nat.lt_of_lt_of_le (Heap.lt_size e) I.ok.above)
 have neC:∀ b o,X.s₀.heap.get? b=some o→b ∉ X.ex→b ∉ ch:=fun b o e hx hb=>by
  rcases (hch b hb).1 with z | z
  ·exact hx z
  ·exact absurd (Nat.lt_of_lt_of_le (Heap.lt_size e) z) (Nat.lt_irrefl _)
 have cellK:∀ x c,X.env.cells.lookup x=some c→∀ v,s.heap.IsCell c v→h'.IsCell c v:=fun x c e v ⟨o,ho,hd⟩=>by
  have nch:c ∉ ch:=fun z=>(hch c z).2.2.1 x c e rfl
  by_cases hc:c ∈ X.fs
  ·obtain ⟨sl,q⟩:=slot c o (I.cne x c e) hc nch ho (I.freeC x c e)
   exact ⟨_,q,hd⟩
  ·exact ⟨o,keep c o (I.cne x c e) hc nch ho (I.freeC x c e),hd⟩
 refine ⟨I.ok,I.os,hg,⟨fun b o e n hb hx=>?_,fun b o e n hb hx=>?_,fun b o e n hx=>?_,fun b o e hx=>?_,fun b xs e=>tups b xs (I.base.tups b xs e),fun b o xs e=>frzs b o xs (I.base.frzs b o xs e),fun b ps e=>?_⟩,?_,fun x c e=>?_,?_,fun x c e=>?_,fun p hp=>?_,hok,I.len⟩
 ·exact keep b o (neL b o e) hb (neC b o e hx) (I.base.keep b o e n hb hx) (I.base.free b o e n hx)
 ·obtain ⟨sl,e1⟩:=I.base.slot b o e n hb hx
  obtain ⟨sl',e2⟩:=slot b _ (neL b o e) hb (neC b o e hx) e1 (I.base.free b o e n hx)
  exact ⟨sl',e2⟩
 ·obtain ⟨o',e1⟩:=I.base.there b o e hx
  exact free b o' (neC b o e hx) e1 (I.base.free b o e n hx)
 ·obtain ⟨o',e1⟩:=I.base.there b o e hx
  exact there b o' (neC b o e hx) e1
 ·obtain ⟨m1,e1⟩:=I.base.tbls b ps e
  obtain ⟨m2,e2⟩:=tbls b _ e1
  exact ⟨m1 ++ m2,by rw [e2,Array.append_assoc]⟩
 ·obtain ⟨m,hn,hl⟩:=I.loc
  refine ⟨m,ns m hn,fun i x v e1 e2 e3=>?_⟩
  obtain ⟨u,r,l⟩:=hl i x v e1 e2 e3
  refine ⟨u,r,?_⟩
  rcases l with l | ⟨k,c,e,z⟩
  ·exact .inl l
  ·exact .inr ⟨k,c,e,cellK x c e _ z⟩
 ·obtain ⟨v,z⟩:=I.cell x c e
  exact ⟨v,cellK x c e v z⟩
 ·obtain ⟨m,⟨o,_,_,ho,_⟩,_⟩:=I.loc
  exact free _ o (fun z=>(hch _ z).2.1 rfl) ho I.free
 ·obtain ⟨v,o,ho,hd⟩:=I.cell x c e
  exact free c o (fun z=>(hch c z).2.2.1 x c e rfl) ho (I.freeC x c e)
 ·obtain ⟨e,n,ne,nf,d⟩:=I.pin p hp
  have nch:p.1 ∉ ch:=fun z=>(hch p.1 z).2.2.2 p hp rfl
  exact ⟨keep p.1 p.2 ne nf nch e n,free p.1 p.2 nch e n,ne,nf,d⟩
theorem Inv.un {t':Nat} (I:Inv X pins σ H s) (u:Un X.fs [] H H' s.heap h') (hok:HOk X.prog X.w H' h'):Inv X pins σ H' { s with heap:=h',toks:=t' }:=by
 obtain ⟨m,⟨o,es,ep,ho,r⟩,_⟩:=id I.loc
 obtain ⟨sl,hL⟩:=u.any ho I.free (by simp)
 exact I.step (g':=s.gens) (d':=s.drawn) (ch:=[]) (fun _ z=>nomatch z) (fun b o _ hb _ e n=>u.keep b o e n hb (by simp)) (fun b o _ hb _ e n=>u.slot b o e n hb (by simp)) (fun b o _ e n=>u.free b o e n (by simp)) (fun b o _ e=>u.there b o e (by simp)) u.tups u.frzs u.tbls (fun m' hm=>by
  obtain ⟨o',es',ep',ho',r'⟩:=hm
  rw [ho] at ho';cases ho'
  exact ⟨_,es',ep',hL,r'⟩) hok I.bare
theorem Inv.call {g':Array GenState} {t':Nat} {d':Drawn} {ch:List Addr} (I:Inv X pins σ H s) (u:Un (frs X.stack) ch H H' s.heap h') (hok:HOk X.prog X.w H' h') (hg:AllBare g')
 (hch:∀ b ∈ ch,(b ∈ X.ex∨X.s₀.heap.objs.size≤b)∧b≠X.env.locals∧(∀ x c,X.env.cells.lookup x=some c→c≠b)∧∀ p ∈ X.pn ++ pins,p.1≠b) :
 Inv X pins σ H' { s with heap:=h',gens:=g',drawn:=d',toks:=t' }:=by
 obtain ⟨m,⟨o,es,ep,ho,r⟩,_⟩:=id I.loc
 obtain ⟨sl,hL⟩:=u.any ho I.free fun z=>(hch _ z).2.1 rfl
 exact I.step (ch:=ch) hch (fun b o hL hb hc e n=>u.keep b o e n (fun z=>(List.mem_cons.mp (I.stkSub b z)).elim hL hb) hc) (fun b o _ _ hc e n=>u.any e n hc) (fun b o hc e n=>u.free b o e n hc) (fun b o hc e=>u.there b o e hc) u.tups u.frzs u.tbls (fun m' hm=>by
  obtain ⟨o',es',ep',ho',r'⟩:=hm
  rw [ho] at ho';cases ho'
  exact ⟨_,es',ep',hL,r'⟩) hok hg
theorem Inv.turned {t':Nat} {it:Addr} (I:Inv X pins σ H s) (k:∀ b o,b≠it→s.heap.get? b=some o→h'.get? b=some o) (hn:H it=none) (hL:it≠X.env.locals)
 (h1:it ∈ X.ex∨X.s₀.heap.objs.size≤it) (h2:∀ x c,X.env.cells.lookup x=some c→c≠it) (h3:∀ p ∈ X.pn ++ pins,p.1≠it):Inv X pins σ H { s with heap:=h',toks:=t' }:=by
 have nit:∀ b u,H b=some u→b≠it:=fun b u e z=>by rw [z,hn] at e;cases e
 refine I.step (g':=s.gens) (d':=s.drawn) (ch:=[it]) (fun b hb=>?_) (fun b o _ _ hc e _=>k b o (fun z=>hc (by simp [z])) e) (fun b o _ _ hc e _=>⟨o.slots,k b o (fun z=>hc (by simp [z])) e⟩) (fun _ _ _ _ n=>n)
  (fun b o hc e=>⟨o,k b o (fun z=>hc (by simp [z])) e⟩) (fun _ _ e=>e) (fun _ _ _ e=>e) (fun b ps e=>⟨#[],by rw [e];simp⟩) (fun m hm=>?_) (fun b u e=>?_) I.bare
 ·have e:b=it:=by simpa using hb
  subst e
  exact ⟨h1,hL,h2,h3⟩
 ·obtain ⟨o,es,ep,ho,r⟩:=hm
  exact ⟨o,es,ep,k _ o (Ne.symm hL) ho,r⟩
 ·refine (I.hok b u e).stay (fun c v hc q=>k c v ?_ q) (fun _ q=>q) fun _ _ q=>q
  rcases hc with z | z
  ·rw [z];exact nit b u e
  ·exact nit c _ z
theorem Inv.tok (I:Inv X pins σ H s) (t:Nat):Inv X pins σ H { s with toks:=t }:=I.un (h':=s.heap) (t':=t) Un.refl I.hok
theorem Inv.kept {t':Nat} (I:Inv X pins σ H s) (k:∀ b u,s.heap.get? b=some u→h'.get? b=some u):Inv X pins σ H { s with heap:=h',toks:=t' }:=I.un (Un.kept k) (I.hok.kept k)
theorem Inv.laid {a:Addr} {o:HO} {t':Nat} (I:Inv X pins σ H s) (k:∀ b u,s.heap.get? b=some u→h'.get? b=some u) (hp:s.heap.objs.size≤a) (new:ObjOk X.prog X.w (upd H a o) h' a o) :
 Inv X pins σ (upd H a o) { s with heap:=h',toks:=t' }:=I.un (Un.laid k hp (I.hok.fresh hp)) (I.hok.laid k hp new)
theorem Inv.write {x e:Addr} {o:HO} {t':Nat} (I:Inv X pins σ H s) (mu:Mut (H x)) (he:e=x∨H e=some (.own x)) (k:∀ b u,b≠e→s.heap.get? b=some u→h'.get? b=some u) (heo:∃ u,h'.get? e=some u)
 (new:ObjOk X.prog X.w (upd H x o) h' x o):Inv X pins σ (upd H x o) { s with heap:=h',toks:=t' }:=I.un (Un.write mu he k heo) (I.hok.write mu he k heo new)
theorem Inv.pins_of {pins':List (11:)} (I:Inv X pins σ H s) (h:∀ p ∈ pins',s.heap.get? p.1=some p.2∧H p.1=none∧p.1≠X.env.locals∧p.1 ∉ X.fs∧∀ v,p.2.data≠.cell v):Inv X pins' σ H s :=
 ⟨I.ok,I.os,I.bare,I.base,I.loc,I.cell,I.free,I.freeC,fun p hp=>(List.mem_append.mp hp).elim (fun z=>I.pin p (List.mem_append_left _ z)) (h p),I.hok,I.len⟩
theorem Xr {N:List Str} (hN:N.Nodup) {i j:Nat} {x:Str} (a:N[i]?=some x) (b:N[j]?=some x):i=j:=by
 obtain ⟨h1,e1⟩:=List.getElem?_eq_some_iff.mp a
 obtain ⟨h2,e2⟩:=List.getElem?_eq_some_iff.mp b
 exact (List.getElem_inj hN).mp (e1.trans e2.symm)
theorem U4 {M:Model} {A:Around} {E:Value→Shared→Prop} {i:Nat} {x:Str} {v:V} {u:Value} {Q:Unit→Shared→Prop} (I:Inv X pins σ H s) (hN:X.N.Nodup) (hi:X.N[i]?=some x) (hx:Loc X.env.scope x) (r:RelV v u)
 (h:∀ s',Inv X pins (σ.set i (some v)) H s'→(∃ a,Heap.SameBut a s.heap s'.heap∧(a=X.env.locals∨X.env.cells.lookup x=some a))→Q () s') (hf:X.fn x=true∨X.env.scope.names.lookup x=some .local:=by first | exact .inl rfl | exact .inr rfl | assumption):wpAny M A (storeName X.env x u) Q E s:=by
 obtain ⟨m,hn,hl⟩:=id I.loc
 have hcls:(X.env.scope.kind == .class || (X.env.scope.kind == .module && X.env.locals != X.env.globals))=false:=by rw [I.ok.kind];rfl
 have hiσ:i < σ.length:=by rw [I.len];exact (List.getElem?_eq_some_iff.mp hi).1
 have cne:=I.cne
 have tracked:∀ {a:Addr} {h':Heap},(∃ o,s.heap.get? a=some o∧H a=none)→Heap.SameBut a s.heap h'→HOk X.prog X.w H h':=fun {a h'} ha hs b ob e=>by
  obtain ⟨_,_,hfree⟩:=ha
  refine (I.hok b ob e).stay (fun c w' hc q=>(hs.2 c ?_).trans q) (fun _ q=>q) fun _ _ q=>q
  rintro rfl
  rcases hc with rfl | hc
  ·rw [hfree] at e;cases e
  ·rw [hfree] at hc;cases hc
 rcases hx with hk | hk
 ·refine wpAny_storeName_local hk hn (fun h' hn' hs=>?_) hcls
  obtain ⟨oL,_,_,hoL,_⟩:=id hn
  refine h _ ⟨I.ok,I.os,I.bare,⟨fun b o e n hb hx=>?_,fun b o e n hb hx=>?_,I.base.free,fun b o e hx=>?_,I.base.tups,I.base.frzs,I.base.tbls⟩,⟨_,hn',fun j y v' e1 e2 e3=>?_⟩,fun y c e=>?_,I.free,I.freeC,fun p hp=>?_,tracked ⟨oL,hoL,I.free⟩ hs,by simpa using I.len⟩ ⟨_,hs,.inl rfl⟩
  ·exact (hs.2 b (Nat.ne_of_lt (Nat.lt_of_lt_of_le (Heap.lt_size e) I.ok.above))).trans (I.base.keep b o e n hb hx)
  ·obtain ⟨sl,e1⟩:=I.base.slot b o e n hb hx
   exact ⟨sl,(hs.2 b (Nat.ne_of_lt (Nat.lt_of_lt_of_le (Heap.lt_size e) I.ok.above))).trans e1⟩
  ·obtain ⟨o',e1⟩:=I.base.there b o e hx
   exact ⟨o',(hs.2 b (Nat.ne_of_lt (Nat.lt_of_lt_of_le (Heap.lt_size e) I.ok.above))).trans e1⟩
  ·by_cases hj:j=i
   ·subst hj
    rw [hi] at e1;cases e1
    rw [List.getElem?_set_self hiσ] at e2
    cases e2
    exact ⟨u,r,.inl ⟨hk,by simp⟩⟩
   ·rw [List.getElem?_set_ne (Ne.symm hj)] at e2
    obtain ⟨u',r',q⟩:=hl j y v' e1 e2 e3
    refine ⟨u',r',?_⟩
    rcases q with ⟨k,e⟩ | ⟨k,c,e,z⟩
    ·refine .inl ⟨k,?_⟩
     have:y≠x:=fun e=>hj (Xr hN e1 (e ▸ hi))
     simp [this,e]
    ·exact .inr ⟨k,c,e,z.sameBut hs (cne y c e)⟩
  ·obtain ⟨w',z⟩:=I.cell y c e
   exact ⟨w',z.sameBut hs (cne y c e)⟩
  ·obtain ⟨e,n,ne,nf,d⟩:=I.pin p hp
   exact ⟨(hs.2 p.1 ne).trans e,n,ne,nf,d⟩
 ·have hfn:X.fn x=true:=by
   rcases hf with z | z
   ·exact z
   ·rw [z] at hk;cases hk
  obtain ⟨c,hc⟩:=I.ok.has x (.inl hk)
  obtain ⟨w',z⟩:=I.cell x c hc
  refine wpAny_storeName_cell I.ok.kind hk hc z (fun h' hc' hs=>?_)
  obtain ⟨oc,hoc,hocd⟩:=id z
  refine h { s with heap:=h' } ⟨I.ok,I.os,I.bare,⟨fun b o e n hb hx=>?_,fun b o e n hb hx=>?_,I.base.free,fun b o e hx=>?_,I.base.tups,I.base.frzs,I.base.tbls⟩,⟨m,hn.sameBut hs (Ne.symm (cne x c hc)),fun j y v' e1 e2 e3=>?_⟩,fun y c' e=>?_,I.free,I.freeC,fun p hp=>?_,tracked ⟨oc,hoc,I.freeC x c hc⟩ hs,by simpa using I.len⟩ ⟨c,hs,.inr hc⟩
  ·exact (hs.2 b (Nat.ne_of_lt (Nat.lt_of_lt_of_le (Heap.lt_size e) (I.ok.cab x c hfn hc)))).trans (I.base.keep b o e n hb hx)
  ·obtain ⟨sl,e1⟩:=I.base.slot b o e n hb hx
   exact ⟨sl,(hs.2 b (Nat.ne_of_lt (Nat.lt_of_lt_of_le (Heap.lt_size e) (I.ok.cab x c hfn hc)))).trans e1⟩
  ·obtain ⟨o',e1⟩:=I.base.there b o e hx
   exact ⟨o',(hs.2 b (Nat.ne_of_lt (Nat.lt_of_lt_of_le (Heap.lt_size e) (I.ok.cab x c hfn hc)))).trans e1⟩
  ·by_cases hj:j=i
   ·subst hj
    rw [hi] at e1;cases e1
    rw [List.getElem?_set_self hiσ] at e2
    cases e2
    exact ⟨u,r,.inr ⟨.inl hk,c,hc,hc'⟩⟩
   ·rw [List.getElem?_set_ne (Ne.symm hj)] at e2
    obtain ⟨u',r',q⟩:=hl j y v' e1 e2 e3
    refine ⟨u',r',?_⟩
    rcases q with q | ⟨k,c',e,z'⟩
    ·exact .inl q
    ·refine .inr ⟨k,c',e,z'.sameBut hs ?_⟩
     rintro rfl
     exact hj (Xr hN e1 (I.ok.inj _ _ _ e hc ▸ hi))
  ·by_cases hcc:c'=c
   ·subst hcc;exact ⟨_,hc'⟩
   ·obtain ⟨w2,z2⟩:=I.cell y c' e
    exact ⟨w2,z2.sameBut hs hcc⟩
  ·obtain ⟨e,n,ne,nf,d⟩:=I.pin p hp
   refine ⟨(hs.2 p.1 ?_).trans e,n,ne,nf,d⟩
   intro q
   rw [q,hoc] at e
   have q':oc=p.2:=Option.some.inj e
   exact d w' (by rw [← q'];exact hocd)
theorem Xw {M:Model} {A:Around} {E:Value→Shared→Prop} {i:Nat} {x:Str} {v:V} {u:Value} {Q:Unit→Shared→Prop} (I:Inv X pins σ H s) (hN:X.N.Nodup) (hi:X.N[i]?=some x) (hx:Loc X.env.scope x) (r:RelV v u)
 (h:∀ s',Inv X pins (σ.set i (some v)) H s'→Q () s') (hf:X.fn x=true∨X.env.scope.names.lookup x=some .local:=by first | exact .inl rfl | exact .inr rfl | assumption):wpAny M A (storeName X.env x u) Q E s :=
 U4 I hN hi hx r (fun s' I' _=>h s' I') hf
theorem Inv.call' {s':Shared} {ch:List Addr} (I:Inv X pins σ H s) (ho:s'.os=s.os) (u:Un (frs X.stack) ch H H' s.heap s'.heap) (hok:HOk X.prog X.w H' s'.heap) (hg:AllBare s'.gens)
 (hch:∀ b ∈ ch,(b ∈ X.ex∨X.s₀.heap.objs.size≤b)∧b≠X.env.locals∧(∀ x c,X.env.cells.lookup x=some c→c≠b)∧∀ p ∈ X.pn ++ pins,p.1≠b):Inv X pins σ H' s':=by
 obtain ⟨h',g',d',t',o'⟩:=s'
 have e:o'=s.os:=ho
 subst e
 exact I.call (g':=g') (t':=t') (d':=d') u hok hg hch
end
abbrev XK:=Value→Option Addr→Hp→Prop
abbrev St:=List (Option V)
abbrev VK:=V→Hp→Prop
abbrev TE:=St→Hp→VK→Prop
abbrev TT:=St→Hp→(Bool→Hp→Prop)→Prop
abbrev TA:=St→Hp→(List V→Hp→Prop)→Prop
structure Ends where
 nx:St→Hp→Prop
 rt:VK
 bk:St→Hp→Prop:=fun _ _=>False
 ct:St→Hp→Prop:=fun _ _=>False
abbrev TS:=Ends→St→Hp→Prop
def EP (X:Cx) (pins:List (11:)) (σ:St) (Q:VK) (u:Value) (s':Shared):Prop:=∃ v H',Inv X pins σ H' s'∧RelV v u∧Q v H'
def TP (X:Cx) (pins:List (11:)) (σ:St) (Q:Bool→Hp→Prop) (b:Bool) (s':Shared):Prop:=∃ H',Inv X pins σ H' s'∧Q b H'
def AP (X:Cx) (pins:List (11:)) (σ:St) (Q:List V→Hp→Prop) (us:List Value) (s':Shared):Prop:=∃ vs H',Inv X pins σ H' s'∧Vals vs us∧Q vs H'
def SP (X:Cx) (pins:List (11:)) (D:Ends) (f:Flow) (s':Shared):Prop :=
 match f with
 | .next=>∃ σ' H',Inv X pins σ' H' s'∧D.nx σ' H'
 | .brk=>∃ σ' H',Inv X pins σ' H' s'∧D.bk σ' H'
 | .cont=>∃ σ' H',Inv X pins σ' H' s'∧D.ct σ' H'
 | .ret u=>∃ v σ' H',Inv X pins σ' H' s'∧RelV v u∧D.rt v H'
def PE (X:Cx) (e:Expr) (t:TE):Prop :=
 ∀ (pins:List (11:)) (s:Shared) (σ:St) (H:Hp) (Q:VK),Inv X pins σ H s→t σ H Q→wpAny (6:) X.A (eval e X.env) (EP X pins σ Q) X.xe s
def PT (X:Cx) (e:Expr) (t:TT):Prop :=
 ∀ (pins:List (11:)) (s:Shared) (σ:St) (H:Hp) (Q:Bool→Hp→Prop),Inv X pins σ H s→t σ H Q→wpAny (6:) X.A (isTrue e X.env (eval e X.env)) (TP X pins σ Q) X.xe s
def PW (X:Cx) (e:Expr) (t:TT):Prop :=
 ∀ (whole:Sem Value) (pins:List (11:)) (s:Shared) (σ:St) (H:Hp) (Q:Bool→Hp→Prop),Inv X pins σ H s→t σ H Q→wpAny (6:) X.A (isTrue e X.env whole) (TP X pins σ Q) X.xe s
theorem PW.pt {X:Cx} {e:Expr} {t:TT} (h:PW X e t):PT X e t:=h _
def PA (X:Cx) (es:List Expr) (t:TA):Prop :=
 ∀ (pos:Pos) (pins:List (11:)) (s:Shared) (σ:St) (H:Hp) (Q:List V→Hp→Prop),Inv X pins σ H s→t σ H Q→wpAny (6:) X.A (spliced (backTo pos (starEach es X.env))) (AP X pins σ Q) X.xe s
def PS (X:Cx) (st:Stmt) (t:TS):Prop :=
 ∀ (pins:List (11:)) (s:Shared) (σ:St) (H:Hp) (D:Ends),Inv X pins σ H s→t D σ H→wpAny (6:) X.A (exec st X.env) (SP X pins D) X.xe s
def PSs (X:Cx) (st:List Stmt) (t:TS):Prop :=
 ∀ (pins:List (11:)) (s:Shared) (σ:St) (H:Hp) (D:Ends),Inv X pins σ H s→t D σ H→wpAny (6:) X.A (execs st X.env) (SP X pins D) X.xe s
theorem thn {α:Type} {t:Sem α} {Q Q':α→Shared→Prop} {M:Model} {A:Around} {E:Value→Shared→Prop} {s:Shared} (h:wpAny M A t Q E s) (hQ:∀ a s,Q a s→Q' a s):wpAny M A t Q' E s:=wpAny_mono h hQ fun _ _ x=>x
end L2
namespace L2
open PySem PySem.Spec PyProof.Rows
section
variable {X:Cx}
theorem bin {a b:Expr} {ta tb:TE} (ha:PE X a ta) (hb:PE X b tb) {pins:List (11:)} {s:Shared} {σ:St} {H:Hp} {R:V→V→Hp→Prop} (I:Inv X pins σ H s) (h:ta σ H fun x H1=>tb σ H1 fun y H2=>R x y H2)
 {α:Type} {Q:α→Shared→Prop} {f:Value→Value→Sem α}
 (hf:∀ v u s2 x y H2,Inv X pins σ H2 s2→RelV x v→RelV y u→R x y H2→wpAny (6:) X.A (f v u) Q X.xe s2) :
 wpAny (6:) X.A (eval a X.env) (fun v s₁=>wpAny (6:) X.A (eval b X.env) (fun u s₂=>wpAny (6:) X.A (f v u) Q X.xe s₂) X.xe s₁) X.xe s:=by
 refine thn (ha pins s σ H _ I h) fun v s1 ⟨x,H1,I1,r1,q1⟩=>?_
 refine thn (hb pins s1 σ H1 _ I1 q1) fun u s2 ⟨y,H2,I2,r2,q2⟩=>?_
 exact hf v u s2 x y H2 I2 r1 r2 q2
def Zu (i:Nat):TE:=fun σ H Q=>∃ v,σ[i]?=some (some v)∧Q v H
def tC (v:V):TE:=fun _ H Q=>Q v H
theorem V3 {i:Nat} {x:Str} {pos:Pos} (hN:X.N[i]?=some x) (hv:Vis X.env.scope x) (hd:(x == ("__debug__" : Str))=false:=by decide) (hcd:(x == ("__classdict__" : Str))=false:=by decide):PE X (.Name x pos) (Zu i):=by
 intro pins s σ H Q I h
 obtain ⟨v,e,h⟩:=h
 obtain ⟨m,hn,hl⟩:=I.loc
 obtain ⟨u,r,l⟩:=hl i x v hN e hv
 have fin:EP X pins σ Q u s:=⟨v,H,I,r,h⟩
 rcases l with ⟨hk,hm⟩ | ⟨hk,c,hc,hcell⟩
 ·exact wpAny_Name (wpAny_loadName_local I.ok.kind hk hn hm fin) hd
 ·rcases hk with hk | hk
  ·exact wpAny_Name (wpAny_loadName_cell I.ok.kind hk hc hcell fin) hd
  ·exact wpAny_Name (wpAny_loadName_free I.ok.kind hk hc hcell fin hcd) hd
theorem Qd {i j pos}:PE X (.Constant (.int i) j pos) (tC (.int i)):=fun _ _ _ H _ I h=>wpAny_Constant_int ⟨.int i,H,I.tok _,⟨_,rfl⟩,h⟩
theorem Zv {b j pos}:PE X (.Constant (.bool b) j pos) (tC (.bl b)):=fun _ _ _ H _ I h=>Constant_bool ⟨.bl b,H,I,rfl,h⟩
theorem Yj {j pos}:PE X (.Constant .none j pos) (tC .non):=fun _ _ _ H _ I h=>Constant_none ⟨.non,H,I,rfl,h⟩
theorem Zy {x j pos}:PE X (.Constant (.str x) j pos) (tC (.str x)):=fun _ _ _ H _ I h=>Calls.Constant_str ⟨.str x,H,I.tok _,⟨_,rfl⟩,h⟩
def Gl (X:Cx) (x:Str):Prop:=X.env.kindOf x=some .globalImplicit
theorem WF {E:Value→Shared→Prop} {pins:List (11:)} {s:Shared} {σ:St} {H:Hp} {x:Str} {u:Value} {pos:Pos} {Q:Value→Shared→Prop} (I:Inv X pins σ H s) (hg:Gl X x) (hm:X.mg x=some u) (h:Q u s)
 (hd:(x == ("__debug__" : Str))=false:=by decide):wpAny (6:) X.A (eval (.Name x pos) X.env) Q E s :=
 Calls.Name_function_global I.ok.kind hg (Calls.loadGlobal_global (by rw [I.ok.glob];exact I.mod.glob.keeps I.bk) hm h) hd
theorem ZE {E:Value→Shared→Prop} {pins:List (11:)} {s:Shared} {σ:St} {H:Hp} {x:Str} {u:Value} {pos:Pos} {Q:Value→Shared→Prop} (I:Inv X pins σ H s) (hg:Gl X x) (hm:X.mg x=none) (hv:bootBuiltins x=some u) (h:Q u s)
 (hn:x ≠ "__name__" := by decide) (hd:(x == ("__debug__" : Str))=false:=by decide):wpAny (6:) X.A (eval (.Name x pos) X.env) Q E s:=by
 obtain ⟨mb,h1,h2⟩:=I.mod.blt
 exact Calls.Name_function_global I.ok.kind hg (Calls.loadGlobal_builtin (by rw [I.ok.glob];exact I.mod.glob.keeps I.bk) hm (by rw [I.ok.blt];exact h1.keeps I.bk) ((h2 x hn).trans hv) h) hd
theorem Zk {x:Str} {v:V} {u:Value} {pos:Pos} (hg:Gl X x) (hm:X.mg x=none) (hv:bootBuiltins x=some u) (r:RelV v u) (hn:x ≠ "__name__" := by decide) (hd:(x == ("__debug__" : Str))=false:=by decide):PE X (.Name x pos) (tC v) :=
 fun _ _ _ H _ I h=>ZE I hg hm hv ⟨v,H,I,r,h⟩ hn hd
variable {a b:Expr} {ta tb:TE} {pos:Pos}
def PC (X:Cx) (op:CmpOp) (a b:Expr) (t:TE):Prop :=
 ∀ (pins:List (11:)) (s:Shared) (σ:St) (H:Hp) (Q:VK),Inv X pins σ H s→t σ H Q →
  wpAny (6:) X.A (eval a X.env) (fun v s₁=>wpAny (6:) X.A (eval b X.env) (fun u s₂=>wpAny (6:) X.A (compareOp op v u) (EP X pins σ Q) X.xe s₂) X.xe s₁) X.xe s
theorem G9 (b:Expr) {op:CmpOp} (h:op≠.In) (h2:op≠.NotIn):behindInMarks op b=false:=by
 have e1:(op == CmpOp.In)=false:=by cases op <;> first | rfl | exact absurd rfl h
 have e2:(op == CmpOp.NotIn)=false:=by cases op <;> first | rfl | exact absurd rfl h2
 cases b <;> simp [behindInMarks,e1,e2]
def Pf (ta:TE):TE:=fun σ H Q=>ta σ H fun x H1=>Q (.bl (decide (x=.non))) H1
theorem RelV.none_iff {x:V} {v:Value} (r:RelV x v):(v == Value.none)=decide (x=.non):=by
 cases x with
 | non=>cases r;rfl
 | bl _=>cases r;rfl
 | int _=>obtain ⟨t,rfl⟩:=r;rfl
 | str _=>obtain ⟨t,rfl⟩:=r;rfl
 | byt _=>obtain ⟨t,rfl⟩:=r;rfl
 | flt _=>obtain ⟨t,rfl⟩:=r;rfl
 | ref _=>cases r;rfl
 | ty _=>cases r;rfl
theorem Wi {j pos'} (ha:PE X a ta):PC X .Is a (.Constant .none j pos') (Pf ta):=by
 intro pins s σ H Q I h
 refine thn (ha pins s σ H _ I h) fun v s1 ⟨x,H1,I1,r1,q1⟩=>?_
 exact Constant_none (is_none_gen ⟨.bl _,H1,I1,by rw [r1.none_iff];rfl,q1⟩)
def tB (t:TE):TT:=fun σ H Q=>t σ H fun x H1=>∃ c,x=.bl c∧Q c H1
theorem Wn {op:CmpOp} {t:TE} (h:PC X op a b t) (h1:behindInMarks op b=false:=by first | exact G9 _ (by decide) (by decide) | rfl):PT X (.Compare a [op] [b] pos) (tB t):=by
 intro pins s σ H Q I hw
 refine wpAny_isTrue_Compare1 (thn (h pins s σ H _ I hw) fun v s1 h1=>thn h1 fun u s2 h2=>thn h2 fun c s3 ⟨x,H1,I1,r1,q1⟩=>?_) h1
 obtain ⟨d,rfl,q⟩:=q1
 cases r1
 exact wpAny_truthy_bool ⟨H1,I1,q⟩
theorem QM {e:Expr} {t:TE} (h:PE X e t) (he:∀ whole,isTrue e X.env whole=(do let v ← whole;standAt e.pos;holding [v] (truthy v)):=by intro _;rfl):PT X e (tB t):=by
 intro pins s σ H Q I hw
 refine isTrue_plain (thn (h pins s σ H _ I hw) fun v s1 ⟨x,H1,I1,r1,q1⟩=>?_) (he _)
 obtain ⟨d,rfl,q⟩:=q1
 cases r1
 exact wpAny_truthy_bool ⟨H1,I1,q⟩
variable {tA tB':TT} {rest:List Expr}
def O5 (t u:TT):TT:=fun σ H Q=>t σ H fun c H1=>if c=true then u σ H1 Q else Q false H1
def tOr (t u:TT):TT:=fun σ H Q=>t σ H fun c H1=>if c=true then Q true H1 else u σ H1 Q
def Pn (t:TT):TT:=fun σ H Q=>t σ H fun c H1=>Q (!c) H1
theorem pw_and1 (ha:PT X a tA):PW X (.BoolOp .And [a] pos) tA:=by
 intro wh pins s σ H Q I h
 refine isTrue_and (thn (ha pins s σ H Q I h) fun c s1 e=>?_)
 cases c with
 | true=>exact isTrue_and_nil e
 | false=>exact e
theorem pw_or1 (ha:PT X a tA):PW X (.BoolOp .Or [a] pos) tA:=by
 intro wh pins s σ H Q I h
 refine isTrue_or (thn (ha pins s σ H Q I h) fun c s1 e=>?_)
 cases c with
 | false=>exact isTrue_or_nil e
 | true=>exact e
theorem pw_and (ha:PT X a tA) (hb:PW X (.BoolOp .And (b :: rest) pos) tB'):PW X (.BoolOp .And (a :: b :: rest) pos) (O5 tA tB'):=by
 intro wh pins s σ H Q I h
 refine isTrue_and (thn (ha pins s σ H _ I h) fun c s1 ⟨H1,I1,q1⟩=>?_)
 cases c with
 | true=>exact hb wh pins s1 σ H1 Q I1 q1
 | false=>exact ⟨H1,I1,q1⟩
theorem pw_or (ha:PT X a tA) (hb:PW X (.BoolOp .Or (b :: rest) pos) tB'):PW X (.BoolOp .Or (a :: b :: rest) pos) (tOr tA tB'):=by
 intro wh pins s σ H Q I h
 refine isTrue_or (thn (ha pins s σ H _ I h) fun c s1 ⟨H1,I1,q1⟩=>?_)
 cases c with
 | true=>exact ⟨H1,I1,q1⟩
 | false=>exact hb wh pins s1 σ H1 Q I1 q1
theorem Q3 (ha:PT X a tA):PT X (.UnaryOp .Not a pos) (Pn tA):=by
 intro pins s σ H Q I h
 exact isTrue_not (ha pins s σ H (fun c H1=>Q (!c) H1) I h)
def Oj (ta tb:TE):TE:=fun σ H Q=>ta σ H fun x H1=>∃ c,x=.bl c∧if c=true then tb σ H1 Q else Q (.bl false) H1
def OZ (ta tb:TE):TE:=fun σ H Q=>ta σ H fun x H1=>∃ c,x=.bl c∧if c=true then Q (.bl true) H1 else tb σ H1 Q
def Og (ta:TE):TE:=fun σ H Q=>ta σ H fun x H1=>∃ c,x=.bl c∧Q (.bl (!c)) H1
theorem J4 {op} {t:TE} (h:PE X a t):PE X (.BoolOp op [a] pos) t:=fun pins s σ H Q I hw=>BoolOp_one (h pins s σ H Q I hw)
theorem JV (ha:PE X a ta) (hb:PE X (.BoolOp .And (b :: rest) pos) tb):PE X (.BoolOp .And (a :: b :: rest) pos) (Oj ta tb):=by
 intro pins s σ H Q I h
 refine BoolOp_and (thn (ha pins s σ H _ I h) fun v s1 ⟨x,H1,I1,r1,q1⟩=>?_)
 obtain ⟨c,rfl,q1⟩:=q1
 cases r1
 refine wpAny_truthy_bool ?_
 cases c with
 | true=>exact hb pins s1 σ H1 Q I1 q1
 | false=>exact ⟨.bl false,H1,I1,rfl,q1⟩
theorem MI (ha:PE X a ta) (hb:PE X (.BoolOp .Or (b :: rest) pos) tb):PE X (.BoolOp .Or (a :: b :: rest) pos) (OZ ta tb):=by
 intro pins s σ H Q I h
 refine BoolOp_or (thn (ha pins s σ H _ I h) fun v s1 ⟨x,H1,I1,r1,q1⟩=>?_)
 obtain ⟨c,rfl,q1⟩:=q1
 cases r1
 refine wpAny_truthy_bool ?_
 cases c with
 | false=>exact hb pins s1 σ H1 Q I1 q1
 | true=>exact ⟨.bl true,H1,I1,rfl,q1⟩
theorem GU (ha:PE X a ta):PE X (.UnaryOp .Not a pos) (Og ta):=by
 intro pins s σ H Q I h
 refine UnaryOp_ (thn (ha pins s σ H _ I h) fun v s1 ⟨x,H1,I1,r1,q1⟩=>?_)
 obtain ⟨c,rfl,q1⟩:=q1
 cases r1
 exact not_of (wpAny_truthy_bool ⟨.bl (!c),H1,I1,rfl,q1⟩)
def tIf (t:TT) (ta tb:TE):TE:=fun σ H Q=>t σ H fun c H1=>if c=true then ta σ H1 Q else tb σ H1 Q
theorem UV {c:Expr} (hc:PT X c tA) (ha:PE X a ta) (hb:PE X b tb):PE X (.IfExp c a b pos) (tIf tA ta tb):=by
 intro pins s σ H Q I h
 refine wpAny_IfExp (thn (hc pins s σ H _ I h) fun d s1 ⟨H1,I1,q1⟩=>?_)
 cases d with
 | true=>exact ha pins s1 σ H1 Q I1 q1
 | false=>exact hb pins s1 σ H1 Q I1 q1
end
end L2
namespace L2
open PySem PySem.Spec PyProof.Rows
def SqL (K:PySem.W.Frag) (H:Hp) (a:Addr) (xs:List V):Prop :=
 Rd H a (.lst xs) ∨
  ∃ (o:Obj) (its:Array Value) (n:Nat),K.lookup a=some o∧o.cls=.type "list" ∧ o.dict=none∧o.data=.seq its n∧its.size≤sizeLine∧Vals xs its.toList
def SqT (K:PySem.W.Frag) (H:Hp) (a:Addr) (xs:List V):Prop :=
 Rd H a (.tup xs) ∨
  ∃ (o:Obj) (its:Array Value) (n:Nat),K.lookup a=some o∧o.cls=.type "tuple" ∧ o.data=.seq its n∧its.size≤sizeLine∧Vals xs its.toList
def O4:Value→Option V
 | .none=>some .non
 | .bool b=>some (.bl b)
 | .int i _=>some (.int i)
 | .str x _=>some (.str x)
 | .bytes b _=>some (.byt b)
 | .float b _=>some (.flt b)
 | .ref a=>some (.ref a)
 | .type n=>some (.ty n)
 | _=>none
theorem RelV.abs {x:V} {u:Value} (r:RelV x u):O4 u=some x:=by
 cases x with
 | non=>cases r;rfl
 | bl _=>cases r;rfl
 | int _=>obtain ⟨t,rfl⟩:=r;rfl
 | str _=>obtain ⟨t,rfl⟩:=r;rfl
 | byt _=>obtain ⟨t,rfl⟩:=r;rfl
 | flt _=>obtain ⟨t,rfl⟩:=r;rfl
 | ref _=>cases r;rfl
 | ty _=>cases r;rfl
theorem RelV.inj {x y:V} {u:Value} (r:RelV x u) (q:RelV y u):x=y:=Option.some.inj (r.abs.symm.trans q.abs)
theorem Vals.inj:∀ {xs ys:List V} {us:List Value},Vals xs us→Vals ys us→xs=ys
 | _,_,_,.nil,.nil=>rfl
 | _,_,_,.cons r t,.cons r' t'=>by rw [r.inj r',Vals.inj t t']
section
variable {X:Cx} {pins:List (11:)} {σ:St} {H:Hp} {s:Shared} {a:Addr} {xs ys:List V}
theorem SqL.of {K:PySem.W.Frag} (h:H a=some (.lst xs)):SqL K H a xs:=.inl (.inl h)
theorem SqT.of {K:PySem.W.Frag} (h:H a=some (.tup xs)):SqT K H a xs:=.inl (.inl h)
theorem Inv.list (I:Inv X pins σ H s) (h:SqL X.K H a xs):∃ its:List Value,Vals xs its∧PlainL s.heap a its.toArray∧xs.length≤sizeLine:=by
 rcases h with h | ⟨o,its,n,hk,hc,hd,hs,hz,r⟩
 ·obtain ⟨z,its,n,r,e⟩:=h.ok I.hok
  exact ⟨its,r,⟨_,n,e,rfl,rfl,rfl⟩,z⟩
 ·refine ⟨its.toList,r,⟨o,n,I.kIn a o hk,hc,hd,by simpa using hs⟩,?_⟩
  have e:=r.length
  simp only [Array.length_toList] at e
  lia
theorem Inv.tuple (I:Inv X pins σ H s) (h:SqT X.K H a xs):∃ its:List Value,Vals xs its∧IsTup s.heap a its.toArray∧xs.length≤sizeLine:=by
 rcases h with h | ⟨o,its,n,hk,hc,hs,hz,r⟩
 ·obtain ⟨z,its,r,p⟩:=h.ok I.hok
  exact ⟨its,r,p,z⟩
 ·refine ⟨its.toList,r,⟨o,I.kIn a o hk,hc,n,by simpa using hs⟩,?_⟩
  have e:=r.length
  simp only [Array.length_toList] at e
  lia
theorem Inv.list_inj (I:Inv X pins σ H s) (h:SqL X.K H a xs) (h':SqL X.K H a ys):xs=ys:=by
 obtain ⟨its,r,⟨o,n,e,_,_,d⟩,_⟩:=I.list h
 obtain ⟨its',r',⟨o',n',e',_,_,d'⟩,_⟩:=I.list h'
 rw [e] at e';cases e'
 rw [d] at d'
 injection d' with d1 _
 have:its=its':=by simpa using congrArg Array.toList d1
 subst this
 exact r.inj r'
theorem Inv.tuple_inj (I:Inv X pins σ H s) (h:SqT X.K H a xs) (h':SqT X.K H a ys):xs=ys:=by
 obtain ⟨its,r,⟨o,e,_,n,d⟩,_⟩:=I.tuple h
 obtain ⟨its',r',⟨o',e',_,n',d'⟩,_⟩:=I.tuple h'
 rw [e] at e';cases e'
 rw [d] at d'
 injection d' with d1 _
 have:its=its':=by simpa using congrArg Array.toList d1
 subst this
 exact r.inj r'
end
abbrev Cx.wish (X:Cx) (E:Value→Shared→Prop):Cx:={ X with xe:=E }
abbrev Cx.nox (X:Cx):Cx:=X.wish fun _ _=>False
theorem Cx.Ok.wish {X:Cx} (ok:X.Ok) (E:Value→Shared→Prop):(X.wish E).Ok :=
 ⟨ok.mod,ok.kind,ok.glob,ok.blt,ok.above,ok.inj,ok.has,ok.cab,ok.hd,ok.frames,ok.stk,ok.exf,ok.bs,ok.bsz,ok.noex,ok.exfs,ok.funs,ok.frf⟩
theorem Cx.Ok.unwish {X:Cx} {E:Value→Shared→Prop} (ok:(X.wish E).Ok):X.Ok :=
 ⟨ok.mod,ok.kind,ok.glob,ok.blt,ok.above,ok.inj,ok.has,ok.cab,ok.hd,ok.frames,ok.stk,ok.exf,ok.bs,ok.bsz,ok.noex,ok.exfs,ok.funs,ok.frf⟩
section
variable {X:Cx} {pins:List (11:)} {σ:St} {H:Hp} {s:Shared} {E:Value→Shared→Prop}
theorem Inv.wish (I:Inv X pins σ H s) (E:Value→Shared→Prop):Inv (X.wish E) pins σ H s:=⟨I.ok.wish E,I.os,I.bare,I.base,I.loc,I.cell,I.free,I.freeC,I.pin,I.hok,I.len⟩
theorem Inv.unwish (I:Inv (X.wish E) pins σ H s):Inv X pins σ H s:=⟨I.ok.unwish,I.os,I.bare,I.base,I.loc,I.cell,I.free,I.freeC,I.pin,I.hok,I.len⟩
theorem SP.unwish {D:Ends} {f:Flow} {s':Shared} (h:SP (X.wish E) pins D f s'):SP X pins D f s':=by
 cases f with
 | next=>obtain ⟨σ',H',I,q⟩:=h;exact ⟨σ',H',I.unwish,q⟩
 | brk=>obtain ⟨σ',H',I,q⟩:=h;exact ⟨σ',H',I.unwish,q⟩
 | cont=>obtain ⟨σ',H',I,q⟩:=h;exact ⟨σ',H',I.unwish,q⟩
 | ret u=>obtain ⟨v,σ',H',I,r,q⟩:=h;exact ⟨v,σ',H',I.unwish,r,q⟩
theorem PSs.nox {st:List Stmt} {t:TS} (h:PSs X.nox st t):PSs X st t:=fun pins s σ H D I hw =>
 wpAny_mono (h pins s σ H D (I.wish _) hw) (fun _ _ q=>q.unwish) fun _ _ z=>False.elim z
end
section
variable {X:Cx} {st:Stmt} {rest:List Stmt} {t u:TS} {e:Expr} {te:TE} {pos:Pos}
def Ou:TS:=fun D σ H=>D.nx σ H
def Pq (t u:TS):TS:=fun D σ H=>t { D with nx:=u D } σ H
theorem Qs:PSs X [] Ou:=fun _ _ σ H _ I h=>wpAny_execs_nil ⟨σ,H,I,h⟩
theorem Qf (h1:PS X st t) (h2:PSs X rest u):PSs X (st :: rest) (Pq t u):=by
 intro pins s σ H D I h
 refine wpAny_execs_cons (thn (h1 pins s σ H { D with nx:=u D } I h) fun f s1 q=>?_)
 cases f with
 | next =>
  obtain ⟨σ',H',I',q⟩:=q
  exact h2 pins s1 σ' H' D I' q
 | ret v=>exact q
 | brk=>exact q
 | cont=>exact q
theorem Qi (h1:PS X st t):PSs X [st] t:=by
 intro pins s σ H D I h
 refine wpAny_execs_cons (thn (h1 pins s σ H D I h) fun f s1 q=>?_)
 cases f with
 | next=>exact wpAny_execs_nil q
 | ret v=>exact q
 | brk=>exact q
 | cont=>exact q
theorem Inv.quiet {pins:List (11:)} {σ:St} {H:Hp} {s:Shared} (I:Inv X pins σ H s):interactive X.env=false:=by simp [interactive,I.ok.kind]
def NX (te:TE):TS:=fun D σ H=>te σ H fun _ H1=>D.nx σ H1
theorem Zq (he:PE X e te) (hs:swapsWith e none pos.line X.env=pure false:=by rfl):PS X (.Expr e pos) (NX te):=by
 intro pins s σ H D I h
 exact wpAny_Expr_any (thn (he pins s σ H _ I h) fun v s1 ⟨x,H1,I1,r1,q1⟩=>⟨σ,H1,I1,q1⟩) I.quiet hs
def Pz (te:TE):TS:=fun D σ H=>te σ H D.rt
theorem Ql (he:PE X e te):PS X (.Return (some e) pos) (Pz te):=by
 intro pins s σ H D I h
 exact wpAny_Return_some (thn (he pins s σ H _ I h) fun v s1 ⟨x,H1,I1,r1,q1⟩=>⟨x,σ,H1,I1,r1,q1⟩)
def PB (c:TT) (t u:TS):TS:=fun D σ H=>c σ H fun b H1=>if b=true then t D σ H1 else u D σ H1
theorem QG {c:Expr} {a b:List Stmt} {tc:TT} (hc:PT X c tc) (ha:PSs X a t) (hb:PSs X b u):PS X (.If c a b pos) (PB tc t u):=by
 intro pins s σ H D I h
 refine wpAny_If (thn (hc pins s σ H _ I h) fun d s1 ⟨H1,I1,q1⟩=>?_)
 cases d with
 | true=>exact ha pins s1 σ H1 D I1 q1
 | false=>exact hb pins s1 σ H1 D I1 q1
end
abbrev TG:=V→St→Hp→(St→Hp→Prop)→Prop
abbrev TGs:=List V→St→Hp→(St→Hp→Prop)→Prop
def PG (X:Cx) (target:Expr) (t:TG):Prop :=
 ∀ (pins:List (11:)) (s:Shared) (σ:St) (H:Hp) (v:V) (u:Value) (Q:St→Hp→Prop),Inv X pins σ H s→RelV v u→t v σ H Q →
  wpAny (6:) X.A (assign target X.env u) (fun _ s'=>∃ σ' H',Inv X pins σ' H' s'∧Q σ' H') X.xe s
def PGs (X:Cx) (ts:List Expr) (t:TGs):Prop :=
 ∀ (pins:List (11:)) (s:Shared) (σ:St) (H:Hp) (vs:List V) (us:List Value) (Q:St→Hp→Prop),Inv X pins σ H s→Vals vs us→t vs σ H Q →
  wpAny (6:) X.A (assignInOrder ((assignEach ts X.env).map (·.2)) us) (fun _ s'=>∃ σ' H',Inv X pins σ' H' s'∧Q σ' H') X.xe s
section
variable {X:Cx} {pos:Pos}
def QX (i:Nat):TG:=fun v σ H Q=>Q (σ.set i (some v)) H
theorem Qw {i:Nat} {x:Str} (hN:X.N.Nodup) (hi:X.N[i]?=some x) (hx:Loc X.env.scope x) (hf:X.fn x=true∨X.env.scope.names.lookup x=some .local:=by first | exact .inl rfl | exact .inr rfl | assumption):PG X (.Name x pos) (QX i):=by
 intro pins s σ H v u Q I r h
 exact wpAny_assign_Name (Xw I hN hi hx r (fun s' I'=>⟨_,H,I',h⟩) hf)
def X7:TGs:=fun vs σ H Q=>vs=[]∧Q σ H
def ZV (t:TG) (u:TGs):TGs:=fun vs σ H Q=>∃ v r,vs=v :: r∧t v σ H fun σ' H'=>u r σ' H' Q
theorem ZB:PGs X [] X7:=by
 intro pins s σ H vs us Q I r h
 obtain ⟨e,h⟩:=h
 subst e
 cases r
 exact assignInOrder_nil ⟨σ,H,I,h⟩
theorem QB {e:Expr} {es:List Expr} {t:TG} {u:TGs} (h1:PG X e t) (h2:PGs X es u)
 (hs:(assignEach (e :: es) X.env).map (·.2)=assign e X.env :: (assignEach es X.env).map (·.2):=by rfl):PGs X (e :: es) (ZV t u):=by
 intro pins s σ H vs us Q I r h
 obtain ⟨v,vr,e1,h⟩:=h
 subst e1
 cases r with
 | cons r rr =>
  rw [hs]
  refine assignInOrder_cons (thn (h1 pins s σ H _ _ _ I r h) fun _ s1 ⟨σ1,H1,I1,q1⟩=>?_)
  exact h2 pins s1 σ1 H1 _ _ Q I1 rr q1
def W6 (K:PySem.W.Frag) (n:Nat) (t:TGs):TG:=fun v σ H Q=>∃ a xs,v=.ref a∧SqT K H a xs∧xs.length=n∧t xs σ H Q
theorem ZS {es:List Expr} {k:Nat} {t:TGs} {n:Nat} (hc:X.calm=true) (h:PGs X es t)
 (hn:(assignEach es X.env).length=n:=by rfl) (hst:(assignEach es X.env).findIdx? (·.1)=none:=by rfl):PG X (.Tuple es k pos) (W6 X.K n t):=by
 intro pins s σ H v u Q I r hw
 obtain ⟨a,xs,e1,hq,hl,hw⟩:=hw
 subst e1
 cases r
 obtain ⟨its,rv,ht,hz⟩:=I.tuple hq
 refine assign_Tuple_tuple (I.ok.hd hc) ht (by simp [hn,← hl,rv.length]) hst fun h' hx=>?_
 have I1:Inv X pins σ H { s with heap:=h' }:=I.kept (t':=s.toks) fun b o e=>hx b o (Nat.ne_of_lt (Heap.lt_size e)) e
 exact h pins _ σ H xs _ Q I1 (by simpa using rv) hw
def Nw (te:TE) (g:TG):TS:=fun D σ H=>te σ H fun x H1=>g x σ H1 D.nx
theorem Wq {tg e:Expr} {te:TE} {g:TG} (he:PE X e te) (hg:PG X tg g) (hs:swapsWithSole [tg] e pos.line X.env=pure false:=by rfl) (hw:swappedStores [tg] e X.env=pure none:=by rfl)
 (h1:(assignEach [tg] X.env).map (·.2)=[assign tg X.env]:=by rfl):PS X (.Assign [tg] e pos) (Nw te g):=by
 intro pins s σ H D I h
 refine wpAny_Assign_stores (thn (he pins s σ H _ I h) fun v s1 ⟨x,H1,I1,r1,q1⟩=>?_) hs hw
 rw [h1]
 exact thn (hg pins s1 σ H1 x v _ I1 r1 q1) fun _ s2 q=>q
theorem Qq {i:Nat} {x:Str} {e:Expr} {te:TE} {pos':Pos} (hN:X.N.Nodup) (hi:X.N[i]?=some x) (hx:Loc X.env.scope x) (he:PE X e te) (hs:swapsWith e (some (.Name x pos')) pos.line X.env=pure false:=by rfl) (hf:X.fn x=true∨X.env.scope.names.lookup x=some .local:=by first | exact .inl rfl | exact .inr rfl | assumption) :
 PS X (.Assign [.Name x pos'] e pos) (Nw te (QX i)):=by
 intro pins s σ H D I h
 refine wpAny_Assign_Name (thn (he pins s σ H _ I h) fun v s1 ⟨y,H1,I1,r1,q1⟩=>?_) hs
 exact Xw I1 hN hi hx r1 (fun s2 I2=>⟨_,H1,I2,q1⟩) hf
end
section
variable {X:Cx} {pos:Pos}
def Nr (c:TT) (tb:TS):TS:=fun D σ H=>∃ W:Nat→St→Hp→Prop,(∃ m,W m σ H)∧∀ m σ H,W m σ H →
 c σ H fun b H1=>if b=true then ∃ N:St→Hp→Prop,(∀ σ' H',N σ' H'→∃ m',m' < m∧W m' σ' H')∧tb { D with nx:=N,ct:=N,bk:=D.nx } σ H1 else D.nx σ H1
theorem Xb {c:Expr} {body:List Stmt} {tc:TT} {tb:TS} (hp:PassesOwn (6:) X.A X.env X.xe) (hc:PT X c tc) (hb:PSs X body tb):PS X (.While c body [] pos) (Nr tc tb):=by
 intro pins s σ H D I h
 obtain ⟨W,⟨m0,w0⟩,turn⟩:=h
 refine wpAny_While (codeAny_whileLoop (fun n s'=>∃ σ' H',Inv X pins σ' H' s'∧W n σ' H') ?_ m0 ⟨σ,H,I,w0⟩)
 rintro n s1 ⟨σ1,H1,I1,w1⟩
 refine wpAny_passesOwn hp (thn (hc pins s1 σ1 H1 _ I1 (turn n σ1 H1 w1)) fun b s2 ⟨H2,I2,q2⟩=>?_)
 cases b with
 | true =>
  obtain ⟨N,hN,q2⟩:=q2
  rw [if_pos rfl]
  refine wpAny_passesOwn hp (thn (hb pins s2 σ1 H2 _ I2 q2) fun f s3 q3=>?_)
  cases f with
  | next =>
   obtain ⟨σ3,H3,I3,n3⟩:=q3
   obtain ⟨m',hm,w3⟩:=hN σ3 H3 n3
   exact ⟨m',hm,σ3,H3,I3,w3⟩
  | cont =>
   obtain ⟨σ3,H3,I3,n3⟩:=q3
   obtain ⟨m',hm,w3⟩:=hN σ3 H3 n3
   exact ⟨m',hm,σ3,H3,I3,w3⟩
  | brk=>exact q3
  | ret v=>exact q3
 | false =>
  rw [if_neg Bool.false_ne_true]
  exact wpAny_execs_nil ⟨σ1,H2,I2,q2⟩
end
structure It where
 go:Nat→Hp→Prop
 yld:Nat→Hp→V→Hp→Prop
 stop:Nat→Hp→Prop
def Z3 (X:Cx) (pins:List (11:)) (H:Hp) (b:Addr):Prop :=
 H b=none∧b≠X.env.locals∧b ∉ X.fs∧(b ∈ X.ex∨X.s₀.heap.objs.size≤b)∧(∀ x c,X.env.cells.lookup x=some c→c≠b)∧∀ p ∈ X.pn ++ pins,p.1≠b
theorem Inv.fpOk {X:Cx} {pins:List (11:)} {σ:St} {H H':Hp} {s:Shared} {b:Addr} (I:Inv X pins σ H s) (hb:s.heap.objs.size≤b) (hn:H' b=none):Z3 X pins H' b:=by
 refine ⟨hn,Nat.ne_of_gt (Nat.lt_of_lt_of_le I.lt hb),I.nofs hb,.inr (Nat.le_trans I.sz hb),fun x c e z=>?_,fun p hp z=>?_⟩
 ·obtain ⟨v,q⟩:=I.cell x c e
  exact absurd (Nat.lt_of_lt_of_le q.lt (by rw [z];exact hb)) (Nat.lt_irrefl _)
 ·exact absurd (Nat.lt_of_lt_of_le (Heap.lt_size (I.pin p hp).1) (by rw [z];exact hb)) (Nat.lt_irrefl _)
structure Turn (P:Program) (w:World) (K:PySem.W.Frag) (tg:Expr) (J:It) (fp:List Addr) (it:Addr) (tn:Nat→Heap→Prop):Prop where
 mem:it ∈ fp
 obj:∀ i h,tn i h→∀ b ∈ fp,∃ o,h.get? b=some o∧∀ v,o.data≠.cell v
 keep:∀ i h h',tn i h→(∀ b ∈ fp,∀ o,h.get? b=some o→h'.get? b=some o)→tn i h'
 item:∀ (X:Cx),X.prog=P→X.w=w→X.K=K→X.calm=true→∀ (i:Nat) (pins:List (11:)) (s:Shared) (σ:St) (H:Hp) (E:Value→Shared→Prop),Inv X pins σ H s→(∀ b ∈ fp,Z3 X pins H b)→tn i s.heap→J.go i H →
  wpAny (model P w) X.A (pyNext (.ref it)) (fun r s1=>∃ u,r=some u ∧
   wpAny (model P w) X.A (letOwnedTupleGo tg (.ref it) u) (fun _ s2=>∃ x H',Inv X pins σ H' s2∧RelV x u∧J.yld i H x H'∧tn (i + 1) s2.heap∧∀ b ∈ fp,H' b=none) E s1) E s
 done:∀ (X:Cx),X.prog=P→X.w=w→X.K=K→X.calm=true→∀ (i:Nat) (pins:List (11:)) (s:Shared) (σ:St) (H:Hp) (E:Value→Shared→Prop),Inv X pins σ H s→(∀ b ∈ fp,Z3 X pins H b)→tn i s.heap→J.stop i H →
  wpAny (model P w) X.A (pyNext (.ref it)) (fun r s1=>r=none∧Inv X pins σ H s1) E s
 self:∀ (A:Around) (i:Nat) (s:Shared) (Q:Value→Shared→Prop) (E:Value→Shared→Prop),tn i s.heap→Q (.ref it) s→wpAny (model P w) A (pyIter (.ref it)) Q E s
abbrev TI:=St→Hp→(It→Hp→Prop)→Prop
def PIE (X:Cx) (pins:List (11:)) (σ:St) (tg:Expr) (R:It→Hp→Prop) (itv:Value) (s2:Shared):Prop :=
 ∃ (it:Addr) (fp:List Addr) (tn:Nat→Heap→Prop) (J:It) (H':Hp),itv=.ref it∧Inv X pins σ H' s2∧Turn X.prog X.w X.K tg J fp it tn∧tn 0 s2.heap∧(∀ b ∈ fp,Z3 X pins H' b)∧R J H'
def PI (X:Cx) (tg iter:Expr) (wi:TI):Prop :=
 ∀ (pins:List (11:)) (s:Shared) (σ:St) (H:Hp) (R:It→Hp→Prop),Inv X pins σ H s→wi σ H R →
  wpAny (6:) X.A (eval iter X.env) (fun v s1=>wpAny (6:) X.A (pyIter v) (PIE X pins σ tg R) X.xe s1) X.xe s
theorem G6 {M:Model} {A:Around} {E:Value→Shared→Prop} {s:Shared} {tg:Expr} {it:Addr} {u:Value} {o:Obj} {n:String} {vs:Array Value} {Q:Unit→Shared→Prop} (ho:s.heap.get? it=some o) (hc:o.cls=.type n) (hd:o.data=.fields vs)
 (hn:["enumerate", "zip", "dict_itemiterator", "dict_reverseitemiterator", "odict_iterator", "itertools.zip_longest", "itertools.pairwise"].contains n=false) (hQ:Q () s):wpAny M A (letOwnedTupleGo tg (.ref it) u) Q E s:=by
 unfold letOwnedTupleGo
 cases tg <;> first
  | exact wpAny_pure hQ
  | (cases u <;> first
   | exact wpAny_pure hQ
   | (refine wpAny_bind (wpAny_load ho ?_)
      rw [hc,hd]
      show wpAny M A (if (["enumerate", "zip", "dict_itemiterator", "dict_reverseitemiterator", "odict_iterator", "itertools.zip_longest", "itertools.pairwise"].contains n && vs[0]? == some (rawInt _))=true then _ else _) Q E s
      rw [if_neg (by intro h;rw [hn,Bool.false_and] at h;cases h)]
      exact wpAny_pure hQ))
def Itl (K:PySem.W.Frag) (a:Addr):It :=
 ⟨fun i H=>∃ xs x,SqL K H a xs∧xs[i]?=some x,fun i H x H'=>H'=H∧∀ xs,SqL K H a xs→xs[i]?=some x,fun i H=>∃ xs,SqL K H a xs∧xs.length≤i⟩
def Itt (K:PySem.W.Frag) (a:Addr):It :=
 ⟨fun i H=>∃ xs x,SqT K H a xs∧xs[i]?=some x,fun i H x H'=>H'=H∧∀ xs,SqT K H a xs→xs[i]?=some x,fun i H=>∃ xs,SqT K H a xs∧xs.length≤i⟩
def Itr (lo:Int) (n:Nat):It:=⟨fun i _=>i < n,fun i H x H'=>H'=H∧x=.int (lo + i),fun i _=>n≤i⟩
theorem Vk {P:Program} {w:World} {K:PySem.W.Frag} {tg:Expr} (a it:Addr):Turn P w K tg (Itl K a) [it] it (fun i h=>h.IsListIter it a i) where
 mem:=by simp
 obj:=fun i h st b hb=>by
  have e:b=it:=by simpa using hb
  subst e
  obtain ⟨o,e,c,d⟩:=st
  exact ⟨o,e,fun v z=>by rw [d] at z;cases z⟩
 keep:=fun i h h' st k=>st.at fun o e=>k it (by simp) o e
 item:=by
  intro X hP hw hK hc i pins s σ H E I hf st hg
  subst hP hw hK
  obtain ⟨xs,x,hq,hx⟩:=hg
  obtain ⟨its,rv,p,hz⟩:=I.list hq
  obtain ⟨u,hu,ru⟩:=rv.get hx
  obtain ⟨f0,f1,f2,f3,f4,f5⟩:=hf it (by simp)
  refine wpAny_pyNext_list_item st p.isList (x:=u) (by simpa using hu) fun h' st' sb=>?_
  have I1:Inv X pins σ H { s with heap:=h' }:=I.turned (t':=s.toks) (fun b o hb e=>(sb.2 b hb).trans e) f0 f1 f3 f4 f5
  obtain ⟨o,e,c,d⟩:=id st'
  exact ⟨u,rfl,G6 (s:={ s with heap:=h' }) e c d (by decide) ⟨x,H,I1,ru,⟨rfl,fun ys hy=>by rw [I.list_inj hy hq];exact hx⟩,st',fun b hb=>(hf b hb).1⟩⟩
 done:=by
  intro X hP hw hK hc i pins s σ H E I hf st hg
  subst hP hw hK
  obtain ⟨xs,hq,hx⟩:=hg
  obtain ⟨its,rv,p,hz⟩:=I.list hq
  obtain ⟨f0,f1,f2,f3,f4,f5⟩:=hf it (by simp)
  have hl:=rv.length
  exact wpAny_pyNext_list_end (I.ok.hd hc) st p.isList (by simp;lia) fun h' eb=>⟨rfl,I.turned (t':=s.toks) (fun b o hb e=>eb b o hb e) f0 f1 f3 f4 f5⟩
 self:=fun _ _ _ _ _ st h=>wpAny_pyIter_listiter st h
theorem XS {P:Program} {w:World} {K:PySem.W.Frag} {tg:Expr} (a it:Addr):Turn P w K tg (Itt K a) [it] it (fun i h=>h.IsTupleIter it a i) where
 mem:=by simp
 obj:=fun i h st b hb=>by
  have e:b=it:=by simpa using hb
  subst e
  obtain ⟨o,e,c,d⟩:=st
  exact ⟨o,e,fun v z=>by rw [d] at z;cases z⟩
 keep:=fun i h h' st k=>st.at fun o e=>k it (by simp) o e
 item:=by
  intro X hP hw hK hc i pins s σ H E I hf st hg
  subst hP hw hK
  obtain ⟨xs,x,hq,hx⟩:=hg
  obtain ⟨its,rv,p,hz⟩:=I.tuple hq
  obtain ⟨u,hu,ru⟩:=rv.get hx
  obtain ⟨f0,f1,f2,f3,f4,f5⟩:=hf it (by simp)
  refine wpAny_pyNext_tuple_item st (show s.heap.IsTuple a its.toArray from p) (x:=u) (by simpa using hu) fun h' st' sb=>?_
  have I1:Inv X pins σ H { s with heap:=h' }:=I.turned (t':=s.toks) (fun b o hb e=>(sb.2 b hb).trans e) f0 f1 f3 f4 f5
  obtain ⟨o,e,c,d⟩:=id st'
  exact ⟨u,rfl,G6 (s:={ s with heap:=h' }) e c d (by decide) ⟨x,H,I1,ru,⟨rfl,fun ys hy=>by rw [I.tuple_inj hy hq];exact hx⟩,st',fun b hb=>(hf b hb).1⟩⟩
 done:=by
  intro X hP hw hK hc i pins s σ H E I hf st hg
  subst hP hw hK
  obtain ⟨xs,hq,hx⟩:=hg
  obtain ⟨its,rv,p,hz⟩:=I.tuple hq
  obtain ⟨f0,f1,f2,f3,f4,f5⟩:=hf it (by simp)
  have hl:=rv.length
  exact wpAny_pyNext_tuple_end (I.ok.hd hc) st (show s.heap.IsTuple a its.toArray from p) (by simp;lia) fun h' eb=>⟨rfl,I.turned (t':=s.toks) (fun b o hb e=>eb b o hb e) f0 f1 f3 f4 f5⟩
 self:=fun _ _ _ _ _ st h=>wpAny_pyIter_tupleiter st h
theorem XO {P:Program} {w:World} {K:PySem.W.Frag} {tg:Expr} (it:Addr) (lo:Int) (n:Nat):Turn P w K tg (Itr lo n) [it] it (fun i h=>IsRangeIter h it (lo + (i:Nat) * 1) ((n:Int) - (i:Nat)) 1) where
 mem:=by simp
 obj:=fun i h st b hb=>by
  have e:b=it:=by simpa using hb
  subst e
  exact ⟨_,st,fun v z=>by
   have z':Data.fields _=Data.cell v:=z
   cases z'⟩
 keep:=fun i h h' st k=>k it (by simp) _ st
 item:=by
  intro X hP hw hK hc i pins s σ H E I hf st hg
  subst hP hw hK
  obtain ⟨f0,f1,f2,f3,f4,f5⟩:=hf it (by simp)
  have W:=Walks.range (prog:=X.prog) (w:=X.w) (I.ok.hd hc) it lo 1 n
  refine W.item i s _ _ hg st fun v h' tk hv st' kk=>?_
  obtain ⟨t,rfl⟩:=hv
  have I1:Inv X pins σ H { s with heap:=h',toks:=tk }:=I.turned (fun b o hb e=>kk b o (by simpa using hb) e) f0 f1 f3 f4 f5
  refine ⟨_,rfl,G6 (s:={ s with heap:=h',toks:=tk }) (n:="range_iterator") st' rfl rfl (by decide) ⟨.int (lo + i),H,I1,⟨t,?_⟩,⟨rfl,rfl⟩,st',fun b hb=>(hf b hb).1⟩⟩
  rw [Int.mul_one]
 done:=by
  intro X hP hw hK hc i pins s σ H E I hf st hg
  subst hP hw hK
  obtain ⟨f0,f1,f2,f3,f4,f5⟩:=hf it (by simp)
  exact wpAny_pyNext_range_end (I.ok.hd hc) st (by have:n≤i:=hg;lia) fun h' eb=>⟨rfl,I.turned (t':=s.toks) (fun b o hb e=>eb b o hb e) f0 f1 f3 f4 f5⟩
 self:=fun _ _ _ _ _ st h=>wpAny_pyIter_rangeiter st h
end L2
namespace L2
open PySem PySem.Spec PyProof.Rows
section
variable {X:Cx} {tg:Expr}
def OD (K:PySem.W.Frag) (tl:TE):TI:=fun σ H R=>tl σ H fun x H1=>∃ a,x=.ref a∧(∃ xs,SqL K H1 a xs)∧R (Itl K a) H1
def Po (K:PySem.W.Frag) (tl:TE):TI:=fun σ H R=>tl σ H fun x H1=>∃ a,x=.ref a∧(∃ xs,SqT K H1 a xs)∧R (Itt K a) H1
theorem QH {l:Expr} {tl:TE} (hl:PE X l tl):PI X tg l (OD X.K tl):=by
 intro pins s σ H R I h
 refine thn (hl pins s σ H _ I h) fun v s1 ⟨x,H1,I1,r1,q1⟩=>?_
 obtain ⟨a,e,⟨xs,hq⟩,q⟩:=q1
 subst e
 cases r1
 obtain ⟨its,rv,p,hz⟩:=I1.list hq
 refine wpAny_pyIter_list p.isList ?_
 refine ⟨s1.heap.objs.size,[s1.heap.objs.size],_,_,H1,rfl,I1.kept (t':=s1.toks) fun b o e=>Heap.get?_push_of_some _ e,Vk a _,⟨_,Heap.get?_push_size _ rfl,rfl,rfl⟩,fun b hb=>?_,q⟩
 have e:b=s1.heap.objs.size:=by simpa using hb
 subst e
 exact I1.fpOk (7:) (I1.hok.fresh (7:))
theorem ZI {l:Expr} {tl:TE} (hl:PE X l tl):PI X tg l (Po X.K tl):=by
 intro pins s σ H R I h
 refine thn (hl pins s σ H _ I h) fun v s1 ⟨x,H1,I1,r1,q1⟩=>?_
 obtain ⟨a,e,⟨xs,hq⟩,q⟩:=q1
 subst e
 cases r1
 obtain ⟨its,rv,p,hz⟩:=I1.tuple hq
 refine wpAny_pyIter_tuple (show s1.heap.IsTuple a its.toArray from p) ?_
 refine ⟨s1.heap.objs.size,[s1.heap.objs.size],_,_,H1,rfl,I1.kept (t':=s1.toks) fun b o e=>Heap.get?_push_of_some _ e,XS a _,⟨_,Heap.get?_push_size _ rfl,rfl,rfl⟩,fun b hb=>?_,q⟩
 have e:b=s1.heap.objs.size:=by simpa using hb
 subst e
 exact I1.fpOk (7:) (I1.hok.fresh (7:))
theorem Gi {pins:List (11:)} {σ:St} {H:Hp} {s:Shared} {R:It→Hp→Prop} {E:Value→Shared→Prop} {lo hi:Int} {t u v:Tok} {tk:Nat} (I:Inv X pins σ H s) (h1:-(2 ^ 62)≤lo) (h2:lo < 2 ^ 62) (h3:-(2 ^ 62)≤hi) (h4:hi < 2 ^ 62)
 (q:R (Itr lo (hi - lo).toNat) H):wpAny (6:) X.A (pyIter (.ref s.heap.objs.size)) (PIE X pins σ tg R) E { s with heap:=s.heap.push { cls:=.type "range", data:=.fields #[.int lo t,.int hi u,.int 1 v] },toks:=tk }:=by
 refine wpAny_pyIter_range (IsRange.new ..) (small_one h1 h2 h3 h4) ?_
 have I1:Inv X pins σ H { s with heap:=s.heap.push { cls:=.type "range", data:=.fields #[.int lo t,.int hi u,.int 1 v] },toks:=tk }:=I.kept fun b o e=>Heap.get?_push_of_some _ e
 refine ⟨(s.heap.push { cls:=.type "range", data:=.fields #[.int lo t,.int hi u,.int 1 v] }).objs.size,[(s.heap.push { cls:=.type "range", data:=.fields #[.int lo t,.int hi u,.int 1 v] }).objs.size],_,_,H,rfl,I1.kept (t':=tk) fun b o e=>Heap.get?_push_of_some _ e,XO _ lo (hi - lo).toNat,?_,fun b hb=>?_,q⟩
 ·have e1:lo + ((0:Nat):Int) * 1=lo:=by simp
  have e2:(((hi - lo).toNat:Nat):Int) - ((0:Nat):Int)=Builtin.Range.rangeSize lo hi 1:=by rw [rangeSize_one];split <;> lia
  show IsRangeIter _ _ (lo + ((0:Nat):Int) * 1) ((((hi - lo).toNat:Nat):Int) - ((0:Nat):Int)) 1
  rw [e1,e2]
  exact Heap.get?_push_size _ rfl
 ·have e:b=(s.heap.push { cls:=.type "range", data:=.fields #[.int lo t,.int hi u,.int 1 v] }).objs.size:=by simpa using hb
  subst e
  exact I1.fpOk (7:) (I1.hok.fresh (7:))
def OJ (ta:TA):TI:=fun σ H R=>ta σ H fun vs H1=>∃ j:Int,vs=[.int j]∧-(2 ^ 62)≤j∧j < 2 ^ 62∧R (Itr 0 j.toNat) H1
theorem QD {a:Expr} {ta:TA} {p pos:Pos} (hg:Gl X "range") (hm:X.mg "range" = none) (ha:PA X [a] ta) (hs:starEach [a] X.env=[(false,eval a X.env)]:=by rfl):PI X tg (.Call (.Name "range" p) [a] [] pos) (OJ ta):=by
 intro pins s σ H R I h
 refine Call_ (ZE I hg hm boot_range (PyProof.Rows.callWith_type1 (thn (ha pos pins s σ H _ I h) fun us s1 ⟨vs,H1,I1,r1,q1⟩=>?_) hs rfl))
 obtain ⟨j,e,q1,q2,q⟩:=q1
 subst e
 cases r1 with
 | cons r rr =>
  cases rr
  obtain ⟨t,rfl⟩:=r
  exact call_range_1 (Gi I1 (4:) (4:) q1 q2 (by simpa using q))
def O2 (wi:TI) (g:TG) (tb:TS):TS:=fun D σ H=>wi σ H fun J H1=>∃ W:Nat→Nat→St→Hp→Prop,(∃ m,W 0 m σ H1)∧∀ i m σ H,W i m σ H →
 (J.stop i H∧D.nx σ H)∨(J.go i H∧∃ N:St→Hp→Prop,(∀ σ' H',N σ' H'→∃ m',m' < m∧W (i + 1) m' σ' H')∧∀ x H',J.yld i H x H'→g x σ H' fun σ2 H2=>tb { D with nx:=N,ct:=N,bk:=D.nx } σ2 H2)
def UQ (fp:List Addr) (h:Heap):List (11:):=fp.filterMap fun b=>(h.get? b).map fun o=>(b,o)
theorem ZP {fp:List Addr} {h:Heap} {b:Addr} {o:Obj} (hb:b ∈ fp) (e:h.get? b=some o):(b,o) ∈ UQ fp h:=List.mem_filterMap.mpr ⟨b,hb,by rw [e];rfl⟩
theorem W5 {fp:List Addr} {h:Heap} {p:Addr × Obj} (hp:p ∈ UQ fp h):p.1 ∈ fp∧h.get? p.1=some p.2:=by
 obtain ⟨b,hb,e⟩:=List.mem_filterMap.mp hp
 cases q:h.get? b with
 | none=>rw [q] at e;cases e
 | some o =>
  rw [q] at e
  have e':(b,o)=p:=Option.some.inj e
  subst e'
  exact ⟨hb,q⟩
theorem Inv.pinned {pins:List (11:)} {σ:St} {H:Hp} {s:Shared} {fp:List Addr} (I:Inv X pins σ H s) (hf:∀ b ∈ fp,Z3 X pins H b) (ho:∀ b ∈ fp,∃ o,s.heap.get? b=some o∧∀ v,o.data≠.cell v):Inv X (pins ++ UQ fp s.heap) σ H s :=
 I.pins_of fun p hp=>(List.mem_append.mp hp).elim (fun z=>I.pin p (List.mem_append_right _ z)) fun z=>by
  obtain ⟨hb,e⟩:=W5 z
  obtain ⟨f0,f1,f2,_⟩:=hf p.1 hb
  obtain ⟨o,e',d⟩:=ho p.1 hb
  rw [e] at e';cases e'
  exact ⟨e,f0,f1,f2,d⟩
theorem Inv.unpinned {pins pl:List (11:)} {σ:St} {H:Hp} {s:Shared} (I:Inv X (pins ++ pl) σ H s):Inv X pins σ H s:=I.pins_of fun p hp=>I.pin p (List.mem_append_right _ (List.mem_append_left _ hp))
theorem QR {iter:Expr} {body:List Stmt} {wi:TI} {g:TG} {tb:TS} {pos:Pos} (hp:PassesOwn (6:) X.A X.env X.xe) (hc:X.calm=true) (hi:PI X tg iter wi) (hg:PG X tg g) (hb:PSs X body tb)
 (hs:∀ x,foldedSetIterable iter X.env x=pure x:=by intro _;rfl):PS X (.For tg iter body [] pos) (O2 wi g tb):=by
 intro pins s σ H D I h
 refine wpAny_For (thn (hi pins s σ H _ I h) fun v s1 h1=>thn h1 fun itv s2 h2=>?_) hs
 obtain ⟨it,fp,tn,J,H2,e,I2,T,st2,f2,W,⟨m0,w0⟩,turn⟩:=h2
 subst e
 have stat:∀ {H':Hp},(∀ b ∈ fp,H' b=none)→∀ b ∈ fp,Z3 X pins H' b:=fun hn b hb=>⟨hn b hb,(f2 b hb).2⟩
 refine codeAny_forLoop_any (fun n s'=>∃ i σ' H',Inv X pins σ' H' s'∧tn i s'.heap∧(∀ b ∈ fp,H' b=none)∧W i n σ' H') ?_ m0 ⟨0,σ,H2,I2,st2,fun b hb=>(f2 b hb).1,w0⟩
 rintro n s3 ⟨i,σ3,H3,I3,st3,fr3,w3⟩
 rcases turn i n σ3 H3 w3 with ⟨stop,qn⟩ | ⟨go,N,hN,step⟩
 ·refine wpAny_passesOwn hp (thn (T.done X rfl rfl rfl hc i pins s3 σ3 H3 X.xe I3 (stat fr3) st3 stop) fun r s4 ⟨hr,I4⟩=>?_)
  subst hr
  exact wpAny_execs_nil ⟨σ3,H3,I4,qn⟩
 ·refine wpAny_passesOwn hp (thn (T.item X rfl rfl rfl hc i pins s3 σ3 H3 X.xe I3 (stat fr3) st3 go) fun r s4 ⟨u,hr,h4⟩=>?_)
  subst hr
  refine wpAny_passesOwn hp (thn h4 fun _ s5 ⟨x,H5,I5,r5,y5,st5,fr5⟩=>?_)
  have I5':=I5.pinned (stat fr5) (T.obj _ _ st5)
  refine wpAny_passesOwn hp (thn (hg _ s5 σ3 H5 x u _ I5' r5 (step x H5 y5)) fun _ s6 ⟨σ6,H6,I6,q6⟩=>?_)
  refine wpAny_passesOwn hp (thn (hb _ s6 σ6 H6 _ I6 q6) fun f s7 q7=>?_)
  have again:∀ {σ7:St} {H7:Hp},Inv X (pins ++ UQ fp s5.heap) σ7 H7 s7→N σ7 H7→∃ m,m < n∧∃ i σ' H',Inv X pins σ' H' s7∧tn i s7.heap∧(∀ b ∈ fp,H' b=none)∧W i m σ' H':=fun {σ7 H7} I7 n7=>by
   obtain ⟨m',hm,w7⟩:=hN σ7 H7 n7
   refine ⟨m',hm,i + 1,σ7,H7,I7.unpinned,T.keep _ _ _ st5 fun b hb o e=>(I7.pin (b,o) (List.mem_append_right _ (List.mem_append_right _ (ZP hb e)))).1,fun b hb=>?_,w7⟩
   obtain ⟨o,e,d⟩:=T.obj _ _ st5 b hb
   exact (I7.pin (b,o) (List.mem_append_right _ (List.mem_append_right _ (ZP hb e)))).2.1
  cases f with
  | next=>obtain ⟨σ7,H7,I7,n7⟩:=q7;exact again I7 n7
  | cont=>obtain ⟨σ7,H7,I7,n7⟩:=q7;exact again I7 n7
  | brk=>obtain ⟨σ7,H7,I7,q7⟩:=q7;exact ⟨σ7,H7,I7.unpinned,q7⟩
  | ret v=>obtain ⟨x7,σ7,H7,I7,r7,q7⟩:=q7;exact ⟨x7,σ7,H7,I7.unpinned,r7,q7⟩
end
theorem ZM {K:PySem.W.Frag} {a:Addr} {xs:List V} {g:TG} {tb:TS} {D:Ends} {σ:St} {H:Hp} (Pv:Nat→St→Hp→Prop) (h0:Pv 0 σ H) (hl:∀ i σ H,i≤xs.length→Pv i σ H→SqL K H a xs)
 (hs:∀ i x σ H,xs[i]?=some x→Pv i σ H→g x σ H fun σ2 H2=>tb { D with nx:=Pv (i + 1),ct:=Pv (i + 1),bk:=D.nx } σ2 H2) (hd:∀ σ H,Pv xs.length σ H→D.nx σ H) :
 ∃ W:Nat→Nat→St→Hp→Prop,(∃ m,W 0 m σ H)∧∀ i m σ H,W i m σ H →
  ((Itl K a).stop i H∧D.nx σ H)∨((Itl K a).go i H∧∃ N:St→Hp→Prop,(∀ σ' H',N σ' H'→∃ m',m' < m∧W (i + 1) m' σ' H')∧∀ x H',(Itl K a).yld i H x H'→g x σ H' fun σ2 H2=>tb { D with nx:=N,ct:=N,bk:=D.nx } σ2 H2):=by
 refine ⟨fun i m σ H=>m=xs.length - i∧i≤xs.length∧Pv i σ H,⟨xs.length,by simp,Nat.zero_le _,h0⟩,?_⟩
 rintro i m σ H ⟨rfl,hi,p⟩
 have q:=hl i σ H hi p
 by_cases hlt:i < xs.length
 ·refine .inr ⟨⟨xs,xs[i],q,by simp [hlt]⟩,Pv (i + 1),fun σ' H' p'=>⟨xs.length - (i + 1),by lia,rfl,hlt,p'⟩,fun x H' y=>?_⟩
  obtain ⟨e,y⟩:=y
  subst e
  exact hs i x σ _ (y xs q) p
 ·have e:i=xs.length:=by lia
  subst e
  exact .inl ⟨⟨xs,q,Nat.le_refl _⟩,hd σ H p⟩
theorem Mh {K:PySem.W.Frag} {a:Addr} {xs:List V} {g:TG} {tb:TS} {D:Ends} {σ:St} {H:Hp} (Pv:Nat→St→Hp→Prop) (h0:Pv 0 σ H) (hl:∀ i σ H,i≤xs.length→Pv i σ H→SqT K H a xs)
 (hs:∀ i x σ H,xs[i]?=some x→Pv i σ H→g x σ H fun σ2 H2=>tb { D with nx:=Pv (i + 1),ct:=Pv (i + 1),bk:=D.nx } σ2 H2) (hd:∀ σ H,Pv xs.length σ H→D.nx σ H) :
 ∃ W:Nat→Nat→St→Hp→Prop,(∃ m,W 0 m σ H)∧∀ i m σ H,W i m σ H →
  ((Itt K a).stop i H∧D.nx σ H)∨((Itt K a).go i H∧∃ N:St→Hp→Prop,(∀ σ' H',N σ' H'→∃ m',m' < m∧W (i + 1) m' σ' H')∧∀ x H',(Itt K a).yld i H x H'→g x σ H' fun σ2 H2=>tb { D with nx:=N,ct:=N,bk:=D.nx } σ2 H2):=by
 refine ⟨fun i m σ H=>m=xs.length - i∧i≤xs.length∧Pv i σ H,⟨xs.length,by simp,Nat.zero_le _,h0⟩,?_⟩
 rintro i m σ H ⟨rfl,hi,p⟩
 have q:=hl i σ H hi p
 by_cases hlt:i < xs.length
 ·refine .inr ⟨⟨xs,xs[i],q,by simp [hlt]⟩,Pv (i + 1),fun σ' H' p'=>⟨xs.length - (i + 1),by lia,rfl,hlt,p'⟩,fun x H' y=>?_⟩
  obtain ⟨e,y⟩:=y
  subst e
  exact hs i x σ _ (y xs q) p
 ·have e:i=xs.length:=by lia
  subst e
  exact .inl ⟨⟨xs,q,Nat.le_refl _⟩,hd σ H p⟩
theorem Q6 {lo:Int} {n:Nat} {g:TG} {tb:TS} {D:Ends} {σ:St} {H:Hp} (Pv:Nat→St→Hp→Prop) (h0:Pv 0 σ H)
 (hs:∀ i σ H,i < n→Pv i σ H→g (.int (lo + i)) σ H fun σ2 H2=>tb { D with nx:=Pv (i + 1),ct:=Pv (i + 1),bk:=D.nx } σ2 H2) (hd:∀ σ H,Pv n σ H→D.nx σ H) :
 ∃ W:Nat→Nat→St→Hp→Prop,(∃ m,W 0 m σ H)∧∀ i m σ H,W i m σ H →
  ((Itr lo n).stop i H∧D.nx σ H)∨((Itr lo n).go i H∧∃ N:St→Hp→Prop,(∀ σ' H',N σ' H'→∃ m',m' < m∧W (i + 1) m' σ' H')∧∀ x H',(Itr lo n).yld i H x H'→g x σ H' fun σ2 H2=>tb { D with nx:=N,ct:=N,bk:=D.nx } σ2 H2):=by
 refine ⟨fun i m σ H=>m=n - i∧i≤n∧Pv i σ H,⟨n,by simp,Nat.zero_le _,h0⟩,?_⟩
 rintro i m σ H ⟨rfl,hi,p⟩
 by_cases hlt:i < n
 ·refine .inr ⟨hlt,Pv (i + 1),fun σ' H' p'=>⟨n - (i + 1),by lia,rfl,hlt,p'⟩,fun x H' y=>?_⟩
  obtain ⟨e,y⟩:=y
  subst e y
  exact hs i σ _ hlt p
 ·have e:i=n:=by lia
  subst e
  exact .inl ⟨Nat.le_refl _,hd σ H p⟩
end L2
namespace L2
open PySem PySem.Spec PyProof.Rows
abbrev R2:=V→V→Hp→VK→Prop
def OpR (X:Cx) (f:Value→Value→Sem Value) (r:R2):Prop :=
 ∀ (pins:List (11:)) (s:Shared) (σ:St) (H:Hp) (x y:V) (v u:Value) (Q:VK),Inv X pins σ H s→RelV x v→RelV y u→r x y H Q →
  wpAny (6:) X.A (f v u) (EP X pins σ Q) X.xe s
def QN (X:Cx) (f:Value) (r:List V→Hp→VK→Prop):Prop :=
 ∀ (pins:List (11:)) (s:Shared) (σ:St) (H:Hp) (xs:List V) (us:List Value) (Q:VK),Inv X pins σ H s→Vals xs us→r xs H Q →
  wpAny (6:) X.A (call f us) (EP X pins σ Q) X.xe s
def tOp (r:R2) (ta tb:TE):TE:=fun σ H Q=>ta σ H fun x H1=>tb σ H1 fun y H2=>r x y H2 Q
def rI (C:Int→Int→Prop) (g:Int→Int→V):R2:=fun x y H Q=>∃ i j,x=.int i∧y=.int j∧C i j∧Q (g i j) H
def rI0 (g:Int→Int→V):R2:=fun x y H Q=>∃ i j,x=.int i∧y=.int j∧Q (g i j) H
def rU (g:Int→V):V→Hp→VK→Prop:=fun x H Q=>∃ i,x=.int i∧Q (g i) H
section
variable {X:Cx} {a b c:Expr} {ta tb tc:TE} {pos:Pos}
theorem NA (ha:PE X a ta) (hb:PE X b tb) {pins:List (11:)} {s:Shared} {σ:St} {H:Hp} {R:V→V→Hp→Prop} (I:Inv X pins σ H s)
 (h:ta σ H fun x H1=>tb σ H1 fun y H2=>R x y H2) {Q:Value→Shared→Prop} {f:Value→Value→Sem Value}
 (hf:∀ v u s2 x y H2,Inv X pins σ H2 s2→RelV x v→RelV y u→R x y H2→wpAny (6:) X.A (f v u) Q X.xe s2) :
 wpAny (6:) X.A (eval a X.env) (fun v s₁=>wpAny (6:) X.A (eval b X.env) (fun u s₂=>wpAny (6:) X.A (f v u) Q X.xe s₂) X.xe s₁) X.xe s:=by
 refine thn (ha pins s σ H _ I h) fun v s1 ⟨x,H1,I1,r1,q1⟩=>?_
 refine thn (hb pins s1 σ H1 _ I1 q1) fun u s2 ⟨y,H2,I2,r2,q2⟩=>?_
 exact hf v u s2 x y H2 I2 r1 r2 q2
theorem Qm {op:Operator} {r:R2} (ho:OpR X (binaryOp op) r) (ha:PE X a ta) (hb:PE X b tb):PE X (.BinOp a op b pos) (tOp r ta tb):=by
 intro pins s σ H Q I h
 exact wpAny_BinOp (NA ha hb I h fun v u s2 x y H2 I2 rx ry q=>ho pins s2 σ H2 x y v u Q I2 rx ry q)
theorem opI {f:Value→Value→Sem Value} {C:Int→Int→Prop} {g:Int→Int→Int}
 (rule:∀ (i j:Int) (t u:Tok) (s:Shared) (Q:Value→Shared→Prop) (E:Value→Shared→Prop),C i j→Q (.int (g i j) s.toks) { s with toks:=s.toks + 1 }→wpAny (6:) X.A (f (.int i t) (.int j u)) Q E s) :
 OpR X f (rI C fun i j=>.int (g i j)):=by
 intro pins s σ H x y v u Q I rx ry h
 obtain ⟨i,j,rfl,rfl,hc,q⟩:=h
 obtain ⟨t,rfl⟩:=rx
 obtain ⟨t',rfl⟩:=ry
 exact rule i j t t' s _ _ hc ⟨.int (g i j),H,I.tok _,⟨_,rfl⟩,q⟩
theorem N5 {f:Value→Value→Sem Value} {g:Int→Int→Int}
 (rule:∀ (i j:Int) (t u:Tok) (s:Shared) (Q:Value→Shared→Prop) (E:Value→Shared→Prop),Q (.int (g i j) s.toks) { s with toks:=s.toks + 1 }→wpAny (6:) X.A (f (.int i t) (.int j u)) Q E s) :
 OpR X f (rI0 fun i j=>.int (g i j)):=by
 intro pins s σ H x y v u Q I rx ry h
 obtain ⟨i,j,rfl,rfl,q⟩:=h
 obtain ⟨t,rfl⟩:=rx
 obtain ⟨t',rfl⟩:=ry
 exact rule i j t t' s _ _ ⟨.int (g i j),H,I.tok _,⟨_,rfl⟩,q⟩
theorem LW {f:Value→Value→Sem Value} {g:Int→Int→Bool}
 (rule:∀ (i j:Int) (t u:Tok) (s:Shared) (Q:Value→Shared→Prop) (E:Value→Shared→Prop),Q (.bool (g i j)) s→wpAny (6:) X.A (f (.int i t) (.int j u)) Q E s) :
 OpR X f (rI0 fun i j=>.bl (g i j)):=by
 intro pins s σ H x y v u Q I rx ry h
 obtain ⟨i,j,rfl,rfl,q⟩:=h
 obtain ⟨t,rfl⟩:=rx
 obtain ⟨t',rfl⟩:=ry
 exact rule i j t t' s _ _ ⟨.bl (g i j),H,I,rfl,q⟩
def N2 (i j:Int):Prop:=0 < j∧j < 1073741824
def OM (i j:Int):Prop:=0≤j∧j≤1000000∧i.natAbs < 2 ^ 64
def CMul (i j:Int):Prop:=(-(2 ^ 64) < i∧i < 2 ^ 64)∨(-(2 ^ 64) < j∧j < 2 ^ 64)
theorem CMul.ok {i j:Int} (h:CMul i j):IntMulOk i j:=by
 rcases h with ⟨h1,h2⟩ | ⟨h1,h2⟩
 ·exact .of_left (intBits_le_64 h1 h2)
 ·exact .of_right (intBits_le_64 h1 h2)
theorem QZ:OpR X (binaryOp .Add) (rI0 fun i j=>.int (i + j)):=N5 fun _ _ _ _ _ _ _ q=>add_int q
theorem YL:OpR X (binaryOp .Sub) (rI0 fun i j=>.int (i - j)):=N5 fun _ _ _ _ _ _ _ q=>sub_int q
theorem Z5:OpR X (binaryOp .Mult) (rI CMul fun i j=>.int (i * j)):=opI fun _ _ _ _ _ _ _ hc q=>mul_int q hc.ok
theorem Zj:OpR X (binaryOp .FloorDiv) (rI N2 fun i j=>.int (i / j)):=opI fun i j _ _ _ _ _ hc q=>by
 have h1:(0:Int) < j:=hc.1
 have h2:j < 1073741824:=hc.2
 exact floordiv_int (4:) (by rw [Int.fdiv_eq_ediv_of_nonneg i (4:)];exact q) (.inl (PyProof.noPylong_small (4:)))
theorem Q1:OpR X (binaryOp .Mod) (rI (fun _ j=>0 < j) fun i j=>.int (i % j)):=opI fun i j _ _ _ _ _ hc q=>by
 have h1:(0:Int) < j:=hc
 exact mod_int' (4:) (by rw [Int.fmod_eq_emod_of_nonneg i (4:)];exact q)
theorem UC:OpR X (binaryOp .Pow) (rI OM fun i j=>.int (i ^ j.toNat)):=opI fun _ _ _ _ _ _ _ hc q=>pow_int_small hc.1 hc.2.1 hc.2.2 q
end
def OR:V→V→Bool
 | .non,.non=>true | .non,.int _=>true | .int _,.non=>true | .non,.bl _=>true | .bl _,.non=>true | .non,.str _=>true | .str _,.non=>true
 | .int _,.int _=>true | .bl _,.bl _=>true | .str _,.str _=>true | .byt _,.byt _=>true
 | .int _,.str _=>true | .str _,.int _=>true | .bl _,.str _=>true | .str _,.bl _=>true
 | _,_=>false
def rEq:R2:=fun x y H Q=>OR x y=true∧Q (.bl (decide (x=y))) H
def rNe:R2:=fun x y H Q=>OR x y=true∧Q (.bl (!decide (x=y))) H
theorem WS {i j:Int}:decide (V.int i=V.int j)=(i == j):=by
 rw [Bool.eq_iff_iff]
 simp
theorem VL {i j:Bool}:decide (V.bl i=V.bl j)=(i == j):=by
 rw [Bool.eq_iff_iff]
 simp
theorem WL {i j:Str}:decide (V.str i=V.str j)=(i == j):=by
 rw [Bool.eq_iff_iff]
 simp
theorem WE {i j:Array UInt8}:decide (V.byt i=V.byt j)=(i.toList == j.toList):=by
 rw [Bool.eq_iff_iff]
 cases i
 cases j
 simp
section
variable {X:Cx} {a b c:Expr} {ta tb tc:TE} {pos:Pos}
theorem Qv {pins:List (11:)} {σ:St} {H:Hp} {s:Shared} {Q:VK} {k k':Bool} (I:Inv X pins σ H s) (q:Q (.bl k) H) (e:k=k'):EP X pins σ Q (.bool k') s:=by
 subst e
 exact ⟨.bl k,H,I,rfl,q⟩
theorem Zd:OpR X (compareOp .Eq) rEq:=by
 intro pins s σ H x y v u Q I rx ry h
 obtain ⟨hs,q⟩:=h
 cases x with
 | non =>
  cases rx
  cases y with
  | non=>cases ry;exact PySem.EqNone.eq_none_none (Qv I q (by simp))
  | bl j=>cases ry;exact PySem.EqNone.eq_none_bool (Qv I q (by simp))
  | int j=>obtain ⟨t',rfl⟩:=ry;exact PySem.EqNone.eq_none_int (Qv I q (by simp))
  | str j=>obtain ⟨t',rfl⟩:=ry;exact PySem.EqNone.eq_none_str (Qv I q (by simp))
  | _=>exact absurd (show false=true from hs) Bool.false_ne_true
 | bl i =>
  cases rx
  cases y with
  | non=>cases ry;exact PySem.EqNone.eq_bool_none (Qv I q (by simp))
  | bl j=>cases ry;exact eq_bool (Qv I q VL)
  | str j=>obtain ⟨t',rfl⟩:=ry;exact PySem.EqMixed.eq_bool_str (Qv I q (by simp))
  | _=>exact absurd (show false=true from hs) Bool.false_ne_true
 | int i =>
  obtain ⟨t,rfl⟩:=rx
  cases y with
  | non=>cases ry;exact PySem.EqNone.eq_int_none (Qv I q (by simp))
  | int j=>obtain ⟨t',rfl⟩:=ry;exact eq_int (Qv I q WS)
  | str j=>obtain ⟨t',rfl⟩:=ry;exact PySem.EqMixed.eq_int_str (Qv I q (by simp))
  | _=>exact absurd (show false=true from hs) Bool.false_ne_true
 | str i =>
  obtain ⟨t,rfl⟩:=rx
  cases y with
  | non=>cases ry;exact PySem.EqNone.eq_str_none (Qv I q (by simp))
  | bl j=>cases ry;exact PySem.EqMixed.eq_str_bool (Qv I q (by simp))
  | int j=>obtain ⟨t',rfl⟩:=ry;exact PySem.EqMixed.eq_str_int (Qv I q (by simp))
  | str j=>obtain ⟨t',rfl⟩:=ry;exact eq_str (Qv I q WL)
  | _=>exact absurd (show false=true from hs) Bool.false_ne_true
 | byt i =>
  obtain ⟨t,rfl⟩:=rx
  cases y with
  | byt j=>obtain ⟨t',rfl⟩:=ry;exact PySem.W.eq_bytes (Qv I q WE)
  | _=>exact absurd (show false=true from hs) Bool.false_ne_true
 | _=>cases y <;> exact absurd (show false=true from hs) Bool.false_ne_true
theorem YC:OpR X (compareOp .NotEq) rNe:=by
 intro pins s σ H x y v u Q I rx ry h
 obtain ⟨hs,q⟩:=h
 cases x with
 | non =>
  cases rx
  cases y with
  | non=>cases ry;exact PySem.EqNone.ne_none_none (Qv I q (by simp))
  | bl j=>cases ry;exact PySem.EqNone.ne_none_bool (Qv I q (by simp))
  | int j=>obtain ⟨t',rfl⟩:=ry;exact PySem.EqNone.ne_none_int (Qv I q (by simp))
  | str j=>obtain ⟨t',rfl⟩:=ry;exact PySem.EqNone.ne_none_str (Qv I q (by simp))
  | _=>exact absurd (show false=true from hs) Bool.false_ne_true
 | bl i =>
  cases rx
  cases y with
  | non=>cases ry;exact PySem.EqNone.ne_bool_none (Qv I q (by simp))
  | bl j=>cases ry;exact ne_bool (Qv I q (congrArg not VL))
  | str j=>obtain ⟨t',rfl⟩:=ry;exact PySem.EqMixed.ne_bool_str (Qv I q (by simp))
  | _=>exact absurd (show false=true from hs) Bool.false_ne_true
 | int i =>
  obtain ⟨t,rfl⟩:=rx
  cases y with
  | non=>cases ry;exact PySem.EqNone.ne_int_none (Qv I q (by simp))
  | int j=>obtain ⟨t',rfl⟩:=ry;exact ne_int (Qv I q (congrArg not WS))
  | str j=>obtain ⟨t',rfl⟩:=ry;exact PySem.EqMixed.ne_int_str (Qv I q (by simp))
  | _=>exact absurd (show false=true from hs) Bool.false_ne_true
 | str i =>
  obtain ⟨t,rfl⟩:=rx
  cases y with
  | non=>cases ry;exact PySem.EqNone.ne_str_none (Qv I q (by simp))
  | bl j=>cases ry;exact PySem.EqMixed.ne_str_bool (Qv I q (by simp))
  | int j=>obtain ⟨t',rfl⟩:=ry;exact PySem.EqMixed.ne_str_int (Qv I q (by simp))
  | str j=>obtain ⟨t',rfl⟩:=ry;exact ne_str (Qv I q (congrArg not WL))
  | _=>exact absurd (show false=true from hs) Bool.false_ne_true
 | byt i =>
  obtain ⟨t,rfl⟩:=rx
  cases y with
  | byt j=>obtain ⟨t',rfl⟩:=ry;exact PySem.W.ne_bytes (Qv I q (congrArg not WE))
  | _=>exact absurd (show false=true from hs) Bool.false_ne_true
 | _=>cases y <;> exact absurd (show false=true from hs) Bool.false_ne_true
theorem Lc:OpR X (compareOp .Lt) (rI0 fun i j=>.bl (decide (i < j))):=LW fun _ _ _ _ _ _ _ q=>lt_int q
theorem OW:OpR X (compareOp .LtE) (rI0 fun i j=>.bl (decide (i≤j))):=LW fun _ _ _ _ _ _ _ q=>le_int q
theorem V1:OpR X (compareOp .Gt) (rI0 fun i j=>.bl (decide (j < i))):=LW fun _ _ _ _ _ _ _ q=>gt_int q
theorem OK:OpR X (compareOp .GtE) (rI0 fun i j=>.bl (decide (j≤i))):=LW fun _ _ _ _ _ _ _ q=>ge_int q
theorem Vs:OpR X (compareOp .Lt) (fun x y H Q=>∃ i j,x=.str i∧y=.str j∧Q (.bl (decide (i.cps.toList < j.cps.toList))) H):=by
 intro pins s σ H x y v u Q I rx ry h
 obtain ⟨i,j,rfl,rfl,q⟩:=h
 obtain ⟨t,rfl⟩:=rx
 obtain ⟨t',rfl⟩:=ry
 exact lt_str (Qv I q rfl)
theorem M0:OpR X (compareOp .Is) (fun x y H Q=>y=.non∧Q (.bl (decide (x=.non))) H):=by
 intro pins s σ H x y v u Q I rx ry h
 obtain ⟨rfl,q⟩:=h
 cases ry
 refine is_none_gen (Qv I q ?_)
 cases x <;> first
  | (cases rx;rfl)
  | (obtain ⟨t,rfl⟩:=rx;rfl)
theorem L9:OpR X (compareOp .IsNot) (fun x y H Q=>y=.non∧Q (.bl (!decide (x=.non))) H):=by
 intro pins s σ H x y v u Q I rx ry h
 obtain ⟨rfl,q⟩:=h
 cases ry
 refine isnot_none_gen (Qv I q ?_)
 cases x <;> first
  | (cases rx;rfl)
  | (obtain ⟨t,rfl⟩:=rx;rfl)
theorem Qu (b:Expr) {op:CmpOp} (h:op≠.In:=by decide) (h2:op≠.NotIn:=by decide):behindInMarks op b=false:=by
 have e1:(op == CmpOp.In)=false:=by cases op <;> first | rfl | exact absurd rfl h
 have e2:(op == CmpOp.NotIn)=false:=by cases op <;> first | rfl | exact absurd rfl h2
 cases b <;> simp [behindInMarks,e1,e2]
theorem Zz {op:CmpOp} {r:R2} (ho:OpR X (compareOp op) r) (ha:PE X a ta) (hb:PE X b tb) (hm:behindInMarks op b=false):PE X (.Compare a [op] [b] pos) (tOp r ta tb):=by
 intro pins s σ H Q I h
 exact wpAny_Compare1 (NA ha hb I h fun v u s2 x y H2 I2 rx ry q=>ho pins s2 σ H2 x y v u Q I2 rx ry q) hm
def Ox (t:TE):TT:=fun σ H Q=>t σ H fun x H'=>∃ k,x=.bl k∧Q k H'
theorem Qr {op:CmpOp} {r:R2} (ho:OpR X (compareOp op) r) (ha:PE X a ta) (hb:PE X b tb) (hm:behindInMarks op b=false):PT X (.Compare a [op] [b] pos) (Ox (tOp r ta tb)):=by
 intro pins s σ H Q I h
 refine wpAny_isTrue_Compare1 (thn (ha pins s σ H _ I h) fun v s1 ⟨x,H1,I1,r1,q1⟩=>thn (hb pins s1 σ H1 _ I1 q1) fun u s2 ⟨y,H2,I2,r2,q2⟩ =>
  thn (ho pins s2 σ H2 x y v u _ I2 r1 r2 q2) fun c s3 ⟨z,H3,I3,r3,k,e,q3⟩=>?_) hm
 subst e
 cases r3
 exact wpAny_truthy_bool ⟨H3,I3,q3⟩
theorem Uu:(sizeLine:Nat) < 2 ^ 63:=by rw [sizeLine_eq];decide
theorem Wk:OpR X (binaryOp .Add) (fun x y H Q=>∃ i j,x=.str i∧y=.str j∧i.length + j.length≤sizeLine∧Q (.str (i ++ j)) H):=by
 intro pins s σ H x y v u Q I rx ry h
 obtain ⟨i,j,rfl,rfl,hz,q⟩:=h
 obtain ⟨t,rfl⟩:=rx
 obtain ⟨t',rfl⟩:=ry
 exact add_str (fun t' tk=>⟨.str (i ++ j),H,I.tok _,⟨_,rfl⟩,q⟩) hz
theorem Jr {x:V} {us:List Value} (r:Vals [x] us):∃ u,us=[u]∧RelV x u:=by
 cases r with
 | cons r1 r2=>cases r2;exact ⟨_,rfl,r1⟩
theorem WJ {x y:V} {us:List Value} (r:Vals [x,y] us):∃ u w',us=[u,w']∧RelV x u∧RelV y w':=by
 cases r with
 | cons r1 r2 =>
  cases r2 with
  | cons r3 r4=>cases r4;exact ⟨_,_,rfl,r1,r3⟩
theorem Jf:QN X (.type "int") (fun xs H Q=>(∃ i,xs=[.int i]∧Q (.int i) H)∨∃ k,xs=[.bl k]∧Q (.int (if k then 1 else 0)) H):=by
 intro pins s σ H xs us Q I r h
 rcases h with ⟨i,rfl,q⟩ | ⟨k,rfl,q⟩
 ·obtain ⟨u,rfl,t,rfl⟩:=Jr r
  exact call_int_int ⟨.int i,H,I,⟨_,rfl⟩,q⟩
 ·obtain ⟨u,rfl,r1⟩:=Jr r
  cases r1
  exact call_int_bool ⟨.int (if k then 1 else 0),H,I.tok _,⟨_,rfl⟩,q⟩
def O8 (K:PySem.W.Frag) (x:V) (H:Hp) (n:Nat):Prop :=
 match x with
 | .str y=>y.length≤sizeLine∧n=y.length
 | .byt y=>y.size≤sizeLine∧n=y.size
 | .ref p=>(∃ xs,SqL K H p xs∧n=xs.length)∨∃ xs,SqT K H p xs∧n=xs.length
 | _=>False
theorem call_len:QN X (.builtin "len") (fun xs H Q=>∃ x n,xs=[x]∧O8 X.K x H n∧Q (.int n) H):=by
 intro pins s σ H xs us Q I r h
 obtain ⟨x,n,rfl,e,q⟩:=h
 obtain ⟨u,rfl,rx⟩:=Jr r
 have hl:=Uu
 have hs:sizeLine=16777216:=sizeLine_eq
 cases x with
 | str y =>
  obtain ⟨t,rfl⟩:=rx
  obtain ⟨hy,e'⟩ : y.length≤sizeLine∧n=y.length:=e
  subst e'
  exact len_str (4:) ⟨.int _,H,I.tok _,⟨_,rfl⟩,q⟩
 | byt y =>
  obtain ⟨t,rfl⟩:=rx
  obtain ⟨hy,e'⟩ : y.size≤sizeLine∧n=y.size:=e
  subst e'
  exact PySem.W.len_bytes (4:) ⟨.int _,H,I.tok _,⟨_,rfl⟩,q⟩
 | ref p =>
  cases rx
  have e':(∃ xs,SqL X.K H p xs∧n=xs.length)∨∃ xs,SqT X.K H p xs∧n=xs.length:=e
  rcases e' with ⟨xs,hx,e'⟩ | ⟨xs,hx,e'⟩
  ·subst e'
   obtain ⟨its,r',pl,hz⟩:=I.list hx
   have hlen:=r'.length
   exact Calls.call_len_list pl.isList (by simp only [List.size_toArray];lia) ⟨.int xs.length,H,I.tok _,⟨_,by simp only [List.size_toArray];rw [hlen]⟩,q⟩
  ·subst e'
   obtain ⟨its,r',pl,hz⟩:=I.tuple hx
   have hlen:=r'.length
   exact len_tuple pl (by simp only [List.size_toArray];lia) ⟨.int xs.length,H,I.tok _,⟨_,by simp only [List.size_toArray];rw [hlen]⟩,q⟩
 | _=>exact (show False from e).elim
end
end L2
namespace L2
open PySem PySem.Spec PyProof.Rows
structure ObjM (h:Heap) (x dx C:Addr) (mA:Str→Option Value):Prop where
 obj:h.get? x=some (PySem.W.instObj C dx)
 ns:h.Ns1 dx mA
 ne:dx≠x
theorem Vw {h:Heap} {dx:Addr} {mA:Str→Option Value} (n:h.Ns1 dx mA):∃ od,h.get? dx=some od∧∀ name,PySem.W.lookIn name od=some (mA name):=by
 obtain ⟨o,es,ep,ho,hd,hk,_,hm⟩:=n
 refine ⟨o,ho,fun name=>?_⟩
 have e:=hm name
 unfold nsFind findBy at e
 rw [← Array.find?_toList] at e
 unfold PySem.W.lookIn
 rw [hd]
 dsimp only
 split
 ·rename_i y q
  rw [q] at e
  exact congrArg some e
 ·rename_i q
  rw [q] at e
  have a:es.toList.any (·.refKey)=false:=by
   rw [List.any_eq_false]
   intro y hy
   obtain ⟨z,t,hkey⟩:=hk y (Array.mem_toList_iff.mp hy)
   simp [DictEntry.refKey,hkey]
  have a':¬ es.toList.any (·.refKey)=true:=by rw [a];exact Bool.false_ne_true
  rw [if_neg a']
  exact congrArg some e
theorem ObjM.look {h:Heap} {x dx C:Addr} {mA:Str→Option Value} (I:ObjM h x dx C mA):∃ od,PySem.W.InstAt h x (PySem.W.instObj C dx) C (some od)∧∀ name,PySem.W.lookIn name od=some (mA name) :=
 let ⟨od,ho,hl⟩:=Vw I.ns
 ⟨od,⟨I.obj,rfl,rfl,ho⟩,hl⟩
section
variable {prog:Program} {w:World} {A:Around} {E:Value→Shared→Prop} {s:Shared} {K:PySem.W.Frag} {x dx C f:Addr} {mA:Str→Option Value} {name:Str} {v:Value}
theorem MC {expr:Bool} {Q:Value→Shared→Prop} (X:K.In s.heap) (I:ObjM s.heap x dx C mA) (hg:PySem.W.plainGet K C name=true) (hh:PySem.W.hasDictIn K C=true)
 (ha:PySem.W.findIn K (.ref C) name=some none) (hv:mA name=some v) (hv':PySem.W.handedIn v=true) (h:Q v { s with toks:=s.toks + 1 }) :
 wpAny (15:) A (getAttr (.ref x) name expr) Q E s:=by
 obtain ⟨od,J,hl⟩:=I.look
 exact PySem.W.get_value X J (PySem.W.plainGet_of hg).1 (PySem.W.findObj_own hh ha rfl (by rw [hl,hv])) hv' h
theorem GN {pl:Sem Bool} {Q:Value × List Value→Shared→Prop} (X:K.In s.heap) (I:ObjM s.heap x dx C mA) (hg:PySem.W.plainGet K C name=true)
 (hf:PySem.W.findIn K (.ref C) name=some (some (.ref f))) (ht:PySem.W.isFn K (.ref f)=true) (hv:mA name=none) (h:Q (.ref f,[.ref x]) s) :
 wpAny (15:) A (getMethod (.ref x) name pl) Q E s:=by
 obtain ⟨od,J,hl⟩:=I.look
 exact PySem.W.method_fn X J (PySem.W.plainGet_of hg).1 (PySem.W.plainGet_of hg).2 hf (beq_iff_eq.mp ht) (by show (PySem.W.lookIn name od).map (·.isSome)=some false;rw [hl,hv];rfl) h
theorem L8 {ns:List Str} {Q:Unit→Shared→Prop} (X:K.In s.heap) (I:ObjM s.heap x dx C mA)
 (hs:PySem.W.findIn K (.ref C) "__setattr__" = some (some (.builtin "object.__setattr__"))) (hp:PySem.W.plainOver K C=true) (ht:PySem.W.takerIn K C name=some none) (hh:PySem.W.hasDictIn K C=true)
 (hw:PySem.Within mA ns) (hsz:ns.length≤sizeLine)
 (h:∀ h',ObjM h' x dx C (fun y=>if y=name then some v else mA y)→Heap.SameBut dx s.heap h'→Q () { s with heap:=h',toks:=s.toks + 2 }) :
 wpAny (15:) A (setAttr (.ref x) name v) Q E s:=by
 obtain ⟨od,J,hl⟩:=I.look
 refine PySem.W.set_plain X J hs (PySem.W.osa_open (s:={ s with toks:=s.toks + 1 }) (r:=none) X J hp ht fun b=>?_)
 obtain ⟨cd,hc,hd'⟩:=PySem.W.any_some hh
 have hx:s.heap.get? x=some ⟨.ref C,some dx,.plain,#[]⟩:=I.obj
 refine wpAny_bind (wpAny_pure (wpAny_bind (wpAny_bind (wpAny_loadPart hx (wpAny_bind (PySem.W.Looks.here (s:={ s with toks:=s.toks + 1 }) (PySem.W.looks_clsIn X hc) ?_))))))
 rw [hd']
 refine wpAny_pure (a:=some dx) (wpAny_bind (wpAny_pure (wpAny_bind ?_)))
 refine wpAny_nsSet1 (s:={ s with toks:=s.toks + 1 }) I.ns fun h' hn2 hs2=>?_
 obtain ⟨oD,esD,epD,hoD,hdD,hcD⟩:=hn2.count (PySem.Within.cons name v hw)
 refine wpAny_bind (wpAny_lookBehind hoD (by rw [hdD];exact pastItsLine_dict (Nat.le_trans hcD (by rw [List.length_cons];lia))) ?_)
 exact wpAny_pure (h _ ⟨(hs2.2 _ (Ne.symm I.ne)).trans I.obj,hn2,I.ne⟩ hs2)
theorem VJ {R:Result→Shared→Prop} {vs:List Value} {kw:List (Str × Value)} (X:K.In s.heap) (hm:PySem.W.makesIn K C=true)
 (hi:PySem.W.findIn K (.ref C) "__init__" = some (some (.ref f))) (hf:PySem.W.typeIn K (.ref f)=some (.type "function"))
 (h:codeAny (15:) (A.under (.builtin "type.__call__" ⟨.ref C :: vs,kw⟩)) (.call (.ref f) ⟨.ref (17:) :: vs,kw⟩) (PySem.W.InitBack (17:) R)
  { s with heap:=(s.heap.push PySem.W.emptyDict).push (PySem.W.instObj C s.heap.objs.size) }) :
 codeAny (15:) A (.call (.ref C) ⟨vs,kw⟩) R s:=by
 obtain ⟨hh,g,d,t,os⟩:=s
 exact PySem.W.make_core (PySem.W.makes_of X hm) (PySem.W.looks_findIn X hi) (fun self=>PySem.W.bind_fn X self hf) (.inl rfl) h
end
def Zt (f:Str) (v:V):List (Str × V)→List (Str × V)
 | []=>[(f,v)]
 | (g,x) :: r=>if g=f then (g,v) :: r else (g,x) :: Zt f v r
theorem YV (f g:Str) (v:V):∀ fs:List (Str × V),(Zt f v fs).lookup g=if g=f then some v else fs.lookup g
 | []=>by
  show List.lookup g [(f,v)]=_
  by_cases h:g=f
  ·have hb:(g == f)=true:=beq_iff_eq.mpr h
   simp only [List.lookup,hb,if_pos h]
  ·have hb:(g == f)=false:=beq_eq_false_iff_ne.mpr h
   simp only [List.lookup,hb,if_neg h]
 | (k,x) :: r=>by
  have ih:=YV f g v r
  rw [show Zt f v ((k,x) :: r)=(if k=f then (k,v) :: r else (k,x) :: Zt f v r) from rfl]
  by_cases hk:k=f
  ·rw [if_pos hk]
   by_cases h:g=k
   ·have hb:(g == k)=true:=beq_iff_eq.mpr h
    simp only [List.lookup,hb,if_pos (h.trans hk)]
   ·have hb:(g == k)=false:=beq_eq_false_iff_ne.mpr h
    simp only [List.lookup,hb,if_neg (fun e:g=f=>h (e.trans hk.symm))]
  ·rw [if_neg hk]
   by_cases h:g=k
   ·have hb:(g == k)=true:=beq_iff_eq.mpr h
    simp only [List.lookup,hb,if_neg (fun e:g=f=>hk (h.symm.trans e))]
   ·have hb:(g == k)=false:=beq_eq_false_iff_ne.mpr h
    simp only [List.lookup,hb]
    exact ih
theorem YK (f:Str) (v:V):∀ fs:List (Str × V),f ∈ (Zt f v fs).map (·.1)∧∀ g,g ∈ fs.map (·.1)→g ∈ (Zt f v fs).map (·.1)
 | []=>⟨by simp [Zt],fun g h=>by simp at h⟩
 | (k,x) :: r=>by
  obtain ⟨i1,i2⟩:=YK f v r
  rw [show Zt f v ((k,x) :: r)=(if k=f then (k,v) :: r else (k,x) :: Zt f v r) from rfl]
  by_cases hk:k=f
  ·rw [if_pos hk]
   subst hk
   exact ⟨by simp,fun g h=>by simpa using h⟩
  ·rw [if_neg hk]
   refine ⟨?_,fun g h=>?_⟩
   ·rw [List.map_cons]
    exact List.mem_cons_of_mem _ i1
   ·rw [List.map_cons] at h ⊢
    rcases List.mem_cons.mp h with e | e
    ·exact List.mem_cons.mpr (.inl e)
    ·exact List.mem_cons_of_mem _ (i2 g e)
theorem YZ (f:Str) (v:V):∀ fs:List (Str × V),(Zt f v fs).length≤fs.length + 1
 | []=>by simp [Zt]
 | (k,x) :: r=>by
  have ih:=YZ f v r
  rw [show Zt f v ((k,x) :: r)=(if k=f then (k,v) :: r else (k,x) :: Zt f v r) from rfl]
  by_cases hk:k=f
  ·rw [if_pos hk,List.length_cons,List.length_cons];lia
  ·rw [if_neg hk,List.length_cons,List.length_cons];lia
theorem RelO.some_of {v:V} {o:Option Value} (r:RelO (some v) o):∃ u,o=some u∧RelV v u:=by
 cases o with
 | none=>exact (show False from r).elim
 | some u=>exact ⟨u,rfl,r⟩
theorem RelO.none_of {o:Option Value} (r:RelO none o):o=none:=by
 cases o with
 | none=>rfl
 | some u=>exact (show False from r).elim
theorem Vg {v:V} {u:Value} (r:RelV v u):PySem.W.handedIn u=true:=by
 cases v with
 | non=>cases (show u=Value.none from r);rfl
 | bl b=>cases (show u=Value.bool b from r);rfl
 | int i=>obtain ⟨t,e⟩:=(show ∃ t,u=Value.int i t from r);cases e;rfl
 | str x=>obtain ⟨t,e⟩:=(show ∃ t,u=Value.str x t from r);cases e;rfl
 | byt b=>obtain ⟨t,e⟩:=(show ∃ t,u=Value.bytes b t from r);cases e;rfl
 | flt b=>obtain ⟨t,e⟩:=(show ∃ t,u=Value.float b t from r);cases e;rfl
 | ref a=>cases (show u=Value.ref a from r);rfl
 | ty n=>cases (show u=Value.type n from r);rfl
section
variable {P:Program} {w:World} {H H':Hp} {h h':Heap} {a C dx:Addr} {fs fs':List (Str × V)}
theorem Ul (hok:HOk P w H h) (e:H a=some (.ins C dx fs)):∃ mA,ObjM h a dx C mA∧(∀ f,RelO (fs.lookup f) (mA f))∧PySem.Within mA (fs.map (·.1))∧fs.length≤1000∧H dx=some (.own a):=by
 obtain ⟨d,z,ne,ob,mA,n,r,q⟩:=(show ObjOk P w H h a (.ins C dx fs) from hok a _ e)
 exact ⟨mA,⟨ob,n,ne⟩,r,q,z,d⟩
end
structure Cls (K:PySem.W.Frag) (C:Addr):Prop where
 pg:PySem.W.plainGet K C Str.empty=true
 hd:PySem.W.hasDictIn K C=true
 po:PySem.W.plainOver K C=true
 sa:PySem.W.findIn K (.ref C) "__setattr__" = some (some (.builtin "object.__setattr__"))
theorem Cls.get {K:PySem.W.Frag} {C:Addr} (c:Cls K C) (f:Str):PySem.W.plainGet K C f=true:=c.pg
def NoAttr (K:PySem.W.Frag) (C:Addr) (f:Str):Prop:=PySem.W.findIn K (.ref C) f=some none
theorem NoAttr.taker {K:PySem.W.Frag} {C:Addr} {f:Str} (n:NoAttr K C f):PySem.W.takerIn K C f=some none:=by
 unfold PySem.W.takerIn
 rw [show PySem.W.findIn K (.ref C) f=some none from n]
 rfl
structure Meth (K:PySem.W.Frag) (C:Addr) (m:Str) (f:Addr):Prop where
 at_:PySem.W.findIn K (.ref C) m=some (some (.ref f))
 fn:PySem.W.isFn K (.ref f)=true
 kp:PySem.W.keepIn K (.ref f)=true
section
variable {X:Cx} {pins:List (11:)} {σ:St} {H:Hp} {s:Shared} {a C dx:Addr} {fs:List (Str × V)} {f:Str} {v:V} {A:Around} {E:Value→Shared→Prop}
theorem Wd {b:Bool} {Q:Value→Shared→Prop} (I:Inv X pins σ H s) (e:H a=some (.ins C dx fs)) (c:Cls X.K C) (n:NoAttr X.K C f) (l:fs.lookup f=some v)
 (h:∀ u s',Inv X pins σ H s'→RelV v u→Q u s'):wpAny (6:) A (getAttr (.ref a) f b) Q E s:=by
 obtain ⟨mA,O,r,_,_,_⟩:=Ul I.hok e
 obtain ⟨u,hu,ru⟩:=RelO.some_of (v:=v) (o:=mA f) (by rw [← l];exact r f)
 exact MC I.kIn O (c.get f) c.hd n hu (Vg ru) (h u _ (I.tok _) ru)
theorem UH {m:Str} {g:Addr} {pl:Sem Bool} {Q:Value × List Value→Shared→Prop} (I:Inv X pins σ H s) (e:H a=some (.ins C dx fs)) (c:Cls X.K C) (k:Meth X.K C m g) (l:fs.lookup m=none)
 (h:Q (.ref g,[.ref a]) s):wpAny (6:) A (getMethod (.ref a) m pl) Q E s:=by
 obtain ⟨mA,O,r,_,_,_⟩:=Ul I.hok e
 have hn:mA m=none:=RelO.none_of (by rw [← l];exact r m)
 exact GN I.kIn O (c.get m) k.at_ k.fn hn h
theorem XT {y:V} {u:Value} {Q:Unit→Shared→Prop} (I:Inv X pins σ H s) (e:H a=some (.ins C dx fs)) (c:Cls X.K C) (n:NoAttr X.K C f) (hl:fs.length < 1000) (ry:RelV y u)
 (h:∀ s',Inv X pins σ (upd H a (.ins C dx (Zt f y fs))) s'→Q () s'):wpAny (6:) A (setAttr (.ref a) f u) Q E s:=by
 obtain ⟨mA,O,r,wi,_,ho⟩:=Ul I.hok e
 have hz:(fs.map (·.1)).length≤sizeLine:=by rw [List.length_map,sizeLine_eq];lia
 refine L8 I.kIn O c.sa c.po n.taker c.hd wi hz fun h' O' sb=>h _ ?_
 have hd:∃ o,h'.get? dx=some o:=let ⟨o,_,_,e',_⟩:=O'.ns;⟨o,e'⟩
 refine I.write (x:=a) (e:=dx) (by rw [e];exact True.intro) (.inr ho) (fun b q hb z=>(sb.2 b hb).trans z) hd ?_
 refine ⟨by rw [Qg O.ne];exact ho,?_,O.ne,O'.obj,_,O'.ns,fun g=>?_,fun g hg=>?_⟩
 ·have:=YZ f y fs;lia
 ·show RelO ((Zt f y fs).lookup g) (if g=f then some u else mA g)
  rw [YV]
  by_cases q:g=f
  ·rw [if_pos q,if_pos q];exact ry
  ·rw [if_neg q,if_neg q];exact r g
 ·by_cases q:g=f
  ·rw [q];exact (YK f y fs).1
  ·refine (YK f y fs).2 g (wi g fun z=>hg ?_)
   show (if g=f then some u else mA g)=none
   rw [if_neg q];exact z
theorem Inv.made (I:Inv X pins σ H s):Inv X pins σ (upd (upd H s.heap.objs.size (.own (17:))) (17:) (.ins C s.heap.objs.size []))
 { s with heap:=(s.heap.push PySem.W.emptyDict).push (PySem.W.instObj C s.heap.objs.size) }:=by
 have e1:(s.heap.push PySem.W.emptyDict).get? s.heap.objs.size=some PySem.W.emptyDict:=Heap.get?_push_size s.heap rfl
 have e2:((s.heap.push PySem.W.emptyDict).push (PySem.W.instObj C s.heap.objs.size)).get? (17:)=some (PySem.W.instObj C s.heap.objs.size):=by
  have:=Heap.get?_push_size (s.heap.push PySem.W.emptyDict) (o:=PySem.W.instObj C s.heap.objs.size) rfl
  rwa [Heap.size_push] at this
 have e3:(s.heap.push PySem.W.emptyDict).Ns s.heap.objs.size (fun _=>none):=⟨PySem.W.emptyDict,#[],_,e1,rfl,(fun e he=>absurd he (by simp)),fun _=>rfl⟩
 have I1:=I.laid (a:=s.heap.objs.size) (o:=.own (17:)) (h':=s.heap.push PySem.W.emptyDict) (t':=s.toks) (fun b u q=>Heap.get?_push_of_some _ q) (7:) ⟨_,e1⟩
 refine I1.laid (a:=s.heap.objs.size + 1) (o:=.ins C s.heap.objs.size []) (t':=s.toks) (fun b u q=>Heap.get?_push_of_some _ q) (Nat.le_of_eq (Heap.size_push _ _)) ?_
 have ne:s.heap.objs.size≠s.heap.objs.size + 1:=Nat.ne_of_lt (Nat.lt_succ_self _)
 refine ⟨by rw [Qg ne,Qb],Nat.zero_le _,ne,e2,fun _=>none,(Heap.Ns1.of_empty e3).at fun o q=>Heap.get?_push_of_some _ q,fun _=>True.intro,fun y hy=>absurd rfl hy⟩
theorem Mg {prog:Program} {w:World} {env:Env} {e:Expr} {f:Str} {pos:Pos} {s:Shared} {Q:Value→Shared→Prop} (hb:attributeBase e f env (eval e env)=eval e env)
 (h:wpAny (15:) A (eval e env) (fun o s₁=>wpAny (15:) A (getAttr o f true) Q E s₁) E s):wpAny (15:) A (eval (.Attribute e f pos) env) Q E s :=
 Attribute_any_ h (by rw [arm_eval_Attribute,hb])
end
def Ph (K:PySem.W.Frag) (ta:TE) (f:Str):TE:=fun σ H Q=>ta σ H fun x H1=>∃ a C dx fs v,x=.ref a∧H1 a=some (.ins C dx fs)∧Cls K C∧NoAttr K C f∧fs.lookup f=some v∧Q v H1
def Pi (K:PySem.W.Frag) (ta tv:TE) (f:Str):TS:=fun D σ H=>tv σ H fun y H1=>ta σ H1 fun x H2=>∃ a C dx fs,x=.ref a∧H2 a=some (.ins C dx fs)∧Cls K C∧NoAttr K C f∧fs.length < 1000 ∧
 D.nx σ (upd H2 a (.ins C dx (Zt f y fs)))
section
variable {X:Cx} {o e value:Expr} {f:Str} {pos pos' tpos:Pos} {ta tv:TE}
theorem UN (he:PE X e ta) (hb:attributeBase e f X.env (eval e X.env)=eval e X.env):PE X (.Attribute e f pos) (Ph X.K ta f):=by
 intro pins s σ H Q I h
 refine Mg hb (thn (he pins s σ H _ I h) fun u s1 ⟨x,H1,I1,rx,a,C,dx,fs,v,ex,ea,c,n,l,q⟩=>?_)
 subst ex
 obtain rfl:u=Value.ref a:=rx
 exact Wd I1 ea c n l fun u' s2 I2 ru=>⟨v,H1,I2,ru,q⟩
theorem J5 (ha:PE X o ta) (hv:PE X value tv) (hs:swapsWith value (some (.Attribute o f pos')) pos.line X.env=pure false):PS X (.Assign [.Attribute o f pos'] value pos) (Pi X.K ta tv f):=by
 intro pins s σ H D I h
 refine plainObj_wpAny_Assign_Attribute (thn (hv pins s σ H _ I h) fun u s1 ⟨y,H1,I1,ry,q⟩=>thn (ha pins s1 σ H1 _ I1 q) fun ov s2 ⟨x,H2,I2,rx,a,C,dx,fs,ex,ea,c,n,l,q2⟩=>?_) hs
 subst ex
 obtain rfl:ov=Value.ref a:=rx
 exact XT I2 ea c n l ry fun s3 I3=>⟨σ,_,I3,q2⟩
end
section
variable {X:Cx} {pins:List (11:)} {σ:St} {H:Hp} {s:Shared} {A:Around} {E:Value→Shared→Prop} {Q:Value→Shared→Prop} {c:Value} {b:Bool}
inductive TyOf (K:PySem.W.Frag) (H:Hp):V→Value→Prop where
 | non:TyOf K H .non (.type "NoneType")
 | bl (x:Bool):TyOf K H (.bl x) (.type "bool")
 | int (i:Int):TyOf K H (.int i) (.type "int")
 | str (x:Str):TyOf K H (.str x) (.type "str")
 | flt (x:UInt64):TyOf K H (.flt x) (.type "float")
 | lst {a:Addr} {xs:List V} (e:H a=some (.lst xs)):TyOf K H (.ref a) (.type "list")
 | frz {a:Addr} {o:Obj} {xs:List V} (e:H a=some (.frz o (.lst xs))):TyOf K H (.ref a) (.type "list")
 | tup {a:Addr} {xs:List V} (e:H a=some (.tup xs)):TyOf K H (.ref a) (.type "tuple")
 | dK {a:Addr} {kvs:List (Key × V)} (e:H a=some (.dK kvs)):TyOf K H (.ref a) (.type "dict")
 | dT {a:Addr} {kvs:List (List Key × V)} (e:H a=some (.dT kvs)):TyOf K H (.ref a) (.type "dict")
 | ins {a C dx:Addr} {fs:List (Str × V)} (e:H a=some (.ins C dx fs)) (cl:Cls K C) (ha:PySem.W.findIn K (.ref C) "__class__" = some (some (.builtin "object.__class__")))
  (hn:PySem.W.specialIn K (.builtin "object.__class__") "__get__" = some (some (.builtin "getset_descriptor.__get__"))) (htk:PySem.W.takesIn K (.builtin "object.__class__")=some true)
  (hm:PySem.W.mroIn K C (.type "object")=some true):TyOf K H (.ref a) (.ref C)
theorem Vo {x:V} {u t:Value} (I:Inv X pins σ H s) (rx:RelV x u) (ty:TyOf X.K H x t) (e:PySem.W.kitOne X.K t c=some b) (h:∀ tk,Q (.bool b) { s with toks:=tk }) :
 wpAny (6:) A (call (.builtin "isinstance") [u,c]) Q E s:=by
 cases ty with
 | non=>cases (show u=Value.none from rx);exact PySem.W.kia_one PySem.W.kitx_none I.kIn True.intro e (fun z=>nomatch z) h
 | bl y=>cases (show u=Value.bool y from rx);exact PySem.W.kia_one PySem.W.kitx_bool I.kIn True.intro e (fun z=>nomatch z) h
 | int i=>obtain ⟨t,q⟩:=(show ∃ t,u=Value.int i t from rx);cases q;exact PySem.W.kia_one PySem.W.kitx_int I.kIn True.intro e (fun z=>nomatch z) h
 | str y=>obtain ⟨t,q⟩:=(show ∃ t,u=Value.str y t from rx);cases q;exact PySem.W.kia_one PySem.W.kitx_str I.kIn True.intro e (fun z=>nomatch z) h
 | flt y=>obtain ⟨t,q⟩:=(show ∃ t,u=Value.float y t from rx);cases q;exact PySem.W.kia_one PySem.W.kitx_float I.kIn True.intro e (fun z=>nomatch z) h
 | @lst a xs ea =>
  cases (show u=Value.ref a from rx)
  obtain ⟨_,_,n,_,h1⟩:=(show ObjOk X.prog X.w H s.heap a (.lst xs) from I.hok a _ ea)
  exact PySem.W.kia_one PySem.W.kitx_list I.kIn ⟨_,h1,rfl⟩ e (fun z=>nomatch z) h
 | @frz a ob xs ea =>
  cases (show u=Value.ref a from rx)
  obtain ⟨_,_,_,n,_,h1⟩:=(show ObjOk X.prog X.w H s.heap a (.frz ob (.lst xs)) from I.hok a _ ea)
  exact PySem.W.kia_one PySem.W.kitx_list I.kIn ⟨_,h1,rfl⟩ e (fun z=>nomatch z) h
 | @tup a xs ea =>
  cases (show u=Value.ref a from rx)
  obtain ⟨_,_,_,p⟩:=(show ObjOk X.prog X.w H s.heap a (.tup xs) from I.hok a _ ea)
  obtain ⟨o,h1,h2,_⟩:=p
  exact PySem.W.kia_one PySem.W.kitx_tuple I.kIn ⟨o,h1,h2⟩ e (fun z=>nomatch z) h
 | @dK a kvs ea =>
  cases (show u=Value.ref a from rx)
  obtain ⟨_,_,vs,_,p⟩:=(show ObjOk X.prog X.w H s.heap a (.dK kvs) from I.hok a _ ea)
  obtain ⟨o,es,ep,h1,h2,_⟩:=p
  exact PySem.W.kia_one PySem.W.kitx_dict I.kIn ⟨o,h1,h2.1⟩ e (fun z=>nomatch z) h
 | @dT a kvs ea =>
  cases (show u=Value.ref a from rx)
  obtain ⟨_,_,xs,_,o,es,ep,h1,h2,_⟩:=(show ObjOk X.prog X.w H s.heap a (.dT kvs) from I.hok a _ ea)
  exact PySem.W.kia_one PySem.W.kitx_dict I.kIn ⟨o,h1,h2.1⟩ e (fun z=>nomatch z) h
 | @ins a C dx fs ea cl ha hn htk hm =>
  cases (show u=Value.ref a from rx)
  obtain ⟨mA,O,_⟩:=Ul I.hok ea
  obtain ⟨od,J,_⟩:=O.look
  exact PySem.W.kia_one (PySem.W.kitx_own (cl.get _) cl.hd ha hn htk hm) I.kIn J e (fun z=>nomatch z) h
end
end L2
namespace L2
open PySem PySem.Spec PyProof.Rows
structure Room (k:Nat) (A:Around):Prop where
 hd:A.handled=none
 dp:A.depth + 3 * k + 5 < recursionLimit
 un:A.units + 16 * k + 200 < cLine
theorem Room.mono {j k:Nat} {A:Around} (r:Room k A) (h:j≤k):Room j A:=⟨r.hd,by have:=r.dp;lia,by have:=r.un;lia⟩
theorem Room.deeper {k:Nat} {A:Around} (r:Room (k + 1) A) (env:Env):Room k (A.deeper env) :=
 ⟨r.hd,by have:=r.dp;show A.depth + 1 + 3 * k + 5 < _;lia,by have:=r.un;show A.units + 3 + 16 * k + 200 < _;lia⟩
theorem Wv {A:Around} {C:Addr} {us:List Value} {kw:List (Str × Value)}:(A.under (.builtin "type.__call__" ⟨.ref C :: us,kw⟩)).depth=A.depth + 1:=by
 first | rfl | simp [Around.under,Code.weight,Code.isCreation,Code.isGuard,Code.isCaller,Code.frames,Code.isFrame,guardIds]
theorem Wl {A:Around} {C:Addr} {us:List Value} {kw:List (Str × Value)}:(A.under (.builtin "type.__call__" ⟨.ref C :: us,kw⟩)).units=A.units + 1:=by
 first | rfl | simp [Around.under,Code.cUnits,Code.frames,Code.isFrame]
theorem Room.make {k:Nat} {A:Around} (r:Room (k + 1) A) (C:Addr) (us:List Value) (kw:List (Str × Value)):Room k (A.under (.builtin "type.__call__" ⟨.ref C :: us,kw⟩)) :=
 ⟨r.hd,by have:=r.dp;rw [Wv];lia,by have:=r.un;rw [Wl];lia⟩
theorem Room.depth {k:Nat} {A:Around} (r:Room k A):A.depth < recursionLimit:=by have:=r.dp;lia
theorem Room.units {k:Nat} {A:Around} (r:Room k A):A.units + 64 < cLine:=by have:=r.un;lia
def Y3:TA:=fun _ H Q=>Q [] H
def Ze (ta:TE) (tr:TA):TA:=fun σ H Q=>ta σ H fun x H1=>tr σ H1 fun xs H2=>Q (x :: xs) H2
section
variable {X:Cx} {e:Expr} {es:List Expr} {te:TE} {t:TA} {pos:Pos}
theorem Qc:PA X [] Y3:=fun _ _ _ _ H Q I h=>Calls.spliced_nil ⟨[],H,I,.nil,h⟩
theorem Qa (ha:PE X e te) (hr:PA X es t) (hs:starEach (e :: es) X.env=(false,eval e X.env) :: starEach es X.env:=by rfl):PA X (e :: es) (Ze te t):=by
 intro pos pins s σ H Q I h
 rw [hs]
 show wpAny _ _ (spliced ((false,eval e X.env) :: backTo pos (starEach es X.env))) _ _ s
 refine Calls.spliced_cons (thn (ha pins s σ H _ I h) fun u s1 ⟨x,H1,I1,r1,q1⟩=>?_)
 exact thn (hr pos pins s1 σ H1 _ I1 q1) fun us s2 ⟨xs,H2,I2,r2,q2⟩=>⟨x :: xs,H2,I2,.cons r1 r2,q2⟩
def MW (t:TA):TE:=fun σ H Q=>t σ H fun xs H1=>xs.length≤sizeLine∧∀ p,H1 p=none→Q (.ref p) (upd H1 p (.tup xs))
def PL (t:TA):TE:=fun σ H Q=>t σ H fun xs H1=>xs.length≤sizeLine∧∀ p,H1 p=none→Q (.ref p) (upd H1 p (.lst xs))
theorem QE {x1} (h:PA X es t):PE X (.Tuple es x1 pos) (MW t):=by
 intro pins s σ H Q I hq
 refine wpAny_Tuple_spliced (thn (h pos pins s σ H _ I hq) fun us s1 ⟨xs,H1,I1,r,z,q⟩=>⟨by rw [← r.length];exact z,?_⟩)
 have hf:H1 s1.heap.objs.size=none:=I1.hok.fresh (7:)
 refine ⟨.ref s1.heap.objs.size,upd H1 s1.heap.objs.size (.tup xs),I1.laid (t':=s1.toks) (fun b u e=>Heap.get?_push_of_some _ e) (7:) ?_,rfl,q _ hf⟩
 exact ⟨z,us,r,⟨_,Heap.get?_push_size _ rfl,rfl,_,rfl⟩⟩
theorem Zc (h:PA X es t):PE X (.List es pos) (PL t):=by
 intro pins s σ H Q I hq
 refine wpAny_List_spliced (thn (h pos pins s σ H _ I hq) fun us s1 ⟨xs,H1,I1,r,z,q⟩=>⟨by rw [← r.length];exact z,?_⟩)
 have hf:H1 s1.heap.objs.size=none:=I1.hok.fresh (7:)
 refine ⟨.ref s1.heap.objs.size,upd H1 s1.heap.objs.size (.lst xs),I1.laid (t':=s1.toks) (fun b u e=>Heap.get?_push_of_some _ e) (7:) ?_,rfl,q _ hf⟩
 exact ⟨z,us,0,r,Heap.get?_push_size _ rfl⟩
end
abbrev Sp:=List V→Hp→VK→XK→Prop
abbrev CXT:=List Env→Hp→Shared→XK→Value→Shared→Prop
structure Env0 (P:Program) (w:World) (K:PySem.W.Frag) (mg:Str→Option Value) (base:Heap) (A:Around) (outer:List Env) (s:Shared) (H:Hp):Prop where
 frames:A.frames=some outer
 mod:Mod K mg base
 bs:∀ b o,base.get? b=some o→s.heap.get? b=some o∧H b=none
 bsz:base.objs.size≤s.heap.objs.size
 funs:s.heap.FunFrames base outer
 frf:∀ b ∈ frs outer,H b=none
 hok:HOk P w H s.heap
 bare:AllBare s.gens
def CE (outer:List Env) (P:Program) (w:World) (H:Hp) (s:Shared) (Q:VK) (u:Value) (s':Shared):Prop :=
 ∃ v H',s'.os=s.os∧AllBare s'.gens∧Un (frs outer) [] H H' s.heap s'.heap∧HOk P w H' s'.heap∧RelV v u∧Q v H'
def CR (CX:CXT) (outer:List Env) (P:Program) (w:World) (H:Hp) (s:Shared) (Q:VK) (E:XK) (r:Result) (s':Shared):Prop :=
 match r with
 | .ok (.ret u)=>CE outer P w H s Q u s'
 | .ok _=>False
 | .error e=>CX outer H s E e s'
structure FnOk (P:Program) (w:World) (K:PySem.W.Frag) (mg:Str→Option Value) (base:Heap) (CX:CXT) (k:Nat) (f:Addr) (fd:FuncData) (ps:List Str) (sp:Sp):Prop where
 len:∀ vs H Q E,sp vs H Q E→vs.length=ps.length
 run:∀ (A:Around) (outer:List Env) (s:Shared) (H:Hp) (args:Args) (us:List Value) (vs:List V) (Q:VK) (E:XK),Room k A→Env0 P w K mg base A outer s H→BindsTo s fd args (ps.zip us)→Vals vs us→sp vs H Q E →
  codeAny (model P w) A (.call (.ref f) args) (CR CX outer P w H s Q E) s
theorem Env0.make {P:Program} {w:World} {K:PySem.W.Frag} {mg:Str→Option Value} {base:Heap} {A:Around} {outer:List Env} {s:Shared} {H:Hp} (e:Env0 P w K mg base A outer s H) (C:Addr) (us:List Value) (kw:List (Str × Value)) :
 Env0 P w K mg base (A.under (.builtin "type.__call__" ⟨.ref C :: us,kw⟩)) outer s H:=⟨by first | exact e.frames | (simpa [Around.under,Code.envs,Code.isFrame,pushEnvs] using e.frames),e.mod,e.bs,e.bsz,e.funs,e.frf,e.hok,e.bare⟩
section
variable {X:Cx} {pins:List (11:)} {σ:St} {H:Hp} {s s':Shared}
theorem Inv.env0 (I:Inv X pins σ H s):Env0 X.prog X.w X.K X.mg X.base X.A X.stack s H :=
 ⟨I.ok.frames,I.ok.mod,I.bs,Nat.le_trans I.ok.bsz I.sz,I.stack,I.stkFree,I.hok,I.bare⟩
theorem Inv.after {Q:VK} {u:Value} (I:Inv X pins σ H s) (h:CE X.stack X.prog X.w H s Q u s'):EP X pins σ Q u s':=by
 obtain ⟨v,H',os,bare,un,hok,r,q⟩:=h
 obtain ⟨hh,g,d,t,os'⟩:=s'
 obtain rfl:os'=s.os:=os
 exact ⟨v,H',I.call (h':=hh) (g':=g) (d':=d) (t':=t) (ch:=[]) un hok bare (fun b z=>absurd z (by simp)),r,q⟩
end
def Jn (sp:Sp) (dvs:List V) (E:XK) (t:TA):TE:=fun σ H Q=>t σ H fun vs H1=>sp (vs ++ dvs) H1 Q E
def XI (C:Addr) (m:Str) (sp:Sp) (dvs:List V) (E:XK) (ta:TE) (t:TA):TE:=fun σ H Q=>ta σ H fun x H1=>∃ a dx fs,x=.ref a∧H1 a=some (.ins C dx fs)∧fs.lookup m=none ∧
 t σ H1 fun vs H2=>sp (x :: (vs ++ dvs)) H2 Q E
def Oc (C:Addr) (sp:Sp) (dvs:List V) (E:XK) (t:TA):TE:=fun σ H Q=>t σ H fun vs H1=>∀ x dx,H1 x=none→H1 dx=none→dx≠x →
 sp (.ref x :: (vs ++ dvs)) (upd (upd H1 dx (.own x)) x (.ins C dx [])) (fun v H2=>v=.non∧Q (.ref x) H2) E
def Binds (K:PySem.W.Frag) (fd:FuncData) (ps:List Str) (ds:List Value):Prop :=
 ∀ (s:Shared) (us:List Value),K.In s.heap→(us ++ ds).length=ps.length→BindsTo s fd ⟨us,[]⟩ (ps.zip (us ++ ds))
theorem Binds.all {K:PySem.W.Frag} {fd:FuncData} {ps:List Str} (h:∀ us:List Value,us.length=ps.length→bindArgs fd ⟨us,[]⟩=pure (ps.zip us)):Binds K fd ps []:=fun s us _ hl=>by
 rw [List.append_nil] at hl ⊢
 exact .of_eq (h us hl)
def Yq (CX:CXT) (X:Cx) (E:XK):Prop:=∀ (pins:List (11:)) (σ:St) (H:Hp) (s:Shared) (e:Value) (s':Shared),Inv X pins σ H s→CX X.stack H s E e s'→X.xe e s'
section
variable {X:Cx} {CX:CXT} {k:Nat} {f C:Addr} {fd:FuncData} {ps:List Str} {sp:Sp} {dvs:List V} {ds:List Value} {E:XK} {x m:Str} {p pos apos:Pos} {e o:Expr} {es:List Expr} {ta:TE} {t:TA}
theorem Wc {pins:List (11:)} {σ:St} {H:Hp} {s:Shared} {Q:VK} {us:List Value} {vs:List V} (F:FnOk X.prog X.w X.K X.mg X.base CX k f fd ps sp) (hr:Room k X.A) (hb:Binds X.K fd ps ds) (hd:Vals dvs ds) (hx:Yq CX X E)
 (I:Inv X pins σ H s) (r:Vals vs us) (h:sp (vs ++ dvs) H Q E):wpAny (6:) X.A (call (.ref f) us) (EP X pins σ Q) X.xe s:=by
 have r2:Vals (vs ++ dvs) (us ++ ds):=r.append hd
 have hl:(us ++ ds).length=ps.length:=by rw [← r2.length];exact F.len _ _ _ _ h
 refine wpAny_call (codeAny_mono (F.run X.A X.stack s H ⟨us,[]⟩ (us ++ ds) (vs ++ dvs) Q E hr I.env0 (hb s us I.kIn hl) r2 h) fun r s' hq=>?_)
 cases r with
 | error e=>exact hx pins σ H s e s' I hq
 | ok fl =>
  cases fl with
  | ret u=>exact I.after hq
  | next=>exact False.elim hq
  | brk=>exact False.elim hq
  | cont=>exact False.elim hq
theorem LU (F:FnOk X.prog X.w X.K X.mg X.base CX k f fd ps sp) (hr:Room k X.A) (hg:Gl X x) (hm:X.mg x=some (.ref f)) (hk:PySem.W.keepIn X.K (.ref f)=true) (hb:Binds X.K fd ps ds) (hd:Vals dvs ds) (hx:Yq CX X E)
 (ha:PA X (e :: es) t) (hdb:(x == ("__debug__" : Str))=false:=by decide) (he:starEach (e :: es) X.env=(false,eval e X.env) :: starEach es X.env:=by rfl) (hpl:(backTo pos (starEach es X.env)).any (·.1)=false:=by rfl) :
 PE X (.Call (.Name x p) (e :: es) [] pos) (Jn sp dvs E t):=by
 intro pins s σ H Q I h
 refine wpAny_Call_Name_kw (WF I hg hm ?_ hdb)
 refine PySem.W.callWith_K (h₀:=X.base) I.ok.mod.kin hk (thn (ha pos pins s σ H _ I h) fun us s1 ⟨vs,H1,I1,r,q⟩=>⟨I1.kIn,?_⟩) he hpl
 exact Wc F hr hb hd hx I1 r q
theorem LC {pl:Sem Bool} (he:PE X o ta) (c:Cls X.K C) (hm:Meth X.K C m f) (F:FnOk X.prog X.w X.K X.mg X.base CX k f fd ps sp) (hr:Room k X.A) (hb:Binds X.K fd ps ds) (hd:Vals dvs ds) (hx:Yq CX X E) (ha:PA X (e :: es) t)
 (hst:starEach (e :: es) X.env=(false,eval e X.env) :: starEach es X.env:=by rfl) (hpl:(backTo pos (starEach es X.env)).any (·.1)=false:=by rfl)
 (ht:eval (.Call (.Attribute o m apos) (e :: es) [] pos) X.env=(do
  let ov ← eval o X.env
  standAt apos.atName
  let (f,first) ← holding [ov] (getMethod ov m pl)
  callWith pos f first (backTo pos (starEach (e :: es) X.env)) (backToKw pos (keywordEach [] X.env))):=by rfl) :
 PE X (.Call (.Attribute o m apos) (e :: es) [] pos) (XI C m sp dvs E ta t):=by
 intro pins s σ H Q I h
 refine PySem.W.methodCall_KW (pl:=pl) (thn (he pins s σ H _ I h) fun u s1 ⟨x,H1,I1,rx,a,dx,fs,ex,ea,l,q⟩=>?_) ht
 subst ex
 obtain rfl:u=Value.ref a:=rx
 refine UH I1 ea c hm l ?_
 refine PySem.W.callWith_K (first:=[.ref a]) (h₀:=X.base) I.ok.mod.kin hm.kp (thn (ha pos pins s1 σ H1 _ I1 q) fun us s2 ⟨vs,H2,I2,r,q2⟩=>⟨I2.kIn,?_⟩) hst hpl
 exact Wc (us:=.ref a :: us) (vs:=.ref a :: vs) F hr hb hd hx I2 (.cons rfl r) q2
theorem Gz {pl:Sem Bool} (he:PE X o ta) (c:Cls X.K C) (hm:Meth X.K C m f) (F:FnOk X.prog X.w X.K X.mg X.base CX k f fd ps sp) (hr:Room k X.A) (hb:Binds X.K fd ps ds) (hd:Vals dvs ds) (hx:Yq CX X E)
 (ht:eval (.Call (.Attribute o m apos) [] [] pos) X.env=(do
  let ov ← eval o X.env
  standAt apos.atName
  let (f,first) ← holding [ov] (getMethod ov m pl)
  callWith pos f first (backTo pos (starEach [] X.env)) (backToKw pos (keywordEach [] X.env))):=by rfl) :
 PE X (.Call (.Attribute o m apos) [] [] pos) (XI C m sp dvs E ta Y3):=by
 intro pins s σ H Q I h
 refine PySem.W.methodCall_KW (pl:=pl) (thn (he pins s σ H _ I h) fun u s1 ⟨x,H1,I1,rx,a,dx,fs,ex,ea,l,q⟩=>?_) ht
 subst ex
 obtain rfl:u=Value.ref a:=rx
 refine UH I1 ea c hm l ?_
 exact PySem.W.callWith_K0 (first:=[.ref a]) I1.kIn hm.kp (Wc (us:=[.ref a]) (vs:=[.ref a]) F hr hb hd hx I1 (.cons rfl .nil) q)
structure Mk (K:PySem.W.Frag) (C f:Addr):Prop where
 makes:PySem.W.makesIn K C=true
 init:PySem.W.findIn K (.ref C) "__init__" = some (some (.ref f))
 fn:PySem.W.isFn K (.ref f)=true
 kp:PySem.W.keepIn K (.ref C)=true
theorem GO {pins:List (11:)} {σ:St} {H:Hp} {s:Shared} {Q:VK} {us:List Value} {vs:List V} (M:Mk X.K C f) (F:FnOk X.prog X.w X.K X.mg X.base CX k f fd ps sp) (hr:Room (k + 1) X.A) (hb:Binds X.K fd ps ds) (hd:Vals dvs ds)
 (hx:Yq CX X E) (I:Inv X pins σ H s) (r:Vals vs us)
 (h:∀ x dx,H x=none→H dx=none→dx≠x→sp (.ref x :: (vs ++ dvs)) (upd (upd H dx (.own x)) x (.ins C dx [])) (fun v H2=>v=.non∧Q (.ref x) H2) E) :
 wpAny (6:) X.A (call (.ref C) us) (EP X pins σ Q) X.xe s:=by
 have hq:=h (17:) s.heap.objs.size (I.hok.fresh (Nat.le_succ _)) (I.hok.fresh (7:)) (Nat.ne_of_lt (Nat.lt_succ_self _))
 have I2:=Inv.made (C:=C) I
 have r2:Vals (V.ref (17:) :: (vs ++ dvs)) (Value.ref (17:) :: (us ++ ds)):=.cons rfl (r.append hd)
 have hl:(Value.ref (17:) :: us ++ ds).length=ps.length:=by
  have e:=r2.length
  rw [F.len _ _ _ _ hq] at e
  exact e.symm
 refine wpAny_call (VJ (f:=f) I.kIn M.makes M.init (beq_iff_eq.mp M.fn) (codeAny_mono (F.run _ X.stack _ _ ⟨Value.ref (17:) :: us,[]⟩ (Value.ref (17:) :: (us ++ ds)) _ _ E (hr.make C us [])
  (I2.env0.make C us []) (hb _ (Value.ref (17:) :: us) I2.kIn hl) r2 hq) fun r s' hq'=>?_))
 cases r with
 | error e=>exact hx pins σ _ _ e s' I2 hq'
 | ok fl =>
  cases fl with
  | ret u =>
   obtain ⟨v,H',I3,rv,ev,q3⟩:=I2.after hq'
   subst ev
   exact ⟨rv,⟨V.ref (17:),H',I3,rfl,q3⟩⟩
  | next=>exact False.elim hq'
  | brk=>exact False.elim hq'
  | cont=>exact False.elim hq'
theorem WR (M:Mk X.K C f) (F:FnOk X.prog X.w X.K X.mg X.base CX k f fd ps sp) (hr:Room (k + 1) X.A) (hg:Gl X x) (hm:X.mg x=some (.ref C)) (hb:Binds X.K fd ps ds) (hd:Vals dvs ds) (hx:Yq CX X E)
 (ha:PA X (e :: es) t) (hdb:(x == ("__debug__" : Str))=false:=by decide) (he:starEach (e :: es) X.env=(false,eval e X.env) :: starEach es X.env:=by rfl) (hpl:(backTo pos (starEach es X.env)).any (·.1)=false:=by rfl) :
 PE X (.Call (.Name x p) (e :: es) [] pos) (Oc C sp dvs E t):=by
 intro pins s σ H Q I h
 refine wpAny_Call_Name_kw (WF I hg hm ?_ hdb)
 refine PySem.W.callWith_K (h₀:=X.base) I.ok.mod.kin M.kp (thn (ha pos pins s σ H _ I h) fun us s1 ⟨vs,H1,I1,r,q⟩=>⟨I1.kIn,?_⟩) he hpl
 exact GO M F hr hb hd hx I1 r q
end
section
variable {X:Cx} {CX:CXT} {k:Nat} {f C:Addr} {fd:FuncData} {ps ks:List Str} {sp:Sp} {E:XK} {x m:Str} {p pos apos kpos:Pos} {e o:Expr} {es:List Expr} {kws:List Keyword} {te ta:TE} {t tk:TA} {nm:Option Str}
variable {g:List Value→List Value→List Value} {gV:List V→List V→List V}
end
structure FnScope (N P:List Str) (sc:Scope):Prop where
 kind:sc.kind=.function
 co:sc.isCoroutine=false
 gen:sc.isGenerator=false
 nd:N.Nodup
 pre:N.take P.length=P
 par:∀ x ∈ P,sc.names.lookup x=some .local∨sc.names.lookup x=some .cell
 nofree:∀ y ∈ sc.names,y.2≠.free
theorem Jd {kindOf:Str→Option NameKind} {x:Str}:∀ {binds:List (Str × Value)} {m:Str→Option Value},(∀ v,(x,v) ∉ binds)→bindL kindOf binds m x=m x
 | [],_,_=>rfl
 | (n,v) :: r,m,h=>by
  unfold bindL
  rw [Jd fun w hw=>h w (List.mem_cons_of_mem _ hw)]
  split
  ·have:x≠n:=by rintro rfl;exact h v List.mem_cons_self
   simp [this]
  ·rfl
theorem U3 {kindOf:Str→Option NameKind} {x:Str}:∀ {binds:List (Str × Value)} {m:Str→Option Value},(∀ v,(x,v) ∉ binds)→bindC kindOf binds m x=m x
 | [],_,_=>rfl
 | (n,v) :: r,m,h=>by
  unfold bindC
  rw [U3 fun w hw=>h w (List.mem_cons_of_mem _ hw)]
  split
  ·rfl
  ·have:x≠n:=by rintro rfl;exact h v List.mem_cons_self
   simp [this]
theorem Jp {kindOf:Str→Option NameKind} {x:Str} {v:Value}:∀ {P:List Str} {vs:List Value} {i:Nat} {m:Str→Option Value},P.Nodup→P[i]?=some x→vs[i]?=some v→kindOf x=some .local →
 bindL kindOf (P.zip vs) m x=some v
 | [],_,_,_,_,h,_,_=>by simp at h
 | _ :: _,[],_,_,_,_,h,_=>by simp at h
 | p :: P,w :: vs,0,m,nd,h1,h2,hk=>by
  simp at h1 h2;subst h1;subst h2
  show bindL kindOf ((p,w) :: P.zip vs) m p=_
  unfold bindL
  rw [Jd fun v hv=>(List.nodup_cons.mp nd).1 (List.of_mem_zip hv).1,if_pos hk]
  simp
 | p :: P,w :: vs,i + 1,m,nd,h1,h2,hk=>by
  show bindL kindOf ((p,w) :: P.zip vs) m x=_
  unfold bindL
  exact Jp (i:=i) (List.nodup_cons.mp nd).2 (by simpa using h1) (by simpa using h2) hk
theorem U5 {kindOf:Str→Option NameKind} {x:Str} {v:Value}:∀ {P:List Str} {vs:List Value} {i:Nat} {m:Str→Option Value},P.Nodup→P[i]?=some x→vs[i]?=some v→kindOf x≠some .local →
 bindC kindOf (P.zip vs) m x=some v
 | [],_,_,_,_,h,_,_=>by simp at h
 | _ :: _,[],_,_,_,_,h,_=>by simp at h
 | p :: P,w :: vs,0,m,nd,h1,h2,hk=>by
  simp at h1 h2;subst h1;subst h2
  show bindC kindOf ((p,w) :: P.zip vs) m p=_
  unfold bindC
  rw [U3 fun v hv=>(List.nodup_cons.mp nd).1 (List.of_mem_zip hv).1,if_neg hk]
  simp
 | p :: P,w :: vs,i + 1,m,nd,h1,h2,hk=>by
  show bindC kindOf ((p,w) :: P.zip vs) m x=_
  unfold bindC
  exact U5 (i:=i) (List.nodup_cons.mp nd).2 (by simpa using h1) (by simpa using h2) hk
def Yh (N:List Str) (vs:List V):St:=vs.map some ++ List.replicate (N.length - vs.length) none
def Xu (CX:CXT) (P:Program) (w:World) (K:PySem.W.Frag) (mg:Str→Option Value) (base:Heap) (N:List Str) (qual:Str) (scope:Scope) (f:Addr) (cd:Value) (A:Around) (outer:List Env) (s:Shared) (H:Hp) (E:XK):Cx where
 prog:=P
 w:=w
 K:=K
 mg:=mg
 base:=base
 A:=A.deeper (envOfC qual scope s.heap.objs.size f cd)
 N:=N
 s₀:=s
 H₀:=H
 env:=envOfC qual scope s.heap.objs.size f cd
 outer:=outer
 stack:=envOfC qual scope s.heap.objs.size f cd :: outer
 ex:=[]
 calm:=true
 fn:=fun _=>true
 pn:=[]
 xe:=fun e s'=>wpAny (model P w) (A.deeper (envOfC qual scope s.heap.objs.size f cd)) (leaving (envOfC qual scope s.heap.objs.size f cd) e) (fun _ s''=>CX outer H s E e s'') (fun e' s''=>CX outer H s E e' s'') s'
theorem XC {sc:Scope} {n:Nat} {x:Str} (h:sc.names.lookup x=some .cell):∃ c,(cellsFrom n sc.names []).lookup x=some c:=by
 have q:=PySem.W.cellsFrom_some sc.names n [] (.inl h)
 exact Option.isSome_iff_exists.mp q
theorem Vl {CX:CXT} {P:Program} {w:World} {K:PySem.W.Frag} {mg:Str→Option Value} {base:Heap} {N ps:List Str} {qual:Str} {scope:Scope} {f:Addr} {cd:Value} {A:Around} {outer:List Env} {s s1:Shared} {H:Hp} {E:XK} {us:List Value} {vs:List V}
 (S:FnScope N ps scope) (hd:A.handled=none) (e0:Env0 P w K mg base A outer s H) (hl:vs.length=ps.length) (r:Vals vs us)
 (x:InCallC s s.heap.objs.size (bindL (envOfC qual scope s.heap.objs.size f cd).kindOf (ps.zip us) fun _=>none) (cellsFrom (17:) scope.names []) (bindC (envOfC qual scope s.heap.objs.size f cd).kindOf (ps.zip us) fun _=>none) s1) :
 Inv (Xu CX P w K mg base N qual scope f cd A outer s H E) [] (Yh N vs) H s1:=by
 have hpl:ps.length≤N.length:=by have:=congrArg List.length S.pre;rw [List.length_take] at this;lia
 obtain ⟨h1,tk,rfl,hk⟩:=x.done
 have noA:∀ b:Addr,b ∉ (Xu CX P w K mg base N qual scope f cd A outer s H E).ex:=fun b z=>absurd (show b ∈ ([]:List Addr) from z) (by simp)
 refine ⟨⟨e0.mod,S.kind,rfl,rfl,Nat.le_refl _,fun y z c h1 h2=>?_,fun y hy=>?_,fun y c _ h=>?_,fun _=>hd,Around.frames_deeper e0.frames,.inr ⟨rfl,rfl⟩,fun b z=>absurd z (noA b),e0.bs,e0.bsz,fun b _ _=>noA b,fun b z=>absurd z (noA b),e0.funs,e0.frf⟩,rfl,e0.bare,Un.kept hk,⟨_,x.toInCall.ns,fun i y v h1 h2 h3=>?_⟩,fun y c h=>⟨_,x.cell y c h⟩,e0.hok.fresh (7:),fun y c h=>?_,fun p hp=>absurd (show p ∈ ([]:List (11:)) from hp) (by simp),e0.hok.kept hk,?_⟩
 ·exact name_of_addr x.apart (PySem.mem_of_lookup h1) (PySem.mem_of_lookup h2)
 ·have hy:scope.names.lookup y=some .cell∨scope.names.lookup y=some .free:=hy
  rcases hy with hy | hy
  ·exact XC hy
  ·exact absurd rfl (S.nofree _ (PySem.mem_of_lookup hy))
 ·exact Nat.le_of_lt (x.above y c (PySem.mem_of_lookup h))
 ·have hi:i < vs.length:=by
   unfold Yh at h2
   by_cases hi:i < vs.length
   ·exact hi
   ·rw [List.getElem?_append_right (by simpa using hi)] at h2
    rw [List.getElem?_replicate] at h2
    split at h2 <;> cases h2
  have ha:vs[i]?=some v:=by
   unfold Yh at h2
   rw [List.getElem?_append_left (by simpa using hi),List.getElem?_map] at h2
   cases e:vs[i]? with
   | none=>rw [e] at h2;cases h2
   | some a=>rw [e] at h2;cases h2;rfl
  obtain ⟨u,hu,rv⟩:=r.get ha
  have hp:ps[i]?=some y:=by
   rw [← S.pre,List.getElem?_take_of_lt (4:)];exact h1
  have ndP:ps.Nodup:=by rw [← S.pre];exact S.nd.sublist (List.take_sublist _ _)
  refine ⟨u,rv,?_⟩
  rcases S.par y (List.mem_of_getElem? hp) with k | k
  ·exact .inl ⟨k,Jp ndP hp hu k⟩
  ·obtain ⟨c,e⟩:=XC (n:=s.heap.objs.size + 1) k
   refine .inr ⟨.inl k,c,e,?_⟩
   have q:=x.cell y c e
   rw [U5 ndP hp hu (by show scope.names.lookup y≠_;rw [k];decide)] at q
   exact q
 ·exact e0.hok.fresh (Nat.le_of_lt (x.above y c (PySem.mem_of_lookup h)))
 ·unfold Yh
  show _=N.length
  rw [List.length_append,List.length_map,List.length_replicate]
  lia
theorem MK {CX:CXT} {P:Program} {w:World} {K:PySem.W.Frag} {mg:Str→Option Value} {base:Heap} {k:Nat} {f:Addr} {name qual:Str} {params:Arguments} {body:List Stmt} {scope:Scope} {dV kV doc pm cdv ct oc:Value} {an od:Option Addr}
 {osl:Array (Option Value)} {N ps:List Str} {sp:Sp} (lk:K.lookup f=some ⟨oc,od,.func (PySem.W.fnOf name qual params body scope dV kV doc pm an cdv ct),osl⟩) (hcd:PySem.W.codeIn K cdv qual=true) (S:FnScope N ps scope)
 (len:∀ vs H Q E,sp vs H Q E→vs.length=ps.length)
 (hbody:∀ (A:Around) (outer:List Env) (s:Shared) (H:Hp) (vs:List V) (Q:VK) (E:XK),Room k (A.deeper (envOfC qual scope s.heap.objs.size f cdv))→sp vs H Q E →
  ∃ t,PSs (Xu CX P w K mg base N qual scope f cdv A outer s H E) body t∧t { nx:=fun _ H'=>Q .non H',rt:=Q } (Yh N vs) H) :
 FnOk P w K mg base CX (k + 1) f (PySem.W.fnOf name qual params body scope dV kV doc pm an cdv ct) ps sp:=by
 refine ⟨len,fun A outer s H args us vs Q E hr e0 hb r hsp=>?_⟩
 have hl:=len _ _ _ _ hsp
 have KX:K.In s.heap:=e0.mod.kin.keeps fun b o e=>(e0.bs b o e).1
 have lim:s.heap.NoLimit:=e0.mod.nolimit.keeps fun b o e=>(e0.bs b o e).1
 have hkind:∀ y ∈ ps.zip us,scope.names.lookup y.1=some .local∨(scope.names.lookup y.1=some .cell∧((cellsFrom (17:) scope.names []).lookup y.1).isSome=true):=fun ⟨n,v⟩ hy=>by
  rcases S.par n (List.of_mem_zip hy).1 with q | q
  ·exact .inl q
  ·exact .inr ⟨q,PySem.W.cellsFrom_some _ _ _ (.inl q)⟩
 refine codeAny_call_function hr.depth (KX _ _ lk) rfl S.co S.gen rfl (PySem.W.codeRec_of KX hcd) (hb _ _ _ _ ?_)
 refine wpAny_newFunctionEnv_cells S.kind hkind fun env he s1 x=>?_
 subst he
 refine ⟨lim.keeps x.toInCall.keep,codeAny_func ?_⟩
 obtain ⟨t,ht,hq⟩:=hbody A outer s H vs Q E (hr.deeper _) hsp
 have I:Inv (Xu CX P w K mg base N qual scope f cdv A outer s H E) [] (Yh N vs) H s1:=Vl S hr.hd e0 hl r x
 refine wpAny_mono (ht [] s1 (Yh N vs) H _ I hq) (fun fl s' hs=>?_) fun e s' hs=>hs
 have fin:∀ {σ':St} {H':Hp} {v:V} {u:Value},Inv (Xu CX P w K mg base N qual scope f cdv A outer s H E) [] σ' H' s'→RelV v u→Q v H'→CE outer P w H s Q u s' :=
  fun {σ' H' v u} J rv q=>⟨v,H',J.os,J.bare,J.base,J.hok,rv,q⟩
 cases fl with
 | ret u =>
  obtain ⟨v,σ',H',J,rv,q⟩:=hs
  exact fin J rv q
 | next =>
  obtain ⟨σ',H',J,q⟩:=hs
  exact fin (v:=V.non) (u:=Value.none) J rfl q
 | brk =>
  obtain ⟨_,_,_,q⟩:=hs
  exact False.elim q
 | cont =>
  obtain ⟨_,_,_,q⟩:=hs
  exact False.elim q
end L2
namespace L2
open PySem PySem.Spec PyProof.Rows
section
variable {X:Cx} {x:Str} {p pos:Pos} {e:Expr} {es:List Expr} {t:TA} {id T:String} {r:List V→Hp→VK→Prop}
def tCB (r:List V→Hp→VK→Prop) (t:TA):TE:=fun σ H Q=>t σ H fun vs H1=>r vs H1 Q
theorem Qo (hc:QN X (.builtin id) r) (hg:Gl X x) (hm:X.mg x=none) (hv:bootBuiltins x=some (.builtin id)) (ha:PA X (e :: es) t) (hn:x ≠ "__name__" := by decide) (hdb:(x == ("__debug__" : Str))=false:=by decide)
 (he:starEach (e :: es) X.env=(false,eval e X.env) :: starEach es X.env:=by rfl) (hpl:(backTo pos (starEach es X.env)).any (·.1)=false:=by rfl):PE X (.Call (.Name x p) (e :: es) [] pos) (tCB r t):=by
 intro pins s σ H Q I h
 refine wpAny_Call_Name_kw (ZE I hg hm hv ?_ hn hdb)
 exact PyProof.Rows.callWith_builtin1 (thn (ha pos pins s σ H _ I h) fun us s1 ⟨vs,H1,I1,r1,q1⟩=>hc pins s1 σ H1 vs us Q I1 r1 q1) he hpl
theorem QJ (hc:QN X (.type T) r) (hg:Gl X x) (hm:X.mg x=none) (hv:bootBuiltins x=some (.type T)) (ha:PA X (e :: es) t) (hn:x ≠ "__name__" := by decide) (hdb:(x == ("__debug__" : Str))=false:=by decide)
 (he:starEach (e :: es) X.env=(false,eval e X.env) :: starEach es X.env:=by rfl) (hpl:(backTo pos (starEach es X.env)).any (·.1)=false:=by rfl):PE X (.Call (.Name x p) (e :: es) [] pos) (tCB r t):=by
 intro pins s σ H Q I h
 refine wpAny_Call_Name_kw (ZE I hg hm hv ?_ hn hdb)
 exact PyProof.Rows.callWith_type1 (thn (ha pos pins s σ H _ I h) fun us s1 ⟨vs,H1,I1,r1,q1⟩=>hc pins s1 σ H1 vs us Q I1 r1 q1) he hpl
end
end L2
namespace HT
open PySem PyProof.Rows
def MO:List Int→List Int→Bool
 | [],[]=>false
 | [],_ :: _=>true
 | _ :: _,[]=>false
 | x :: xs,y :: ys=>if x=y then MO xs ys else decide (x < y)
section
open PySem.SeqAt
open PySem.AutoSeq1 (wpAny_loadPart')
open PySem.MeetsSeq PySem.MeetsSeq2 PySem.MeetsSeq3
end
section
variable {prog:Program} {w:World} {A:Around} {E:Value→Shared→Prop} {s:Shared}
theorem cat_tup {t b:Addr} {vs ws:List Value} {Q:Value→Shared→Prop} (ht:IsTup s.heap t vs.toArray) (hb:IsTup s.heap b ws.toArray) (hv:vs≠[])
 (h1:ws=[]→Q (.ref t) s) (h2:ws≠[]→Q (.ref s.heap.objs.size) { s with heap:=s.heap.push { cls:=.type "tuple", data:=.seq (vs ++ ws).toArray } })
 (hsz:vs.length + ws.length≤sizeLine):wpAny (15:) A (binaryOp .Add (.ref t) (.ref b)) Q E s:=by
 obtain ⟨⟨cls,dd,data,sl⟩,ho,hc,n,hd⟩:=id ht
 obtain ⟨⟨cls2,dd2,data2,sl2⟩,ho2,hc2,n2,hd2⟩:=id hb
 simp only at hc hd hc2 hd2
 subst hc hd hc2 hd2
 have e:vs.toArray ++ ws.toArray=(vs ++ ws).toArray:=by simp
 by_cases hw:ws=[]
 ·exact concat_meets ⟨_,ho,rfl⟩ ⟨_,ho2,rfl⟩ noFill_tuple_add seq_tuple_add PySem.F.slot_tuple_add PySem.F.entry_tuple_add (PySem.F.args_tuple_add_2 _ _)
   (tuple_addW1 t b vs.toArray ws.toArray n n2 dd dd2 sl sl2 (by simpa using hv) (by simp [hw])) ⟨ho,ho2,h1 hw⟩
 ·refine concat_meets ⟨_,ho,rfl⟩ ⟨_,ho2,rfl⟩ noFill_tuple_add seq_tuple_add PySem.F.slot_tuple_add PySem.F.entry_tuple_add (PySem.F.args_tuple_add_2 _ _)
   (tuple_addW2 t b vs.toArray ws.toArray n n2 dd dd2 sl sl2 (by simpa using hv) (by simpa using hw) (by rw [List.size_toArray,List.size_toArray];exact hsz)) ⟨ho,ho2,?_⟩
  rw [e]
  exact h2 hw
def sIx (n d:Nat):Option Int→Nat
 | none=>d
 | some v=>if v < 0 then (v + (n:Int)).toNat else min v.toNat n
theorem sIx_none (n d:Nat):sIx n d none=d:=rfl
theorem sIx_nat (n d k:Nat):sIx n d (some (k:Int))=min k n:=by
 show (if (k:Int) < 0 then ((k:Int)+(n:Int)).toNat else min (k:Int).toNat n)=min k n
 rw [if_neg (4:),Int.toNat_natCast]
end
end HT
namespace L2
open PySem PySem.Spec PyProof.Rows
abbrev TO:=St→Hp→(Option Int→Hp→Prop)→Prop
def PO (X:Cx) (e:Option Expr) (t:TO):Prop :=
 ∀ (pins:List (11:)) (s:Shared) (σ:St) (H:Hp) (Q:Option Int→Hp→Prop),Inv X pins σ H s→t σ H Q →
  wpAny (6:) X.A (evalPart e X.env) (fun u s'=>∃ o H',Inv X pins σ H' s'∧IsPart u o∧Q o H') X.xe s
def LB:TO:=fun _ H Q=>Q none H
def N8 (t:TE):TO:=fun σ H Q=>t σ H fun x H1=>∃ i,x=.int i∧Q (some i) H1
section
variable {X:Cx} {e:Expr} {te:TE} {lo hi:Option Expr} {tl th:TO} {pos p2:Pos}
theorem Ml:PO X none LB:=by
 intro pins s σ H Q I h
 rw [evalPart_none]
 exact wpAny_pure ⟨none,H,I,.none,h⟩
theorem Lx (h:PE X e te):PO X (some e) (N8 te):=by
 intro pins s σ H Q I hw
 rw [evalPart_some]
 refine thn (h pins s σ H _ I hw) fun u s1 ⟨x,H1,I1,r1,q1⟩=>?_
 obtain ⟨i,rfl,q⟩:=q1
 obtain ⟨t,rfl⟩:=r1
 exact ⟨some i,H1,I1,.int i t,q⟩
def SlR (X:Cx) (r:V→Option Int→Option Int→Hp→VK→Prop):Prop :=
 ∀ (pins:List (11:)) (s:Shared) (σ:St) (H:Hp) (x:V) (v vl vu:Value) (lo hi:Option Int) (sl:Addr) (Q:VK),Inv X pins σ H s→RelV x v→s.heap.IsSliceOf sl vl vu .none→IsPart vl lo→IsPart vu hi→r x lo hi H Q →
  ∃ T id,typeLookup (.type T) "__getitem__" = pure (some (.builtin id))∧s.TypeIs v T∧wpAny (6:) X.A (getItem v (.ref sl)) (EP X pins σ Q) X.xe s
def tSl (r:V→Option Int→Option Int→Hp→VK→Prop) (te:TE) (tl th:TO):TE:=fun σ H Q=>te σ H fun x H1=>tl σ H1 fun l H2=>th σ H2 fun u H3=>r x l u H3 Q
theorem VT {r:V→Option Int→Option Int→Hp→VK→Prop} (hr:SlR X r) (he:PE X e te) (hl:PO X lo tl) (hu:PO X hi th):PE X (.Subscript e (.Slice lo hi none p2) pos) (tSl r te tl th):=by
 intro pins s σ H Q I h
 refine Subscript_ (thn (he pins s σ H _ I h) fun v s1 ⟨x,H1,I1,r1,q1⟩=>?_)
 refine wpAny_Slice (thn (hl pins s1 σ H1 _ I1 q1) fun vl s2 ⟨l,H2,I2,pl,q2⟩=>thn (hu pins s2 σ H2 _ I2 q2) fun vu s3 ⟨u,H3,I3,pu,q3⟩=>?_)
 rw [evalPart_none]
 refine wpAny_pure ?_
 have I4:Inv X pins σ H3 { s3 with heap:=s3.heap.push { cls:=.type "slice", data:=.fields #[vl,vu,.none] } }:=I3.kept (t':=s3.toks) fun b ob q=>Heap.get?_push_of_some _ q
 obtain ⟨T,id,hT,ht,hg⟩:=hr pins { s3 with heap:=s3.heap.push { cls:=.type "slice", data:=.fields #[vl,vu,.none] } } σ H3 x v vl vu l u s3.heap.objs.size Q I4 r1 (Heap.IsSliceOf.new ..) pl pu q3
 show wpAny (6:) X.A (subscriptTail e (.Slice lo hi none p2) v (.ref s3.heap.objs.size)) (EP X pins σ Q) X.xe { s3 with heap:=s3.heap.push { cls:=.type "slice", data:=.fields #[vl,vu,.none] } }
 exact tail_any (ops:=[.ref s3.heap.objs.size,v]) ht hT hg (by with_unfolding_all rfl)
def XW (xs:List V) (lo hi:Option Int):List V:=(xs.drop (HT.sIx xs.length 0 lo)).take (HT.sIx xs.length xs.length hi - HT.sIx xs.length 0 lo)
theorem XD (xs:List V) (lo hi:Option Int):(XW xs lo hi).length≤xs.length:=by
 unfold XW
 rw [List.length_take,List.length_drop]
 lia
def OY (K:PySem.W.Frag):R2:=fun x y H Q=>∃ a b xs ys,x=.ref a∧y=.ref b∧SqT K H a xs∧SqT K H b ys∧xs≠[]∧xs.length + ys.length≤sizeLine ∧
 (ys=[]→Q (.ref a) H)∧(ys≠[]→∀ p,H p=none→Q (.ref p) (upd H p (.tup (xs ++ ys))))
theorem Vals.nil_iff {xs:List V} {us:List Value} (r:Vals xs us):us=[] ↔ xs=[]:=by
 cases r with
 | nil=>simp
 | cons _ _=>simp
theorem Mn:OpR X (binaryOp .Add) (OY X.K):=by
 intro pins s σ H x y v u Q I rx ry h
 obtain ⟨a,b,xs,ys,rfl,rfl,ha,hb,hx,hz,q1,q2⟩:=h
 cases rx
 cases ry
 obtain ⟨its,r1,p1,_⟩:=I.tuple ha
 obtain ⟨its2,r2,p2,_⟩:=I.tuple hb
 refine HT.cat_tup p1 p2 (fun z=>hx (r1.nil_iff.mp z)) (fun z=>⟨.ref a,H,I,rfl,q1 (r2.nil_iff.mp z)⟩) (fun z=>?_) (by rw [← r1.length,← r2.length];exact hz)
 refine ⟨.ref s.heap.objs.size,_,I.laid (t':=s.toks) (o:=.tup (xs ++ ys)) (fun b ob q=>Heap.get?_push_of_some _ q) (7:) ?_,rfl,q2 (fun w=>z (r2.nil_iff.mpr w)) _ (I.hok.fresh (7:))⟩
 exact ⟨by rw [List.length_append];exact hz,_,r1.append r2,IsTup.new _ _⟩
end
end L2
namespace L2
open PySem PySem.Spec PyProof.Rows
def ixN (n:Nat) (i:Int):Option Nat:=if 0≤i then (if i < n then some i.toNat else none) else if -(n:Int)≤i then some (i + n).toNat else none
def atI {α:Type} (xs:List α) (i:Int):Option α:=(ixN xs.length i).bind fun j=>xs[j]?
theorem Mq {n:Nat} {i:Int} {j:Nat} (h:ixN n i=some j):seqIndex? i n=some j∧j < n∧-(n:Int)≤i∧i < n:=by
 unfold ixN at h
 by_cases h0:0≤i
 ·rw [if_pos h0] at h
  by_cases h1:i < n
  ·rw [if_pos h1] at h
   have e:i.toNat=j:=Option.some.inj h
   exact ⟨by rw [seqIndex_of h0 h1,e],by lia,by lia,h1⟩
  ·rw [if_neg h1] at h;cases h
 ·rw [if_neg h0] at h
  by_cases h1:-(n:Int)≤i
  ·rw [if_pos h1] at h
   have e:(i + n).toNat=j:=Option.some.inj h
   exact ⟨by rw [seqIndex_neg (4:) h1,e],by lia,h1,by lia⟩
  ·rw [if_neg h1] at h;cases h
theorem JH {α:Type} {xs:List α} {i:Int} {v:α} (h:atI xs i=some v):∃ j,seqIndex? i xs.length=some j∧xs[j]?=some v∧j < xs.length∧-(xs.length:Int)≤i∧i < xs.length:=by
 unfold atI at h
 cases e:ixN xs.length i with
 | none=>rw [e] at h;cases h
 | some j =>
  rw [e] at h
  obtain ⟨h1,h2,h3,h4⟩:=Mq e
  exact ⟨j,h1,h,h2,h3,h4⟩
theorem QI {α:Type} {xs:List α} {j:Nat} {v:α} (h:xs[j]?=some v):atI xs (j:Int)=some v:=by
 have hj:j < xs.length:=(List.getElem?_eq_some_iff.mp h).1
 have e:ixN xs.length (j:Int)=some j:=by
  unfold ixN
  rw [if_pos (4:),if_pos (4:)];simp
 unfold atI;rw [e];exact h
def Wx (b:Expr):Prop:=∀ o i,subscripted b false o i=operate [o,i] (getItem o i)
def IxR (X:Cx) (r:R2):Prop :=
 ∀ (value slice:Expr) (pins:List (11:)) (s:Shared) (σ:St) (H:Hp) (x y:V) (v u:Value) (Q:VK),Inv X pins σ H s→RelV x v→RelV y u→r x y H Q →
  subscripted slice false v u=operate [v,u] (getItem v u)→wpAny (6:) X.A (subscriptTail value slice v u) (EP X pins σ Q) X.xe s
def MtR (X:Cx) (id:String) (r:V→List V→Hp→VK→Prop):Prop :=
 ∀ (pins:List (11:)) (s:Shared) (σ:St) (H:Hp) (x:V) (xs:List V) (v:Value) (us:List Value) (Q:VK),Inv X pins σ H s→RelV x v→Vals xs us→r x xs H Q →
  wpAny (6:) X.A (call (.builtin id) (v :: us)) (EP X pins σ Q) X.xe s
section
variable {X:Cx} {a b:Expr} {ta tb:TE} {pos:Pos}
theorem Qk {r:R2} (hr:IxR X r) (ha:PE X a ta) (hb:PE X b tb) (hs:Wx b):PE X (.Subscript a b pos) (tOp r ta tb):=by
 intro pins s σ H Q I h
 exact Subscript_ (NA ha hb I h fun v u s2 x y H2 I2 rx ry q=>hr a b pins s2 σ H2 x y v u Q I2 rx ry q (hs _ _))
def Oi (K:PySem.W.Frag):R2:=fun x y H Q=>∃ p xs i v,x=.ref p∧y=.int i∧SqL K H p xs∧atI xs i=some v∧Q v H
def Gk (K:PySem.W.Frag):R2:=fun x y H Q=>∃ p xs i v,x=.ref p∧y=.int i∧SqT K H p xs∧atI xs i=some v∧Q v H
def Pa:R2:=fun x y H Q=>∃ z i c,x=.str z∧y=.int i∧z.length≤sizeLine∧atI z.cps.toList i=some c∧Q (.str ⟨#[c]⟩) H
theorem QF:IxR X (Oi X.K):=by
 intro value slice pins s σ H x y v u Q I rx ry h hs
 obtain ⟨p,xs,i,z,rfl,rfl,hq,he,q⟩:=h
 cases rx
 obtain ⟨t,rfl⟩:=ry
 obtain ⟨its,r,pl,hz⟩:=I.list hq
 obtain ⟨j,h1,h2,h3,h4,h5⟩:=JH he
 obtain ⟨w,ew,rw'⟩:=r.get h2
 have hl:=r.length
 have hn:=Uu
 have fin:EP X pins σ Q w s:=⟨z,H,I,rw',q⟩
 by_cases h0:0≤i
 ·have hj:i.toNat=j:=by
   rw [seqIndex_of h0 h5] at h1
   exact Option.some.inj h1
  exact item_listR pl.isList h0 (4:) (by rw [hj];simpa using ew) fin hs
 ·have hj:(i + (its.toArray.size:Int)).toNat=j:=by
   rw [seqIndex_neg (4:) h4] at h1
   rw [List.size_toArray,← hl]
   exact Option.some.inj h1
  exact subscriptTail_builtinR (x:=w) pl.isList.typeIs slot_list_getitem.lookup
   (wpAny_getItem_list_neg (Q:=fun r s'=>r=w∧EP X pins σ Q r s') pl.isList (4:) (by rw [List.size_toArray] <;> lia) (4:) (by rw [hj];simpa using ew) ⟨rfl,fin⟩) hs
theorem Qj:IxR X (Gk X.K):=by
 intro value slice pins s σ H x y v u Q I rx ry h hs
 obtain ⟨p,xs,i,z,rfl,rfl,hq,he,q⟩:=h
 cases rx
 obtain ⟨t,rfl⟩:=ry
 obtain ⟨its,r,pl,hz⟩:=I.tuple hq
 obtain ⟨j,h1,h2,h3,h4,h5⟩:=JH he
 obtain ⟨w,ew,rw'⟩:=r.get h2
 have hl:=r.length
 have hn:=Uu
 have fin:EP X pins σ Q w s:=⟨z,H,I,rw',q⟩
 exact subscriptTail_builtinR (x:=w) pl.typeIs slot_tuple_getitem.lookup
  (getItem_tuple (j:=j) (Q:=fun r s'=>r=w∧EP X pins σ Q r s') pl (4:) (4:) (by rw [List.size_toArray,← hl];exact h1) (by simpa using ew) ⟨rfl,fin⟩) hs
theorem VQ:IxR X Pa:=by
 intro value slice pins s σ H x y v u Q I rx ry h hs
 obtain ⟨z,i,c,rfl,rfl,hz,he,q⟩:=h
 obtain ⟨t,rfl⟩:=rx
 obtain ⟨t',rfl⟩:=ry
 obtain ⟨j,h1,h2,h3,h4,h5⟩:=JH he
 have hl:z.cps.toList.length=z.length:=by simp [Str.length]
 rw [hl] at h1 h4 h5
 have hn:=Uu
 exact tail_any (typeIs_str s z t) slot_str_getitem.lookup (getItem_str (c:=c) (by
  have e1:decide (i < -(2 ^ 63:Int))=false:=decide_eq_false (4:)
  have e2:decide (i ≥ 2 ^ 63)=false:=decide_eq_false (4:)
  rw [e1,e2,Bool.or_false]) (by rw [h1];simpa using h2) ⟨.str ⟨#[c]⟩,H,I.tok _,⟨_,rfl⟩,q⟩) hs
theorem JN (lo hi:Option Int) (n:Nat):(sliceBounds lo hi none n).1=((HT.sIx n 0 lo:Nat):Int)∧(sliceBounds lo hi none n).2.1=((HT.sIx n n hi:Nat):Int)∧(sliceBounds lo hi none n).2.2=1:=by
 refine ⟨?_,?_,rfl⟩
 ·cases lo with
  | none=>simp [sliceBounds,HT.sIx]
  | some i =>
   simp only [sliceBounds,HT.sIx,Option.getD_none,show (1:Int) > 0 by decide,if_true]
   by_cases h:i < 0
   ·simp only [h,if_true] <;> lia
   ·simp only [h,if_false] <;> lia
 ·cases hi with
  | none=>simp [sliceBounds,HT.sIx]
  | some i =>
   simp only [sliceBounds,HT.sIx,Option.getD_none,show (1:Int) > 0 by decide,if_true]
   by_cases h:i < 0
   ·simp only [h,if_true] <;> lia
   ·simp only [h,if_false] <;> lia
theorem U1 (its:List Value) (lo hi:Option Int):slicePick its.toArray lo hi none=((its.drop (HT.sIx its.length 0 lo)).take (HT.sIx its.length its.length hi - HT.sIx its.length 0 lo)).toArray:=by
 obtain ⟨h1,h2,h3⟩:=JN lo hi its.toArray.size
 unfold slicePick
 rw [h1,h2,h3]
 simp only [sliceRange_one,pick_run,List.size_toArray] <;> rfl
def Ps (K:PySem.W.Frag):V→Option Int→Option Int→Hp→VK→Prop:=fun x lo hi H Q=>∃ a xs,x=.ref a∧SqL K H a xs∧∀ p,H p=none→Q (.ref p) (upd H p (.lst (XW xs lo hi)))
theorem LV:SlR X (Ps X.K):=by
 intro pins s σ H x v vl vu lo hi sl Q I rx hs pl pu h
 obtain ⟨a,xs,rfl,hx,q⟩:=h
 cases rx
 obtain ⟨its,r,ht,hz⟩:=I.list hx
 have hlen:=r.length
 refine ⟨"list", _,slot_list_getitem.lookup,ht.isList.typeIs,?_⟩
 refine wpAny_getItem_list_slice ht.isList hs pl pu .none (by simp) ?_ (by rw [List.size_toArray] <;> lia)
 rw [U1,← hlen]
 refine ⟨.ref s.heap.objs.size,_,I.laid (t':=s.toks) (o:=.lst (XW xs lo hi)) (fun b ob q=>Heap.get?_push_of_some _ q) (7:) ?_,rfl,q _ (I.hok.fresh (7:))⟩
 exact ⟨Nat.le_trans (XD xs lo hi) hz,_,0,(r.drop (HT.sIx xs.length 0 lo)).take (HT.sIx xs.length xs.length hi - HT.sIx xs.length 0 lo),Heap.get?_push_size _ rfl⟩
def Yg:V→Bool
 | .non=>true
 | .bl _=>true
 | .int _=>true
 | .str _=>true
 | _=>false
def eqV:V→V→Bool
 | .non,.non=>true
 | .bl a,.bl b=>a == b
 | .bl a,.int b=>(if a then 1 else 0) == b
 | .int a,.bl b=>a == (if b then 1 else 0)
 | .int a,.int b=>a == b
 | .str a,.str b=>a == b
 | _,_=>false
theorem M3 {A:Around} {s:Shared} {y x:V} {u v:Value} (ry:RelV y u) (rx:RelV x v) (fy:Yg y=true) (fx:Yg x=true):SeqAt.EqAt A s u v (eqV y x):=by
 cases y with
 | non =>
  cases ry
  cases x with
  | non=>cases rx;exact SeqAt.EqAt.same _
  | bl b=>cases rx;exact SeqAt.EqAt.none_bool b
  | int b=>obtain ⟨t,rfl⟩:=rx;exact SeqAt.EqAt.none_int b t
  | str b=>obtain ⟨t,rfl⟩:=rx;exact SeqAt.EqAt.none_str b t
  | _=>exact absurd (show false=true from fx) Bool.false_ne_true
 | bl a =>
  cases ry
  cases x with
  | non=>cases rx;exact SeqAt.EqAt.bool_none a
  | bl b=>cases rx;exact SeqAt.EqAt.bool_bool a b
  | int b=>obtain ⟨t,rfl⟩:=rx;exact SeqAt.EqAt.bool_int a b t
  | str b=>obtain ⟨t,rfl⟩:=rx;exact SeqAt.EqAt.bool_str a b t
  | _=>exact absurd (show false=true from fx) Bool.false_ne_true
 | int a =>
  obtain ⟨t',rfl⟩:=ry
  cases x with
  | non=>cases rx;exact SeqAt.EqAt.int_none a t'
  | bl b=>cases rx;exact SeqAt.EqAt.int_bool a t' b
  | int b=>obtain ⟨t,rfl⟩:=rx;exact SeqAt.EqAt.int_int a t' b t
  | str b=>obtain ⟨t,rfl⟩:=rx;exact SeqAt.EqAt.int_str a t' b t
  | _=>exact absurd (show false=true from fx) Bool.false_ne_true
 | str a =>
  obtain ⟨t',rfl⟩:=ry
  cases x with
  | non=>cases rx;exact SeqAt.EqAt.str_none a t'
  | bl b=>cases rx;exact SeqAt.EqAt.str_bool a t' b
  | int b=>obtain ⟨t,rfl⟩:=rx;exact SeqAt.EqAt.str_int a t' b t
  | str b=>obtain ⟨t,rfl⟩:=rx;exact SeqAt.EqAt.str_str a t' b t
  | _=>exact absurd (show false=true from fx) Bool.false_ne_true
 | _=>exact absurd (show false=true from fy) Bool.false_ne_true
def eqU (x:V) (u:Value):Bool:=match u with
 | .none=>eqV .non x
 | .bool b=>eqV (.bl b) x
 | .int i _=>eqV (.int i) x
 | .str z _=>eqV (.str z) x
 | _=>false
theorem Lk {x y:V} {u:Value} (r:RelV y u) (f:Yg y=true):eqU x u=eqV y x:=by
 cases y with
 | non=>cases r;rfl
 | bl b=>cases r;rfl
 | int i=>obtain ⟨t,rfl⟩:=r;rfl
 | str z=>obtain ⟨t,rfl⟩:=r;rfl
 | _=>exact absurd (show false=true from f) Bool.false_ne_true
theorem JL {x:V}:∀ {xs:List V} {us:List Value},Vals xs us→xs.all Yg=true→us.any (eqU x)=xs.any fun y=>eqV y x
 | _,_,.nil,_=>rfl
 | y :: xs,u :: us,.cons r t,f=>by
  rw [List.all_cons,Bool.and_eq_true] at f
  rw [List.any_cons,List.any_cons,Lk r f.1,JL t f.2]
theorem UI {A:Around} {s:Shared} {x:V} {v:Value} (rx:RelV x v) (fx:Yg x=true):∀ {xs:List V} {us:List Value},Vals xs us→xs.all Yg=true→∀ u ∈ us,SeqAt.EqAt A s u v (eqU x u)
 | _,_,.nil,_=>fun u hu=>by cases hu
 | y :: xs,u :: us,.cons r t,f=>fun u' hu=>by
  rw [List.all_cons,Bool.and_eq_true] at f
  rcases List.mem_cons.mp hu with rfl | hu
  ·rw [Lk r f.1];exact M3 r rx f.1 fx
  ·exact UI rx fx t f.2 u' hu
def inV (x:V) (xs:List V):Bool:=xs.any fun y=>eqV y x
def rIn (K:PySem.W.Frag) (neg:Bool):R2:=fun x y H Q=>∃ p xs,y=.ref p∧(SqL K H p xs∨SqT K H p xs)∧Yg x=true∧xs.all Yg=true∧Q (.bl (if neg then !inV x xs else inV x xs)) H
theorem J1:OpR X (compareOp .NotIn) (rIn X.K true):=by
 intro pins s σ H x y v u Q I rx ry h
 obtain ⟨p,xs,rfl,hq,fx,fs,q⟩:=h
 cases ry
 rcases hq with hq | hq
 ·obtain ⟨its,r,pl,hz⟩:=I.list hq
  refine SeqAt.notIn_listAt (eqU x) pl.isList (fun w hw=>UI rx fx r fs w (by simpa using hw)) ⟨.bl _,H,I,rfl,?_⟩
  rw [show its.toArray.any (eqU x)=its.any (eqU x) by simp,JL r fs]
  exact q
 ·obtain ⟨its,r,pl,hz⟩:=I.tuple hq
  refine SeqAt.notIn_tupleAt (eqU x) pl (fun w hw=>UI rx fx r fs w (by simpa using hw)) ⟨.bl _,H,I,rfl,?_⟩
  rw [show its.toArray.any (eqU x)=its.any (eqU x) by simp,JL r fs]
  exact q
theorem Qn:QN X (.builtin "len") (fun xs H Q=>∃ p ys,xs=[.ref p]∧(SqL X.K H p ys∨SqT X.K H p ys)∧Q (.int ys.length) H):=by
 intro pins s σ H xs us Q I r h
 obtain ⟨p,ys,rfl,hq,q⟩:=h
 obtain ⟨u,rfl,rx⟩:=Jr r
 cases rx
 have hn:=Uu
 rcases hq with hq | hq
 ·obtain ⟨its,r',pl,hz⟩:=I.list hq
  have hlen:=r'.length
  exact Calls.call_len_list pl.isList (by simp only [List.size_toArray] <;> lia) ⟨.int ys.length,H,I.tok _,⟨s.toks + 1,by rw [List.size_toArray,hlen]⟩,q⟩
 ·obtain ⟨its,r',pl,hz⟩:=I.tuple hq
  have hlen:=r'.length
  exact len_tuple pl (by simp only [List.size_toArray] <;> lia) ⟨.int ys.length,H,I.tok _,⟨s.toks + 1,by rw [List.size_toArray,hlen]⟩,q⟩
theorem ZT:QN X (.type "list") (fun xs H Q=>∃ p ys,xs=[.ref p]∧(SqL X.K H p ys∨SqT X.K H p ys)∧∀ l,H l=none→Q (.ref l) (upd H l (.lst ys))):=by
 intro pins s σ H xs us Q I r h
 obtain ⟨p,ys,rfl,hq,q⟩:=h
 obtain ⟨u,rfl,rx⟩:=Jr r
 cases rx
 have fin:∀ (its:List Value),Vals ys its→ys.length≤sizeLine→∀ (h':Heap) (c':Nat),(∀ b o',s.heap.get? b=some o'→h'.get? b=some o') →
  h'.get? s.heap.objs.size=some { cls:=.type "list", dict:=none,data:=.seq its.toArray c',slots:=#[] }→EP X pins σ Q (.ref s.heap.objs.size) { s with heap:=h' }:=fun its r' hz h' c' kp e =>
  ⟨.ref s.heap.objs.size,_,I.laid (t':=s.toks) kp (7:) (show ObjOk X.prog X.w _ h' _ (.lst ys) from ⟨hz,its,c',r',e⟩),rfl,q _ (I.hok.fresh (7:))⟩
 rcases hq with hq | hq
 ·obtain ⟨its,r',pl,hz⟩:=I.list hq
  have hlen:=r'.length
  obtain ⟨o,ho,hc,n,hd⟩:=pl.isList
  exact call_list_seq p (.inl rfl) ho hc hd (fun h' c' kp e=>fin its r' hz h' c' kp e) (by simp only [List.size_toArray] <;> lia)
 ·obtain ⟨its,r',pl,hz⟩:=I.tuple hq
  have hlen:=r'.length
  obtain ⟨o,ho,hc,n,hd⟩:=pl
  exact call_list_seq p (.inr rfl) ho hc hd (fun h' c' kp e=>fin its r' hz h' c' kp e) (by simp only [List.size_toArray] <;> lia)
theorem QO:QN X (.type "tuple") (fun xs H Q=>∃ p ys,xs=[.ref p]∧((SqL X.K H p ys∧∀ l,H l=none→Q (.ref l) (upd H l (.tup ys)))∨(SqT X.K H p ys∧Q (.ref p) H))):=by
 intro pins s σ H xs us Q I r h
 obtain ⟨p,ys,rfl,h⟩:=h
 obtain ⟨u,rfl,rx⟩:=Jr r
 cases rx
 rcases h with ⟨hq,q⟩ | ⟨hq,q⟩
 ·obtain ⟨its,r',pl,hz⟩:=I.list hq
  have hlen:=r'.length
  refine call_tuple_list pl.isList (fun h' kp=>?_) (by simp only [List.size_toArray] <;> lia)
  have I1:Inv X pins σ H { s with heap:=h' }:=I.kept (t':=s.toks) kp
  have I2:Inv X pins σ (upd H h'.objs.size (.tup ys)) { s with heap:=h'.push { cls:=.type "tuple", data:=.seq its.toArray } } :=
   I1.laid (t':=s.toks) (fun b o e=>Heap.get?_push_of_some _ e) (7:) (show ObjOk X.prog X.w _ _ _ (.tup ys) from ⟨hz,its,r',IsTup.new _ _⟩)
  exact ⟨.ref h'.objs.size,_,I2,rfl,q _ (I1.hok.fresh (7:))⟩
 ·obtain ⟨its,r',pl,hz⟩:=I.tuple hq
  exact call_tuple_same pl ⟨.ref p,H,I,rfl,q⟩
def tyV (K:PySem.W.Frag) (T:String) (x:V) (H:Hp):Prop:=match x with
 | .str _=>T = "str"
 | .int _=>T = "int"
 | .ref p=>(T = "list" ∧ ∃ xs,SqL K H p xs)∨(T = "tuple" ∧ ∃ o,K.lookup p=some o∧o.cls=.type "tuple" ∧ o.dict=none) ∨
  (T = "dict" ∧ ((∃ kvs,H p=some (.dK kvs))∨∃ kvs,H p=some (.dT kvs)))∨(T = "set" ∧ ∃ S n,H p=some (.set S n))
 | _=>False
theorem V5 {pins:List (11:)} {σ:St} {H:Hp} {s:Shared} {T:String} {x:V} {v:Value} (I:Inv X pins σ H s) (r:RelV x v) (ty:tyV X.K T x H) :
 s.TypeIs v T∧∀ a,v=.ref a→∃ ob,s.heap.get? a=some ob∧ob.dict=none:=by
 cases x with
 | str z =>
  obtain ⟨t,rfl⟩:=r
  cases (show T = "str" from ty)
  exact ⟨typeIs_str s z t,fun _ e=>nomatch e⟩
 | int i =>
  obtain ⟨t,rfl⟩:=r
  cases (show T = "int" from ty)
  exact ⟨typeIs_int s i t,fun _ e=>nomatch e⟩
 | ref p =>
  cases r
  rcases ty with ⟨rfl,xs,hq⟩ | ⟨rfl,o,hk,hc,hd⟩ | ⟨rfl,hk⟩ | ⟨rfl,S,n,hk⟩
  ·obtain ⟨its,_,pl,_⟩:=I.list hq
   refine ⟨pl.isList.typeIs,fun a e=>?_⟩
   cases e
   obtain ⟨o,n,e,c,hd,_⟩:=pl
   exact ⟨o,e,hd⟩
  ·refine ⟨⟨o,I.kIn p o hk,hc⟩,fun a e=>?_⟩
   cases e
   exact ⟨o,I.kIn _ o hk,hd⟩
  ·have z:∃ o,s.heap.get? p=some o∧o.ExactDict:=by
    rcases hk with ⟨kvs,hk⟩ | ⟨kvs,hk⟩
    ·obtain ⟨_,_,_,_,o,_,_,e,ex,_⟩:=I.hok p _ hk
     exact ⟨o,e,ex⟩
    ·obtain ⟨_,_,_,_,o,_,_,e,ex,_⟩:=I.hok p _ hk
     exact ⟨o,e,ex⟩
   obtain ⟨o,e,ex⟩:=z
   refine ⟨⟨o,e,ex.1⟩,fun a e2=>?_⟩
   cases e2
   exact ⟨o,e,ex.2.1⟩
  ·obtain ⟨o,_,_,_,e,ex,_⟩:=I.hok p _ hk
   refine ⟨⟨o,e,ex.1⟩,fun a e2=>?_⟩
   cases e2
   exact ⟨o,e,ex.2.1⟩
 | _=>exact False.elim ty
def Pk (K:PySem.W.Frag) (T:String) (r:V→List V→Hp→VK→Prop) (to:TE):TE:=fun σ H Q=>to σ H fun x H1=>tyV K T x H1∧r x [] H1 Q
def tBM (K:PySem.W.Frag) (T:String) (r:V→List V→Hp→VK→Prop) (to:TE) (t:TA):TE:=fun σ H Q=>to σ H fun x H1=>tyV K T x H1∧t σ H1 fun xs H2=>r x xs H2 Q
variable {o e:Expr} {es:List Expr} {to:TE} {t:TA} {name:Str} {apos cpos:Pos} {T id:String} {r:V→List V→Hp→VK→Prop}
theorem NB (pa:PlainAttrs T) (slot:Slot T name id) (hty:typeOf (.builtin id)=pure (.type "method_descriptor")) (hm:MtR X id r) (ho:PE X o to)
 (hbase:attributeBase o name X.env (eval o X.env)=eval o X.env:=by rfl) (hline:(apos.endLine == cpos.line)=true:=by rfl):PE X (.Call (.Attribute o name apos) [] [] cpos) (Pk X.K T r to):=by
 intro pins s σ H Q I h
 refine wpAny_Call_method0_late hbase hline (thn (ho pins s σ H _ I h) fun v s1 ⟨x,H1,I1,r1,ty,q1⟩=>?_)
 obtain ⟨h1,h2⟩:=V5 I1 r1 ty
 exact ⟨T,id,pa,slot,hty,h1,h2,Calls.callWith_builtin rfl (PySem.evalArgs_none (hm pins s1 σ H1 x [] v [] Q I1 r1 .nil q1))⟩
theorem Yz (pa:PlainAttrs T) (slot:Slot T name id) (hty:typeOf (.builtin id)=pure (.type "method_descriptor")) (hm:MtR X id r) (ho:PE X o to) (ha:PA X (e :: es) t)
 (hbase:attributeBase o name X.env (eval o X.env)=eval o X.env:=by rfl)
 (hfew:((backTo cpos (starEach (e :: es) X.env)).all (fun x=>!x.1) && (backToKw cpos (keywordEach [] X.env)).all (fun x=>x.1.isSome)
  && decide ((e :: es).length + ([]:List Keyword).length + (if ([]:List Keyword).isEmpty then 0 else 1) < 30))=true:=by rfl)
 (hline:(apos.endLine == cpos.line)=true:=by rfl) (hs:starEach (e :: es) X.env=(false,eval e X.env) :: starEach es X.env:=by rfl) (hplain:(backTo cpos (starEach es X.env)).any (·.1)=false:=by rfl) :
 PE X (.Call (.Attribute o name apos) (e :: es) [] cpos) (tBM X.K T r to t):=by
 intro pins s σ H Q I h
 refine wpAny_Call_method_late hbase hfew hline rfl (thn (ho pins s σ H _ I h) fun v s1 ⟨x,H1,I1,r1,ty,q1⟩=>?_)
 obtain ⟨h1,h2⟩:=V5 I1 r1 ty
 refine ⟨T,id,pa,slot,hty,h1,h2,?_⟩
 have hA:=ha cpos pins s1 σ H1 _ I1 q1
 rw [hs] at hA ⊢
 refine Calls.callWith_builtin (by show (false || (backTo cpos (starEach es X.env)).any (·.1))=false;rw [hplain] <;> rfl) (Calls.evalArgs_plain ?_)
 exact thn hA fun us s2 ⟨vs,H2,I2,r2,q2⟩=>hm pins s2 σ H2 x vs v us Q I2 r1 r2 q2
/- xs.append(e),list.index on a module's tuple .. are MtR facts of 06m -/
end
end L2
namespace L2
open PySem PySem.Spec PyProof.Rows
def MtM (X:Cx) (id:String) (r:V→List V→Hp→VK→Prop):Prop :=
 ∀ (pins:List (11:)) (s:Shared) (σ:St) (H:Hp) (x:V) (xs:List V) (v:Value) (us:List Value) (Q:VK),Inv X pins σ H s→RelV x v→Vals xs us→r x xs H Q →
  wpAny (6:) X.A (call (.builtin id) (v :: us)) (EP X pins σ Q) X.xe s
theorem Vals.one:∀ {x:V} {us:List Value},Vals [x] us→∃ u,us=[u]∧RelV x u
 | _,_,.cons r .nil=>⟨_,rfl,r⟩
theorem Vals.two:∀ {x y:V} {us:List Value},Vals [x,y] us→∃ u v,us=[u,v]∧RelV x u∧RelV y v
 | _,_,_,.cons r (.cons q .nil)=>⟨_,_,rfl,r,q⟩
theorem Vals.zero:∀ {us:List Value},Vals [] us→us=[]
 | _,.nil=>rfl
theorem Vals.dropLast {xs:List V} {us:List Value} (h:Vals xs us):Vals xs.dropLast us.dropLast:=by
 induction h with
 | nil=>exact .nil
 | cons r t ih =>
  cases t with
  | nil=>exact .nil
  | cons q t'=>exact .cons r ih
theorem X3 {α:Type} (l:List α):l.eraseIdx (l.length - 1)=l.dropLast:=by
 induction l with
 | nil=>rfl
 | cons a r ih =>
  cases r with
  | nil=>rfl
  | cons b r =>
   have e:(a :: b :: r).length - 1=((b :: r).length - 1)+1:=by
    have h1:(a :: b :: r).length=r.length + 2:=rfl
    have h2:(b :: r).length=r.length + 1:=rfl
    lia
   rw [e,List.eraseIdx_cons_succ,ih]
   all_goals rfl
section
variable {X:Cx} {pins:List (11:)} {σ:St} {H:Hp} {s:Shared} {l b:Addr} {xs ys zs:List V}
theorem Inv.lset {its its':List Value} {n:Nat} {f:Array Value→Array Value} {t':Nat} (I:Inv X pins σ H s) (hH:H l=some (.lst xs))
 (e:s.heap.get? l=some { cls:=.type "list", data:=.seq its.toArray n }) (hf:f its.toArray=its'.toArray) (hv:Vals ys its') (hz:ys.length≤sizeLine) :
 Inv X pins σ (upd H l (.lst ys)) { s with heap:=s.heap.update l (Obj.mapSeq f),toks:=t' }:=by
 have q:=PySem.IsL.update e f
 rw [hf] at q
 refine I.write (x:=l) (e:=l) (by rw [hH];exact trivial) (.inl rfl) (fun b' u hb hu=>(Heap.get?_update_other s.heap (Obj.mapSeq f) (Ne.symm hb)).trans hu) ⟨_,q⟩ ?_
 exact ⟨hz,its',_,hv,q⟩
theorem Inv.lnew {its:List Value} {t':Nat} (I:Inv X pins σ H s) (hv:Vals ys its) (hz:ys.length≤sizeLine) :
 Inv X pins σ (upd H s.heap.objs.size (.lst ys)) { s with heap:=s.heap.push { cls:=.type "list", data:=.seq its.toArray },toks:=t' } :=
 I.laid (fun _ _ q=>Heap.get?_push_of_some _ q) (7:) ⟨hz,its,0,hv,Heap.get?_push_size _ rfl⟩
theorem Inv.fresh (I:Inv X pins σ H s):H s.heap.objs.size=none:=I.hok.fresh (7:)
theorem Inv.lstM (I:Inv X pins σ H s) (hH:H l=some (.lst xs)):xs.length≤sizeLine∧∃ (its:List Value) (n:Nat),Vals xs its∧xs.length=its.length∧s.heap.get? l=some { cls:=.type "list", data:=.seq its.toArray n }:=by
 obtain ⟨z,its,n,r,e⟩:=I.hok l _ hH
 exact ⟨z,its,n,r,r.length,e⟩
end
section
variable {X:Cx}
def Lm:V→List V→Hp→VK→Prop:=fun x vs H Q=>∃ l xs y,x=.ref l∧vs=[y]∧H l=some (.lst xs)∧xs.length < sizeLine∧Q .non (upd H l (.lst (xs ++ [y])))
theorem QW:MtM X "list.append" Lm:=by
 intro pins s σ H x vs v us Q I rx rv h
 obtain ⟨l,xs,y,rfl,rfl,hH,hz,q⟩:=h
 cases rx
 obtain ⟨u,rfl,ru⟩:=rv.one
 obtain ⟨z,its,n,r,hl,e⟩:=I.lstM hH
 refine call_meets F.slot_list_append ⟨_,e,rfl⟩ F.entry_list_append (F.args_list_append_2 _ _) (PySem.list_append l its.toArray n u (by rw [List.size_toArray];lia)) ⟨e,?_⟩
 refine ⟨.non,_,I.lset (its':=its ++ [u]) hH e (by simp) (r.append (.cons ru .nil)) ?_,rfl,q⟩
 rw [List.length_append,List.length_singleton]
 lia
def Pp:V→List V→Hp→VK→Prop:=fun x vs H Q=>∃ l xs y,x=.ref l∧vs=[]∧H l=some (.lst xs)∧xs[xs.length - 1]?=some y∧Q y (upd H l (.lst xs.dropLast))
theorem Nx:MtM X "list.pop" Pp:=by
 intro pins s σ H x vs v us Q I rx rv h
 obtain ⟨l,xs,y,rfl,rfl,hH,hy,q⟩:=h
 cases rx
 have hus:=rv.zero
 subst hus
 obtain ⟨z,its,n,r,hl,e⟩:=I.lstM hH
 obtain ⟨u,hu,ru⟩:=r.get hy
 have hy':its.toArray[its.toArray.size - 1]?=some u:=by
  show its.toArray[its.length - 1]?=some u
  rw [← Array.getElem?_toList,← hl]
  exact hu
 refine call_meets F.slot_list_pop ⟨_,e,rfl⟩ F.entry_list_pop (F.args_list_pop_1 _) (MeetsSeq.list_pop_last l its.toArray n u hy' (by rw [List.size_toArray];lia)) ⟨e,?_⟩
 refine ⟨y,_,I.lset (its':=its.dropLast) hH e ?_ r.dropLast ?_,ru,q⟩
 ·show its.toArray.eraseIdxIfInBounds (its.toArray.size - 1)=its.dropLast.toArray
  rw [List.size_toArray,List.eraseIdxIfInBounds_toArray,X3]
 ·rw [List.length_dropLast]
  lia
end
section
variable {prog:Program} {w:World} {A:Around} {E:Value→Shared→Prop} {s:Shared}
set_option maxRecDepth 100000 in
end
section
variable {X:Cx}
end
end L2
namespace Att
open PySem PySem.W PySem.Calls PyProof.Rows
theorem Y4 {P:Params} {h:Heap}:∀ (ns:List Int) (vs:List Value),WellAll P h vs (ns.map WData.int)→IntsAre vs ns:=by
 intro ns
 induction ns with
 | nil =>
  intro vs w
  rw [List.map_nil] at w
  cases w
  exact .nil
 | cons n ns ih =>
  intro vs w
  rw [List.map_cons] at w
  cases w with
  | cons a b =>
   cases a
   exact .cons _ _ (ih _ b)
theorem W4 {l:OpenLaw} {n:Nat} (hn:l.most=some n) {P:Params} {h:Heap} {args:List WData} {vals:List Value}
 (hpre:l.row.toRowW.claim.pre args=true) (hwl:WellAll P h vals args) :
 ∃ a vs ns,vals=[Value.ref a]∧args=[WData.list (ns.map WData.int)]∧h.get? a=some { cls:=.type "list", data:=.seq vs.toArray }∧IntsAre vs ns∧ns.length≤n:=by
 have hsh:WShape.hasAll [] args [.list .int]=true:=(pre_splitW hpre).1
 have hc:l.pre.holds [] { args:=args }=true:=(pre_splitW hpre).2
 obtain ⟨d,r,rfl,h1,h2⟩:=hasAllW_cons hsh
 obtain rfl:=hasAllW_nil h2
 obtain ⟨xs,rfl,h3⟩:=hasW_list h1
 obtain ⟨ns,rfl⟩:=items_int h3
 have hlen:ns.length≤n:=by
  unfold OpenLaw.pre at hc
  have h4:(WTm.not (.lt (.lit (.int (n:Int))) (.len (.arg 0)))).holds [] { args:=[.list (ns.map .int)] }=true:=by
   have h4:=(holds_andW hc).1
   rw [hn] at h4
   exact h4
  have h5:=condW_of h4 (w_not (w_lt w_lit (w_len_list (w_arg rfl))))
  rw [List.length_map] at h5
  refine Nat.le_of_not_lt fun q=>?_
  have q':(n:Int) < ((ns.length:Nat):Int):=by lia
  first
   | (rw [decide_eq_true q'] at h5;exact absurd h5 (by decide))
   | (simp at h5;lia)
 cases hwl with
 | cons w1 w2 =>
  cases w2
  cases w1 with
  | list ho hall=>exact ⟨_,_,ns,rfl,rfl,ho,Y4 ns _ hall,hlen⟩
theorem VF (l:OpenLaw) (args:List WData):l.row.toRowW.claim.post args (.bool true) args=true :=
 postW_of (r:=l.row.toRowW) (X:=(true == true))
  (show WShape.has [] (.bool true) .bool=true by first | rfl | decide | simp [WShape.has,WShape.arms,WShape.armsAll])
  (show (WTm.eq .res (.lit (.bool true))).value [] { args:=args,res:=some (.bool true),after:=args }=some (.bool (true == true)) from w_eq_bool (w_res rfl) w_lit) rfl
theorem attach_call {l:OpenLaw} {n:Nat} {q:Program} {loose:List Str} {XP:(Str→Option Value)→Heap→Prop} {YP:World→Heap→Prop} {d:DefRec}
 (hn:l.most=some n) (hdf:d.params.defaults=[])
 (call:∀ (w:World) (s₀ s₁:Shared) (mg mb:Str→Option Value) (fa:Addr) (o:Obj) (pm cd doc:Value) (a:Addr) (vs:List Value) (ns:List Int),Ground q loose [] XP w s₀ mg mb s₁.heap→YP w s₁.heap →
  s₁.heap.get? fa=some o→o.data=.func (docDef d.name d.params d.body d.scope pm cd doc)→s₁.heap.CodeRec cd d.name→mg d.name=some (.ref fa) →
  s₁.heap.get? a=some { cls:=.type "list", data:=.seq vs.toArray }→IntsAre vs ns→ns.length≤n→s₁.gens=#[] →
  codeAny (model l.prog w) callerA (.call (.ref fa) ⟨[.ref a],[]⟩) (fun r s'=>r=.ok (.ret (.bool true))∧OldK s₁.heap s'.heap∧s'.os=s₁.os∧AllBare s'.gens) s₁) :
 WalkO q loose XP YP l.row.toRowW d [] (fun f vs=>PySem.call f vs):=by
 intro w s₀ s₁ mg mb G Y fa o pm cd doc dV kV ho hd hcd hD hmg hg args vals as hpre hlay hrd hwl hlo
 obtain rfl:dV=.none:=Dflts.none hD hdf
 obtain rfl:kV=.none:=Dflts.noKw hD
 obtain ⟨a,vs,ns,rfl,rfl,hobj,hints,hlen⟩:=W4 hn hpre hwl
 refine enter_call (codeAny_mono (call w s₀ s₁ mg mb fa o pm cd doc a vs ns G Y ho (fd_plain hd) hcd hmg hobj hints hlen hg) fun r s' hq=>?_)
 obtain ⟨rfl,h2,h3,h4⟩:=hq
 exact ⟨.inl ⟨.bool true,.bool true,[],rfl,fun _=>rfl,.bool true,VF l _,fun _=>⟨List.Pairwise.nil,fun _ hm=>(nomatch hm)⟩⟩,h2,h3,h4⟩
section
variable {prog:Program} {w:World} {A:Around} {E:Value→Shared→Prop} {s:Shared} {K:Frag}
def Pt (h:Heap) (L d:Addr):List (11:):=(List.range h.objs.size).filterMap fun a=>if a=L∨a=d then none else (h.get? a).map fun o=>(a,o)
end
end Att
namespace L2
open PySem PySem.Spec PyProof.Rows
theorem Jc:∀ {vs:List Value} {ns:List Int},IntsAre vs ns→Vals (ns.map V.int) vs
 | _,_,.nil=>.nil
 | _,_,.cons n t h=>.cons ⟨t,rfl⟩ (Jc h)
def Ny (H:Hp):Prop:=∀ b,H b=none∨∃ o xs,H b=some (.frz o (.lst xs))
theorem GZ {P:Program} {w:World} {K:PySem.W.Frag} {mg mb:Str→Option Value} {CX:CXT} {k:Nat} {fa a:Addr} {fd:FuncData} {x:Str} {sp:Sp} {s₁:Shared} {vs:List Value} {ns:List Int}
 (KX:K.In s₁.heap) (hns:s₁.heap.Ns mainGlobals mg) (hb:s₁.heap.Ns builtinsNs mb) (hbb:∀ x:Str,x ≠ "__name__" → mb x=bootBuiltins x) (hlim:s₁.heap.NoLimit) (hg:s₁.gens=#[])
 (ha:s₁.heap.get? a=some { cls:=.type "list", data:=.seq vs.toArray }) (hi:IntsAre vs ns) (hl:ns.length≤sizeLine) (hr:Room k callerA)
 (F:∀ base:Heap,K.In base→base.Ns mainGlobals mg→FnOk P w K mg base CX k fa fd [x] sp) (hbind:∀ (s:Shared) (u:Value),BindsTo s fd ⟨[u],[]⟩ [(x,u)])
 (hsp:∀ H:Hp,Ny H→SqL K H a (ns.map V.int)→sp [.ref a] H (fun v _=>v=.bl true) fun _ _ _=>False)
 (hCX:∀ H e s',CX [] H s₁ (fun _ _ _=>False) e s'→False) :
 codeAny (model P w) callerA (.call (.ref fa) ⟨[.ref a],[]⟩) (fun r s'=>r=.ok (.ret (.bool true))∧OldK s₁.heap s'.heap∧s'.os=s₁.os∧AllBare s'.gens) s₁:=by
 have rv:=Jc hi
 have lenV:=hi.length
 have core:∀ H:Hp,Ny H→SqL K H a (ns.map V.int)→HOk P w H s₁.heap→(∀ b,H b≠none→b=a)→(H a≠none→K.lookup a=none) →
  codeAny (model P w) callerA (.call (.ref fa) ⟨[.ref a],[]⟩) (fun r s'=>r=.ok (.ret (.bool true))∧OldK s₁.heap s'.heap∧s'.os=s₁.os∧AllBare s'.gens) s₁:=by
  intro H hO hS hok hA hK
  have base_of:∀ {b:Addr} {o:Obj},s₁.heap.get? b=some o→H b=none→(Jx s₁.heap H).get? b=some o:=fun e n=>Lf e n
  have noA:∀ {b:Addr} {o:Obj} {es:Array DictEntry} {ep:Nat},s₁.heap.get? b=some o→o.data=.dict es ep→H b=none:=fun {b o es ep} e d=>by
   cases q:H b with
   | none=>rfl
   | some u =>
    have e':b=a:=hA b (by rw [q];simp)
    subst e'
    rw [ha] at e;cases e
    have d':Data.seq vs.toArray _=Data.dict es ep:=d
    cases d'
  have nsK:∀ {b:Addr} {m:Str→Option Value},s₁.heap.Ns b m→(Jx s₁.heap H).Ns b m:=fun {b m} ⟨o,es,ep,e,d,r⟩=>⟨o,es,ep,base_of e (noA e d),d,r⟩
  have hKb:K.In (Jx s₁.heap H):=fun b o e=>base_of (KX b o e) (by
   cases q:H b with
   | none=>rfl
   | some u =>
    have e':b=a:=hA b (by rw [q];simp)
    subst e'
    rw [hK (by rw [q];simp)] at e;cases e)
  have hM:Mod K mg (Jx s₁.heap H):=⟨hKb,nsK hns,⟨mb,nsK hb,hbb⟩,let ⟨mc,h1,h2⟩:=hlim;⟨mc,nsK h1,h2⟩⟩
  have e0:Env0 P w K mg (Jx s₁.heap H) callerA [] s₁ H:=⟨rfl,hM,fun b o e=>Lz e,Nat.le_of_eq (VE _ _),trivial,fun b hb=>absurd (show b ∈ ([]:List Addr) from hb) (by simp),hok,.of_eq hg⟩
  refine codeAny_mono ((F _ hKb (nsK hns)).run callerA [] s₁ H ⟨[.ref a],[]⟩ [.ref a] [.ref a] _ _ hr e0 (hbind s₁ (.ref a)) (.cons rfl .nil) (hsp H hO hS)) fun r s' h=>?_
  cases r with
  | error e=>exact (hCX H e s' h).elim
  | ok fl =>
   cases fl with
   | next=>exact False.elim h
   | brk=>exact False.elim h
   | cont=>exact False.elim h
   | ret u =>
    obtain ⟨v,H',os,bare,un,hok',r',q⟩:=h
    have q':v=.bl true:=q
    subst q'
    obtain rfl:u=Value.bool true:=r'
    refine ⟨rfl,OldK.of_keep fun b o e=>?_,os,bare⟩
    cases q:H b with
    | none=>exact un.keep b o e q (by intro z;exact absurd (show b ∈ ([]:List Addr) from z) (by simp)) (by simp)
    | some u =>
     rcases hO b with z | ⟨ob,xs,z⟩
     ·rw [q] at z;cases z
     ·have z2:=un.frzs b ob _ z
      obtain ⟨e1,_⟩:=hok b _ z
      obtain ⟨e2,_⟩:=hok' b _ z2
      rw [e] at e1;cases e1
      exact e2
 cases hk:K.lookup a with
 | some o =>
  have e:=KX a o hk
  rw [ha] at e
  cases e
  refine core (fun _=>none) (fun _=>.inl rfl) (.inr ⟨_,vs.toArray,_,hk,rfl,rfl,rfl,by rw [List.size_toArray,lenV];exact hl,by simpa using rv⟩) (fun b u z=>by have z':(none:Option HO)=some u:=z;cases z') (fun b z=>absurd rfl z) fun z=>absurd rfl z
 | none =>
  refine core (fun b=>if b=a then some (.frz { cls:=.type "list", data:=.seq vs.toArray } (.lst (ns.map V.int))) else none) (fun b=>?_) (.inl (.inr ⟨{ cls:=.type "list", data:=.seq vs.toArray },if_pos rfl⟩)) (fun b u z=>?_) (fun b z=>?_) fun _=>hk
  ·by_cases hb:b=a
   ·exact .inr ⟨_,_,if_pos hb⟩
   ·exact .inl (if_neg hb)
  ·by_cases hb:b=a
   ·have z':=(if_pos hb).symm.trans z
    cases z'
    subst hb
    exact ⟨ha,by rw [List.length_map];exact hl,vs,_,rv,ha⟩
   ·have z':=(if_neg hb).symm.trans z
    cases z'
  ·by_cases hb:b=a
   ·exact hb
   ·exact absurd (if_neg hb) z
end L2
namespace L2
open PySem PySem.Spec PyProof.Rows
abbrev KOf {K:PySem.W.Frag} {h:Heap} (_:K.In h):PySem.W.Frag:=K
theorem walk_of {l:PySem.W.OpenLaw} {n k:Nat} {q:Program} {loose:List Str} {XP:(Str→Option Value)→Heap→Prop} {YP:World→Heap→Prop} {d:DefRec} {K:Params→PySem.W.Frag} {CX:World→CXT} {sp:World→Sp} {x:Str}
 (hn:l.most=some n) (hn2:n≤sizeLine) (hdf:d.params.defaults=[]) (hr:Room k callerA)
 (hY:∀ (w:World) (h:Heap),YP w h→(K w.params).In h)
 (F:∀ (w:World) (mg:Str→Option Value) (fa:Addr) (h:Heap),(K w.params).In h→h.Ns mainGlobals mg→mg d.name=some (.ref fa) →
  ∃ fd:FuncData,(∀ (s:Shared) (u:Value),BindsTo s fd ⟨[u],[]⟩ [(x,u)]) ∧
   ∀ base:Heap,(K w.params).In base→base.Ns mainGlobals mg→FnOk l.prog w (K w.params) mg base (CX w) k fa fd [x] (sp w))
 (hsp:∀ (w:World) (H:Hp) (a:Addr) (ns:List Int),ns.length≤n→Ny H→SqL (K w.params) H a (ns.map V.int)→sp w [.ref a] H (fun v _=>v=.bl true) fun _ _ _=>False)
 (hCX:∀ (w:World) (H:Hp) (s:Shared) (e:Value) (s':Shared),CX w [] H s (fun _ _ _=>False) e s'→False) :
 PySem.W.WalkO q loose XP YP l.row.toRowW d [] (fun f vs=>PySem.call f vs):=by
 refine Att.attach_call hn hdf fun w s₀ s₁ mg mb fa o pm cd doc a vs ns G Y ho hd hcd hmg hobj hints hlen hg=>?_
 have KX:=hY w _ Y
 obtain ⟨fd,hb,hF⟩:=F w mg fa _ KX G.T.g hmg
 exact GZ KX G.T.g G.T.b G.T.builtins G.T.nolimit hg hobj hints (Nat.le_trans hlen hn2) hr hF hb (fun H hO hS=>hsp w H a ns hlen hO hS) fun H e s'=>hCX w H s₁ e s'
end L2
/- THE LAST THEOREM (shape;LID,My.* are yours):
 My.Adr: a structure of the addresses that your layer names (classes,functions);My.Txt K t: a structure (Prop) of the equations over K;
 My.txt_mk:{K} {implicit addresses ..} (e1:nsIn K mainGlobals "law" = some (some (.ref f))) (e2:K.lookup f=some ⟨oc,od,.func (fnOf "law" "law" params body scope dV kV doc pm an cdv ct),sl⟩) (e3:codeIn K cdv "law" = true) .. : ∃ t,My.Txt K t
set_option maxRecDepth 100000 in
set_option maxHeartbeats 0 in
theorem PySem.Challenge.cw_LID_holds : PySem.Challenge.rw_LID.Holds := by
 w_on;o_law;k_head;(case hw=>w_witness2)
 k_fill
 refine L2.walk_of (l:=PySem.Challenge.rw_LID) (n:=63) (k:=40) (x:="script") (CX:=fun w=>..) (sp:=fun _=>My.sp_law) rfl (by decide) rfl ⟨rfl,by decide,by decide⟩ (fun w h Y=>PySem.W.kIn_of Y) ?F ?S ?C
 case F =>
  intro w mg fa h KX G hmg
  have T:∃ t,My.Txt (L2.KOf KX) t:=by
   dsimp only [L2.KOf]                          -- K must stand as «<heap const> w.params» for k_is
   refine' My.txt_mk ?e1 ?e2 ?e3 ..
   (case e1=>PySem.W.k_is)                    -- in the order: a name -> its address -> its object -> its parts
   (case e2=>PySem.W.k_is)
   ..
  obtain ⟨t,T⟩:=T
  have e0:=hmg.symm.trans (PySem.W.mg_of KX G T.law)
  cases e0                                       -- fa is the law's own address
  exact ⟨_,fun s u=>.of_eq rfl,fun base kb nb=>My.law_fn T kb nb⟩     -- if «.of_eq rfl» comes too early: refine' ⟨_,?b,fun base kb nb=>My.law_fn T kb nb⟩;exact fun s u=>.of_eq rfl
 case S=>exact fun w H a ns hl hO hS=>..
 case C=>exact ..
(the tactic k_is has no namespace: write k_is) -/
namespace L2
open PySem PySem.Spec PyProof.Rows
def inClass (s:Stmt) (j:Nat):Stmt:=match s with
 | .ClassDef _ _ _ body _ _ _ _ _ _ _=>body.getD j (.Pass ⟨0,0,0,0⟩)
 | _=>.Pass ⟨0,0,0,0⟩
def defArgs (s:Stmt):Arguments:=match s with
 | .FunctionDef _ a _ _ _ _ _ _ _ _=>a
 | _=>{ posonlyargs:=[],args:=[],vararg:=none,kwonlyargs:=[],kw_defaults:=[],kwarg:=none,defaults:=[] }
def defBody (s:Stmt):List Stmt:=match s with
 | .FunctionDef _ _ b _ _ _ _ _ _ _=>b
 | _=>[]
def defScope (s:Stmt):Scope:=match s with
 | .FunctionDef _ _ _ _ _ _ sc _ _ _=>sc
 | _=>{ kind:=.function,names:=[],isGenerator:=false,isCoroutine:=false }
abbrev CX0:CXT:=fun _ _ _ _ _ _=>False
abbrev E0:XK:=fun _ _ _=>False
theorem XJ {X:Cx}:Yq CX0 X E0:=fun _ _ _ _ _ _ _ h=>h.elim
structure Fun (K:PySem.W.Frag) (x qual:Str) (st:Stmt) (f:Addr) (fd:FuncData):Prop where
 ex:∃ (oc:Value) (od:Option Addr) (kV doc pm:Value) (an:Option Addr) (cdv ct:Value) (osl:Array (Option Value)),
  fd=PySem.W.fnOf x qual (defArgs st) (defBody st) (defScope st) .none kV doc pm an cdv ct∧K.lookup f=some ⟨oc,od,.func fd,osl⟩∧PySem.W.codeIn K cdv qual=true
 kp:PySem.W.keepIn K (.ref f)=true
section
variable {P:Program} {w:World} {K:PySem.W.Frag} {mg:Str→Option Value} {base:Heap}
theorem Fun.ok {x qual:Str} {st:Stmt} {f:Addr} {fd:FuncData} {N ps:List Str} {k:Nat} {sp:Sp} (F:Fun K x qual st f fd) (S:FnScope N ps (defScope st)) (len:∀ vs H Q E,sp vs H Q E→vs.length=ps.length)
 (hbody:∀ (cdv:Value) (A:Around) (outer:List Env) (s:Shared) (H:Hp) (vs:List V) (Q:VK) (E:XK),Room k (A.deeper (envOfC qual (defScope st) s.heap.objs.size f cdv))→sp vs H Q E →
  ∃ t,PSs (Xu CX0 P w K mg base N qual (defScope st) f cdv A outer s H E).nox (defBody st) t∧t { nx:=fun _ H'=>Q .non H',rt:=Q } (Yh N vs) H):FnOk P w K mg base CX0 (k + 1) f fd ps sp:=by
 obtain ⟨oc,od,kV,doc,pm,an,cdv,ct,osl,rfl,lk,hcd⟩:=F.ex
 refine MK lk hcd S len fun A outer s H vs Q E hr hsp=>?_
 obtain ⟨t,h,q⟩:=hbody cdv A outer s H vs Q E hr hsp
 exact ⟨t,h.nox,q⟩
theorem Fun.binds {x qual:Str} {st:Stmt} {f:Addr} {fd:FuncData} {ps:List Str} (F:Fun K x qual st f fd)
 (h:∀ (kV doc pm:Value) (an:Option Addr) (cdv ct:Value) (us:List Value),us.length=ps.length→bindArgs (PySem.W.fnOf x qual (defArgs st) (defBody st) (defScope st) .none kV doc pm an cdv ct) ⟨us,[]⟩=pure (ps.zip us)):Binds K fd ps []:=by
 obtain ⟨oc,od,kV,doc,pm,an,cdv,ct,osl,rfl,lk,hcd⟩:=F.ex
 exact .all (h kV doc pm an cdv ct)
theorem QY {x qual:Str} {st:Stmt} {f:Addr} {oc:Value} {od an:Option Addr} {osl:Array (Option Value)} {kV doc pm cdv ct:Value} (l:K.lookup f=some ⟨oc,od,.func (PySem.W.fnOf x qual (defArgs st) (defBody st) (defScope st) .none kV doc pm an cdv ct),osl⟩)
 (c:PySem.W.codeIn K cdv qual=true) (k:PySem.W.keepIn K (.ref f)=true):Fun K x qual st f (PySem.W.fnOf x qual (defArgs st) (defBody st) (defScope st) .none kV doc pm an cdv ct):=⟨⟨oc,od,kV,doc,pm,an,cdv,ct,osl,rfl,l,c⟩,k⟩
end
theorem V7 {A:Around} {k:Nat} (hr:Room k A):A.units + 1 < cLine:=Nat.lt_of_le_of_lt (Nat.add_le_add_left (by decide:1≤64) _) hr.units
section
variable {X:Cx}
theorem pv (i:Nat) {x:Str} {pos:Pos} (hN:X.N[i]?=some x:=by rfl) (hv:Vis X.env.scope x:=by first | exact Or.inl rfl | exact Or.inr (Or.inl rfl) | exact Or.inr (Or.inr rfl)) (hd:(x == ("__debug__" : Str))=false:=by decide)
 (hcd:(x == ("__classdict__" : Str))=false:=by decide):PE X (.Name x pos) (Zu i):=V3 hN hv hd hcd
end
theorem Zb {A B:Prop} (h:B):if false=true then A else B:=by
 rw [if_neg Bool.false_ne_true]
 exact h
theorem Zn {A B:Prop} (h:A):if true=true then A else B:=by
 rw [if_pos rfl]
 exact h
theorem Y1 {c A B:Prop} [Decidable c] (h1:c→A) (h2:¬ c→B):if c then A else B:=by
 by_cases h:c
 ·rw [if_pos h]
  exact h1 h
 ·rw [if_neg h]
  exact h2 h
theorem UF {c A B:Prop} [Decidable c] (hc:c) (h:B):if (!decide c)=true then A else B:=by
 rw [decide_eq_true hc]
 exact Zb h
def Same (H H':Hp):Prop:=∀ b o,H b=some o→H' b=some o
theorem Same.refl (H:Hp):Same H H:=fun _ _ h=>h
theorem Same.trans {H H1 H2:Hp} (a:Same H H1) (b:Same H1 H2):Same H H2:=fun c o h=>b c o (a c o h)
theorem Same.free {H H':Hp} (e:Same H H') {l:Addr} (h:H' l=Option.none):H l=Option.none:=by
 cases q:H l with
 | none=>rfl
 | some o =>
  rw [e l o q] at h
  cases h
theorem Same.seq {K:PySem.W.Frag} {H H':Hp} {a:Addr} {xs:List V} (e:Same H H') (h:SqL K H a xs):SqL K H' a xs:=by
 rcases h with (h | ⟨o,h⟩) | h
 ·exact .inl (.inl (e _ _ h))
 ·exact .inl (.inr ⟨o,e _ _ h⟩)
 ·exact .inr h
end L2
set_option maxHeartbeats 4000000
namespace L2
open PySem PySem.Spec PyProof.Rows
section
variable {X:Cx}
theorem ZD:QN X (.builtin "isinstance") (fun xs H Q=>∃ x T t b,xs=[x,.ty T]∧TyOf X.K H x t∧PySem.W.kitOne X.K t (.type T)=some b∧Q (.bl b) H):=by
 intro pins s σ H xs us Q I r h
 obtain ⟨x,T,t,b,rfl,ty,e,q⟩:=h
 obtain ⟨u,c,rfl,rx,rc⟩:=WJ r
 cases (show c=Value.type T from rc)
 exact Vo I rx ty e fun tk=>⟨.bl b,H,I.tok tk,rfl,q⟩
end
section
variable {X:Cx}
end
mutual
inductive RdV (K:PySem.W.Frag) (H:Hp):V→PyData→Prop where
 | non:RdV K H .non .none
 | bl (b:Bool):RdV K H (.bl b) (.bool b)
 | int (i:Int):RdV K H (.int i) (.int i)
 | str (x:Str):RdV K H (.str x) (.str x)
 | lst {a:Addr} {xs:List V} {ds:List PyData}:SqL K H a xs→RdAll K H xs ds→RdV K H (.ref a) (.list ds)
 | tup {a:Addr} {xs:List V} {ds:List PyData}:SqT K H a xs→RdAll K H xs ds→RdV K H (.ref a) (.tuple ds)
inductive RdAll (K:PySem.W.Frag) (H:Hp):List V→List PyData→Prop where
 | nil:RdAll K H [] []
 | cons {v:V} {vs:List V} {d:PyData} {ds:List PyData}:RdV K H v d→RdAll K H vs ds→RdAll K H (v :: vs) (d :: ds)
end
section
variable {X:Cx} {pins:List (11:)} {σ:St} {H:Hp} {s:Shared}
mutual
theorem RdV.reads (I:Inv X pins σ H s):∀ {v:V} {d:PyData} {u:Value},RdV X.K H v d→RelV v u→∃ as,Reads s.heap u d as
 | _,_,u,.non,r=>by cases (show u=Value.none from r);exact ⟨_,.none⟩
 | _,_,u,.bl b,r=>by cases (show u=Value.bool b from r);exact ⟨_,.bool b⟩
 | _,_,u,.int i,r=>by obtain ⟨t,e⟩:=(show ∃ t,u=Value.int i t from r);cases e;exact ⟨_,.int i t⟩
 | _,_,u,.str x,r=>by obtain ⟨t,e⟩:=(show ∃ t,u=Value.str x t from r);cases e;exact ⟨_,.str x t⟩
 | _,_,u,@RdV.lst _ _ a xs ds hq hr,r=>by
  cases (show u=Value.ref a from r)
  obtain ⟨its,rv,⟨o,n,e,c,_,dt⟩,_⟩:=I.list hq
  obtain ⟨as,q⟩:=RdAll.reads I hr rv
  exact ⟨_,.list e c dt (by simpa using q)⟩
 | _,_,u,@RdV.tup _ _ a xs ds hq hr,r=>by
  cases (show u=Value.ref a from r)
  obtain ⟨its,rv,⟨o,e,c,n,dt⟩,_⟩:=I.tuple hq
  obtain ⟨as,q⟩:=RdAll.reads I hr rv
  exact ⟨_,.tuple e c dt (by simpa using q)⟩
theorem RdAll.reads (I:Inv X pins σ H s):∀ {vs:List V} {ds:List PyData} {us:List Value},RdAll X.K H vs ds→Vals vs us→∃ as,ReadsAll s.heap us ds as
 | _,_,_,.nil,r=>by cases r;exact ⟨_,.nil⟩
 | _,_,_,.cons h t,r=>by
  cases r with
  | cons r1 r2 =>
   obtain ⟨as,q⟩:=RdV.reads I h r1
   obtain ⟨bs,q2⟩:=RdAll.reads I t r2
   exact ⟨_,.cons q q2⟩
end
end
section
variable {X:Cx}
def Na (K:PySem.W.Frag) (A:Around) (neg:Bool):R2:=fun x y H Q=>∃ d e:PyData,RdV K H x d∧RdV K H y e∧d.canLay0=true∧e.canLay0=true∧A.units + min d.depth e.depth < cLine∧Q (.bl (if neg then !PyData.eqv d e else PyData.eqv d e)) H
theorem JK:OpR X (compareOp .Eq) (Na X.K X.A false):=by
 intro pins s σ H x y v u Q I rx ry h
 obtain ⟨d,e,hd,he,cd,ce,hu,q⟩:=h
 obtain ⟨as,q1⟩:=hd.reads I rx
 obtain ⟨bs,q2⟩:=he.reads I ry
 exact SeqAt.compareEq_reads q1 q2 cd ce hu ⟨.bl _,H,I,rfl,q⟩
theorem Ws:OpR X (compareOp .NotEq) (Na X.K X.A true):=by
 intro pins s σ H x y v u Q I rx ry h
 obtain ⟨d,e,hd,he,cd,ce,hu,q⟩:=h
 obtain ⟨as,q1⟩:=hd.reads I rx
 obtain ⟨bs,q2⟩:=he.reads I ry
 exact SeqAt.compareNe_reads q1 q2 cd ce hu ⟨.bl _,H,I,rfl,q⟩
end
mutual
theorem ZJ:∀ d:PyData,d.canLay0=true→PyData.eqv d d=true
 | .none,_=>by simp [PyData.eqv]
 | .bool _,_=>by simp [PyData.eqv]
 | .int _,_=>by simp [PyData.eqv]
 | .str _,_=>by simp [PyData.eqv]
 | .list xs,h=>by
  simp only [PyData.eqv]
  exact ZZ xs (by simpa [PyData.canLay0] using h)
 | .tuple xs,h=>by
  simp only [PyData.eqv]
  exact ZZ xs (by simpa [PyData.canLay0] using h)
 | .dict _,h=>by simp [PyData.canLay0] at h
theorem ZZ:∀ ds:List PyData,PyData.canLayAll0 ds=true→PyData.eqvAll ds ds=true
 | [],_=>by simp [PyData.eqvAll]
 | d :: ds,h=>by
  simp only [PyData.canLayAll0,Bool.and_eq_true] at h
  simp only [PyData.eqvAll,Bool.and_eq_true]
  exact ⟨ZJ d h.1,ZZ ds h.2⟩
end
end L2
namespace L2
open PySem PySem.Spec PyProof.Rows
structure Fn (P:Program) (w:World) (K:PySem.W.Frag) (mg:Str→Option Value) (base:Heap) (k:Nat) (x:Str) (ps:List Str) (sp:Sp):Prop where
 ex:∃ (f:Addr) (fd:FuncData),FnOk P w K mg base CX0 k f fd ps sp∧Binds K fd ps []∧PySem.W.keepIn K (.ref f)=true∧mg x=some (.ref f)
theorem Qp {X:Cx} {k k':Nat} {x:Str} {ps:List Str} {sp:Sp} {p pos:Pos} {e:Expr} {es:List Expr} {t:TA} (F:Fn X.prog X.w X.K X.mg X.base k x ps sp) (hr:Room k' X.A) (ha:PA X (e :: es) t) (hk:k≤k':=by decide) (hg:Gl X x:=by rfl)
 (hdb:(x == ("__debug__" : Str))=false:=by decide) (he:starEach (e :: es) X.env=(false,eval e X.env) :: starEach es X.env:=by rfl) (hpl:(backTo pos (starEach es X.env)).any (·.1)=false:=by rfl) :
 PE X (.Call (.Name x p) (e :: es) [] pos) (Jn sp [] E0 t):=by
 obtain ⟨f,fd,h1,h2,h3,h4⟩:=F.ex
 exact LU h1 (hr.mono hk) hg h4 h3 h2 .nil XJ ha hdb he hpl
theorem NH {c A B:Prop} [Decidable c] (hc:c) (h:A):if decide c=true then A else B:=by
 rw [decide_eq_true hc]
 exact Zn h
theorem Gs {c A B:Prop} [Decidable c] (hc:¬ c) (h:B):if decide c=true then A else B:=by
 rw [decide_eq_false hc]
 exact Zb h
theorem NL {b:Bool} {A B:Prop} (h1:b=true→A) (h2:b=false→B):if b=true then A else B:=by
 cases b with
 | true=>exact Zn (h1 rfl)
 | false=>exact Zb (h2 rfl)
theorem Qe {H:Hp} {p:Addr} (h:H p=Option.none) (o:HO):Same H (upd H p o):=fun b u q=>by rw [Qg (Qh q h)];exact q
def S (l:List Nat):Str:=⟨l.toArray⟩
theorem VI (l:List Nat):(S l).cps.toList=l:=by simp [S]
theorem WQ (l:List Nat):(S l).length=l.length:=by simp [S,Str.length]
theorem Ol {a b:List Nat} (h:S a=S b):a=b:=by
 have:=congrArg (fun z:Str=>z.cps.toList) h
 simpa [VI] using this
theorem N6 (a b:List Nat):S a ++ S b=S (a ++ b):=by
 show Str.append (S a) (S b)=S (a ++ b)
 simp [Str.append,S]
end L2
namespace L2
open PySem PySem.Spec PyProof.Rows
def Px (t:TS):TS:=fun D σ H=>∃ R:St→Hp→Prop,t { D with nx:=R } σ H∧∀ σ' H',R σ' H'→D.nx σ' H'
theorem Uo {X:Cx} {st:Stmt} {t:TS} (h:PS X st t):PS X st (Px t):=by
 intro pins s σ H D I hw
 obtain ⟨R,h1,h2⟩:=hw
 refine thn (h pins s σ H { D with nx:=R } I h1) fun f s1 q=>?_
 cases f with
 | next =>
  obtain ⟨σ',H',I',q⟩:=q
  exact ⟨σ',H',I',h2 _ _ q⟩
 | brk=>exact q
 | cont=>exact q
 | ret v=>exact q
theorem Yn:∀ xs:List Str,PyData.depthAll (xs.map PyData.str)=0
 | []=>by simp [PyData.depthAll]
 | x :: r=>by simp [PyData.depthAll,PyData.depth,Yn r]
end L2
namespace L2
open PySem PySem.Spec PyProof.Rows
structure DefAt (K:PySem.W.Frag) (x:Str) (st:Stmt):Prop where
 ex:∃ (f:Addr) (oc:Value) (od:Option Addr) (kV doc pm:Value) (an:Option Addr) (cdv ct:Value) (osl:Array (Option Value)),
  PySem.W.nsIn K mainGlobals x=some (some (.ref f))∧K.lookup f=some ⟨oc,od,.func (PySem.W.fnOf x x (defArgs st) (defBody st) (defScope st) .none kV doc pm an cdv ct),osl⟩∧PySem.W.codeIn K cdv x=true∧PySem.W.keepIn K (.ref f)=true
theorem DefAt.mk' {K:PySem.W.Frag} {x:Str} {st:Stmt} {f:Addr} {oc:Value} {od:Option Addr} {kV doc pm:Value} {an:Option Addr} {cdv ct:Value} {osl:Array (Option Value)}
 (a:PySem.W.nsIn K mainGlobals x=some (some (.ref f))) (l:K.lookup f=some ⟨oc,od,.func (PySem.W.fnOf x x (defArgs st) (defBody st) (defScope st) .none kV doc pm an cdv ct),osl⟩) (c:PySem.W.codeIn K cdv x=true) (k:PySem.W.keepIn K (.ref f)=true):DefAt K x st :=
 ⟨f,oc,od,kV,doc,pm,an,cdv,ct,osl,a,l,c,k⟩
theorem DefAt.fn {P:Program} {w:World} {K:PySem.W.Frag} {mg:Str→Option Value} {base h:Heap} {k:Nat} {x:Str} {st:Stmt} {ps:List Str} {sp:Sp} (D:DefAt K x st) (X:K.In h) (G:h.Ns mainGlobals mg)
 (ok:∀ (f:Addr) (fd:FuncData),Fun K x x st f fd→FnOk P w K mg base CX0 k f fd ps sp)
 (hb:∀ (kV doc pm:Value) (an:Option Addr) (cdv ct:Value) (us:List Value),us.length=ps.length→bindArgs (PySem.W.fnOf x x (defArgs st) (defBody st) (defScope st) .none kV doc pm an cdv ct) ⟨us,[]⟩=pure (ps.zip us)):Fn P w K mg base k x ps sp:=by
 obtain ⟨f,oc,od,kV,doc,pm,an,cdv,ct,osl,a,l,c,kp⟩:=D.ex
 have F:=QY (st:=st) l c kp
 exact ⟨f,_,ok f _ F,F.binds hb,kp,PySem.W.mg_of X G a⟩
end L2
namespace L2
open PySem PySem.Spec PyProof.Rows
section
variable {X:Cx}
def OE (K:PySem.W.Frag):R2:=fun x y H Q=>∃ a b xs ys,x=.ref a∧y=.ref b∧SqT K H a xs∧SqT K H b ys∧xs.length + ys.length≤sizeLine ∧
 ∀ p H',Same H H'→SqT K H' p (xs ++ ys)→Q (.ref p) H'
theorem JE:OpR X (binaryOp .Add) (OE X.K):=by
 intro pins s σ H x y v u Q I rx ry h
 obtain ⟨a,b,xs,ys,e1,e2,ha,hb,hz,q⟩:=h
 by_cases hx:xs=[]
 ·subst e1;subst e2;subst hx
  cases (show v=Value.ref a from rx)
  cases (show u=Value.ref b from ry)
  obtain ⟨its,r1,p1,_⟩:=I.tuple ha
  obtain ⟨its2,r2,p2,_⟩:=I.tuple hb
  cases r1
  obtain ⟨⟨cls,dd,data,sl⟩,ho,hc,n,hd⟩:=id p1
  obtain ⟨⟨cls2,dd2,data2,sl2⟩,ho2,hc2,n2,hd2⟩:=id p2
  simp only at hc hd hc2 hd2
  subst hc hd hc2 hd2
  exact concat_meets ⟨_,ho,rfl⟩ ⟨_,ho2,rfl⟩ noFill_tuple_add seq_tuple_add PySem.F.slot_tuple_add PySem.F.entry_tuple_add (PySem.F.args_tuple_add_2 _ _)
   (tuple_addW0 a b _ its2.toArray n n2 dd dd2 sl sl2 rfl) ⟨ho,ho2,⟨.ref b,H,I,rfl,q b H (Same.refl H) (by simpa using hb)⟩⟩
 ·refine Mn pins s σ H x y v u Q I rx ry ⟨a,b,xs,ys,e1,e2,ha,hb,hx,hz,fun hy=>?_,fun hy p hp=>?_⟩
  ·subst hy
   exact q a H (Same.refl H) (by simpa using ha)
  ·exact q p _ (Qe hp _) (SqT.of Qb)
theorem Same.seqT {K:PySem.W.Frag} {H H':Hp} {a:Addr} {xs:List V} (e:Same H H') (h:SqT K H a xs):SqT K H' a xs:=by
 rcases h with (h | ⟨o,h⟩) | h
 ·exact .inl (.inl (e _ _ h))
 ·exact .inl (.inr ⟨o,e _ _ h⟩)
 ·exact .inr h
end
section
variable {X:Cx} {tg:Expr}
end
end L2
namespace L2
open PySem PySem.Spec PyProof.Rows
theorem OL (xs:List V) (k:Nat):XW xs none (some (k:Int))=xs.take k:=by
 unfold XW
 rw [HT.sIx_none,HT.sIx_nat,List.drop_zero,Nat.sub_zero]
 by_cases h:k≤xs.length
 ·rw [Nat.min_eq_left h]
 ·rw [Nat.min_eq_right (4:),List.take_of_length_le (7:),List.take_of_length_le (4:)]
theorem QK:sizeLine=16777216:=by decide
theorem WB {n:Nat} (h:n≤5000):n≤sizeLine:=by rw [QK];lia
end L2
namespace L2
open PySem PySem.Spec PyProof.Rows
def QP (X:Cx) (N':List Str) (scope:Scope) (cl:List (Str × Addr)) (C:Addr) (fp:List Addr) (s₀:Shared) (H₀:Hp):Cx :=
 { X with N:=N',s₀:=s₀,H₀:=H₀,env:=compEnvC scope cl C X.env,outer:=X.stack,ex:=fp,fn:=fun _=>false,pn:=[],xe:=fun _ _=>False }
def PF (X:Cx) (ifs:List Expr) (t:TT):Prop :=
 ∀ (pins:List (11:)) (s:Shared) (σ:St) (H:Hp) (Q:Bool→Hp→Prop),Inv X pins σ H s→t σ H Q →
  wpAny (6:) X.A (forIn ifs true fun c r=>if r=true then do let ok ← isTrue c X.env (eval c X.env);pure (ForInStep.yield ok) else pure (ForInStep.yield r)) (TP X pins σ Q) X.xe s
theorem QT {X:Cx}:PF X [] (fun _ H Q=>Q true H):=by
 intro pins s σ H Q I h
 rw [List.forIn_nil]
 exact wpAny_pure ⟨H,I,h⟩
theorem ZF {X:Cx} {c:Expr} {t:TT} (hc:PT X c t):PF X [c] t:=by
 intro pins s σ H Q I h
 rw [List.forIn_cons]
 refine wpAny_bind ?_
 rw [if_pos rfl]
 refine wpAny_bind (thn (hc pins s σ H Q I h) fun ok s1 q=>wpAny_pure ?_)
 dsimp only
 rw [List.forIn_nil]
 exact wpAny_pure q
structure OwnAt (X:Cx) (pins:List (11:)) (H:Hp) (s:Shared) (C:Addr):Prop where
 ns:∃ m,s.heap.Ns C m
 free:H C=none
 loc:C≠X.env.locals
 above:X.s₀.heap.objs.size≤C
 cells:∀ x c,X.env.cells.lookup x=some c→c≠C
 pins:∀ p ∈ X.pn ++ pins,p.1≠C
theorem OwnAt.go {X:Cx} {pins:List (11:)} {σ:St} {H:Hp} {s:Shared} {C:Addr} {h':Heap} (I:Inv X pins σ H s) (o:OwnAt X pins H s C) (hb:Heap.SameBut C s.heap h'):Inv X pins σ H { s with heap:=h' } :=
 I.turned (t':=s.toks) (fun b u hb' e=>(hb.2 b hb').trans e) o.free o.loc (.inr o.above) o.cells o.pins
def Xk (n:Nat) (Pv:Nat→List V→Hp→Prop):Nat→Nat→Hp→Prop:=fun i m H=>m=n - i∧i≤n∧∃ ys,Pv i ys H
def V6 (n:Nat) (Pv:Nat→List V→Hp→Prop) (acc:Addr) (i m:Nat):VK:=fun y H5=>∃ ys,H5 acc=some (.lst ys)∧ys.length < sizeLine∧∃ m',m' < m∧Xk n Pv (i + 1) m' (upd H5 acc (.lst (ys ++ [y])))
theorem Qx {n:Nat} {Pv:Nat→List V→Hp→Prop} {acc:Addr} {i:Nat} {y:V} {H5:Hp} {ys:List V} (hi:i < n) (hacc:H5 acc=some (.lst ys)) (hl:ys.length < 5000) (hP:Pv (i + 1) (ys ++ [y]) (upd H5 acc (.lst (ys ++ [y])))):V6 n Pv acc i (n - i) y H5 :=
 ⟨ys,hacc,Nat.lt_trans hl (by decide),n - (i + 1),by lia,rfl,hi,_,hP⟩
theorem Zr {n:Nat} {Pv:Nat→List V→Hp→Prop} {i:Nat} {H:Hp} {ys:List V} (hi:i < n) (hP:Pv (i + 1) ys H):∃ m',m' < n - i∧Xk n Pv (i + 1) m' H:=⟨n - (i + 1),by lia,rfl,hi,ys,hP⟩
end L2
namespace L2
open PySem PySem.Spec PyProof.Rows
end L2
namespace L2
open PySem PySem.Spec PyProof.Rows
section
variable {X:Cx}
theorem Zp:QN X (.builtin "isinstance") (fun xs H Q=>∃ a ys T b,xs=[.ref a,.ty T]∧SqT X.K H a ys∧PySem.W.kitOne X.K (.type "tuple") (.type T)=some b∧Q (.bl b) H):=by
 intro pins s σ H xs us Q I r h
 obtain ⟨a,ys,T,b,rfl,ht,e,q⟩:=h
 obtain ⟨u,c,rfl,rx,rc⟩:=WJ r
 cases (show c=Value.type T from rc)
 cases (show u=Value.ref a from rx)
 obtain ⟨its,r1,p,_⟩:=I.tuple ht
 obtain ⟨o,h1,h2,_⟩:=p
 exact PySem.W.kia_one PySem.W.kitx_tuple I.kIn ⟨o,h1,h2⟩ e (fun z=>nomatch z) fun tk=>⟨.bl b,H,I.tok tk,rfl,q⟩
def Oo (t:TT):TT:=fun σ H Q=>∃ R:Bool→Hp→Prop,t σ H R∧∀ b H',R b H'→Q b H'
theorem La {e:Expr} {t:TT} (h:PT X e t):PT X e (Oo t):=by
 intro pins s σ H Q I hw
 obtain ⟨R,h1,h2⟩:=hw
 refine thn (h pins s σ H R I h1) fun b s1 q=>?_
 obtain ⟨H',I',q⟩:=q
 exact ⟨H',I',h2 _ _ q⟩
end
theorem Wy {K:PySem.W.Frag} {H:Hp}:∀ p:List Int,RdAll K H (p.map V.int) (p.map PyData.int)
 | []=>.nil
 | i :: r=>.cons (.int i) (Wy r)
theorem Xp:∀ p:List Int,PyData.canLayAll0 (p.map PyData.int)=true
 | []=>by simp [PyData.canLayAll0]
 | i :: r=>by simp only [List.map_cons,PyData.canLayAll0,PyData.canLay0,Xp r,Bool.and_self]
end L2
namespace L2
open PySem PySem.Spec PyProof.Rows
section
variable {X:Cx} {pins:List (11:)} {σ:St} {H:Hp} {s:Shared} {h':Heap}
theorem Inv.turnedL {ch:List Addr} {t':Nat} (I:Inv X pins σ H s) (k:∀ b o,b ∉ ch→s.heap.get? b=some o→h'.get? b=some o) (hf:∀ b ∈ ch,Z3 X pins H b):Inv X pins σ H { s with heap:=h',toks:=t' }:=by
 have nch:∀ b u,H b=some u→b ∉ ch:=fun b u e z=>by rw [(hf b z).1] at e;cases e
 refine I.step (g':=s.gens) (d':=s.drawn) (ch:=ch) (fun b hb=>?_) (fun b o _ _ hc e _=>k b o hc e) (fun b o _ _ hc e _=>⟨o.slots,k b o hc e⟩) (fun _ _ _ _ n=>n)
  (fun b o hc e=>⟨o,k b o hc e⟩) (fun _ _ e=>e) (fun _ _ _ e=>e) (fun b ps e=>⟨#[],by rw [e];simp⟩) (fun m hm=>?_) (fun b u e=>?_) I.bare
 ·obtain ⟨f0,f1,f2,f3,f4,f5⟩:=hf b hb
  exact ⟨f3,f1,f4,f5⟩
 ·obtain ⟨o,es,ep,ho,r⟩:=hm
  exact ⟨o,es,ep,k _ o (fun z=>(hf _ z).2.1 rfl) ho,r⟩
 ·refine (I.hok b u e).stay (fun c v hc q=>k c v ?_ q) (fun _ q=>q) fun _ _ q=>q
  rcases hc with z | z
  ·rw [z];exact nch b u e
  ·exact nch c _ z
theorem Inv.turnedNew {ch:List Addr} {t':Nat} {a:Addr} {o:HO} (I:Inv X pins σ H s) (k:∀ b o,b ∉ ch→s.heap.get? b=some o→h'.get? b=some o) (hf:∀ b ∈ ch,Z3 X pins H b)
 (hp:s.heap.objs.size≤a) (new:ObjOk X.prog X.w (upd H a o) h' a o):Inv X pins σ (upd H a o) { s with heap:=h',toks:=t' }:=by
 have hn:H a=none:=I.hok.fresh hp
 have nch:∀ b u,H b=some u→b ∉ ch:=fun b u e z=>by rw [(hf b z).1] at e;cases e
 have lt:∀ b u,s.heap.get? b=some u→b≠a:=fun b u e=>Nat.ne_of_lt (Nat.lt_of_lt_of_le (Heap.lt_size e) hp)
 refine I.step (g':=s.gens) (d':=s.drawn) (ch:=ch) (fun b hb=>?_) (fun b o _ _ hc e _=>k b o hc e) (fun b o _ _ hc e _=>⟨o.slots,k b o hc e⟩) (fun b u _ e n=>by rw [Qg (lt b u e)];exact n)
  (fun b o hc e=>⟨o,k b o hc e⟩) (fun b xs e=>by rw [Qg (Qh e hn)];exact e) (fun b u xs e=>by rw [Qg (Qh e hn)];exact e) (fun b ps e=>⟨#[],by rw [Qg (Qh e hn),e];simp⟩) (fun m hm=>?_) (fun b u e=>?_) I.bare
 ·obtain ⟨f0,f1,f2,f3,f4,f5⟩:=hf b hb
  exact ⟨f3,f1,f4,f5⟩
 ·obtain ⟨o,es,ep,ho,r⟩:=hm
  exact ⟨o,es,ep,k _ o (fun z=>(hf _ z).2.1 rfl) ho,r⟩
 ·by_cases hb:b=a
  ·subst hb
   rw [Qb] at e;cases e
   exact new
  ·rw [Qg hb] at e
   refine (I.hok b u e).stay (fun c v hc q=>k c v ?_ q) (fun c q=>by rw [Qg (Qh q hn)];exact q) fun c xs q=>by rw [Qg (Qh q hn)];exact q
   rcases hc with z | z
   ·rw [z];exact nch b u e
   ·exact nch c _ z
end
def Itz (K:PySem.W.Frag) (a b:Addr) (xs ys:List V):It :=
 ⟨fun i H=>SqL K H a xs∧SqL K H b ys∧i < xs.length∧i < ys.length,fun i H x H'=>∃ p u v,H p=none∧x=.ref p∧H'=upd H p (.tup [u,v])∧xs[i]?=some u∧ys[i]?=some v,fun i H=>SqL K H a xs∧SqL K H b ys∧(xs.length≤i∨ys.length≤i)⟩
theorem Gh {P:Program} {w:World} {K:PySem.W.Frag} {elts:List Expr} {k1:Nat} {pos:Pos} (a b z:Addr) (xs ys:List V) (TI TO i1 i2:Addr) (Ap:ZipApart z TI TO i1 i2 a b) :
 Turn P w K (.Tuple elts k1 pos) (Itz K a b xs ys) [z,TI,TO,i1,i2] z (fun i h=>IsZip h z TI TO .none∧IsPair h TI (.ref i1) (.ref i2)∧(∃ u v,IsPair h TO u v)∧h.IsListIter i1 a i∧h.IsListIter i2 b i) where
 mem:=by simp
 obj:=fun i h st c hc=>by
  obtain ⟨hz,hTI,⟨u,v,hTO⟩,h1,h2⟩:=st
  simp only [List.mem_cons,List.mem_nil_iff,or_false] at hc
  rcases hc with rfl | rfl | rfl | rfl | rfl
  ·exact ⟨_,hz,fun v z=>by have z':Data.fields _=Data.cell v:=z;cases z'⟩
  ·exact ⟨_,hTI,fun v z=>by have z':Data.seq _ _=Data.cell v:=z;cases z'⟩
  ·exact ⟨_,hTO,fun v z=>by have z':Data.seq _ _=Data.cell v:=z;cases z'⟩
  ·obtain ⟨o,e,c,d⟩:=h1;exact ⟨o,e,fun v z=>by rw [d] at z;cases z⟩
  ·obtain ⟨o,e,c,d⟩:=h2;exact ⟨o,e,fun v z=>by rw [d] at z;cases z⟩
 keep:=fun i h h' st k=>by
  obtain ⟨hz,hTI,⟨u,v,hTO⟩,h1,h2⟩:=st
  exact ⟨k z (by simp) _ hz,k TI (by simp) _ hTI,⟨u,v,k TO (by simp) _ hTO⟩,h1.at fun o e=>k i1 (by simp) o e,h2.at fun o e=>k i2 (by simp) o e⟩
 item:=by
  intro X hP hw hK hc i pins s σ H E I hf st hg
  subst hP hw hK
  obtain ⟨hz,hTI,⟨u0,v0,hTO⟩,h1,h2⟩:=st
  obtain ⟨qa,qb,lx,ly⟩:=hg
  obtain ⟨its,rv,p,_⟩:=I.list qa
  obtain ⟨its2,rv2,p2,_⟩:=I.list qb
  have ex:xs[i]?=some xs[i]:=List.getElem?_eq_getElem lx
  have ey:ys[i]?=some ys[i]:=List.getElem?_eq_getElem ly
  obtain ⟨u,hu,ru⟩:=rv.get ex
  obtain ⟨v,hv,rv'⟩:=rv2.get ey
  refine wpAny_pyNext_zip_item Ap hz hTI hTO h1 h2 p.isList p2.isList (x:=u) (y:=v) (by simpa using hu) (by simpa using hv) fun h' a1 a2 a3 a4 a5 a6 hk=>?_
  refine ⟨.ref s.heap.objs.size,rfl,wpAny_letOwnedTupleGo_zip (s:={ s with heap:=h' }) a1 fun h'' hz' hs'=>?_⟩
  have lt:∀ {c o},s.heap.get? c=some o→c≠s.heap.objs.size:=fun e=>Nat.ne_of_lt (Heap.lt_size e)
  have e5:IsPair h'' s.heap.objs.size u v:=(hs'.2 _ (Ne.symm (lt hz))).trans a5
  have hch:∀ c ∈ [z,TO,i1,i2],Z3 X pins H c:=fun c hc=>hf c (by
   simp only [List.mem_cons,List.mem_nil_iff,or_false] at hc ⊢
   rcases hc with rfl | rfl | rfl | rfl <;> simp)
  have I2:Inv X pins σ (upd H s.heap.objs.size (.tup [xs[i],ys[i]])) { s with heap:=h'',toks:=s.toks }:=by
   refine I.turnedNew (ch:=[z,TO,i1,i2]) (fun c o hc e=>?_) hch (7:) ⟨by show 2≤sizeLine;decide,[u,v],.cons ru (.cons rv' .nil),⟨_,e5,rfl,_,rfl⟩⟩
   simp only [List.mem_cons,List.mem_nil_iff,or_false,not_or] at hc
   exact (hs'.2 c hc.1).trans (hk c o hc.1 hc.2.1 hc.2.2.1 hc.2.2.2 e)
  have hfr:∀ c ∈ [z,TI,TO,i1,i2],upd H s.heap.objs.size (.tup [xs[i],ys[i]]) c=none:=fun c hc=>by
   have hc2:=hf c hc
   have:c≠s.heap.objs.size:=by
    simp only [List.mem_cons,List.mem_nil_iff,or_false] at hc
    rcases hc with rfl | rfl | rfl | rfl | rfl
    ·exact lt hz
    ·exact lt hTI
    ·exact lt hTO
    ·obtain ⟨o,e,_⟩:=h1;exact lt e
    ·obtain ⟨o,e,_⟩:=h2;exact lt e
   rw [Qg this];exact hc2.1
  exact (13:)
 done:=by
  intro X hP hw hK hc i pins s σ H E I hf st hg
  subst hP hw hK
  obtain ⟨hz,hTI,⟨u0,v0,hTO⟩,h1,h2⟩:=st
  obtain ⟨qa,qb,hl⟩:=hg
  obtain ⟨its,rv,p,_⟩:=I.list qa
  obtain ⟨its2,rv2,p2,_⟩:=I.list qb
  have l1:=rv.length
  have l2:=rv2.length
  have hch:∀ c ∈ [z,TO,i1,i2],Z3 X pins H c:=fun c hc=>hf c (by
   simp only [List.mem_cons,List.mem_nil_iff,or_false] at hc ⊢
   rcases hc with rfl | rfl | rfl | rfl <;> simp)
  refine wpAny_pyNext_zip_end (I.ok.hd hc) Ap hz hTI hTO h1 h2 p.isList p2.isList ?_ fun h' hk=>⟨rfl,I.turnedL (t':=s.toks) (ch:=[z,TO,i1,i2]) (fun c o hc e=>?_) hch⟩
  ·rcases hl with q | q
   ·exact .inl (by simp;lia)
   ·exact .inr (by simp;lia)
  ·simp only [List.mem_cons,List.mem_nil_iff,or_false,not_or] at hc
   exact hk c o hc.1 hc.2.1 hc.2.2.1 hc.2.2.2 e
 self:=fun _ _ _ _ _ st h=>wpAny_pyIter_zip st.1 h
theorem nne {x y:Nat} (h:x < y∨y < x):x≠y:=by lia
section
variable {X:Cx} {elts:List Expr} {k1:Nat} {tpos:Pos}
def Pb (K:PySem.W.Frag) (ta:TA):TI:=fun σ H R=>ta σ H fun vs H1=>∃ a b xs ys,vs=[.ref a,.ref b]∧SqL K H1 a xs∧SqL K H1 b ys∧R (Itz K a b xs ys) H1
theorem VV {e1 e2:Expr} {ta:TA} {p pos:Pos} (hg:Gl X "zip") (hm:X.mg "zip" = none) (ha:PA X [e1,e2] ta) (hs:starEach [e1,e2] X.env=[(false,eval e1 X.env),(false,eval e2 X.env)]:=by rfl) (hs2:starEach [e2] X.env=[(false,eval e2 X.env)]:=by rfl) :
 PI X (.Tuple elts k1 tpos) (.Call (.Name "zip" p) [e1,e2] [] pos) (Pb X.K ta):=by
 intro pins s σ H R I h
 refine Call_ (ZE I hg hm PyProof.Rows.boot_zip (PyProof.Rows.callWith_type1 (thn (ha pos pins s σ H _ I h) fun us s1 ⟨vs,H1,I1,r1,q1⟩=>?_) (by rw [hs,hs2]) (by rw [hs2];rfl)))
 obtain ⟨a,b,xs,ys,e,qa,qb,q⟩:=q1
 subst e
 obtain ⟨u1,u2,e3,r3,r4⟩:=r1.two
 subst e3
 cases (show u1=Value.ref a from r3)
 cases (show u2=Value.ref b from r4)
 obtain ⟨its,rv,pl,_⟩:=I1.list qa
 obtain ⟨its2,rv2,pl2,_⟩:=I1.list qb
 have la:@LT.lt Nat _ a s1.heap.objs.size:=by obtain ⟨o,n,e,_⟩:=pl;exact Heap.lt_size e
 have lb:@LT.lt Nat _ b s1.heap.objs.size:=by obtain ⟨o,n,e,_⟩:=pl2;exact Heap.lt_size e
 refine call_zip_2 pl.isList pl2.isList fun h' hz hTI hTO h1 h2 hsz hk=>?_
 refine wpAny_pyIter_zip hz ?_
 have I2:Inv X pins σ H1 { s1 with heap:=h' }:=I1.kept (t':=s1.toks) hk
 refine ⟨s1.heap.objs.size + 4,[s1.heap.objs.size + 4,s1.heap.objs.size + 2,s1.heap.objs.size + 3,s1.heap.objs.size,s1.heap.objs.size + 1],_,_,H1,rfl,I2,Gh a b (s1.heap.objs.size + 4) xs ys (s1.heap.objs.size + 2) (s1.heap.objs.size + 3) s1.heap.objs.size (s1.heap.objs.size + 1) ?_,⟨hz,hTI,⟨_,_,hTO⟩,h1,h2⟩,fun c hc=>?_,q⟩
 ·constructor <;> (refine nne ?_;lia)
 ·have hle:@LE.le Nat _ s1.heap.objs.size c:=by
   simp only [List.mem_cons,List.mem_nil_iff,or_false] at hc
   rcases hc with rfl | rfl | rfl | rfl | rfl <;> lia
  exact I1.fpOk hle (I1.hok.fresh hle)
theorem LA {K:PySem.W.Frag} {a b:Addr} {xs ys:List V} {g:TG} {tb:TS} {D:Ends} {σ:St} {H:Hp} (hlen:xs.length=ys.length) (Pv:Nat→St→Hp→Prop) (h0:Pv 0 σ H) (hl:∀ i σ H,i≤xs.length→Pv i σ H→SqL K H a xs∧SqL K H b ys)
 (hs:∀ i u v p σ H,xs[i]?=some u→ys[i]?=some v→H p=none→Pv i σ H→g (.ref p) σ (upd H p (.tup [u,v])) fun σ2 H2=>tb { D with nx:=Pv (i + 1),ct:=Pv (i + 1),bk:=D.nx } σ2 H2) (hd:∀ σ H,Pv xs.length σ H→D.nx σ H) :
 ∃ W:Nat→Nat→St→Hp→Prop,(∃ m,W 0 m σ H)∧∀ i m σ H,W i m σ H →
  ((Itz K a b xs ys).stop i H∧D.nx σ H)∨((Itz K a b xs ys).go i H∧∃ N:St→Hp→Prop,(∀ σ' H',N σ' H'→∃ m',m' < m∧W (i + 1) m' σ' H')∧∀ x H',(Itz K a b xs ys).yld i H x H'→g x σ H' fun σ2 H2=>tb { D with nx:=N,ct:=N,bk:=D.nx } σ2 H2):=by
 refine ⟨fun i m σ H=>m=xs.length - i∧i≤xs.length∧Pv i σ H,⟨xs.length - 0,rfl,Nat.zero_le _,h0⟩,?_⟩
 rintro i m σ H ⟨rfl,hi,p⟩
 obtain ⟨qa,qb⟩:=hl i σ H hi p
 by_cases h:i < xs.length
 ·refine .inr ⟨⟨qa,qb,h,by lia⟩,Pv (i + 1),fun σ' H' p'=>⟨xs.length - (i + 1),by lia,rfl,h,p'⟩,?_⟩
  rintro x H' ⟨p',u,v,hp,rfl,rfl,hu,hv⟩
  exact hs i u v p' σ H hu hv hp p
 ·have e:i=xs.length:=by lia
  subst e
  exact .inl ⟨⟨qa,qb,.inl (7:)⟩,hd σ H p⟩
end
end L2
namespace L2
open PySem PySem.Spec PyProof.Rows
theorem UM:∀ {ns:List Int} {us:List Value},Vals (ns.map V.int) us→∃ xs:List (Int × Tok),us=xs.map (fun p=>Value.int p.1 p.2)∧xs.map (·.1)=ns
 | [],_,.nil=>⟨[],rfl,rfl⟩
 | n :: ns,_,.cons r rr=>by
  obtain ⟨t,e⟩:=r
  obtain ⟨xs,e1,e2⟩:=UM rr
  exact ⟨(n,t) :: xs,by rw [e,e1];rfl,by rw [List.map_cons,e2]⟩
theorem Vy (xs:List (Int × Tok)):intItems xs.toArray=(xs.map (fun p=>Value.int p.1 p.2)).toArray:=by
 simp [intItems]
theorem LF (xs:List (Int × Tok)) (j:Nat):preSum (numAt xs.toArray) j=((xs.map (·.1)).take j).sum:=by rw [preSum_eq]
section
variable {X:Cx}
end
section
variable {prog:Program} {w:World} {A:Around} {R:Result→Shared→Prop} {I:Addr} {fp wr:List Addr} {n:Nat} {P:Nat→Value→Prop} {St:Nat→Heap→Prop}
end
section
variable {prog:Program} {w:World} {A:Around} {E:Value→Shared→Prop} {s:Shared}
end
end L2
namespace L2
open PySem PySem.Spec PyProof.Rows
section
variable {X:Cx} {x:Str} {p pos:Pos} {e:Expr} {es:List Expr} {kws:List Keyword} {t tk:TA} {id:String} {ks:List Str} {r:List V→List V→Hp→VK→Prop}
end
end L2
namespace L2
open PySem PySem.Spec PyProof.Rows
structure CompG (X:Cx) (xs caps:List Str) (cap:List Nat) (scope:Scope) (cl:List (Str × Addr)):Prop where
 clos:closureFor scope X.env=pure cl
 cell:∀ y ∈ scope.names,y.2≠.cell
 kind:scope.kind=.function
 names:∀ y ∈ scope.names,y.2=.local→scope.names.lookup y.1=some .local
 lx:∀ x ∈ xs,scope.names.lookup x=some .local
 nd:(xs ++ caps).Nodup
 from_:∀ y c,cl.lookup y=some c→X.env.cells.lookup y=some c
 has:∀ y,((relabel scope X.env).names.lookup y=some .cell∨(relabel scope X.env).names.lookup y=some .free)→∃ c,cl.lookup y=some c
 len:cap.length=caps.length
 cps:∀ (i:Nat) (y:Str),caps[i]?=some y→∃ j,cap[i]?=some j∧X.N[j]?=some y∧X.env.scope.names.lookup y=some .cell∧(relabel scope X.env).names.lookup y=some .cell
def UY (cap:List Nat) (σ:St):St:=cap.map fun j=>(σ[j]?).getD none
def XR (n:Nat) (wi:TI) (cap:List Nat) (g:TG) (tt:TT) (te:TE):TE:=fun σ H Q=>wi σ H fun J H1=>∀ acc,H1 acc=none→∃ W:Nat→Nat→Hp→Prop,(∃ m,W 0 m (upd H1 acc (.lst [])))∧∀ i m H2,W i m H2 →
 (J.stop i H2∧Q (.ref acc) H2)∨(J.go i H2∧∀ x H3,J.yld i H2 x H3→∀ as:St,as.length=n→g x (as ++ UY cap σ) H3 fun σ4 H4=>(∃ bs:St,bs.length=n∧σ4=bs ++ UY cap σ)∧tt σ4 H4 fun ok H5=>if ok=true then
  te σ4 H5 (fun y H6=>∃ ys,H6 acc=some (.lst ys)∧ys.length < sizeLine∧∃ m',m' < m∧W (i + 1) m' (upd H6 acc (.lst (ys ++ [y]))))
  else ∃ m',m' < m∧W (i + 1) m' H5)
theorem UR {X:Cx} {elt iter tg:Expr} {xs:List Str} {ifs:List Expr} {scope:Scope} {pos pos':Pos} {wi:TI} {g:TG} {tt:TT} {te:TE} {cl:List (Str × Addr)} {caps:List Str} {cap:List Nat}
 (O:CompG X xs caps cap scope cl) (hc:X.calm=true) (hi:PI X tg iter wi) (hg:∀ C fp s₀ H₀,PG (QP X (xs ++ caps) scope cl C fp s₀ H₀) tg g)
 (ht:∀ C fp s₀ H₀,PF (QP X (xs ++ caps) scope cl C fp s₀ H₀) ifs tt) (he:∀ C fp s₀ H₀,PE (QP X (xs ++ caps) scope cl C fp s₀ H₀) elt te)
 (hs:∀ x,foldedSetIterable iter X.env x=pure x) {pins:List (11:)} {s:Shared} {σ:St} {H:Hp} {Q:VK} {use:Option (Value→Sem Unit)} {QQ:Value→Shared→Prop} (I:Inv X pins σ H s)
 (h:XR xs.length wi cap g tt te σ H Q)
 (hfin:∀ D C H' s',Inv X pins σ H' s'→OwnAt X pins H' s' C→Q (.ref D) H'→compPost (6:) X.A X.xe use QQ (.ref D) C (.ok .next) s') :
 wpAny (6:) X.A (comprehension (.ListComp elt [⟨tg,iter,ifs,0⟩] scope pos) scope X.env pos' (newList []) false (eval iter X.env) use) QQ X.xe s:=by
 refine wpAny_comprehension_free rfl hs O.clos O.kind O.names (thn (hi pins s σ H _ I h) fun v s1 h1=>thn h1 fun itv s2 h2=>?_)
 obtain ⟨it,fp,tn,J,H1,e,I2,T,t0,f2,hR⟩:=h2
 subst e
 refine wpAny_newObj_type (wpAny_newFunctionEnv O.cell (by intro y hy;simp at hy) (fun h₁ hns hsb=>?_) O.kind)
 have hacc:H1 s2.heap.objs.size=none:=I2.fresh
 obtain ⟨W,⟨m0,w0⟩,turn⟩:=hR s2.heap.objs.size hacc
 have I3:Inv X pins σ (upd H1 s2.heap.objs.size (.lst [])) { s2 with heap:=s2.heap.push { cls:=.type "list", data:=.seq ([]:List Value).toArray } }:=I2.lnew (t':=s2.toks) (ys:=[]) (its:=[]) .nil (Nat.zero_le _)
 generalize hs3:({ s2 with heap:=s2.heap.push { cls:=.type "list", data:=.seq ([]:List Value).toArray } }:Shared)=s3 at hns hsb I3 ⊢
 generalize hD:s2.heap.objs.size=D at I3 w0 turn hacc ⊢
 generalize hH3:upd H1 D (.lst [])=H3 at I3 w0
 have keep3:∀ b o,s3.heap.get? b=some o→h₁.get? b=some o:=fun b o e=>(hsb.2 b (Nat.ne_of_lt (Heap.lt_size e))).trans (Heap.get?_push_of_some _ e)
 have hfp3:∀ b ∈ fp,H3 b=none:=fun b hb=>by
  rw [← hH3,Qg]
  ·exact (f2 b hb).1
  ·intro z
   obtain ⟨o,e,_⟩:=T.obj _ _ t0 b hb
   exact absurd (Heap.lt_size e) (by rw [z,hD];exact Nat.lt_irrefl _)
 have hCfresh:H3 s3.heap.objs.size=none:=I3.fresh
 have hCfp:∀ b ∈ fp,b≠s3.heap.objs.size:=fun b hb z=>by
  obtain ⟨o,e,_⟩:=T.obj _ _ t0 b hb
  have h2:s3.heap.objs.size=s2.heap.objs.size + 1:=by rw [← hs3];exact Heap.size_push ..
  exact absurd (Heap.lt_size e) (by rw [z,h2];exact Nat.not_lt.mpr (Nat.le_succ _))
 have t3:tn 0 h₁:=T.keep _ _ _ t0 fun b hb o e=>keep3 b o (by rw [← hs3];exact Heap.get?_push_of_some _ e)
 have ok':(QP X (xs ++ caps) scope cl s3.heap.objs.size fp s3 H3).Ok:=by
  refine ⟨I3.ok.mod,O.kind,I3.ok.glob,I3.ok.blt,Nat.le_refl _,fun y z c e1 e2=>I3.ok.inj y z c (O.from_ y c e1) (O.from_ z c e2),fun y hy=>O.has y hy,fun y c z _=>(nomatch z),I3.ok.hd,I3.ok.frames,.inl rfl,fun b hb=>⟨hCfp b hb,fun y c e=>?_⟩,I3.bs,Nat.le_trans I3.ok.bsz I3.sz,fun b o e hb=>?_,fun b hb z=>?_,I3.stack,I3.stkFree⟩
  ·exact (f2 b hb).2.2.2.2.1 y c (O.from_ y c e)
  ·rcases (f2 b hb).2.2.2.1 with q | q
   ·exact I3.ok.noex b o e q
   ·exact absurd (Nat.lt_of_lt_of_le (Heap.lt_size e) (Nat.le_trans I3.ok.bsz q)) (Nat.lt_irrefl _)
  ·rcases List.mem_cons.mp (I3.stkSub b z) with q | q
   ·exact (f2 b hb).2.1 q
   ·exact (f2 b hb).2.2.1 q
 have I4:Inv (QP X (xs ++ caps) scope cl s3.heap.objs.size fp s3 H3) [] (List.replicate xs.length none ++ UY cap σ) H3 { s3 with heap:=h₁,toks:=s3.toks + ([]:List (Str × Value)).length }:=by
  obtain ⟨m,hn,hl⟩:=id I3.loc
  refine ⟨ok',rfl,I3.bare,Un.kept keep3,⟨_,hns,fun i y v e1 e2 e3=>?_⟩,fun y c e=>?_,hCfresh,fun y c e=>I3.freeC y c (O.from_ y c e),fun p hp=>(nomatch hp),I3.hok.kept keep3,?_⟩
  ·by_cases hix:i < xs.length
   ·rw [List.getElem?_append_left (by rw [List.length_replicate];exact hix),List.getElem?_replicate,if_pos hix] at e2
    cases e2
   ·have e1':caps[i - xs.length]?=some y:=by
     have e1'':(xs ++ caps)[i]?=some y:=e1
     rwa [List.getElem?_append_right (4:)] at e1''
    obtain ⟨j,hj,hN,hk,hk'⟩:=O.cps _ y e1'
    have e2':(σ[j]?).getD none=some v:=by
     rw [List.getElem?_append_right (by rw [List.length_replicate];lia),List.length_replicate] at e2
     unfold UY at e2
     simpa [hj] using e2
    have e2'':σ[j]?=some (some v):=by
     cases q:σ[j]? with
     | none=>rw [q] at e2';cases e2'
     | some a=>rw [q] at e2';exact congrArg some e2'
    obtain ⟨u,r,l⟩:=hl j y v hN e2'' (.inr (.inl hk))
    refine ⟨u,r,?_⟩
    rcases l with ⟨k,_⟩ | ⟨k,c,e,z⟩
    ·have k':X.env.scope.names.lookup y=some .local:=k
     rw [hk] at k';cases k'
    ·obtain ⟨c',hc'⟩:=O.has y (.inl hk')
     have:c'=c:=Option.some.inj ((O.from_ y c' hc').symm.trans e)
     subst this
     refine .inr ⟨.inl hk',c',hc',?_⟩
     obtain ⟨o,ho,hd⟩:=z
     exact ⟨o,keep3 _ _ ho,hd⟩
  ·obtain ⟨v,o,ho,hd⟩:=I3.cell y c (O.from_ y c e)
   exact ⟨v,o,keep3 _ _ ho,hd⟩
  ·show (List.replicate xs.length none ++ UY cap σ).length=(xs ++ caps).length
   simp [UY,O.len]
 have fin:∀ (H':Hp) (σ':St) (s':Shared),Inv (QP X (xs ++ caps) scope cl s3.heap.objs.size fp s3 H3) [] σ' H' s'→Q (.ref D) H' →
  compPost (6:) X.A X.xe use QQ (.ref D) s3.heap.objs.size (.ok .next) s':=fun H' σ' s' I' q=>by
  obtain ⟨m,hn,_⟩:=id I'.loc
  have hU:Un (frs X.stack) fp H3 H' s3.heap s'.heap:=I'.base
  have hok2:HOk X.prog X.w H' s'.heap:=I'.hok
  have os':s'.os=s3.os:=I'.os
  have I6:Inv X pins σ H' s':=I3.call' (ch:=fp) os' hU hok2 I'.bare (fun b hb=>⟨(f2 b hb).2.2.2.1,(f2 b hb).2.1,(f2 b hb).2.2.2.2⟩)
  refine hfin D _ H' s' I6 ⟨⟨m,hn⟩,I'.free,Nat.ne_of_gt I3.lt,I3.sz,fun y c e z=>?_,fun p hp z=>?_⟩ q
  ·obtain ⟨v,hv⟩:=I3.cell y c e
   exact absurd hv.lt (by rw [z];exact Nat.lt_irrefl _)
  ·exact absurd (Heap.lt_size (I3.pin p hp).1) (by rw [z];exact Nat.lt_irrefl _)
 have stat:∀ {H':Hp},(∀ b ∈ fp,H' b=none)→∀ b ∈ fp,Z3 (QP X (xs ++ caps) scope cl s3.heap.objs.size fp s3 H3) [] H' b:=fun hn b hb =>
  ⟨hn b hb,hCfp b hb,ok'.exfs b hb,.inl hb,fun y c e=>(f2 b hb).2.2.2.2.1 y c (O.from_ y c e),fun p hp=>(nomatch hp)⟩
 have loop:codeAny (6:) X.A (.compLoop (.ListComp elt [⟨tg,iter,ifs,0⟩] scope pos) 0 (.ref it) (.ref D) (compEnvC scope cl s3.heap.objs.size X.env))
  (compPost (6:) X.A X.xe use QQ (.ref D) s3.heap.objs.size) { s3 with heap:=h₁,toks:=s3.toks + ([]:List (Str × Value)).length }:=by
  refine codeAny_loop rfl (fun n s'=>∃ i as H',as.length=xs.length∧Inv (QP X (xs ++ caps) scope cl s3.heap.objs.size fp s3 H3) [] (as ++ UY cap σ) H' s'∧tn i s'.heap∧(∀ b ∈ fp,H' b=none)∧W i n H') ?_ m0 ⟨0,_,H3,List.length_replicate,I4,t3,hfp3,w0⟩
  rintro n s5 ⟨i,as,H5,has,I5,st5,fr5,w5⟩
  show wpAny _ _ ((compTurn (.ListComp elt [⟨tg,iter,ifs,0⟩] scope pos) 0 (.ref it) (.ref D) (compEnvC scope cl s3.heap.objs.size X.env)).onRaise (fun x=>do noteFrame x (compEnvC scope cl s3.heap.objs.size X.env);theTreesLotGoes x)) _ _ s5
  refine wpAny_noted ?_
  rw [compTurn_list]
  refine wpAny_bind (wpAny_standAt (wpAny_bind ?_))
  have bad:∀ {M:Model} {A:Around} {α:Type} {t:Sem α} {P:α→Shared→Prop} {E':Value→Shared→Prop} {s':Shared},wpAny M A t P (fun _ _=>False) s'→wpAny M A t P E' s':=fun h=>wpAny_mono h (fun _ _ q=>q) fun _ _ z=>z.elim
  rcases turn i n H5 w5 with ⟨stop,qn⟩ | ⟨go,step⟩
  ·refine bad (thn (T.done (QP X (xs ++ caps) scope cl s3.heap.objs.size fp s3 H3) rfl rfl rfl hc i [] s5 _ H5 (fun _ _=>False) I5 (stat fr5) st5 stop) fun r s6 ⟨hr,I6⟩=>?_)
   subst hr
   exact wpAny_pure (fin H5 _ s6 I6 qn)
  ·refine bad (thn (T.item (QP X (xs ++ caps) scope cl s3.heap.objs.size fp s3 H3) rfl rfl rfl hc i [] s5 _ H5 (fun _ _=>False) I5 (stat fr5) st5 go) fun r s6 ⟨u,hr,h6⟩=>?_)
   subst hr
   refine wpAny_bind (bad (thn h6 fun _ s7 ⟨y,H7,I7,r7,y7,st7,fr7⟩=>?_))
   have I7':=I7.pinned (stat fr7) (T.obj _ _ st7)
   have goal:=step y H7 y7 as has
   refine wpAny_bind (bad (thn (hg s3.heap.objs.size fp s3 H3 _ s7 _ H7 y _ _ I7' r7 goal) fun _ s8 ⟨σ8,H8,I8,⟨bs,hbs,eσ⟩,goal8⟩=>?_))
   subst eσ
   refine wpAny_bind (bad (thn (ht s3.heap.objs.size fp s3 H3 _ s8 _ H8 _ I8 goal8) fun okb s9 ⟨H9,I9,q9⟩=>?_))
   have again:∀ {H10:Hp} {s10:Shared} {m':Nat},Inv (QP X (xs ++ caps) scope cl s3.heap.objs.size fp s3 H3) ([] ++ UQ fp s7.heap) (bs ++ UY cap σ) H10 s10→m' < n→W (i + 1) m' H10 →
    ∃ m,m < n∧∃ i as H',as.length=xs.length∧Inv (QP X (xs ++ caps) scope cl s3.heap.objs.size fp s3 H3) [] (as ++ UY cap σ) H' s10∧tn i s10.heap∧(∀ b ∈ fp,H' b=none)∧W i m H':=fun {H10 s10 m'} I10 hm w10=>by
    refine ⟨m',hm,i + 1,bs,H10,hbs,I10.unpinned,T.keep _ _ _ st7 fun b hb o e=>(I10.pin (b,o) (List.mem_append_right _ (List.mem_append_right _ (ZP hb e)))).1,fun b hb=>?_,w10⟩
    obtain ⟨o,e,d⟩:=T.obj _ _ st7 b hb
    exact (I10.pin (b,o) (List.mem_append_right _ (List.mem_append_right _ (ZP hb e)))).2.1
   cases okb with
   | false =>
    rw [if_neg Bool.false_ne_true] at q9
    obtain ⟨m',hm,w9⟩:=q9
    exact wpAny_pure ⟨rfl,again I9 hm w9⟩
   | true =>
    rw [if_pos rfl] at q9
    refine wpAny_bind (wpAny_bind (bad (thn (he s3.heap.objs.size fp s3 H3 _ s9 _ H9 _ I9 q9) fun yv s10 ⟨yy,H10,I10,r10,ys,hys,hlen,m',hm,w10⟩=>?_)))
    refine wpAny_bind (bad (thn (QW (X:=QP X (xs ++ caps) scope cl s3.heap.objs.size fp s3 H3) _ s10 _ H10 (.ref D) [yy] (.ref D) [yv] (fun _ H11=>W (i + 1) m' H11) I10 rfl (.cons r10 .nil) ⟨D,ys,yy,rfl,rfl,hys,hlen,w10⟩) fun _ s11 ⟨_,H11,I11,_,q11⟩=>?_))
    exact wpAny_pure (wpAny_pure ⟨rfl,again I11 hm q11⟩)
 refine codeAny_compStart_list loop (T.self _ 0 _ _ _ t3 loop)
theorem Qy {X:Cx} {elt iter tg:Expr} {xs:List Str} {ifs:List Expr} {scope:Scope} {pos:Pos} {wi:TI} {g:TG} {tt:TT} {te:TE} {cl:List (Str × Addr)} {caps:List Str} {cap:List Nat}
 (O:CompG X xs caps cap scope cl) (hc:X.calm=true) (hi:PI X tg iter wi) (hg:∀ C fp s₀ H₀,PG (QP X (xs ++ caps) scope cl C fp s₀ H₀) tg g)
 (ht:∀ C fp s₀ H₀,PF (QP X (xs ++ caps) scope cl C fp s₀ H₀) ifs tt) (he:∀ C fp s₀ H₀,PE (QP X (xs ++ caps) scope cl C fp s₀ H₀) elt te)
 (hs:∀ x,foldedSetIterable iter X.env x=pure x:=by intro _;rfl) :
 PE X (.ListComp elt [⟨tg,iter,ifs,0⟩] scope pos) (XR xs.length wi cap g tt te):=by
 intro pins s σ H Q I h
 rw [eval_ListComp]
 exact UR (use:=none) O hc hi hg ht he hs I h fun D C H' s' I' o q=>by
  obtain ⟨m,hn⟩:=o.ns
  exact ⟨m,hn,fun h' hb=>⟨.ref D,H',o.go I' hb,rfl,q⟩⟩
theorem Q8 {X:Cx} {elt iter tg:Expr} {xs:List Str} {y:Str} {py:Pos} {ifs:List Expr} {scope:Scope} {pos spos:Pos} {wi:TI} {g:TG} {tt:TT} {te:TE} {cl:List (Str × Addr)} {caps:List Str} {cap:List Nat} {i:Nat}
 (O:CompG X xs caps cap scope cl) (hc:X.calm=true) (hi:PI X tg iter wi) (hg:∀ C fp s₀ H₀,PG (QP X (xs ++ caps) scope cl C fp s₀ H₀) tg g)
 (ht:∀ C fp s₀ H₀,PF (QP X (xs ++ caps) scope cl C fp s₀ H₀) ifs tt) (he:∀ C fp s₀ H₀,PE (QP X (xs ++ caps) scope cl C fp s₀ H₀) elt te)
 (hN:X.N.Nodup) (hy:X.N[i]?=some y) (hl:X.env.scope.names.lookup y=some .local)
 (hsw:swapsWith (.ListComp elt [⟨tg,iter,ifs,0⟩] scope pos) (some (.Name y py)) spos.line X.env=pure true:=by rfl)
 (hs:∀ x,foldedSetIterable iter X.env x=pure x:=by intro _;rfl) :
 PS X (.Assign [.Name y py] (.ListComp elt [⟨tg,iter,ifs,0⟩] scope pos) spos) (Nw (XR xs.length wi cap g tt te) (QX i)):=by
 intro pins s σ H D I h
 rw [exec_Assign_Name_used _ _ _ _ hsw]
 refine wpAny_bind (wpAny_standAt (wpAny_bind ?_))
 show wpAny _ X.A (do let _ ← comprehension (.ListComp elt [⟨tg,iter,ifs,0⟩] scope pos) scope X.env _ (newList []) false (eval iter X.env) (some (assign (.Name y py) X.env))) _ _ s
 refine wpAny_bind (thn (UR (use:=some (assign (.Name y py) X.env)) (QQ:=fun _ s'=>SP X pins D .next s') O hc hi hg ht he hs I h fun Dd C H' s' I' o q=>?_) fun _ s' hq=>wpAny_pure (wpAny_pure hq))
 obtain ⟨m,hn⟩:=o.ns
 show wpAny _ X.A (assign (.Name y py) X.env (.ref Dd)) _ _ s'
 refine wpAny_assign_Name (U4 (v:=.ref Dd) I' hN hy (.inl hl) rfl (fun s2 I2 sb=>?_) (.inr hl))
 obtain ⟨a,sb,ha⟩:=sb
 have hCa:C≠a:=by
  rcases ha with z | z
  ·rw [z];exact o.loc
  ·exact Ne.symm (o.cells y a z)
 have o2:OwnAt X pins H' s2 C:=⟨⟨m,hn.sameBut sb hCa⟩,o.free,o.loc,o.above,o.cells,o.pins⟩
 refine ⟨m,hn.sameBut sb hCa,fun h' hb=>?_⟩
 exact ⟨_,H',o2.go I2 hb,q⟩
section
variable {X:Cx} {xs caps:List Str} {cap:List Nat} {scope:Scope} {cl:List (Str × Addr)}
theorem Q7 {x:Str} {px:Pos} (O:CompG X [x] caps cap scope cl):∀ C fp s₀ H₀,PG (QP X ([x] ++ caps) scope cl C fp s₀ H₀) (.Name x px) (QX 0):=fun C fp s₀ H₀ =>
 Qw (X:=QP X ([x] ++ caps) scope cl C fp s₀ H₀) (i:=0) O.nd rfl (.inl (lookup_relabel_local (O.lx x (by simp)))) (.inr (lookup_relabel_local (O.lx x (by simp))))
theorem UG {x y:Str} {px py pos:Pos} {k:Nat} (O:CompG X [x,y] caps cap scope cl) (hc:X.calm=true):∀ C fp s₀ H₀,PG (QP X ([x,y] ++ caps) scope cl C fp s₀ H₀) (.Tuple [.Name x px,.Name y py] k pos) (W6 X.K 2 (ZV (QX 0) (ZV (QX 1) X7))):=fun C fp s₀ H₀ =>
 ZS (X:=QP X ([x,y] ++ caps) scope cl C fp s₀ H₀) hc (QB (Qw (i:=0) O.nd rfl (.inl (lookup_relabel_local (O.lx x (by simp)))) (.inr (lookup_relabel_local (O.lx x (by simp)))))
  (QB (Qw (i:=1) O.nd rfl (.inl (lookup_relabel_local (O.lx y (by simp)))) (.inr (lookup_relabel_local (O.lx y (by simp))))) ZB))
end
theorem Jl {k:NameKind} {y:Str}:∀ {l:List (Str × NameKind)},l.lookup y=some k→(y,k) ∈ l
 | [],h=>by simp at h
 | (n,j) :: r,h=>by
  cases hx:y == n with
  | true =>
   simp only [List.lookup_cons,hx] at h
   have:y=n:=by simpa using hx
   cases h
   rw [this];exact List.mem_cons_self
  | false =>
   simp only [List.lookup_cons,hx] at h
   exact List.mem_cons_of_mem _ (Jl h)
theorem UA {y:Str} {c:Addr}:∀ {l:List (Str × Addr)},l.lookup y=some c→(y,c) ∈ l
 | [],h=>by simp at h
 | (n,j) :: r,h=>by
  cases hx:y == n with
  | true =>
   simp only [List.lookup_cons,hx] at h
   have:y=n:=by simpa using hx
   cases h
   rw [this];exact List.mem_cons_self
  | false =>
   simp only [List.lookup_cons,hx] at h
   exact List.mem_cons_of_mem _ (UA h)
theorem UL {y:Str} {c:Addr}:∀ {l:List (Str × Addr)},(y,c) ∈ l→∃ c',l.lookup y=some c'
 | [],h=>by cases h
 | (n,j) :: r,h=>by
  cases hx:y == n with
  | true=>exact ⟨j,by simp only [List.lookup_cons,hx]⟩
  | false =>
   simp only [List.lookup_cons,hx]
   rcases List.mem_cons.mp h with z | z
   ·have:y=n:=congrArg Prod.fst z
    rw [this] at hx
    simp at hx
   ·exact UL z
theorem YG {env:Env} {y:Str} (hf:env.scope.kind=.function) (hy:env.kindOf y=some .cell):∀ {names:List (Str × NameKind)},names.lookup y=some .free →
 (names.map fun (n,k)=>if (k == NameKind.free && env.scope.kind == .function && env.kindOf n == some .cell) then (n,NameKind.cell) else (n,k)).lookup y=some .cell
 | [],h=>by simp at h
 | (n,k) :: r,h=>by
  show List.lookup y ((if (k == NameKind.free && env.scope.kind == .function && env.kindOf n == some .cell)=true then (n,NameKind.cell) else (n,k)) :: _)=_
  cases hx:y == n with
  | true =>
   simp only [List.lookup_cons,hx] at h
   have e:y=n:=by simpa using hx
   cases h
   rw [← e,hf,hy]
   simp
  | false =>
   simp only [List.lookup_cons,hx] at h
   have ih:=YG hf hy h
   split
   ·simp only [List.lookup_cons,hx];exact ih
   ·simp only [List.lookup_cons,hx];exact ih
def Zo (names:List (Str × NameKind)):List Str:=names.filterMap fun z=>if z.2 == NameKind.free then some z.1 else none
theorem Yk {env:Env}:∀ (names:List (Str × NameKind)) (caps:List Str) (cs:List Addr) (acc:List (Str × Addr)),Zo names=caps→caps.map (fun y=>env.cells.lookup y)=cs.map some →
 (forIn names acc fun (x:Str × NameKind) (r:List (Str × Addr))=>(if (x.2 == NameKind.free)=true then do let a ← cellOf env x.1;pure (ForInStep.yield ((x.1,a) :: r)) else pure (ForInStep.yield r):Sem (ForInStep (List (Str × Addr)))))=(pure ((caps.zip cs).reverse ++ acc):Sem (List (Str × Addr)))
 | [],caps,cs,acc,h1,h2=>by
  have:caps=[]:=h1.symm
  subst this
  simp
 | (n,k) :: r,caps,cs,acc,h1,h2=>by
  rw [List.forIn_cons]
  by_cases hk:(k == NameKind.free)=true
  ·have e1:caps=n :: Zo r:=by
    rw [← h1];unfold Zo
    rw [List.filterMap_cons]
    simp only [hk,if_true]
   subst e1
   cases cs with
   | nil=>simp at h2
   | cons c cs =>
    simp only [List.map_cons,List.cons.injEq] at h2
    have hcell:cellOf env n=pure c:=by unfold cellOf;rw [h2.1]
    simp only [hk,if_true,hcell,pure_bind]
    rw [Yk r _ cs ((n,c) :: acc) rfl h2.2]
    simp
  ·have e1:caps=Zo r:=by
    rw [← h1];unfold Zo
    rw [List.filterMap_cons]
    simp only [hk]
    rfl
   subst e1
   simp only [hk,if_false,pure_bind]
   exact Yk r _ cs acc rfl h2
theorem Y6 {env:Env} {scope:Scope} {caps:List Str} {cs:List Addr} (hf:Zo scope.names=caps) (hc:caps.map (fun y=>env.cells.lookup y)=cs.map some):closureFor scope env=pure (caps.zip cs).reverse:=by
 have h:=Yk (env:=env) scope.names caps cs [] hf hc
 rw [List.append_nil] at h
 unfold closureFor
 simp only [bind_pure]
 exact h
theorem CompG.many {X:Cx} {xs caps:List Str} {cap:List Nat} {cs:List Addr} {scope:Scope} (hk:scope.kind=.function) (hf:X.env.scope.kind=.function) (hfr:Zo scope.names=caps)
 (hnc:∀ z ∈ scope.names,z.2≠.cell) (hl:∀ y ∈ scope.names,y.2=.local→scope.names.lookup y.1=some .local) (hlx:∀ x ∈ xs,scope.names.lookup x=some .local) (hnd:(xs ++ caps).Nodup)
 (hfl:∀ y ∈ caps,scope.names.lookup y=some .free) (hce:caps.map (fun y=>X.env.scope.names.lookup y)=caps.map fun _=>some .cell) (hcs:caps.map (fun y=>X.env.cells.lookup y)=cs.map some)
 (hN:cap.map (fun j=>X.N[j]?)=caps.map some):CompG X xs caps cap scope (caps.zip cs).reverse:=by
 have hlen:caps.length=cs.length:=by simpa using congrArg List.length hcs
 have at_cs:∀ (i:Nat) (y:Str),caps[i]?=some y→∃ c,cs[i]?=some c∧X.env.cells.lookup y=some c:=fun i y h=>by
  have e:=congrArg (fun l=>l[i]?) hcs
  simp only [List.getElem?_map,h] at e
  cases q:cs[i]? with
  | none=>rw [q] at e;simp at e
  | some c=>rw [q] at e;exact ⟨c,rfl,by simpa using e⟩
 refine ⟨Y6 hfr hcs,hnc,hk,hl,hlx,hnd,fun y c h=>?_,fun y h=>?_,?_,fun i y h=>?_⟩
 ·have hm:=UA h
  rw [List.mem_reverse] at hm
  obtain ⟨i,hi,e⟩:=List.getElem_of_mem hm
  have hi1:i < caps.length:=by rw [List.length_zip] at hi;lia
  have hi2:i < cs.length:=by rw [List.length_zip] at hi;lia
  rw [List.getElem_zip] at e
  obtain ⟨c',e1,e2⟩:=at_cs i caps[i] (List.getElem?_eq_getElem hi1)
  have e3:caps[i]=y:=congrArg Prod.fst e
  have e4:cs[i]=c:=congrArg Prod.snd e
  rw [List.getElem?_eq_getElem hi2,e4] at e1
  cases e1
  rw [← e3];exact e2
 ·have hm:y ∈ caps:=by
   have aux:∀ k:NameKind,(k=.cell∨k=.free)→(relabel scope X.env).names.lookup y=some k→y ∈ caps:=fun k hk h=>by
    have h1:=Jl h
    obtain ⟨z,hz,e⟩:=List.mem_map.mp h1
    obtain ⟨n,kk⟩:=z
    have hfree:kk=.free∧n=y:=by
     dsimp only at e
     split at e
     ·rename_i q
      simp only [Bool.and_eq_true] at q
      exact ⟨by simpa using q.1.1,congrArg Prod.fst e⟩
     ·have e2:kk=k:=congrArg Prod.snd e
      refine ⟨?_,congrArg Prod.fst e⟩
      rcases hk with z | z
      ·exact absurd (e2.trans z) (hnc _ hz)
      ·exact e2.trans z
    rw [← hfr]
    refine List.mem_filterMap.mpr ⟨(n,kk),hz,?_⟩
    rw [hfree.1,hfree.2];rfl
   rcases h with h | h
   ·exact aux _ (.inl rfl) h
   ·exact aux _ (.inr rfl) h
  obtain ⟨i,hi,e⟩:=List.getElem_of_mem hm
  have hi2:i < cs.length:=by lia
  refine UL (c:=cs[i]) ?_
  rw [List.mem_reverse]
  have hiz:i < (caps.zip cs).length:=by rw [List.length_zip];lia
  have:=List.getElem_mem hiz
  rw [List.getElem_zip,e] at this
  exact this
 ·have:=congrArg List.length hN
  simpa using this
 ·have e:=congrArg (fun l=>l[i]?) hN
  simp only [List.getElem?_map,h] at e
  have hm:=List.mem_of_getElem? h
  cases q:cap[i]? with
  | none=>rw [q] at e;simp at e
  | some j =>
   rw [q] at e
   have hcell:X.env.scope.names.lookup y=some .cell:=by
    have e2:=congrArg (fun l=>l[i]?) hce
    simpa only [List.getElem?_map,h,Option.map_some,Option.some.injEq] using e2
   exact ⟨j,rfl,by simpa using e,hcell,YG hf hcell (hfl y hm)⟩
theorem QS {J:It} {n N:Nat} {cs:St} {g:TG} {tt:TT} {te:TE} {H1:Hp} {acc:Addr} {Q:Hp→Prop} (Pv:Nat→List V→Hp→Prop) (h0:Pv 0 [] (upd H1 acc (.lst [])))
 (hstop:∀ ys H,Pv N ys H→J.stop N H∧Q H)
 (hstep:∀ i ys H,i < N→Pv i ys H→J.go i H∧∀ x H3,J.yld i H x H3→∀ as:St,as.length=n→g x (as ++ cs) H3 fun σ4 H4=>(∃ bs:St,bs.length=n∧σ4=bs ++ cs)∧tt σ4 H4 fun ok H5=>if ok=true then te σ4 H5 (V6 N Pv acc i (N - i)) else ∃ m',m' < N - i∧Xk N Pv (i + 1) m' H5) :
 ∃ W:Nat→Nat→Hp→Prop,(∃ m,W 0 m (upd H1 acc (.lst [])))∧∀ i m H2,W i m H2 →
  (J.stop i H2∧Q H2)∨(J.go i H2∧∀ x H3,J.yld i H2 x H3→∀ as:St,as.length=n→g x (as ++ cs) H3 fun σ4 H4=>(∃ bs:St,bs.length=n∧σ4=bs ++ cs)∧tt σ4 H4 fun ok H5=>if ok=true then
   te σ4 H5 (fun y H6=>∃ ys,H6 acc=some (.lst ys)∧ys.length < sizeLine∧∃ m',m' < m∧W (i + 1) m' (upd H6 acc (.lst (ys ++ [y]))))
   else ∃ m',m' < m∧W (i + 1) m' H5):=by
 refine ⟨Xk N Pv,⟨N - 0,rfl,Nat.zero_le _,[],h0⟩,?_⟩
 rintro i m H2 ⟨rfl,hi,ys,p⟩
 by_cases h:i < N
 ·exact .inr (hstep i ys H2 h p)
 ·have e:i=N:=by lia
  subst e
  exact .inl (hstop ys H2 p)
abbrev JY (N:Nat) (Pv:Nat→List V→Hp→Prop) (acc:Addr) (i:Nat) (te:TE) (σ:St):Bool→Hp→Prop:=fun ok H5=>if ok=true then te σ H5 (V6 N Pv acc i (N - i)) else ∃ m',m' < N - i∧Xk N Pv (i + 1) m' H5
abbrev Yf (J:It) (n:Nat) (cs:St) (g:TG) (tt:TT) (te:TE) (H1:Hp) (acc:Addr) (Q:Hp→Prop):Prop :=
 ∃ W:Nat→Nat→Hp→Prop,(∃ m,W 0 m (upd H1 acc (.lst [])))∧∀ i m H2,W i m H2 →
  (J.stop i H2∧Q H2)∨(J.go i H2∧∀ x H3,J.yld i H2 x H3→∀ as:St,as.length=n→g x (as ++ cs) H3 fun σ4 H4=>(∃ bs:St,bs.length=n∧σ4=bs ++ cs)∧tt σ4 H4 fun ok H5=>if ok=true then
   te σ4 H5 (fun y H6=>∃ ys,H6 acc=some (.lst ys)∧ys.length < sizeLine∧∃ m',m' < m∧W (i + 1) m' (upd H6 acc (.lst (ys ++ [y]))))
   else ∃ m',m' < m∧W (i + 1) m' H5)
section
variable {K:PySem.W.Frag} {a b acc:Addr} {xs zs:List V} {tt:TT} {te:TE} {cs:St} {H1:Hp} {Q:Hp→Prop}
theorem Uf (Pv:Nat→List V→Hp→Prop) (h0:Pv 0 [] (upd H1 acc (.lst []))) (hl:∀ i ys H,i≤xs.length→Pv i ys H→SqL K H a xs)
 (hs:∀ i x ys H,i < xs.length→xs[i]?=some x→Pv i ys H→tt (some x :: cs) H (JY xs.length Pv acc i te (some x :: cs))) (hd:∀ ys H,Pv xs.length ys H→Q H):Yf (Itl K a) 1 cs (QX 0) tt te H1 acc Q:=by
 refine QS Pv h0 (fun ys H p=>⟨⟨xs,hl _ _ _ (7:) p,Nat.le_refl _⟩,hd ys H p⟩) fun i ys H hi p=>⟨⟨xs,xs[i],hl _ _ _ (Nat.le_of_lt hi) p,List.getElem?_eq_getElem hi⟩,?_⟩
 rintro x H3 ⟨rfl,hx⟩ as has
 obtain ⟨a0,rfl⟩ : ∃ a0,as=[a0]:=List.length_eq_one_iff.mp has
 exact ⟨⟨[some x],rfl,rfl⟩,hs i x ys _ hi (hx xs (hl _ _ _ (Nat.le_of_lt hi) p)) p⟩
theorem Yo (Pv:Nat→List V→Hp→Prop) (h0:Pv 0 [] (upd H1 acc (.lst []))) (hl:∀ i ys H,i≤xs.length→Pv i ys H→SqT K H a xs)
 (hs:∀ i x ys H,i < xs.length→xs[i]?=some x→Pv i ys H→tt (some x :: cs) H (JY xs.length Pv acc i te (some x :: cs))) (hd:∀ ys H,Pv xs.length ys H→Q H):Yf (Itt K a) 1 cs (QX 0) tt te H1 acc Q:=by
 refine QS Pv h0 (fun ys H p=>⟨⟨xs,hl _ _ _ (7:) p,Nat.le_refl _⟩,hd ys H p⟩) fun i ys H hi p=>⟨⟨xs,xs[i],hl _ _ _ (Nat.le_of_lt hi) p,List.getElem?_eq_getElem hi⟩,?_⟩
 rintro x H3 ⟨rfl,hx⟩ as has
 obtain ⟨a0,rfl⟩ : ∃ a0,as=[a0]:=List.length_eq_one_iff.mp has
 exact ⟨⟨[some x],rfl,rfl⟩,hs i x ys _ hi (hx xs (hl _ _ _ (Nat.le_of_lt hi) p)) p⟩
theorem UO {lo:Int} {n:Nat} (Pv:Nat→List V→Hp→Prop) (h0:Pv 0 [] (upd H1 acc (.lst [])))
 (hs:∀ i ys H,i < n→Pv i ys H→tt (some (.int (lo + i)) :: cs) H (JY n Pv acc i te (some (.int (lo + i)) :: cs))) (hd:∀ ys H,Pv n ys H→Q H):Yf (Itr lo n) 1 cs (QX 0) tt te H1 acc Q:=by
 refine QS Pv h0 (fun ys H p=>⟨Nat.le_refl _,hd ys H p⟩) fun i ys H hi p=>⟨hi,?_⟩
 rintro x H3 ⟨rfl,rfl⟩ as has
 obtain ⟨a0,rfl⟩ : ∃ a0,as=[a0]:=List.length_eq_one_iff.mp has
 exact ⟨⟨[some _],rfl,rfl⟩,hs i ys _ hi p⟩
theorem Um {as:St} (h:as.length=2):∃ a0 a1,as=[a0,a1]:=by
 match as,h with
 | [a0,a1],_=>exact ⟨a0,a1,rfl⟩
theorem Y9 (Pv:Nat→List V→Hp→Prop) (h0:Pv 0 [] (upd H1 acc (.lst []))) (hl:∀ i ys H,i≤xs.length→Pv i ys H→SqL K H a xs)
 (hs:∀ i x ys H,i < xs.length→xs[i]?=some x→Pv i ys H→∃ p u v,x=.ref p∧SqT K H p [u,v]∧tt (some u :: some v :: cs) H (JY xs.length Pv acc i te (some u :: some v :: cs))) (hd:∀ ys H,Pv xs.length ys H→Q H):Yf (Itl K a) 2 cs (W6 K 2 (ZV (QX 0) (ZV (QX 1) X7))) tt te H1 acc Q:=by
 refine QS Pv h0 (fun ys H p=>⟨⟨xs,hl _ _ _ (7:) p,Nat.le_refl _⟩,hd ys H p⟩) fun i ys H hi p=>⟨⟨xs,xs[i],hl _ _ _ (Nat.le_of_lt hi) p,List.getElem?_eq_getElem hi⟩,?_⟩
 rintro x H3 ⟨rfl,hx⟩ as has
 obtain ⟨a0,a1,rfl⟩:=Um has
 obtain ⟨q,u,v,rfl,hq,h⟩:=hs i x ys _ hi (hx xs (hl _ _ _ (Nat.le_of_lt hi) p)) p
 exact ⟨q,[u,v],rfl,hq,rfl,u,[v],rfl,v,[],rfl,rfl,⟨[some u,some v],rfl,rfl⟩,h⟩
theorem M8 (hlen:xs.length=zs.length) (Pv:Nat→List V→Hp→Prop) (h0:Pv 0 [] (upd H1 acc (.lst []))) (hl:∀ i ys H,i≤xs.length→Pv i ys H→SqL K H a xs∧SqL K H b zs)
 (hs:∀ i u v p ys H,i < xs.length→xs[i]?=some u→zs[i]?=some v→H p=none→Pv i ys H→tt (some u :: some v :: cs) (upd H p (.tup [u,v])) (JY xs.length Pv acc i te (some u :: some v :: cs))) (hd:∀ ys H,Pv xs.length ys H→Q H):Yf (Itz K a b xs zs) 2 cs (W6 K 2 (ZV (QX 0) (ZV (QX 1) X7))) tt te H1 acc Q:=by
 refine QS (N:=xs.length) Pv h0 (fun ys H p=>?_) fun i ys H hi p=>?_
 ·obtain ⟨qa,qb⟩:=hl _ _ _ (7:) p
  exact ⟨⟨qa,qb,.inl (7:)⟩,hd ys H p⟩
 ·obtain ⟨qa,qb⟩:=hl _ _ _ (Nat.le_of_lt hi) p
  refine ⟨⟨qa,qb,hi,by lia⟩,?_⟩
  rintro x H3 ⟨q,u,v,hq,rfl,rfl,hu,hv⟩ as has
  obtain ⟨a0,a1,rfl⟩:=Um has
  exact ⟨q,[u,v],rfl,SqT.of Qb,rfl,u,[v],rfl,v,[],rfl,rfl,⟨[some u,some v],rfl,rfl⟩,hs i u v q ys _ hi hu hv hq p⟩
end
end L2
namespace L2
open PySem PySem.Spec PyProof.Rows
section
variable {κ:Type} [DecidableEq κ]
def Z7 (kvs:List (κ × V)) (k:κ):Option V:=(kvs.find? fun kv=>decide (kv.1=k)).map (·.2)
def MU (kvs:List (κ × V)) (k:κ) (v:V):List (κ × V) :=
 if (kvs.any fun kv=>decide (kv.1=k))=true then kvs.map (fun kv=>if kv.1=k then (kv.1,v) else kv) else kvs ++ [(k,v)]
theorem Yu {p:κ × V} {r:List (κ × V)} {k:κ} (e:p.1=k):Z7 (p :: r) k=some p.2:=by simp [Z7,List.find?_cons,e]
theorem YH {p:κ × V} {r:List (κ × V)} {k:κ} (e:¬ p.1=k):Z7 (p :: r) k=Z7 r k:=by simp [Z7,List.find?_cons,e]
theorem RelO.getD {o:Option V} {u:Option Value} {d:V} {d':Value} (r:RelO o u) (rd:RelV d d'):RelV (o.getD d) (u.getD d'):=by
 cases o with
 | none=>cases u with
  | none=>exact rd
  | some _=>exact (show False from r).elim
 | some _=>cases u with
  | none=>exact (show False from r).elim
  | some _=>exact r
theorem KV.val {kvs:List (κ × V)} {vs:List (κ × Value)} (r:KV kvs vs) (k:κ):RelO (Z7 kvs k) (valueAt vs k):=by
 unfold KV at r
 induction r with
 | nil=>exact True.intro
 | @cons p q ps qs h t ih =>
  obtain ⟨h1,h2⟩:=h
  by_cases e:p.1=k
  ·have e':q.1=k:=h1.symm.trans e
   have b:valueAt (q :: qs) k=some q.2:=by simp [valueAt,List.find?_cons,e']
   rw [Yu e,b];exact h2
  ·have e':¬ q.1=k:=fun z=>e (h1.trans z)
   have b:valueAt (q :: qs) k=valueAt qs k:=by simp [valueAt,List.find?_cons,e']
   rw [YH e,b];exact ih
theorem KV.any {kvs:List (κ × V)} {vs:List (κ × Value)} (r:KV kvs vs) (k:κ):(kvs.any fun kv=>decide (kv.1=k))=vs.any fun kv=>decide (kv.1=k):=by
 unfold KV at r
 induction r with
 | nil=>rfl
 | cons h t ih=>rw [List.any_cons,List.any_cons,ih,h.1]
theorem KV.repl {kvs:List (κ × V)} {vs:List (κ × Value)} (r:KV kvs vs) (k:κ) {y:V} {u:Value} (ry:RelV y u) :
 KV (kvs.map fun kv=>if kv.1=k then (kv.1,y) else kv) (vs.map fun kv=>if kv.1=k then (kv.1,u) else kv):=by
 unfold KV at r ⊢
 induction r with
 | nil=>exact .nil
 | @cons p q ps qs h t ih =>
  rw [List.map_cons,List.map_cons]
  refine .cons ?_ ih
  obtain ⟨h1,h2⟩:=h
  by_cases e:p.1=k
  ·rw [if_pos e,if_pos (h1.symm.trans e)];exact ⟨h1,ry⟩
  ·rw [if_neg e,if_neg (fun z=>e (h1.trans z))];exact ⟨h1,h2⟩
theorem KV.put {kvs:List (κ × V)} {vs:List (κ × Value)} (r:KV kvs vs) (k:κ) {y:V} {u:Value} (ry:RelV y u):KV (MU kvs k y) (stored vs k u):=by
 unfold MU stored
 rw [r.any k]
 by_cases e:(vs.any fun kv=>decide (kv.1=k))=true
 ·rw [if_pos e,if_pos e];exact r.repl k ry
 ·rw [if_neg e,if_neg e];exact Paired.snoc r ⟨rfl,ry⟩
theorem KV.keys {kvs:List (κ × V)} {vs:List (κ × Value)} (r:KV kvs vs):kvs.map (·.1)=vs.map (·.1):=by
 unfold KV at r
 induction r with
 | nil=>rfl
 | cons h t ih=>rw [List.map_cons,List.map_cons,ih,h.1]
theorem KV.length {kvs:List (κ × V)} {vs:List (κ × Value)} (r:KV kvs vs):kvs.length=vs.length:=Paired.length r
end
theorem Ji {P:Program} {w:World} {k:Key} {u:Value} (r:RelV (kV k) u):(Qt P w).is k u=true:=by
 cases k with
 | inl i=>obtain ⟨t,e⟩:=(show ∃ t,u=Value.int i t from r);subst e;exact J8 P w i t
 | inr x=>obtain ⟨t,e⟩:=(show ∃ t,u=Value.str x t from r);subst e;exact Xt P w x t
theorem Ju {P:Program} {w:World}:∀ {ks:List Key} {us:List Value},Vals (ks.map kV) us→ItemsAre (Qt P w) ks us
 | [],_,r=>by rw [List.map_nil] at r;cases r;exact .nil
 | k :: ks,_,r=>by
  rw [List.map_cons] at r
  cases r with
  | cons h t=>exact .cons (Ji h) (Ju t)
abbrev KT (H:Hp):List (List Key × V)→List (List Key × Addr × Value)→Prop:=Paired fun p q=>p.1=q.1∧H q.2.1=some (.tup (p.1.map kV))∧RelV p.2 q.2.2
theorem KT.val {H:Hp} {kvs:List (List Key × V)} {xs:List (List Key × Addr × Value)} (r:KT H kvs xs) (k:List Key):RelO (Z7 kvs k) ((atKey xs k).map (·.2)):=by
 induction r with
 | nil=>exact True.intro
 | @cons p q ps qs h t ih =>
  obtain ⟨h1,_,h2⟩:=h
  by_cases e:p.1=k
  ·have e':q.1=k:=h1.symm.trans e
   have b:atKey (q :: qs) k=some q.2:=by simp [atKey,List.find?_cons,e']
   rw [Yu e,b];exact h2
  ·have e':¬ q.1=k:=fun z=>e (h1.trans z)
   have b:atKey (q :: qs) k=atKey qs k:=by simp [atKey,List.find?_cons,e']
   rw [YH e,b];exact ih
section
variable {P:Program} {w:World} {H:Hp} {h:Heap} {a:Addr}
theorem MJ {u:HO} (ok:HOk P w H h) (e:Rd H a u):ObjOk P w H h a u:=e.ok ok
theorem Jm {kvs:List (Key × V)} (ok:HOk P w H h) (e:Rd H a (.dK kvs)):kvs.length≤sizeLine∧(a == sysModules)=false∧∃ vs,KV kvs vs∧h.DictOf (Qt P w) a vs :=
 show ObjOk P w H h a (.dK kvs) from MJ ok e
theorem MQ {kvs:List (Key × V)} (ok:HOk P w H h) (e:H a=some (.dK kvs)):kvs.length≤sizeLine∧(a == sysModules)=false∧∃ vs,KV kvs vs∧h.DictOf (Qt P w) a vs:=Jm ok (.inl e)
theorem J2 {ks:List Key} (ok:HOk P w H h) (e:H a=some (.tup (ks.map kV))):(tupleKind (Qt P w)).is h ks a:=by
 obtain ⟨_,its,r,o,h1,h2,n,h3⟩:=(show ObjOk P w H h a (.tup (ks.map kV)) from ok a _ e)
 exact ⟨o,its.toArray,n,h1,h2,h3,by simpa using Ju r⟩
theorem Xo {kvs:List (List Key × V)} (ok:HOk P w H h) (e:Rd H a (.dT kvs)):kvs.length≤sizeLine∧(a == sysModules)=false ∧
 ∃ xs,KT H kvs xs∧h.DictOfH (tupleKind (Qt P w)) a xs:=by
 obtain ⟨z,y,xs,r,o,es,ep,h1,h2,h3,h4,h5⟩:=(show ObjOk P w H h a (.dT kvs) from MJ ok e)
 refine ⟨z,y,xs,r,o,es,ep,h1,h2,h3,h4,fun x hx=>?_,h5⟩
 have all:∀ {l:List (List Key × V)} {m:List (List Key × Addr × Value)},KT H l m→∀ x ∈ m,(tupleKind (Qt P w)).is h x.1 x.2.1:=by
  intro l m q
  induction q with
  | nil=>intro x hx;exact nomatch hx
  | @cons p q ps qs hq t ih =>
   intro x hx
   rcases List.mem_cons.mp hx with e | hx
   ·subst e
    exact J2 ok (by rw [← hq.1];exact hq.2.1)
   ·exact ih x hx
 exact all r x hx
end
def DGet (H:Hp) (a:Addr) (y:V) (r:Option V):Prop :=
 (∃ kvs k,Rd H a (.dK kvs)∧y=kV k∧r=Z7 kvs k)∨∃ kvs k b,Rd H a (.dT kvs)∧y=.ref b∧H b=some (.tup (k.map kV))∧r=Z7 kvs k
theorem DGet.k {H:Hp} {a:Addr} {kvs:List (Key × V)} {k:Key} (e:H a=some (.dK kvs)):DGet H a (kV k) (Z7 kvs k):=.inl ⟨kvs,k,.inl e,rfl,rfl⟩
section
variable {X:Cx} {pins:List (11:)} {σ:St} {H:Hp} {s:Shared} {a:Addr} {y v:V} {u r:Value} {o:Option V} {A:Around} {E:Value→Shared→Prop}
theorem Inv.big (I:Inv X pins σ H s):sysModules < s.heap.objs.size:=by
 have h:mainGlobals < s.heap.objs.size:=(I.mod.glob.keeps I.bk).lt
 exact Nat.lt_trans (by decide) h
theorem Vi {Q:Value→Shared→Prop} (hu:A.units + 1 < cLine) (I:Inv X pins σ H s) (g:DGet H a y (some v)) (ry:RelV y u) (h:∀ w' s',Inv X pins σ H s'→RelV v w'→Q w' s') :
 wpAny (6:) A (getItem (.ref a) u) Q E s:=by
 rcases g with ⟨kvs,k,e,ey,l⟩ | ⟨kvs,k,b,e,ey,eb,l⟩
 ·subst ey
  obtain ⟨z,hd,vs,rel,dd⟩:=Jm I.hok e
  obtain ⟨w',hw,rw'⟩:=RelO.some_of (v:=v) (o:=valueAt vs k) (by rw [l];exact rel.val k)
  exact wpAny_getItem_of (Ji ry) dd.mapOf hw (h w' _ (I.tok _) rw')
 ·subst ey
  cases (show u=Value.ref b from ry)
  obtain ⟨z,hd,xs,rel,dd⟩:=Xo I.hok e
  obtain ⟨w',hw,rw'⟩:=RelO.some_of (v:=v) (o:=(atKey xs k).map (·.2)) (by rw [l];exact rel.val k)
  obtain ⟨p,hp,hp2⟩:=Option.map_eq_some_iff.mp hw
  refine wpAny_getItem_heap (tupleKind_room_in1 hu) (J2 I.hok eb) dd hp ?_
  rw [hp2]
  exact h w' _ (I.tok _) rw'
theorem Ms {h':Heap} {t':Nat} {ob:HO} (I:Inv X pins σ H s) (mu:Mut (H a)) (hs:Heap.SameBut a s.heap h') (he:∃ q,h'.get? a=some q) (new:ObjOk X.prog X.w (upd H a ob) h' a ob) :
 Inv X pins σ (upd H a ob) { s with heap:=h',toks:=t' } :=
 I.write (x:=a) (e:=a) mu (.inl rfl) (fun b q hb z=>(hs.2 b hb).trans z) he new
theorem GC {P:Program} {w:World} {H':Hp} {h':Heap} {kvs:List (Key × V)} {vs:List (Key × Value)} (z:kvs.length≤sizeLine) (hd:(a == sysModules)=false) (rel:KV kvs vs) (dd:h'.DictOf (Qt P w) a vs) :
 ObjOk P w H' h' a (.dK kvs):=⟨z,hd,vs,rel,dd⟩
end
section
variable {X:Cx} {pins:List (11:)} {σ:St} {H:Hp} {s:Shared} {a:Addr} {kvs:List (Key × V)} {k:Key} {u:Value} {A:Around} {E:Value→Shared→Prop}
end
def Ob (i:Expr):Prop:=∀ ov iv,subscripted i false ov iv=operate [ov,iv] (getItem ov iv)
theorem Ma {prog:Program} {w:World} {A:Around} {E:Value→Shared→Prop} {s:Shared} {env:Env} {value slice:Expr} {pos:Pos} {T id:String} {Q:Value→Shared→Prop}
 (hl:typeLookup (.type T) "__getitem__" = pure (some (.builtin id))) (hs:Ob slice)
 (h:wpAny (15:) A (eval value env) (fun o s₁=>wpAny (15:) A (eval slice env) (fun i s₂=>s₂.TypeIs o T∧wpAny (15:) A (getItem o i) Q E s₂) E s₁) E s) :
 wpAny (15:) A (eval (.Subscript value slice pos) env) Q E s:=by
 refine Subscript_ (wpAny_mono h (fun o s₁ h₁=>wpAny_mono h₁ (fun i s₂ h₂=>?_) fun _ _ x=>x) fun _ _ x=>x)
 obtain ⟨hT,h₂⟩:=h₂
 unfold subscriptTail
 refine wpAny_bind ?_
 rw [getitemInPython_of_ne hT.not_modules]
 refine wpAny_bind (wpAny_specialOf hT hl ?_)
 have fin:wpAny (15:) A (subscripted slice false o i) (fun r s₃=>wpAny (15:) A (letTemporaryGo value o r >>= fun _=>pure r) Q E s₃) E s₂:=by
  rw [hs o i]
  exact wpAny_operating (wpAny_mono h₂ (fun r s₃ h₃=>wpAny_bind (wpAny_letTemporaryGo (wpAny_pure h₃))) fun _ _ x=>x)
 first
  | exact wpAny_pure (wpAny_bind fin)
  | exact wpAny_bind (wpAny_pure (wpAny_bind fin))
  | exact wpAny_bind fin
theorem Xh {X:Cx} {pins:List (11:)} {σ:St} {H:Hp} {s:Shared} {a:Addr} {y:V} {o:Option V} (I:Inv X pins σ H s) (g:DGet H a y o):s.TypeIs (.ref a) "dict" := by
 rcases g with ⟨kvs,k,e,_,_⟩ | ⟨kvs,k,b,e,_,_,_⟩
 ·obtain ⟨_,_,vs,_,dd⟩:=Jm I.hok e
  exact dd.typeIs
 ·obtain ⟨_,_,xs,_,dd⟩:=Xo I.hok e
  exact dd.typeIs
def Ot (td ty:TE):TE:=fun σ H Q=>td σ H fun x H1=>ty σ H1 fun y H2=>∃ a v,x=.ref a∧DGet H2 a y (some v)∧Q v H2
section
variable {X:Cx} {o i e value:Expr} {pos pos' tpos:Pos} {td ty tv:TE}
theorem Mu (hu:X.A.units + 1 < cLine) (ho:PE X o td) (hi:PE X i ty) (hs:Ob i):PE X (.Subscript o i pos) (Ot td ty):=by
 intro pins s σ H Q I h
 refine Ma PySem.F.slot_dict_getitem.lookup hs (thn (ho pins s σ H _ I h) fun u s1 ⟨x,H1,I1,rx,q1⟩=>thn (hi pins s1 σ H1 _ I1 q1) fun iv s2 ⟨y,H2,I2,ry,a,v,ex,g,q2⟩=>?_)
 subst ex
 obtain rfl:u=Value.ref a:=rx
 exact ⟨Xh I2 g,Vi hu I2 g ry fun w' s3 I3 rw'=>⟨v,H2,I3,rw',q2⟩⟩
end
theorem GY {P:Program} {w:World} {H:Hp} (h:Heap) (hb:sysModules < h.objs.size):ObjOk P w H (h.push { cls:=.type "dict", data:=.dict #[] }) h.objs.size (.dK []) :=
 ⟨Nat.zero_le _,beq_eq_false_iff_ne.mpr (Ne.symm (Nat.ne_of_lt hb)),[],.nil,Heap.DictOf.new h⟩
def VG:TE:=fun _ H Q=>∀ p,H p=none→Q (.ref p) (upd H p (.dK []))
section
variable {X:Cx} {pos:Pos}
theorem VY:PE X (.Dict [] [] pos) VG:=fun pins s σ H Q I h =>
 wpAny_Dict_empty ⟨.ref s.heap.objs.size,_,I.laid (a:=s.heap.objs.size) (o:=.dK []) (t':=s.toks) (fun _ _ q=>Heap.get?_push_of_some _ q) (7:) (GY s.heap I.big),rfl,h _ (I.hok.fresh (7:))⟩
end
structure M1 (X:Cx) (o:Expr) (m:Str) (apos:Pos) (e:Expr) (cpos:Pos):Prop where
 base:attributeBase o m X.env (eval o X.env)=eval o X.env
 few:((backTo cpos (starEach [e] X.env)).all (fun x=>!x.1) && (backToKw cpos (keywordEach [] X.env)).all (fun x=>x.1.isSome)
  && decide (([e]:List Expr).length + ([]:List Keyword).length + (if ([]:List Keyword).isEmpty then 0 else 1) < 30))=true
 line:(apos.endLine == cpos.line)=true
 trees:backTo cpos (starEach [e] X.env)=[(false,eval e X.env)]
structure M2 (X:Cx) (o:Expr) (m:Str) (apos:Pos) (e f:Expr) (cpos:Pos):Prop where
 base:attributeBase o m X.env (eval o X.env)=eval o X.env
 few:((backTo cpos (starEach [e,f] X.env)).all (fun x=>!x.1) && (backToKw cpos (keywordEach [] X.env)).all (fun x=>x.1.isSome)
  && decide (([e,f]:List Expr).length + ([]:List Keyword).length + (if ([]:List Keyword).isEmpty then 0 else 1) < 30))=true
 line:(apos.endLine == cpos.line)=true
 trees:backTo cpos (starEach [e,f] X.env)=[(false,eval e X.env),(false,eval f X.env)]
def IsD (H:Hp) (a:Addr):Prop:=(∃ kvs,Rd H a (.dK kvs))∨∃ kvs,Rd H a (.dT kvs)
theorem Gq {X:Cx} {pins:List (11:)} {σ:St} {H:Hp} {s:Shared} {a:Addr} (I:Inv X pins σ H s) (d:IsD H a) :
 s.TypeIs (.ref a) "dict" ∧ (∀ b,Value.ref a=.ref b→∃ ob,s.heap.get? b=some ob∧ob.dict=none)∧(a == sysModules)=false:=by
 rcases d with ⟨kvs,e⟩ | ⟨kvs,e⟩
 ·obtain ⟨_,hd,vs,_,dd⟩:=Jm I.hok e
  refine ⟨dd.typeIs,fun b q=>?_,hd⟩
  cases q
  obtain ⟨ob,_,_,h1,h2,_⟩:=dd
  exact ⟨ob,h1,h2.2.1⟩
 ·obtain ⟨_,hd,xs,_,dd⟩:=Xo I.hok e
  refine ⟨dd.typeIs,fun b q=>?_,hd⟩
  cases q
  obtain ⟨ob,_,_,h1,h2,_⟩:=dd
  exact ⟨ob,h1,h2.2.1⟩
section
variable {X:Cx} {pins:List (11:)} {σ:St} {H:Hp} {s:Shared} {a:Addr} {y d:V} {u r:Value} {o:Option V} {A:Around} {E:Value→Shared→Prop}
theorem MV {Q:Value→Shared→Prop} (hu:A.units + 1 < cLine) (I:Inv X pins σ H s) (g:DGet H a y o) (ry:RelV y u) (h:∀ w' s',Inv X pins σ H s'→RelV (o.getD .non) w'→Q w' s') :
 wpAny (6:) A (call (.builtin "dict.get") [.ref a,u]) Q E s:=by
 rcases g with ⟨kvs,k,e,ey,l⟩ | ⟨kvs,k,b,e,ey,eb,l⟩
 ·subst ey
  obtain ⟨z,hd,vs,rel,dd⟩:=Jm I.hok e
  refine call_meetsIn PySem.F.slot_dict_get dd.typeIs PySem.F.entry_dict_get (PySem.F.args_dict_get_2 _ _) (meets_dict_get (Qt X.prog X.w) a (Ji ry) hd) ⟨_,dd.mapOf,h _ _ (I.tok _) ?_⟩
  rw [l]
  exact (rel.val k).getD rfl
 ·subst ey
  cases (show u=Value.ref b from ry)
  obtain ⟨z,hd,xs,rel,dd⟩:=Xo I.hok e
  refine call_meetsIn PySem.F.slot_dict_get dd.typeIs PySem.F.entry_dict_get (PySem.F.args_dict_get_2 _ _) (meetsH_dict_get (tupleKind (Qt X.prog X.w)) a b hd) ⟨tupleKind_room_in1 hu,k,xs,J2 I.hok eb,dd,h _ _ (I.tok _) ?_⟩
  rw [l]
  exact (rel.val k).getD rfl
theorem M5 {Q:Value→Shared→Prop} (hu:A.units + 1 < cLine) (I:Inv X pins σ H s) (g:DGet H a y o) (ry:RelV y u) (rd:RelV d r) (h:∀ w' s',Inv X pins σ H s'→RelV (o.getD d) w'→Q w' s') :
 wpAny (6:) A (call (.builtin "dict.get") [.ref a,u,r]) Q E s:=by
 rcases g with ⟨kvs,k,e,ey,l⟩ | ⟨kvs,k,b,e,ey,eb,l⟩
 ·subst ey
  obtain ⟨z,hd,vs,rel,dd⟩:=Jm I.hok e
  refine call_meetsIn PySem.F.slot_dict_get dd.typeIs PySem.F.entry_dict_get (PySem.F.args_dict_get_3 _ _ _) (meets_dict_get_default (Qt X.prog X.w) a (Ji ry) hd r) ⟨_,dd.mapOf,h _ _ (I.tok _) ?_⟩
  rw [l]
  exact (rel.val k).getD rd
 ·subst ey
  cases (show u=Value.ref b from ry)
  obtain ⟨z,hd,xs,rel,dd⟩:=Xo I.hok e
  refine call_meetsIn PySem.F.slot_dict_get dd.typeIs PySem.F.entry_dict_get (PySem.F.args_dict_get_3 _ _ _) (meetsH_dict_get_default (tupleKind (Qt X.prog X.w)) a b hd r) ⟨tupleKind_room_in1 hu,k,xs,J2 I.hok eb,dd,h _ _ (I.tok _) ?_⟩
  rw [l]
  exact (rel.val k).getD rd
end
def NP (td ty:TE):TE:=fun σ H Q=>td σ H fun x H1=>∃ a,x=.ref a∧IsD H1 a∧ty σ H1 fun y H2=>∃ o,DGet H2 a y o∧Q (o.getD .non) H2
def NG (td ty tx:TE):TE:=fun σ H Q=>td σ H fun x H1=>∃ a,x=.ref a∧IsD H1 a∧ty σ H1 fun y H2=>tx σ H2 fun z H3=>∃ o,DGet H3 a y o∧Q (o.getD z) H3
section
variable {X:Cx} {o e f:Expr} {apos cpos:Pos} {td ty tx:TE}
theorem VM (hu:X.A.units + 1 < cLine) (ho:PE X o td) (he:PE X e ty) (m:M1 X o "get" apos e cpos):PE X (.Call (.Attribute o "get" apos) [e] [] cpos) (NP td ty):=by
 intro pins s σ H Q I h
 refine wpAny_Call_method m.base m.few m.line PySem.F.plainAttrs_dict PySem.F.slot_dict_get PySem.F.type_dict_get (thn (ho pins s σ H _ I h) fun u s1 ⟨x,H1,I1,rx,a,ex,d,q1⟩=>?_)
 subst ex
 obtain rfl:u=Value.ref a:=rx
 obtain ⟨t1,t2,_⟩:=Gq I1 d
 refine ⟨t1,t2,?_⟩
 rw [m.trees]
 refine Calls.callWith_builtin rfl (Calls.evalArgs_plain (Calls.spliced_cons (thn (he pins s1 σ H1 _ I1 q1) fun iv s2 ⟨y,H2,I2,ry,ov,g,q2⟩=>Calls.spliced_nil ?_)))
 exact MV hu I2 g ry fun w' s3 I3 rw'=>⟨_,H2,I3,rw',q2⟩
theorem Gx (hu:X.A.units + 1 < cLine) (ho:PE X o td) (he:PE X e ty) (hf:PE X f tx) (m:M2 X o "get" apos e f cpos):PE X (.Call (.Attribute o "get" apos) [e,f] [] cpos) (NG td ty tx):=by
 intro pins s σ H Q I h
 refine wpAny_Call_method m.base m.few m.line PySem.F.plainAttrs_dict PySem.F.slot_dict_get PySem.F.type_dict_get (thn (ho pins s σ H _ I h) fun u s1 ⟨x,H1,I1,rx,a,ex,d,q1⟩=>?_)
 subst ex
 obtain rfl:u=Value.ref a:=rx
 obtain ⟨t1,t2,_⟩:=Gq I1 d
 refine ⟨t1,t2,?_⟩
 rw [m.trees]
 refine Calls.callWith_builtin rfl (Calls.evalArgs_plain (Calls.spliced_cons (thn (he pins s1 σ H1 _ I1 q1) fun iv s2 ⟨y,H2,I2,ry,q2⟩ =>
  Calls.spliced_cons (thn (hf pins s2 σ H2 _ I2 q2) fun fv s3 ⟨z,H3,I3,rz,ov,g,q3⟩=>Calls.spliced_nil ?_))))
 exact M5 hu I3 g ry rz fun w' s4 I4 rw'=>⟨_,H3,I4,rw',q3⟩
end
section
variable {X:Cx} {pins:List (11:)} {σ:St} {H:Hp} {s:Shared} {a:Addr} {kvs:List (Key × V)} {A:Around} {E:Value→Shared→Prop}
end
section
variable {X:Cx} {pins:List (11:)} {σ:St} {H:Hp} {s:Shared} {a:Addr} {y:V} {u:Value} {A:Around} {E:Value→Shared→Prop}
end
end L2
namespace Srt
open PySem PySem.W PyProof.Rows
variable {α β:Type} {O:KeyOrd} {key:Nat→O.α} {n:Nat}
def Ok (O:KeyOrd) (key:Nat→O.α) (n:Nat) (Q:α→Prop):KasT α→Prop
 | .ret a=>Q a
 | .ask i j k=>i < n∧j < n∧Ok O key n Q (k (O.blt (key i) (key j)))
theorem Ok.bind {t:KasT α} {f:α→KasT β} {Q:β→Prop}:Ok O key n (fun a=>Ok O key n Q (f a)) t→Ok O key n Q (t.bind f):=by
 induction t with
 | ret a=>exact id
 | ask i j k ih=>exact fun h=>⟨h.1,h.2.1,ih _ h.2.2⟩
theorem Ok.wp {cmp:Nat→Nat→(Bool→Shared→Prop)→Shared→Prop} {s:Shared} (hc:∀ i j C,i < n→j < n→C (O.blt (key i) (key j)) s→cmp i j C s) {G:α→Shared→Prop} {Q:α→Prop} (hq:∀ a,Q a→G a s) {t:KasT α}:Ok O key n Q t→t.kasWp cmp G s:=by
 induction t with
 | ret a=>exact hq a
 | ask i j k ih=>exact fun h=>hc i j _ h.1 h.2.1 (ih _ h.2.2)
def Pm (n:Nat) (p:Array Nat):Prop:=p.toList.Perm (List.range n)
theorem Pm.size {p:Array Nat} (h:Pm n p):p.size=n:=by
 have:=h.length_eq
 simpa using this
theorem Pm.lt {p:Array Nat} (h:Pm n p) {i:Nat} (hi:i < n):p.getD i 0 < n:=by
 have hs:i < p.size:=by rw [h.size];exact hi
 have e:p.getD i 0=p[i]:=by simp [Array.getD,hs]
 rw [e]
 have:p[i] ∈ p.toList:=by simp
 exact List.mem_range.mp (h.mem_iff.mp this)
theorem Pm.of {p q:Array Nat} (h:Pm n p) (e:q.Perm p):Pm n q:=(Array.perm_iff_toList_perm.mp e).trans h
variable (key) in
def kk (p:Array Nat) (i:Nat):O.α:=key (p.getD i 0)
theorem ZW {p q:Array Nat} {i j:Nat} (h:p[i]?=q[j]?):kk key p i=kk key q j:=by
 unfold kk
 rw [Array.getD_eq_getD_getElem?,Array.getD_eq_getD_getElem?,h]
variable (key) in
def Up (p:Array Nat) (k:Nat):Prop:=∀ i j,i≤j→j < k→O.kle (kk key p i) (kk key p j)
variable (key) in
def Vb (p:Array Nat) (k:Nat):Prop:=∀ i j,i≤j→j < k→O.kle (kk key p j) (kk key p i)
theorem XZ {p:Array Nat} {i j:Nat} (hj:j≤p.size) (k:Nat):kk key (kas_rev p i j) k=if i≤k∧k < j then kk key p (i + j - 1 - k) else kk key p k:=by
 have e:=getElem?_mirror_all (xs:=p) (i:=i) hj k
 unfold kas_rev
 by_cases h:i≤k∧k < j
 ·rw [if_pos h] at e ⊢;exact ZW e
 ·rw [if_neg h] at e ⊢;exact ZW e
theorem Uq {p:Array Nat} {i j:Nat} (hj:j≤p.size) (heq:∀ k,i≤k→k < j→kk key p k=kk key p (j - 1)) (k:Nat):kk key (kas_rev p i j) k=kk key p k:=by
 rw [XZ hj]
 by_cases h:i≤k∧k < j
 ·rw [if_pos h,heq _ (4:) (4:),heq k h.1 h.2]
 ·rw [if_neg h]
theorem Pm.rev {p:Array Nat} (h:Pm n p) (i j:Nat):Pm n (kas_rev p i j):=h.of (mirror_perm _ _ _ _)
theorem Lu {p:Array Nat} {m:Nat} (h1:1≤m) (hs:Up key p m) (h:O.kle (kk key p (m - 1)) (kk key p m)):Up key p (m + 1):=fun i j hij hj=>by
 by_cases hjm:j < m
 ·exact hs i j hij hjm
 ·have:j=m:=by lia
  subst this
  by_cases hi:i=j
  ·subst hi;exact KeyOrd.kle_refl _
  ·exact KeyOrd.kle_trans (hs i (j - 1) (4:) (4:)) h
theorem Z8 {p:Array Nat} {m:Nat} (h1:1≤m) (hs:Vb key p m) (h:O.kle (kk key p m) (kk key p (m - 1))):Vb key p (m + 1):=fun i j hij hj=>by
 by_cases hjm:j < m
 ·exact hs i j hij hjm
 ·have:j=m:=by lia
  subst this
  by_cases hi:i=j
  ·subst hi;exact KeyOrd.kle_refl _
  ·exact KeyOrd.kle_trans h (hs i (j - 1) (4:) (4:))
theorem Wm {p:Array Nat} (hP:Pm n p) {Q:Nat→Prop}:∀ (f m:Nat),1≤m→m + f≤n→Up key p m→(∀ m',m≤m'→m'≤m + f→Up key p m'→(m'=m + f∨O.klt (kk key p m') (kk key p (m' - 1)))→Q m')→Ok O key n Q (kas_asc p f m)
 | 0,m,_,_,hs,h=>h m (7:) (7:) hs (.inl rfl)
 | f + 1,m,h1,hn,hs,h=>by
  refine ⟨hP.lt (4:),hP.lt (4:),?_⟩
  show Ok O key n Q (if O.blt (kk key p m) (kk key p (m - 1))=true then .ret m else kas_asc p f (m + 1))
  cases hb:O.blt (kk key p m) (kk key p (m - 1)) with
  | true =>
   rw [if_pos rfl]
   exact h m (7:) (4:) hs (.inr hb)
  | false =>
   rw [if_neg Bool.false_ne_true]
   exact Wm hP f (m + 1) (4:) (4:) (Lu h1 hs hb) fun m' a b c d=>h m' (4:) (4:) c (by rcases d with d | d;exact .inl (4:);exact .inr d)
variable (key) in
def M4 (p:Array Nat) (m q:Nat):Prop:=q + 1≤m∧∀ i,m - (q + 1)≤i→i < m→kk key p i=kk key p (m - 1)
theorem Uj {Q:Array Nat × Nat × Nat→Prop}:∀ (f:Nat) (p:Array Nat) (m q:Nat),Pm n p→1≤m→m + f≤n→Vb key p m→M4 key p m q →
 (∀ p' m' q',Pm n p'→m≤m'→m'≤m + f→Vb key p' m'→M4 key p' m' q'→Q (p',m',q'))→Ok O key n Q (kas_desc f p m q)
 | 0,p,m,q,hP,_,_,hs,ht,h=>h p m q hP (7:) (7:) hs ht
 | f + 1,p,m,q,hP,h1,hn,hs,ht,h=>by
  have hsz:=hP.size
  refine ⟨hP.lt (4:),hP.lt (4:),?_⟩
  show Ok O key n Q (if O.blt (kk key p m) (kk key p (m - 1))=true then (if q > 0 then kas_desc f (kas_rev p (m - (q + 1)) m) (m + 1) 0 else kas_desc f p (m + 1) 0)
   else .ask (p.getD (m - 1) 0) (p.getD m 0) fun d=>if d=true then .ret (p,m,q) else kas_desc f p (m + 1) (q + 1))
  have one:∀ p':Array Nat,M4 key p' (m + 1) 0:=fun p'=>⟨by lia,fun i a b=>by congr 1;lia⟩
  cases hb:O.blt (kk key p m) (kk key p (m - 1)) with
  | true =>
   rw [if_pos rfl]
   have hd:=Z8 h1 hs (KeyOrd.kle_of_klt hb)
   by_cases hq:q > 0
   ·rw [if_pos hq]
    have e:=Uq (key:=key) (p:=p) (i:=m - (q + 1)) (j:=m) (4:) ht.2
    refine Uj f _ (m + 1) 0 (hP.rev _ _) (4:) (4:) (fun i j a b=>by rw [e,e];exact hd i j a b) (one _) fun p' m' q' a b c d g=>h p' m' q' a (4:) (4:) d g
   ·rw [if_neg hq]
    exact Uj f p (m + 1) 0 hP (4:) (4:) hd (one _) fun p' m' q' a b c d g=>h p' m' q' a (4:) (4:) d g
  | false =>
   rw [if_neg Bool.false_ne_true]
   refine ⟨hP.lt (4:),hP.lt (4:),?_⟩
   show Ok O key n Q (if O.blt (kk key p (m - 1)) (kk key p m)=true then .ret (p,m,q) else kas_desc f p (m + 1) (q + 1))
   cases hc:O.blt (kk key p (m - 1)) (kk key p m) with
   | true =>
    rw [if_pos rfl]
    exact h p m q hP (7:) (4:) hs ht
   | false =>
    rw [if_neg Bool.false_ne_true]
    have he:kk key p m=kk key p (m - 1):=KeyOrd.kle_antisymm hc hb
    refine Uj f p (m + 1) (q + 1) hP (4:) (4:) (Z8 h1 hs hc) ⟨by have:=ht.1;lia,fun i a b=>?_⟩ fun p' m' q' a b c d g=>h p' m' q' a (4:) (4:) d g
    rw [Nat.add_sub_cancel]
    by_cases hi:i=m
    ·rw [hi]
    ·rw [he];exact ht.2 i (4:) (4:)
theorem WK {p:Array Nat} {m:Nat} (hP:Pm n p) (h1:1≤m) (hm:m≤n) (hs:Vb key p m) {Q:Nat × Array Nat→Prop} (h:∀ m' p',Pm n p'→1≤m'→m'≤n→Up key p' m'→Q (m',p')):Ok O key n Q (kas_tail3 m n p):=by
 have hsz:=hP.size
 refine Ok.bind (Wm (hP.rev 0 m) (n - m) m h1 (4:) (fun i j hij hj=>?_) fun m' a b c _=>h m' _ (hP.rev 0 m) (4:) (4:) c)
 rw [XZ (4:),XZ (4:),if_pos (4:),if_pos (4:)]
 exact hs _ _ (4:) (4:)
theorem YY {p:Array Nat} {m:Nat} (hP:Pm n p) (h1:1≤m) (hm:m + 1≤n) (hs:Vb key p (m + 1)) {Q:Nat × Array Nat→Prop} (h:∀ m' p',Pm n p'→1≤m'→m'≤n→Up key p' m'→Q (m',p')):Ok O key n Q (kas_descPart m n p):=by
 refine Ok.bind (Uj (n - (m + 1)) p (m + 1) 0 hP (4:) (4:) hs ⟨by lia,fun i a b=>by congr 1;lia⟩ fun p' m' q' a b c d g=>?_)
 have hsz:=a.size
 show Ok O key n Q (if q' > 0 then kas_tail3 m' n (kas_rev p' (m' - (q' + 1)) m') else kas_tail3 m' n p')
 by_cases hq:q' > 0
 ·rw [if_pos hq]
  have e:=Uq (key:=key) (p:=p') (i:=m' - (q' + 1)) (j:=m') (4:) g.2
  exact WK (a.rev _ _) (4:) (4:) (fun i j x y=>by rw [e,e];exact d i j x y) h
 ·rw [if_neg hq]
  exact WK a (4:) (4:) d h
theorem G4 {p:Array Nat} (hP:Pm n p) (h1:1≤n) {Q:Nat × Array Nat→Prop} (h:∀ m' p',Pm n p'→1≤m'→m'≤n→Up key p' m'→Q (m',p')):Ok O key n Q (kas_count n p):=by
 have hsz:=hP.size
 refine Ok.bind (Wm hP (n - 1) 1 (7:) (4:) (fun i j a b=>?_) fun m a b c d=>?_)
 ·have:i=j:=by lia
  subst this;exact KeyOrd.kle_refl _
 ·show Ok O key n Q (if (m == n)=true then .ret (m,p) else if m > 1 then .ask (p.getD 0 0) (p.getD (m - 1) 0) fun c=>if c=true then .ret (m,p) else kas_descPart m n (kas_rev p 0 m) else kas_descPart m n p)
  by_cases hm:m=n
  ·rw [if_pos (by simpa using hm)]
   exact h m p hP a (4:) c
  ·rw [if_neg (by simpa using hm)]
   have hlt:O.klt (kk key p m) (kk key p (m - 1)):=by
    rcases d with d | d
    ·exact absurd (4:) hm
    ·exact d
   by_cases hg:m > 1
   ·rw [if_pos hg]
    refine ⟨hP.lt (4:),hP.lt (4:),?_⟩
    show Ok O key n Q (if O.blt (kk key p 0) (kk key p (m - 1))=true then .ret (m,p) else kas_descPart m n (kas_rev p 0 m))
    cases hb:O.blt (kk key p 0) (kk key p (m - 1)) with
    | true =>
     rw [if_pos rfl]
     exact h m p hP a (4:) c
    | false =>
     rw [if_neg Bool.false_ne_true]
     have hall:∀ k,0≤k→k < m→kk key p k=kk key p (m - 1):=fun k _ hk =>
      KeyOrd.kle_antisymm (c k (m - 1) (4:) (4:)) (KeyOrd.kle_trans hb (c 0 k (4:) hk))
     have e:=Uq (key:=key) (p:=p) (i:=0) (j:=m) (4:) hall
     refine YY (hP.rev _ _) (4:) (4:) (Z8 (4:) (fun i j x y=>?_) ?_) h
     ·rw [e,e,hall i (4:) (4:),hall j (4:) y];exact KeyOrd.kle_refl _
     ·rw [e,e];exact KeyOrd.kle_of_klt hlt
   ·rw [if_neg hg]
    have:m=1:=by lia
    subst this
    refine YY hP (7:) (4:) (Z8 (7:) (fun i j x y=>?_) (KeyOrd.kle_of_klt hlt)) h
    have:i=j:=by lia
    subst this;exact KeyOrd.kle_refl _
theorem UT {p:Array Nat} {k:Nat} (hP:Pm n p) (hk:k < n) (hs:Up key p k) {Q:Nat→Prop}
 (h:∀ l,l≤k→(∀ i,i < l→O.kle (kk key p i) (kk key p k))→(∀ i,l≤i→i < k→O.klt (kk key p k) (kk key p i))→Q l):∀ (f l r:Nat),l≤r→r≤k→r - l≤f →
  (∀ i,i < l→O.kle (kk key p i) (kk key p k))→(∀ i,r≤i→i < k→O.klt (kk key p k) (kk key p i))→Ok O key n Q (kas_place p k f l r)
 | 0,l,r,a,b,c,d,e=>by
  have:l=r:=by lia
  subst this
  exact h l b d e
 | f + 1,l,r,a,b,c,d,e=>by
  show Ok O key n Q (if l ≥ r then .ret l else .ask (p.getD k 0) (p.getD ((l + r) / 2) 0) fun c=>if c=true then kas_place p k f l ((l + r) / 2) else kas_place p k f ((l + r) / 2 + 1) r)
  by_cases hge:l ≥ r
  ·rw [if_pos hge]
   have:l=r:=by lia
   subst this
   exact h l b d e
  ·rw [if_neg hge]
   refine ⟨hP.lt hk,hP.lt (4:),?_⟩
   show Ok O key n Q (if O.blt (kk key p k) (kk key p ((l + r) / 2))=true then kas_place p k f l ((l + r) / 2) else kas_place p k f ((l + r) / 2 + 1) r)
   cases hb:O.blt (kk key p k) (kk key p ((l + r) / 2)) with
   | true =>
    rw [if_pos rfl]
    exact UT hP hk hs h f l ((l + r) / 2) (4:) (4:) (4:) d fun i x y=>KeyOrd.klt_of_klt_of_kle hb (hs _ _ x y)
   | false =>
    rw [if_neg Bool.false_ne_true]
    exact UT hP hk hs h f ((l + r) / 2 + 1) r (4:) b (4:) (fun i x=>KeyOrd.kle_trans (hs i ((l + r) / 2) (4:) (4:)) hb) e
theorem Jk {p:Array Nat} {k d:Nat} (hs:k < p.size) (hd:d≤k) (i:Nat):kk key (bubble p k d) i=if i=k - d then kk key p k else if k - d < i∧i≤k then kk key p (i - 1) else kk key p i:=by
 have e:=getElem?_bubble hs d hd i
 by_cases h1:i=k - d
 ·rw [if_pos h1] at e ⊢;exact ZW e
 ·rw [if_neg h1] at e ⊢
  by_cases h2:k - d < i∧i≤k
  ·rw [if_pos h2] at e ⊢;exact ZW e
  ·rw [if_neg h2] at e ⊢;exact ZW e
theorem Gn {Q:Array Nat→Prop}:∀ (f:Nat) (p:Array Nat) (k:Nat),Pm n p→1≤k→k + f=n→Up key p k→(∀ p',Pm n p'→Up key p' n→Q p')→Ok O key n Q (kas_bin f p k)
 | 0,p,k,hP,_,hn,hs,h=>h p hP (by rw [← hn];exact hs)
 | f + 1,p,k,hP,h1,hn,hs,h=>by
  have hsz:=hP.size
  have hk:k < n:=by lia
  refine Ok.bind (UT hP hk hs (fun l a b c=>?_) k 0 k (Nat.zero_le _) (7:) (4:) (fun i x=>by lia) fun i x y=>by lia)
  refine Gn f _ (k + 1) (hP.of (bubble_perm _ _ _)) (4:) (4:) (fun i j hij hj=>?_) h
  rw [Jk (4:) (4:),Jk (4:) (4:),show k - (k - l)=l by lia]
  repeat' split
  all_goals first
   | (exfalso;lia)
   | exact KeyOrd.kle_refl _
   | exact b _ (4:)
   | exact KeyOrd.kle_of_klt (c _ (4:) (4:))
   | exact hs _ _ (4:) (4:)
theorem sort_ok (h1:1≤n) {Q:Array Nat→Prop} (h:∀ p,Pm n p→Up key p n→Q p):Ok O key n Q (kas_sort n):=by
 have hP:Pm n (List.toArray (List.range n)):=List.Perm.refl _
 refine Ok.bind (G4 hP h1 fun m p a b c d=>?_)
 show Ok O key n Q (if m < n then kas_bin (n - max m 1) p (max m 1) else .ret p)
 have hm:max m 1=m:=by lia
 by_cases hlt:m < n
 ·rw [if_pos hlt,hm]
  exact Gn (n - m) p m a b (4:) d h
 ·rw [if_neg hlt]
  have:m=n:=by lia
  subst this
  exact h p a d
end Srt
namespace L2
open PySem PySem.Spec PyProof.Rows PySem.W
section
variable {prog:Program} {w:World} {A:Around} {E:Value→Shared→Prop} {s:Shared}
end
section
variable {X:Cx}
end
end L2
namespace L2
open PySem PySem.Spec PyProof.Rows PySem.W
section
variable {prog:Program} {w:World} {A:Around} {E:Value→Shared→Prop} {s:Shared}
theorem Gb {a:Addr} {vs:List Value} {n:Nat} {P:PySem.Fin→Shared→Prop} (O:KeyOrd) (key:Nat→O.α) (κ:SortKind) (ho:s.heap.get? a=some (seqObj "list" vs.toArray n)) (h64:vs.length < 64)
 (hk:∀ (s':Shared) (Q:SortKind→Shared→Prop),(∀ b o,b≠a→s.heap.get? b=some o→s'.heap.get? b=some o)→2≤vs.length→Q κ s'→wpAny (15:) A (keyKind' vs.toArray) Q E s')
 (hc:∀ (s':Shared) (i j:Nat) (C:Bool→Shared→Prop),(∀ b o,b≠a→s.heap.get? b=some o→s'.heap.get? b=some o)→i < vs.length→j < vs.length→C (O.blt (key i) (key j)) s'→wpAny (15:) A (keyLt' κ (vs.getD i Value.none) (vs.getD j Value.none)) C (fun _ _=>False) s')
 (h:∀ p:Array Nat,Srt.Pm vs.length p→Srt.Up (O:=O) key p vs.length→P (.done (.ret .none)) { s with heap:=sortedHeap s.heap a vs (p.toList.map fun i=>vs.getD i Value.none).toArray }) :
 wpAny (15:) A (Builtin.«list.sort» ⟨[.ref a],[]⟩) P E s:=by
 have hal:a < s.heap.objs.size:=Heap.lt_size ho
 rw [list_sort_plain]
 refine wpAny_bind (listItems_at ho rfl ?_)
 refine wpAny_bind (listUpdate_at ho rfl ?_ (by rw [List.size_toArray,sizeLine_eq];lia) (Nat.zero_le _))
 obtain ⟨e1,ho1⟩ : ∃ e1,(s.heap.update a (Obj.mapSeq fun _=>(#[]:Array Value))).get? a=some (seqObj "list" #[] e1):=⟨_,get?_update_seq ho fun _=>#[]⟩
 refine wpAny_bind (seqEpoch_at ho1 rfl (wpAny_bind (wpAny_newTuple ?_ (by show vs.length≤_;rw [sizeLine_eq];lia))))
 refine wpAny_bind (wpAny_newList (wpAny_holding ?_) (Nat.zero_le _))
 have keep:∀ b o,b≠a→s.heap.get? b=some o→((12:).push (seqObj "list" #[] 0)).get? b=some o:=fun b o hb e =>
  Heap.get?_push_of_some _ (Heap.get?_push_of_some _ ((Heap.get?_update_ne _ _ _ _ hb).trans e))
 have ho6:((12:).push (seqObj "list" #[] 0)).get? a=some (seqObj "list" #[] e1):=Heap.get?_push_of_some _ (Heap.get?_push_of_some _ ho1)
 show wpAny (15:) A _ P E { s with heap:=(12:).push (seqObj "list" #[] 0) }
 dsimp only
 have hz:vs.toArray.size=vs.length:=List.size_toArray
 by_cases h2:vs.toArray.size < 2
 ·rw [if_pos h2,if_pos h2]
  refine wpAny_bind (wpAny_pure ?_)
  rw [StateT.run_pure]
  refine wpAny_bind (wpAny_pure ?_)
  dsimp only
  refine wpAny_bind (seqEpoch_at ho6 rfl ?_)
  have e2:(arrOf (SortSt.mk' general' (vs.toArray.zip vs.toArray) #[] 7 none)).map (·.2)=vs.toArray:=by
   show (vs.toArray.zip vs.toArray).map (·.2)=vs.toArray
   apply Array.toList_inj.mp
   rw [Array.toList_map,Array.toList_zip]
   exact List.map_snd_zip (7:)
  rw [e2]
  refine wpAny_bind (listUpdate_at ho6 rfl ?_ (hsz2:=by show vs.toArray.size≤_;rw [sizeLine_eq];lia))
  simp only [bne_self_eq_false,Bool.false_eq_true,if_false]
  have:=h (List.range vs.length).toArray (List.Perm.refl _) (fun i j hij hj=>by
   have:i=j:=by lia
   subst this
   exact O.irrefl _)
  have e3:((List.range vs.length).toArray.toList.map fun i=>vs.getD i Value.none)=vs:=by
   apply List.ext_getElem (by simp)
   intro i a b
   simp at a
   simp [a]
  rw [e3] at this
  exact wpAny_pure this
 ·rw [if_neg h2,if_neg h2]
  refine wpAny_bind ?_
  refine hk { s with heap:=(12:).push (seqObj "list" #[] 0) } _ keep (4:) ?_
  refine wpAny_bind (wpAny_mono (kat_run (Q:=fun st' s'=>∃ p:Array Nat,Srt.Pm vs.length p∧Srt.Up (O:=O) key p vs.length∧(arrOf st').map (·.2)=(p.toList.map fun i=>vs.getD i Value.none).toArray∧failedOf st'=none ∧
   s'={ s with heap:=(12:).push (seqObj "list" #[] 0) })
   (G:=fun p s'=>Srt.Pm vs.length p∧Srt.Up (O:=O) key p vs.length∧s'={ s with heap:=(12:).push (seqObj "list" #[] 0) })
   (vs:=vs) (ks:=vs) rfl (4:) (4:) (fun p st' s' hsz har hfl hg=>?_) ?_) (fun r s' hq=>?_) fun _ _ e=>e)
  ·obtain ⟨hP,hU,es⟩:=hg
   exact ⟨p,hP,hU,kat_snds rfl har,hfl,es⟩
  ·refine Srt.Ok.wp (O:=O) (key:=key) (n:=vs.length) (fun i j C hi hj hC=>?_) (Q:=fun p=>Srt.Pm vs.length p∧Srt.Up (O:=O) key p vs.length) (fun p hp=>⟨hp.1,hp.2,rfl⟩) (Srt.sort_ok (4:) fun p a b=>⟨a,b⟩)
   exact hc { s with heap:=(12:).push (seqObj "list" #[] 0) } i j C keep hi hj hC
  ·obtain ⟨p,o1,o2,o3,o4,rfl⟩:=hq
   obtain ⟨⟨⟩,st'⟩:=r
   dsimp only at o3 o4 ⊢
   refine wpAny_bind (seqEpoch_at ho6 rfl ?_)
   rw [o3]
   refine wpAny_bind (listUpdate_at ho6 rfl ?_ (hsz2:=by show (p.toList.map fun i=>vs.getD i Value.none).toArray.size≤_;rw [List.size_toArray,List.length_map,o1.length_eq,List.length_range,sizeLine_eq];lia))
   rw [o4]
   simp only [bne_self_eq_false,Bool.false_eq_true,if_false]
   exact wpAny_pure (h p o1 o2)
theorem XV {l:Addr} {vs:List Value} {Q:Value→Shared→Prop} (O:KeyOrd) (key:Nat→O.α) (κ:SortKind) (hl:s.heap.IsList l vs.toArray) (h64:vs.length < 64)
 (hk:∀ (s':Shared) (E':Value→Shared→Prop) (Q:SortKind→Shared→Prop),(∀ b o,s.heap.get? b=some o→s'.heap.get? b=some o)→2≤vs.length→Q κ s'→wpAny (15:) A.in1.in1 (keyKind' vs.toArray) Q E' s')
 (hc:∀ (s':Shared) (i j:Nat) (C:Bool→Shared→Prop),(∀ b o,s.heap.get? b=some o→s'.heap.get? b=some o)→i < vs.length→j < vs.length→C (O.blt (key i) (key j)) s'→wpAny (15:) A.in1.in1 (keyLt' κ (vs.getD i Value.none) (vs.getD j Value.none)) C (fun _ _=>False) s')
 (h:∀ p:Array Nat,Srt.Pm vs.length p→Srt.Up (O:=O) key p vs.length→Q (.ref (17:)) { s with heap:=sortedAll s.heap vs (p.toList.map fun i=>vs.getD i Value.none).toArray }) :
 wpAny (15:) A (call (.builtin "sorted") [.ref l]) Q E s:=by
 refine Calls.call_function_entry kind_sorted plain_sorted entry_sorted (args_sorted1 _) ?_
 unfold Builtin.«sorted»
 refine wpAny_bind (m:=checkCount "sorted" 1 1 _) (wpAny_pure ?_)
 refine wpAny_bind (collect_list hl ?_ (by rw [sizeLine_eq];lia))
 refine wpAny_bind (wpAny_newList ?_ (by rw [sizeLine_eq];lia))
 have hsz:((s.heap.push (seqObj "list" #[] 0)).update s.heap.objs.size (Obj.mapSeq (· ++ vs.toArray))).objs.size=s.heap.objs.size + 1:=by rw [Heap.size_update,size_push']
 have hoL:(((s.heap.push (seqObj "list" #[] 0)).update s.heap.objs.size (Obj.mapSeq (· ++ vs.toArray))).push (seqObj "list" vs.toArray 0)).get? (17:)=some (seqObj "list" vs.toArray 0):=by
  rw [← hsz];exact Heap.get?_push_size _ rfl
 have keep:∀ b o,s.heap.get? b=some o→(((s.heap.push (seqObj "list" #[] 0)).update s.heap.objs.size (Obj.mapSeq (· ++ vs.toArray))).push (seqObj "list" vs.toArray 0)).get? b=some o:=fun b o e=>by
  have hlt:b < s.heap.objs.size:=Heap.lt_size e
  exact Heap.get?_push_of_some _ ((Heap.get?_update_ne _ _ _ _ (Nat.ne_of_lt hlt)).trans (Heap.get?_push_of_some _ e))
 show wpAny _ _ _ _ _ { s with heap:=((s.heap.push (seqObj "list" #[] 0)).update s.heap.objs.size (Obj.mapSeq (· ++ vs.toArray))).push (seqObj "list" vs.toArray 0) }
 rw [hsz]
 refine wpAny_bind (wpAny_holding (wpAny_call_entry slot_list_sort ⟨_,hoL,rfl⟩ entry_list_sort ?_ (args_list_sort _)))
 have old:∀ (s':Shared),(∀ b o,b≠s.heap.objs.size + 1→(((s.heap.push (seqObj "list" #[] 0)).update s.heap.objs.size (Obj.mapSeq (· ++ vs.toArray))).push (seqObj "list" vs.toArray 0)).get? b=some o→s'.heap.get? b=some o)→∀ b o,s.heap.get? b=some o→s'.heap.get? b=some o:=fun s' h b o e=>by
  have hlt:b < s.heap.objs.size:=Heap.lt_size e
  exact h b o (fun z=>by rw [z] at hlt;exact absurd hlt (Nat.not_lt.mpr (Nat.le_succ _))) (keep b o e)
 refine Gb (A:=A.in1.in1) O key κ hoL h64 (fun s' Q' hs h2 hq=>hk s' _ Q' (old s' hs) h2 hq) (fun s' i j C hs hi hj hC=>hc s' i j C (old s' hs) hi hj hC) fun p o1 o2=>⟨_,rfl,wpAny_pure ⟨_,rfl,h p o1 o2⟩⟩
theorem LS {x y:Addr} {fx sx fy sy:Value} {b:Bool} {C:Bool→Shared→Prop} (hx:s.heap.IsTuple x [fx,sx].toArray) (hy:s.heap.IsTuple y [fy,sy].toArray)
 (hne:x≠y→SeqAt.EqAt A s fx fy false∧wpAny (15:) A (oneLt' b fx fy) C (fun _ _=>False) s) (heq:x=y→SeqAt.EqAt A s fx fx true∧SeqAt.EqAt A s sx sx true∧C false s) :
 wpAny (15:) A (keyLt' (tuples' b) (.ref x) (.ref y)) C E s:=by
 obtain ⟨ox,gx,cx,nx,dx⟩:=hx
 obtain ⟨oy,gy,cy,ny,dy⟩:=hy
 refine kat_lt gx dx gy dy ?_
 by_cases h:x=y
 ·subst h
  obtain rfl:=Option.some.inj (gx.symm.trans gy)
  rw [dx] at dy
  injection dy with e1 e2
  have e3:[fx,sx]=[fy,sy]:=by simpa using congrArg Array.toList e1
  injection e3 with e4 e5
  injection e5 with e6 e7
  subst e4 e6
  obtain ⟨q1,q2,q3⟩:=heq rfl
  show KatLex prog w A b _ C [(fx,fx),(sx,sx)] 0 s
  refine kat_cons (q1 _ _ _ _ (kat_yes (kat_cons (q2 _ _ _ _ (kat_yes (kat_nil ?_))))))
  exact q3
 ·obtain ⟨q1,q2⟩:=hne h
  show KatLex prog w A b _ C [(fx,fy),(sx,sy)] 0 s
  refine kat_cons (q1 _ _ _ _ (kat_no ?_))
  have:(b && (0:Nat) == 0)=b:=by simp
  rw [this]
  exact q2
end
theorem LK {α:Type} {O:KeyOrd} {ts:List α} {d:α} {key:α→O.α} {p:Array Nat} (hP:Srt.Pm ts.length p) (hU:Srt.Up (O:=O) (fun i=>key (ts.getD i d)) p ts.length) :
 (p.toList.map fun i=>ts.getD i d).Perm ts∧(p.toList.map fun i=>ts.getD i d).Pairwise fun x y=>O.blt (key y) (key x)=false:=by
 constructor
 ·have h1:=List.Perm.map (fun i=>ts.getD i d) hP
  have e:(List.range ts.length).map (fun i=>ts.getD i d)=ts:=by
   apply List.ext_getElem (by simp)
   intro i a b
   simp at a
   simp [a]
  rwa [e] at h1
 ·rw [List.pairwise_iff_getElem]
  intro i j hi hj hij
  have hsz:=hP.size
  simp only [List.length_map,Array.length_toList] at hi hj
  have:=hU i j (Nat.le_of_lt hij) (4:)
  unfold KeyOrd.kle Srt.kk at this
  have ei:p.getD i 0=p[i]:=by simp [Array.getD,hi]
  have ej:p.getD j 0=p[j]:=by simp [Array.getD,hj]
  rw [ei,ej] at this
  simpa using this
theorem IsTuple.keeps {h h':Heap} {a:Addr} {xs:Array Value} (k:∀ b o,h.get? b=some o→h'.get? b=some o) (x:h.IsTuple a xs):h'.IsTuple a xs:=by
 obtain ⟨o,e,r⟩:=x
 exact ⟨o,k _ _ e,r⟩
section
variable {prog:Program} {w:World} {A:Around} {E:Value→Shared→Prop} {s:Shared}
end
section
variable {X:Cx}
theorem YQ {α:Type} {f:α→Addr}:∀ {ts:List α} {us:List Value},Vals (ts.map fun t=>V.ref (f t)) us→us=ts.map fun t=>Value.ref (f t)
 | [],_,.nil=>rfl
 | t :: ts,_,.cons r rr=>by
  have e:_=Value.ref (f t):=r
  rw [List.map_cons,← YQ rr,← e]
theorem U9 {α:Type} {f:α→Addr}:∀ ts:List α,Vals (ts.map fun t=>V.ref (f t)) (ts.map fun t=>Value.ref (f t))
 | []=>.nil
 | t :: ts=>.cons rfl (U9 ts)
end
end L2
namespace L2
open PySem PySem.Spec PyProof.Rows
theorem Zf:plainId "dict.update.loop" = true:=by decide +kernel
theorem Z4:entryFor table "dict.update.loop" = some Builtin.«dict.update.loop»:=entryFor_of_tree (by kernel_rfl)
theorem Ux:typeLookup (.type "list") "keys" = pure none:=by rw [typeLookup_type,builtinLookup_eq_fast];kernel_rfl
section
variable {prog:Program} {w:World} {A:Around} {E:Value→Shared→Prop} {s:Shared}
theorem VC {a:Addr} {xs:Array Value} {k:Nat} {sl:Array (Option Value)} {Q:Option Value→Shared→Prop} (hx:s.heap.get? a=some { cls:=.type "list", dict:=none,data:=.seq xs k,slots:=sl }) (hA:A.handled=none)
 (h:∀ h' tk,(∀ b o,s.heap.get? b=some o→h'.get? b=some o)→Q none { s with heap:=h',toks:=tk }):wpAny (15:) A (getAttr? (.ref a) "keys") Q E s:=by
 obtain ⟨hp,g,d,tk,os⟩:=s
 have hT:∀ tk',(⟨hp,g,d,tk',os⟩ : Shared).TypeIs (.ref a) "list" := fun _=>⟨_,hx,rfl⟩
 have f1:=sub_AttributeError
 have f3:=F.slot_list_getattribute.lookup
 have f4:=F.slot_list_getattribute.bind (.ref a)
 have f5:=am_list_getattr_none
 unfold getAttr? getAttrBy? getAttrBy
 repeat (any_goals (first | assumption | exact hT _ | ((with_reducible show wpAny _ _ (call (Value.builtin "list.__getattribute__") _ _) _ _ _);refine call_meets F.slot_list_getattribute (hT _) am_entry_list_getattribute (F.args_list_getattribute_2 _ _) (meets_getattribute_miss_list a xs k sl "keys" _ Ux (0:)) ⟨hx,hA,fun h' tk' e hx'=>?_⟩) | wp_step))
 obtain ⟨t',u',he⟩:=hx'.there
 show wpAny _ _ (getattributeRaised _ _ _ _ _ _ _) _ _ _
 unfold getattributeRaised
 repeat (any_goals (first | assumption | wp_step))
 exact h _ _ hx'.keeps
theorem UU {h:Heap} {a b:Addr} {o u:Obj} (ha:h.get? a=some o) (hb:h.get? b=some u) (hc:o.cls≠u.cls):a≠b:=fun e=>by
 subst e
 rw [ha] at hb
 exact hc (congrArg Obj.cls (Option.some.inj hb))
def ZO (kvs:List (Key × Value)):List (Key × Value)→List (Key × Value)
 | []=>kvs
 | p :: r=>ZO (stored kvs p.1 p.2) r
theorem Xd {R:Result→Shared→Prop} {l d it:Addr} {items:Array Value} (hA:A.handled=none) (hli:l≠it) (hd0:(d == sysModules)=false):∀ (ps:List (Key × Value)) (i:Nat) (s:Shared) (kvs:List (Key × Value)),i + ps.length=items.size→s.heap.IsListIter it l i→s.heap.IsList l items→s.heap.DictOf (Qt prog w) d kvs→kvs.length + ps.length≤sizeLine →
 (∀ (j:Nat) (q:Key × Value),ps[j]?=some q→∃ p u,items[i + j]?=some (.ref p)∧(Qt prog w).is q.1 u=true∧s.heap.IsTuple p #[u,q.2]) →
 (∀ h' tk,h'.DictOf (Qt prog w) d (ZO kvs ps)→(∀ b o,b≠it→b≠d→s.heap.get? b=some o→h'.get? b=some o)→R (.ok (.ret .none)) { s with heap:=h',toks:=tk }) →
 codeAny (15:) A (.builtin "dict.update.loop" ⟨[.ref d,.ref it,rawInt (i:Int),.none],[]⟩) R s
 | [],i,s,kvs,hk,hit,hL,hD,hz,hp,hR=>by
  have W:=Walks.list (prog:=prog) (w:=w) (A:=A.in1) hA it l hli items
  have hin:i=items.size:=by simpa using hk
  subst hin
  refine codeAny_builtin Z4 ?_
  rw [Around.under_plainId Zf _]
  show wpAny _ A.in1 (pyNext (.ref it) >>= _) _ _ s
  refine wpAny_bind (W.done s _ _ ⟨hit,hL⟩ fun h' tk hk'=>?_)
  show wpAny _ A.in1 (Builtin.Dict.addKeywords d [] >>= _) _ _ _
  refine wpAny_bind (wpAny_pure (wpAny_pure ?_))
  have hdi:d≠it:=by
   obtain ⟨o,es,ep,ho,hc,_⟩:=hD
   obtain ⟨o2,ho2,hc2,_⟩:=hit
   exact UU ho ho2 (by rw [hc.1,hc2];intro z;injection z with z;exact absurd z (by decide))
  exact hR h' tk (hD.extBut (b:=it) (fun a o hne e=>hk' a o (by simpa using hne) e) hdi) (fun b o h1 _ e=>hk' b o (by simpa using h1) e)
 | q :: ps,i,s,kvs,hk,hit,hL,hD,hz,hp,hR=>by
  have W:=Walks.list (prog:=prog) (w:=w) (A:=A.in1) hA it l hli items
  obtain ⟨p,u,hip,hku,hpt⟩:=hp 0 q rfl
  rw [Nat.add_zero] at hip
  have hlt:i < items.size:=by rw [List.length_cons] at hk;lia
  have hdi:d≠it:=by
   obtain ⟨o,es,ep,ho,hc,_⟩:=hD
   obtain ⟨o2,ho2,hc2,_⟩:=hit
   exact UU ho ho2 (by rw [hc.1,hc2];intro z;injection z with z;exact absurd z (by decide))
  have hdl:d≠l:=by
   obtain ⟨o,es,ep,ho,hc,_⟩:=hD
   obtain ⟨o2,ho2,hc2,_⟩:=hL
   exact UU ho ho2 (by rw [hc.1,hc2];intro z;injection z with z;exact absurd z (by decide))
  have hpi:∀ {p:Addr} {xs:Array Value},s.heap.IsTuple p xs→p≠it∧p≠d:=fun {p xs} ht=>by
   obtain ⟨o,ho,hc,_⟩:=ht
   obtain ⟨o2,ho2,hc2,_⟩:=id hit
   obtain ⟨o3,es,ep,ho3,hc3,_⟩:=id hD
   exact ⟨UU ho ho2 (by rw [hc,hc2];intro z;injection z with z;exact absurd z (by decide)),UU ho ho3 (by rw [hc,hc3.1];intro z;injection z with z;exact absurd z (by decide))⟩
  refine codeAny_builtin Z4 ?_
  rw [Around.under_plainId Zf _]
  show wpAny _ A.in1 (pyNext (.ref it) >>= _) _ _ s
  refine wpAny_bind (W.item i s _ _ hlt ⟨hit,hL⟩ fun v h' tk hP hst' hk'=>?_)
  obtain rfl:v=.ref p:=Option.some.inj ((show items[i]?=some v from hP).symm.trans hip)
  have hk2:∀ b o,b≠it→s.heap.get? b=some o→h'.get? b=some o:=fun b o hb e=>hk' b o (by simpa using hb) e
  have hpt':h'.IsTuple p #[u,q.2]:=by
   obtain ⟨o,ho,r⟩:=id hpt
   exact ⟨o,hk2 _ _ (hpi hpt).1 ho,r⟩
  obtain ⟨o,ho,hc,n,hdat⟩:=id hpt'
  refine wpAny_bind (wpAny_holding ?_)
  refine wpAny_bind (wpAny_tryCatch ?_)
  unfold Builtin.Dict.pairItems
  refine wpAny_bind (wpAny_typeOf (T:="tuple") (s:={ s with heap:=h',toks:=tk }) ⟨o,ho,hc⟩ ?_)
  rw [if_pos (0:)]
  refine wpAny_bind ?_
  show wpAny _ A.in1 (load p >>= _) _ _ _
  refine wpAny_bind (wpAny_load ho ?_)
  rw [hdat]
  refine wpAny_pure (wpAny_pure ?_)
  have hD':h'.DictOf (Qt prog w) d kvs:=hD.extBut (b:=it) (fun a o hne e=>hk2 a o hne e) hdi
  refine wpAny_holding (wpAny_dictSet_pairs (s:={ s with heap:=h',toks:=tk }) hku hD' (fun h'' hD'' hs=>?_) (by rw [List.length_cons] at hz;lia))
  have hit2:h''.IsListIter it l (i + 1):=by
   obtain ⟨o,ho,r⟩:=hst'.1
   exact ⟨o,(hs.2 it (Ne.symm hdi)).trans ho,r⟩
  have hL2:h''.IsList l items:=by
   obtain ⟨o,ho,r⟩:=hst'.2
   exact ⟨o,(hs.2 l (Ne.symm hdl)).trans ho,r⟩
  have keep2:∀ b o,b≠it→b≠d→s.heap.get? b=some o→h''.get? b=some o:=fun b o h1 h2 e=>(hs.2 b h2).trans (hk2 b o h1 e)
  have hlen:(stored kvs q.1 q.2).length≤kvs.length + 1:=by
   unfold stored
   split
   ·rw [List.length_map];lia
   ·rw [List.length_append];simp
  refine wpAny_pure ⟨plainId_quiet Zf _,?_⟩
  refine Xd hA hli hd0 ps (i + 1) _ (stored kvs q.1 q.2) (by rw [List.length_cons] at hk;lia) hit2 hL2 hD'' (by rw [List.length_cons] at hz;lia) (fun j r hj=>?_) fun h3 tk3 hD3 hk3=>?_
  ·obtain ⟨p',u',e1,e2,e3⟩:=hp (j + 1) r (by simpa using hj)
   refine ⟨p',u',by rw [← e1];congr 1;lia,e2,?_⟩
   obtain ⟨o,ho,rr⟩:=id e3
   exact ⟨o,keep2 _ _ (hpi e3).1 (hpi e3).2 ho,rr⟩
  ·exact hR h3 tk3 hD3 fun b o h1 h2 e=>hk3 b o h1 h2 (keep2 b o h1 h2 e)
theorem Wb {l:Addr} {items:Array Value} {ps:List (Key × Value)} {Q:Value→Shared→Prop} (hA:A.handled=none) (hb:sysModules < s.heap.objs.size) {ol:Obj} {nl:Nat} (hl:s.heap.get? l=some ol) (hlc:ol.cls=.type "list") (hld:ol.dict=none) (hlt:ol.data=.seq items nl) (hz:ps.length≤sizeLine) (hn:ps.length=items.size)
 (hp:∀ (j:Nat) (q:Key × Value),ps[j]?=some q→∃ p u,items[j]?=some (.ref p)∧(Qt prog w).is q.1 u=true∧s.heap.IsTuple p #[u,q.2])
 (h:∀ h' tk,h'.DictOf (Qt prog w) s.heap.objs.size (ZO [] ps)→(∀ b o,s.heap.get? b=some o→h'.get? b=some o)→Q (.ref s.heap.objs.size) { s with heap:=h',toks:=tk }) :
 wpAny (15:) A (call (.type "dict") [.ref l]) Q E s:=by
 refine callType_codes (Q₁:=fun obj s₁=>obj=.ref s.heap.objs.size∧s₁={ s with heap:=s.heap.push { cls:=.type "dict", data:=.dict #[] } }) F.kt_called_dict (F.kt_typeCall_dict_1 _) F.entry_dict_init (kt_code_dict_new _ ⟨rfl,rfl⟩) ?_
 rintro obj s₁ ⟨rfl,rfl⟩
 have hnew:(s.heap.push { cls:=.type "dict", data:=.dict #[] }).DictOf (Qt prog w) s.heap.objs.size []:=Heap.DictOf.new s.heap
 have hl1:(s.heap.push { cls:=.type "dict", data:=.dict #[] }).get? l=some ol:=Heap.get?_push_of_some _ hl
 have hT:({ s with heap:=s.heap.push { cls:=.type "dict", data:=.dict #[] } }:Shared).TypeIs (.ref l) "list" := ⟨_,hl1,hlc⟩
 obtain ⟨c1,d1,t1,s1⟩:=ol
 simp only at hlc hld hlt
 subst hlc hld hlt
 refine ⟨hnew.typeIs,F.args_dict_init_2 _ _,?_⟩
 unfold Builtin.«dict.__init__»
 refine wpAny_bind ?_
 unfold Builtin.Dict.selfAndRest
 refine wpAny_bind (wpAny_notOrdered_dict hnew.typeIs ?_)
 show wpAny _ _ (pure (s.heap.objs.size,[Value.ref l])) _ _ _
 refine wpAny_pure ?_
 show wpAny _ _ (Builtin.Dict.updateFrom "dict.__init__" s.heap.objs.size (.ref l) [] .none) _ _ _
 unfold Builtin.Dict.updateFrom
 refine wpAny_bind (wpAny_typeOf hT ?_)
 rw [if_pos (by decide)]
 refine wpAny_bind (VC hl1 hA fun h2 tk2 hk2=>?_)
 simp only [Option.isNone_none,if_true]
 refine wpAny_bind (wpAny_rule ?_)
 have hL2:h2.IsList l items:=⟨_,hk2 _ _ hl1,rfl,nl,rfl⟩
 refine wpAny_bind (wpAny_pyIter_list (s:={ s with heap:=h2,toks:=tk2 }) hL2 ?_)
 have hlt2:l < h2.objs.size:=Heap.lt_size (hk2 _ _ hl1)
 have hsz2:s.heap.objs.size < h2.objs.size:=by
  obtain ⟨o,es,ep,ho,_⟩:=id hnew
  exact Heap.lt_size (hk2 _ _ ho)
 have hD2:h2.DictOf (Qt prog w) s.heap.objs.size []:=by
  obtain ⟨o,es,ep,ho,r⟩:=id hnew
  exact ⟨o,es,ep,hk2 _ _ ho,r⟩
 have old:∀ b o,s.heap.get? b=some o→h2.get? b=some o:=fun b o e=>hk2 b o (Heap.get?_push_of_some _ e)
 refine wpAny_pure ⟨plainId_quiet Zf _,Xd (A:=A.in1) (it:=h2.objs.size) (l:=l) (items:=items) hA (Nat.ne_of_lt hlt2) (beq_eq_false_iff_ne.mpr (Ne.symm (Nat.ne_of_lt hb))) ps 0 _ [] (by simpa using hn) ⟨_,Heap.get?_push_size _ rfl,rfl,rfl⟩ (hL2.push _) (hD2.push _) (by simpa using hz) (fun j q hq=>?_) fun h' tk hD hk=>⟨rfl,?_⟩⟩
 ·obtain ⟨p,u,e1,e2,o,ho,r⟩:=hp j q hq
  exact ⟨p,u,by rw [Nat.zero_add];exact e1,e2,o,Heap.get?_push_of_some _ (old _ _ ho),r⟩
 ·refine h h' tk hD fun b o e=>hk b o ?_ ?_ (Heap.get?_push_of_some _ (old b o e))
  ·exact Nat.ne_of_lt (Heap.lt_size (old b o e))
  ·exact Nat.ne_of_lt (Heap.lt_size e)
end
theorem Wu {kvs:List (Key × Value)} {k:Key} {v:Value} (h:k ∉ kvs.map (·.1)):stored kvs k v=kvs ++ [(k,v)]:=by
 unfold stored
 rw [if_neg]
 intro z
 obtain ⟨kv,h1,h2⟩:=List.any_eq_true.mp z
 exact h (List.mem_map.mpr ⟨kv,h1,of_decide_eq_true h2⟩)
theorem Yr:∀ (ps kvs:List (Key × Value)),((kvs ++ ps).map (·.1)).Nodup→ZO kvs ps=kvs ++ ps
 | [],kvs,_=>by simp [ZO]
 | p :: r,kvs,h=>by
  have hn:p.1 ∉ kvs.map (·.1):=fun hm=>by
   rw [List.map_append,List.nodup_append] at h
   exact h.2.2 _ hm _ (by simp) rfl
  show ZO (stored kvs p.1 p.2) r=_
  rw [Wu hn]
  have e:kvs ++ [(p.1,p.2)] ++ r=kvs ++ p :: r:=by simp
  rw [Yr r _ (by rw [e];exact h),e]
theorem Xe {X:Cx} {pins:List (11:)} {σ:St} {H:Hp} {s:Shared} (I:Inv X pins σ H s):∀ ts:List (Addr × Str × V),(∀ t ∈ ts,SqT X.K H t.1 [.str t.2.1,t.2.2]) →
 ∃ ps:List (Key × Value),KV (ts.map fun t=>((Sum.inr t.2.1:Key),t.2.2)) ps∧∀ (j:Nat) (q:Key × Value),ps[j]?=some q→∃ p u,(ts.map fun t=>Value.ref t.1)[j]?=some (.ref p)∧(Qt X.prog X.w).is q.1 u=true∧s.heap.IsTuple p #[u,q.2]
 | [],_=>⟨[],.nil,fun j q h=>by simp at h⟩
 | t :: r,h=>by
  obtain ⟨ps,h1,h2⟩:=Xe I r fun u hu=>h u (List.mem_cons_of_mem _ hu)
  obtain ⟨its,rv,p,_⟩:=I.tuple (h t List.mem_cons_self)
  obtain ⟨u,v,rfl,ru,rv'⟩:=rv.two
  refine ⟨(Sum.inr t.2.1,v) :: ps,.cons ⟨rfl,rv'⟩ h1,fun j q hj=>?_⟩
  cases j with
  | zero =>
   have:q=(Sum.inr t.2.1,v):=by simpa using hj.symm
   subst this
   exact ⟨t.1,u,rfl,Ji (k:=Sum.inr t.2.1) ru,p⟩
  | succ j =>
   obtain ⟨p',u',e1,e2,e3⟩:=h2 j q (by simpa using hj)
   exact ⟨p',u',by simpa using e1,e2,e3⟩
theorem KV.keys' {kvs:List (Key × V)} {ps:List (Key × Value)} (r:KV kvs ps):ps.map (·.1)=kvs.map (·.1):=by
 induction r with
 | nil=>rfl
 | cons h _ ih=>rw [List.map_cons,List.map_cons,ih,h.1]
section
variable {X:Cx}
theorem Uz (hc:X.calm=true):QN X (.type "dict") (fun xs H Q=>∃ (l:Addr) (ts:List (Addr × Str × V)),xs=[.ref l]∧SqL X.K H l (ts.map fun t=>V.ref t.1)∧(∀ t ∈ ts,SqT X.K H t.1 [.str t.2.1,t.2.2])∧(ts.map fun t=>t.2.1).Nodup∧ts.length≤1000 ∧
 ∀ d,H d=none→Q (.ref d) (upd H d (.dK (ts.map fun t=>((Sum.inr t.2.1:Key),t.2.2))))):=by
 intro pins s σ H xs us Q I r h
 obtain ⟨l,ts,rfl,hl,ht,hnd,hz,q⟩:=h
 cases r with
 | cons r rr =>
  cases rr
  obtain rfl:_=Value.ref l:=r
  obtain ⟨its,rv,⟨o,n,e,c,dn,dt⟩,_⟩:=I.list hl
  obtain rfl:=YQ rv
  obtain ⟨ps,hkv,hps⟩:=Xe I ts ht
  have hlen:ps.length=ts.length:=by have:=hkv.length;rw [List.length_map] at this;exact this.symm
  have hz1:ps.length≤sizeLine:=by rw [hlen,sizeLine_eq];lia
  refine Wb (I.ok.hd hc) I.big e c dn dt hz1 (by rw [List.size_toArray,List.length_map];exact hlen) (fun j q hq=>by simpa using hps j q hq) fun h' tk hD hk=>?_
  have hk1:((([]:List (Key × Value)) ++ ps).map (·.1)).Nodup:=by
   rw [List.nil_append,KV.keys' hkv,List.map_map]
   have e2:(ts.map ((fun x:Key × V=>x.1) ∘ fun t=>((Sum.inr t.2.1:Key),t.2.2)))=(ts.map fun t=>t.2.1).map (Sum.inr:Str→Key):=by rw [List.map_map];rfl
   rw [e2]
   exact List.Pairwise.map _ (fun a b hne z=>hne (by injection z)) hnd
  rw [Yr ps [] hk1,List.nil_append] at hD
  have hfr:=I.hok.fresh (Nat.le_refl s.heap.objs.size)
  refine ⟨.ref s.heap.objs.size,_,I.laid (a:=s.heap.objs.size) (o:=.dK (ts.map fun t=>((Sum.inr t.2.1:Key),t.2.2))) (t':=tk) hk (7:) (GC (by rw [List.length_map,sizeLine_eq];lia) (beq_eq_false_iff_ne.mpr (Ne.symm (Nat.ne_of_lt I.big))) hkv hD),rfl,q _ hfr⟩
theorem UB:∀ {bs:List Bool} {us:List Value},Vals (bs.map V.bl) us→us=bs.map Value.bool
 | [],_,.nil=>rfl
 | b :: bs,_,.cons r rr=>by
  have e:_=Value.bool b:=r
  rw [List.map_cons,← UB rr,← e]
theorem Vj (hc:X.calm=true):QN X (.builtin "all") (fun xs H Q=>∃ (l:Addr) (bs:List Bool),xs=[.ref l]∧SqL X.K H l (bs.map V.bl)∧Q (.bl (bs.all id)) H):=by
 intro pins s σ H xs us Q I r h
 obtain ⟨l,bs,rfl,hl,q⟩:=h
 cases r with
 | cons r rr =>
  cases rr
  obtain rfl:_=Value.ref l:=r
  obtain ⟨its,rv,p,_⟩:=I.list hl
  obtain rfl:=UB rv
  have hL:=p.isList
  have hlt:l < s.heap.objs.size:=by obtain ⟨_,e,_⟩:=hL;exact Heap.lt_size e
  refine call_all_walk (wpAny_pyIter_list hL ?_)
  refine ⟨s.heap.objs.size,[s.heap.objs.size,l],[s.heap.objs.size],(bs.map Value.bool).toArray.size,_,_,fun i=>(bs[i]?).getD true,rfl,Walks.list (A:=X.A.in1) (I.ok.hd hc) _ l (Nat.ne_of_lt hlt) (bs.map Value.bool).toArray,⟨⟨_,Heap.get?_push_size _ rfl,rfl,rfl⟩,hL.push _⟩,fun i v s' Q' E' hP hQ=>?_,fun h' tk hk=>?_⟩
  ·have hP':(bs.map Value.bool)[i]?=some v:=by simpa using hP
   rw [List.getElem?_map] at hP'
   cases eb:bs[i]? with
   | none=>rw [eb] at hP';simp at hP'
   | some b =>
    rw [eb] at hP'
    obtain rfl:Value.bool b=v:=by simpa using hP'
    have hQ2:Q' ((bs[i]?).getD true) s':=hQ
    rw [eb] at hQ2
    exact wpAny_truthy_bool hQ2
  ·have e:((List.range (bs.map Value.bool).toArray.size).all fun i=>(bs[i]?).getD true)=bs.all id:=by
    rw [List.size_toArray,List.length_map,Bool.eq_iff_iff,List.all_eq_true,List.all_eq_true]
    constructor
    ·intro h x hx
     obtain ⟨i,hi,rfl⟩:=List.getElem_of_mem hx
     have:=h i (List.mem_range.mpr hi)
     rw [List.getElem?_eq_getElem hi] at this
     exact this
    ·intro h i hi
     have hi':=List.mem_range.mp hi
     rw [List.getElem?_eq_getElem hi']
     exact h _ (List.getElem_mem hi')
   rw [e]
   exact ⟨.bl _,H,I.kept (t':=tk) (fun b o eb=>hk b o (fun hm=>by rw [List.mem_singleton.mp hm] at eb;exact Nat.lt_irrefl _ (Heap.lt_size eb)) (Heap.get?_push_of_some _ eb)),rfl,q⟩
end
end L2
namespace L2
open PySem PySem.Spec PyProof.Rows
section
variable {X:Cx} {tg:Expr}
end
end L2
namespace L2
open PySem PySem.Spec PyProof.Rows
section
variable {prog:Program} {w:World} {A:Around} {E:Value→Shared→Prop} {s:Shared} {it t:Addr} {i:Nat} {its:Array Value} {x:Value} {Q:Value→Shared→Prop}
theorem Za (hi:s.heap.IsTupleIter it t i) (ht:s.heap.IsTuple t its) (hx:its[i]?=some x) (q:∀ h',h'.IsTupleIter it t (i + 1)→Heap.SameBut it s.heap h'→Q x { s with heap:=h' }) :
 wpAny (15:) A (Builtin.SmallTypes.nextOf (.ref it)) Q E s:=by
 obtain ⟨oi,gi,ci,di⟩:=id hi
 obtain ⟨ot,gt,_,nt,dt⟩:=ht
 unfold Builtin.SmallTypes.nextOf
 refine wpAny_bind (wpAny_callSpecial?_slot (name:=Str.ofString "__next__") hi.typeIs F.slot_tuple_iterator_next (wpAny_call_entry F.slot_tuple_iterator_next hi.typeIs F.entry_tuple_iterator_next ?_ (F.args_tuple_iterator_next_1 _)))
 show wpAny _ _ (field (.ref it) 0 >>= _) _ _ s
 refine wpAny_bind (wpAny_field gi di (x:=.ref t) rfl ?_)
 show wpAny _ _ (if (Value.ref t == Value.none)=true then _ else _) _ _ s
 rw [if_neg (show ¬ ((Value.ref t == Value.none)=true) from Bool.false_ne_true)]
 show wpAny _ _ (field (.ref it) 1 >>= _) _ _ s
 refine wpAny_bind (wpAny_field gi di (x:=.int i 0) rfl ?_)
 show wpAny _ _ (seqItems? (.ref t) >>= _) _ _ s
 refine wpAny_bind (wpAny_seqItems gt dt ?_)
 simp only [Int.toNat_natCast,hx]
 refine wpAny_bind (wpAny_setField gi di (by simp) (wpAny_pure ⟨x,rfl,wpAny_pure (q _ ⟨_,Heap.get?_update_self _ gi (Obj.isFreed_of_fields (Obj.data_mapFields di _)),(Obj.cls_mapFields ..).trans ci,?_⟩ (Heap.SameBut.update ..))⟩))
 rw [Obj.data_mapFields di];simp [rawInt]
theorem YU (hh:A.handled=none) (hi:s.heap.IsTupleIter it t i) (ht:s.heap.IsTuple t its) (hx:its[i]?=none)
 (q:∀ h' e,Heap.ExtBut it s.heap h'→(∃ o,h'.get? e=some o∧o.cls=.type "StopIteration")→E (.ref e) { s with heap:=h' }):wpAny (15:) A (Builtin.SmallTypes.nextOf (.ref it)) Q E s:=by
 obtain ⟨oi,gi,ci,di⟩:=id hi
 obtain ⟨ot,gt,_,nt,dt⟩:=ht
 unfold Builtin.SmallTypes.nextOf
 refine wpAny_bind (wpAny_callSpecial?_slot (name:=Str.ofString "__next__") hi.typeIs F.slot_tuple_iterator_next (wpAny_call_entry F.slot_tuple_iterator_next hi.typeIs F.entry_tuple_iterator_next ?_ (F.args_tuple_iterator_next_1 _)))
 show wpAny _ _ (field (.ref it) 0 >>= _) _ _ s
 refine wpAny_bind (wpAny_field gi di (x:=.ref t) rfl ?_)
 show wpAny _ _ (if (Value.ref t == Value.none)=true then _ else _) _ _ s
 rw [if_neg (show ¬ ((Value.ref t == Value.none)=true) from Bool.false_ne_true)]
 show wpAny _ _ (field (.ref it) 1 >>= _) _ _ s
 refine wpAny_bind (wpAny_field gi di (x:=.int i 0) rfl ?_)
 show wpAny _ _ (seqItems? (.ref t) >>= _) _ _ s
 refine wpAny_bind (wpAny_seqItems gt dt ?_)
 simp only [Int.toNat_natCast,hx]
 refine wpAny_bind (wpAny_rule (wpAny_bind (wpAny_setField gi di (by simp) ?_)))
 show wpAny _ _ (newExc (.type "StopIteration") [] >>= _) _ _ _
 simp only [newExc,newTuple]
 refine wpAny_bind (wpAny_bind (wpAny_newObj_type (wpAny_bind (m:=firstArgMember _ _) (wpAny_of_eq (a:=Value.none) (by first | rfl | (simp only [firstArgMember];rfl)) (wpAny_newObj_type ?_ (by size_fits)))) (by size_fits)))
 simp only [raiseNew]
 refine wpAny_bind (wpAny_handled ?_)
 first | rw [show A.in1.handled=none from hh] | rw [hh]
 exact wpAny_bind (wpAny_pure (wpAny_throw (q _ _ (((Heap.SameBut.update ..).extBut.push _).push _) ⟨_,Heap.get?_push_size _ rfl,rfl⟩)))
end
section
variable {X:Cx} {elts:List Expr} {k1:Nat} {tpos:Pos}
end
end L2
namespace L2
open PySem PySem.Spec PyProof.Rows
section
variable {prog:Program} {w:World} {A:Around} {E:Value→Shared→Prop} {s:Shared}
theorem Vm {zp ti tu j1 j2 t1 t2:Addr} {n1 n2:Nat} {us vs:Array Value} {p q c d:Value} {Q:Value→Shared→Prop} (Ap:ZipApart zp ti tu j1 j2 t1 t2)
 (gz:IsZip s.heap zp ti tu .none) (gi:IsPair s.heap ti (.ref j1) (.ref j2)) (gu:IsPair s.heap tu c d)
 (w1:s.heap.IsTupleIter j1 t1 n1) (w2:s.heap.IsTupleIter j2 t2 n2) (l1:s.heap.IsTuple t1 us) (l2:s.heap.IsTuple t2 vs) (ep:us[n1]?=some p) (eq:vs[n2]?=some q)
 (k:∀ h',IsZip h' zp ti tu (rawInt s.heap.objs.size)→IsPair h' tu p q→h'.IsTupleIter j1 t1 (n1 + 1)→h'.IsTupleIter j2 t2 (n2 + 1)→IsPair h' s.heap.objs.size p q →
  (10:)→Q (.ref s.heap.objs.size) { s with heap:=h' }) :
 wpAny (15:) A (Builtin.«zip.__next__» ⟨[.ref zp],[]⟩) (fun fin s'=>∃ v,fin=.done (.ret v)∧Q v s') E s:=by
 show wpAny _ _ (field (.ref zp) 2 >>= _) _ _ _
 refine wpAny_bind (wpAny_field gz rfl (x:=.bool false) rfl ?_)
 show wpAny _ _ (field (.ref zp) 3 >>= _) _ _ _
 refine wpAny_bind (wpAny_field gz rfl (x:=.ref ti) rfl ?_)
 refine wpAny_bind (wpAny_seqItems gi rfl ?_)
 show wpAny _ _ (Builtin.SmallTypes.ownedTupleIsFree (.ref zp) >>= _) _ _ _
 refine wpAny_bind ?_;(unfold Builtin.SmallTypes.ownedTupleIsFree);refine wpAny_bind (wpAny_field gz rfl (x:=.none) rfl (wpAny_pure ?_))
 simp only [if_true]
 refine wpAny_bind (wpAny_rule (wpAny_bind (wpAny_field gz rfl (x:=.ref tu) rfl ?_)))
 refine wpAny_bind (wpAny_setField_rec gz (by simp) fun ha gza sa=>?_)
 replace gza:IsZip ha zp ti tu .ellipsis:=gza
 refine wpAny_bind ?_
 simp only [List.forIn_cons,List.forIn_nil,List.zipIdx_cons,List.zipIdx_nil]
 refine wpAny_bind (wpAny_bind (wpAny_onRaise ?_))
 show wpAny _ _ (Builtin.SmallTypes.nextOf (.ref j1) >>= _) _ _ _
 refine wpAny_bind (Za (w1.extBut sa.extBut Ap.i1z) (l1.extBut sa.extBut Ap.l1z) ep fun hb w1b sb=>wpAny_pure ?_)
 have gub:IsPair hb tu c d:=sb.extBut _ _ Ap.TOi1 (sa.extBut _ _ Ap.TOz gu)
 refine wpAny_bind (wpAny_seqItems gub rfl (wpAny_bind (wpAny_updateSeq_pair gub fun hc guc sc=>?_)))
 replace guc:IsPair hc tu p d:=guc
 refine wpAny_bind (wpAny_letGo (wpAny_pure (wpAny_bind (wpAny_bind (wpAny_onRaise ?_)))))
 show wpAny _ _ (Builtin.SmallTypes.nextOf (.ref j2) >>= _) _ _ _
 refine wpAny_bind (Za (((w2.extBut sa.extBut Ap.i2z).extBut sb.extBut Ap.i12.symm).extBut sc.extBut Ap.TOi2.symm) (((l2.extBut sa.extBut Ap.l2z).extBut sb.extBut Ap.l2i1).extBut sc.extBut Ap.l2TO) eq fun hd w2d sd=>wpAny_pure ?_)
 have gud:IsPair hd tu p d:=sd.extBut _ _ Ap.TOi2 guc
 refine wpAny_bind (wpAny_seqItems gud rfl (wpAny_bind (wpAny_updateSeq_pair gud fun he gue se=>?_)))
 replace gue:IsPair he tu p q:=gue
 refine wpAny_bind (wpAny_letGo (wpAny_pure (wpAny_pure (wpAny_bind (wpAny_seqItems gue rfl (wpAny_bind (wpAny_newTuple ?_)))))))
 have size5:he.objs.size=s.heap.objs.size:=by rw [se.1,sd.1,sc.1,sb.1,sa.1]
 have gze:IsZip he zp ti tu .ellipsis:=se.extBut _ _ Ap.TOz.symm (sd.extBut _ _ Ap.i2z.symm (sc.extBut _ _ Ap.TOz.symm (sb.extBut _ _ Ap.i1z.symm gza)))
 have kept5:∀ b o,b≠zp→b≠tu→b≠j1→b≠j2→s.heap.get? b=some o→he.get? b=some o:=fun b o b1 b2 b3 b4 e=>se.extBut _ _ b2 (sd.extBut _ _ b4 (sc.extBut _ _ b2 (sb.extBut _ _ b3 (sa.extBut _ _ b1 e))))
 have w1e:he.IsTupleIter j1 t1 (n1 + 1):=((w1b.extBut sc.extBut Ap.TOi1.symm).extBut sd.extBut Ap.i12).extBut se.extBut Ap.TOi1.symm
 have w2e:he.IsTupleIter j2 t2 (n2 + 1):=w2d.extBut se.extBut Ap.TOi2.symm
 have lz:zp < he.objs.size:=Heap.lt_size gze
 show wpAny _ _ (Builtin.SmallTypes.ownedTupleHandOut (.ref zp) (.ref he.objs.size) >>= _) _ _ _
 refine wpAny_bind ?_;(unfold Builtin.SmallTypes.ownedTupleHandOut)
 have gzf:IsZip (he.push { cls:=.type "tuple", data:=.seq #[p,q] }) zp ti tu .ellipsis:=Heap.get?_push_of_some _ gze
 refine wpAny_bind (wpAny_setField_rec gzf (by simp) fun hg gzg sg=>?_)
 replace gzg:IsZip hg zp ti tu (rawInt he.objs.size):=gzg
 refine wpAny_setField_rec gzg (by simp) fun hh gzh sh=>?_
 replace gzh:IsZip hh zp ti tu (rawInt he.objs.size):=gzh
 have upw:∀ b o,b≠zp→he.get? b=some o→hh.get? b=some o:=fun b o b1 e=>sh.extBut _ _ b1 (sg.extBut _ _ b1 (Heap.get?_push_of_some _ e))
 have gnew:IsPair hh he.objs.size p q:=sh.extBut _ _ (Nat.ne_of_gt lz) (sg.extBut _ _ (Nat.ne_of_gt lz) (Heap.get?_push_size _ rfl))
 rw [size5] at gzh gnew
 refine wpAny_pure ⟨_,rfl,?_⟩
 show Q (.ref he.objs.size) _
 rw [size5]
 exact k hh gzh (upw _ _ Ap.TOz gue) (w1e.at fun o e=>upw _ o Ap.i1z e) (w2e.at fun o e=>upw _ o Ap.i2z e) gnew fun b o b1 b2 b3 b4 e=>upw b o b1 (kept5 b o b1 b2 b3 b4 e)
theorem Gr {zp ti tu j1 j2 t1 t2:Addr} {n1 n2:Nat} {us vs:Array Value} {c d:Value} {Q:Fin→Shared→Prop} (hh:A.handled=none) (Ap:ZipApart zp ti tu j1 j2 t1 t2)
 (gz:IsZip s.heap zp ti tu .none) (gi:IsPair s.heap ti (.ref j1) (.ref j2)) (gu:IsPair s.heap tu c d)
 (w1:s.heap.IsTupleIter j1 t1 n1) (l1:s.heap.IsTuple t1 us) (ep:us[n1]?=none)
 (k:∀ h' e,(10:)→(∃ o,h'.get? e=some o∧o.cls=.type "StopIteration")→E (.ref e) { s with heap:=h' }) :
 wpAny (15:) A (Builtin.«zip.__next__» ⟨[.ref zp],[]⟩) Q E s:=by
 show wpAny _ _ (field (.ref zp) 2 >>= _) _ _ _
 refine wpAny_bind (wpAny_field gz rfl (x:=.bool false) rfl ?_)
 show wpAny _ _ (field (.ref zp) 3 >>= _) _ _ _
 refine wpAny_bind (wpAny_field gz rfl (x:=.ref ti) rfl ?_)
 refine wpAny_bind (wpAny_seqItems gi rfl ?_)
 show wpAny _ _ (Builtin.SmallTypes.ownedTupleIsFree (.ref zp) >>= _) _ _ _
 refine wpAny_bind ?_;(unfold Builtin.SmallTypes.ownedTupleIsFree);refine wpAny_bind (wpAny_field gz rfl (x:=.none) rfl (wpAny_pure ?_))
 simp only [if_true]
 refine wpAny_bind (wpAny_rule (wpAny_bind (wpAny_field gz rfl (x:=.ref tu) rfl ?_)))
 refine wpAny_bind (wpAny_setField_rec gz (by simp) fun ha gza sa=>?_)
 replace gza:IsZip ha zp ti tu .ellipsis:=gza
 refine wpAny_bind ?_
 simp only [List.forIn_cons,List.forIn_nil,List.zipIdx_cons,List.zipIdx_nil]
 refine wpAny_bind (wpAny_bind (wpAny_onRaise ?_))
 show wpAny _ _ (Builtin.SmallTypes.nextOf (.ref j1) >>= _) _ _ _
 refine wpAny_bind (YU hh (w1.extBut sa.extBut Ap.i1z) (l1.extBut sa.extBut Ap.l1z) ep fun hb e sb ge=>?_)
 obtain ⟨oe,hoe,hce⟩:=ge
 have gzb:IsZip hb zp ti tu .ellipsis:=sb _ _ Ap.i1z.symm gza
 have nez:e≠zp:=fun x=>by subst x;rw [gzb] at hoe;cases hoe;simp at hce
 refine wpAny_setField_rec gzb (by simp) fun hc _ sc=>k hc e (fun b o b1 _ b3 _ x=>sc.extBut _ _ b1 (sb _ _ b3 (sa.extBut _ _ b1 x))) ⟨oe,sc.extBut _ _ nez hoe,hce⟩
theorem YJ {zp ti tu j1 j2 t1 t2:Addr} {n1 n2:Nat} {us vs:Array Value} {p q c d:Value} {Q:Option Value→Shared→Prop} (Ap:ZipApart zp ti tu j1 j2 t1 t2)
 (gz:IsZip s.heap zp ti tu .none) (gi:IsPair s.heap ti (.ref j1) (.ref j2)) (gu:IsPair s.heap tu c d)
 (w1:s.heap.IsTupleIter j1 t1 n1) (w2:s.heap.IsTupleIter j2 t2 n2) (l1:s.heap.IsTuple t1 us) (l2:s.heap.IsTuple t2 vs) (ep:us[n1]?=some p) (eq:vs[n2]?=some q)
 (k:∀ h',IsZip h' zp ti tu (rawInt s.heap.objs.size)→IsPair h' tu p q→h'.IsTupleIter j1 t1 (n1 + 1)→h'.IsTupleIter j2 t2 (n2 + 1)→IsPair h' s.heap.objs.size p q →
  (10:)→Q (some (.ref s.heap.objs.size)) { s with heap:=h' }) :
 wpAny (15:) A (pyNext (.ref zp)) Q E s:=by
 have tz:s.TypeIs (.ref zp) "zip" := ⟨_,gz,rfl⟩
 unfold pyNext
 exact wpAny_bind (wpAny_attempt (wpAny_callSpecial?_slot (name:=Str.ofString "__next__") tz F.slot_zip_next (wpAny_call_entry F.slot_zip_next tz F.entry_zip_next (Vm Ap gz gi gu w1 w2 l1 l2 ep eq fun h' a1 a2 a3 a4 a5 a6=>wpAny_pure (k h' a1 a2 a3 a4 a5 a6)) (F.args_zip_next_1 _))))
theorem Y5 {zp ti tu j1 j2 t1 t2:Addr} {n1 n2:Nat} {us:Array Value} {c d:Value} {Q:Option Value→Shared→Prop} (hh:A.handled=none) (Ap:ZipApart zp ti tu j1 j2 t1 t2)
 (gz:IsZip s.heap zp ti tu .none) (gi:IsPair s.heap ti (.ref j1) (.ref j2)) (gu:IsPair s.heap tu c d) (w1:s.heap.IsTupleIter j1 t1 n1) (l1:s.heap.IsTuple t1 us) (ep:us[n1]?=none)
 (k:∀ h',(10:)→Q none { s with heap:=h' }):wpAny (15:) A (pyNext (.ref zp)) Q E s:=by
 have tz:s.TypeIs (.ref zp) "zip" := ⟨_,gz,rfl⟩
 unfold pyNext
 refine wpAny_bind (wpAny_attempt (wpAny_callSpecial?_slot (name:=Str.ofString "__next__") tz F.slot_zip_next (wpAny_call_entry F.slot_zip_next tz F.entry_zip_next (Gr hh (n2:=n2) (vs:=us) Ap gz gi gu w1 l1 ep fun h' e hk ge=>?_) (F.args_zip_next_1 _))))
 obtain ⟨o,ho,hc⟩:=ge
 exact wpAny_bind (wpAny_isInstance (T:="StopIteration") (b:=true) ⟨o,ho,hc⟩ isSubtype_stop (wpAny_pure (k _ hk)))
abbrev zT1 (h:Heap) (t1:Addr):Heap:=h.push { cls:=.type "tuple_iterator", data:=.fields #[.ref t1,.int 0 0] }
abbrev zT2 (h:Heap) (t1 t2:Addr):Heap:=(zT1 h t1).push { cls:=.type "tuple_iterator", data:=.fields #[.ref t2,.int 0 0] }
abbrev zT3 (h:Heap) (t1 t2:Addr):Heap:=(zT2 h t1 t2).push { cls:=.type "tuple", data:=.seq #[.ref h.objs.size,.ref (zT1 h t1).objs.size] }
abbrev zT4 (h:Heap) (t1 t2:Addr):Heap:=(zT3 h t1 t2).push { cls:=.type "tuple", data:=.seq #[.none,.none] }
abbrev zT5 (h:Heap) (t1 t2:Addr):Heap:=(zT4 h t1 t2).push { cls:=.type "zip", data:=.fields #[.none,.bool false,.bool false,.ref (zT2 h t1 t2).objs.size,.ref (zT3 h t1 t2).objs.size] }
theorem Ld (t1 t2:Addr) (us vs:Array Value) :
 Meets (Builtin.«zip.__new__» ⟨[.type "zip", .ref t1,.ref t2],[]⟩) (fun _ R s=>s.heap.IsTuple t1 us∧s.heap.IsTuple t2 vs ∧
  R (.ok (.ret (.ref (zT4 s.heap t1 t2).objs.size))) { s with heap:=zT5 s.heap t1 t2 }) :=
 .of_wp fun prog w A R s h=>by
  obtain ⟨hp,g,d,tk,os⟩:=s;obtain ⟨l1,l2,h⟩:=h
  have hsub:=sub_zip
  have L1:Heap.IsTuple (Shared.heap ⟨hp,g,d,tk,os⟩) t1 us:=l1
  have L2:Heap.IsTuple (Shared.heap ⟨hp.push { cls:=.type "tuple_iterator", data:=.fields #[.ref t1,.int 0 0] },g,d,tk,os⟩) t2 vs:=let ⟨o,e,r⟩:=l2;⟨o,Heap.get?_push_of_some _ e,r⟩
  wp_walk using wpAny_pyIter_tuple L1,wpAny_pyIter_tuple L2
  exact ⟨_,rfl,h⟩
theorem WZ {t1 t2:Addr} {us vs:Array Value} {Q:Value→Shared→Prop} (l1:s.heap.IsTuple t1 us) (l2:s.heap.IsTuple t2 vs)
 (h:∀ h',IsZip h' (s.heap.objs.size + 4) (s.heap.objs.size + 2) (s.heap.objs.size + 3) .none→IsPair h' (s.heap.objs.size + 2) (.ref s.heap.objs.size) (.ref (17:)) →
  IsPair h' (s.heap.objs.size + 3) .none .none→h'.IsTupleIter s.heap.objs.size t1 0→h'.IsTupleIter (17:) t2 0 →
  (∀ c o,s.heap.get? c=some o→h'.get? c=some o)→Q (.ref (s.heap.objs.size + 4)) { s with heap:=h' }) :
 wpAny (15:) A (call (.type "zip") [.ref t1,.ref t2]) Q E s:=by
 refine callType_new F.called_zip (by decide) (F.typeCall_zip_2 _ _) (F.newCall_zip_2 _ _) (fun obj=>F.args_object_init_3 obj _ _) F.entry_zip_new (Ld t1 t2 us vs) ⟨l1,l2,?_⟩
 have q1:(zT1 s.heap t1).objs.size=s.heap.objs.size + 1:=Heap.size_push ..
 have q2:(zT2 s.heap t1 t2).objs.size=s.heap.objs.size + 2:=by rw [Heap.size_push,q1]
 have q3:(zT3 s.heap t1 t2).objs.size=s.heap.objs.size + 3:=by rw [Heap.size_push,q2]
 have q4:(zT4 s.heap t1 t2).objs.size=s.heap.objs.size + 4:=by rw [Heap.size_push,q3]
 have r5:(zT5 s.heap t1 t2).get? (zT4 s.heap t1 t2).objs.size=some _:=Heap.get?_push_size _ rfl
 have r4:(zT5 s.heap t1 t2).get? (zT3 s.heap t1 t2).objs.size=some _:=Heap.get?_push_of_some _ (Heap.get?_push_size _ rfl)
 have r3:(zT5 s.heap t1 t2).get? (zT2 s.heap t1 t2).objs.size=some _:=Heap.get?_push_of_some _ (Heap.get?_push_of_some _ (Heap.get?_push_size _ rfl))
 have r2:(zT5 s.heap t1 t2).get? (zT1 s.heap t1).objs.size=some _:=Heap.get?_push_of_some _ (16:)
 have r1:(zT5 s.heap t1 t2).get? s.heap.objs.size=some _:=Heap.get?_push_of_some _ (Heap.get?_push_of_some _ (16:))
 show _∧_
 rw [q2,q3,q4] at r5
 rw [q1,q2] at r3
 rw [q3] at r4
 rw [q1] at r2
 rw [q4]
 exact ⟨⟨_,r5,rfl⟩,h _ r5 r3 r4 ⟨_,r1,rfl,rfl⟩ ⟨_,r2,rfl,rfl⟩ fun b o x=>Heap.get?_push_of_some _ (Heap.get?_push_of_some _ (Heap.get?_push_of_some _ (Heap.get?_push_of_some _ (Heap.get?_push_of_some _ x))))⟩
end
def NJ (K:PySem.W.Frag) (a b:Addr) (xs ys:List V):It :=
 ⟨fun i H=>SqT K H a xs∧SqT K H b ys∧i < xs.length∧i < ys.length,fun i H x H'=>∃ p u v,H p=none∧x=.ref p∧H'=upd H p (.tup [u,v])∧xs[i]?=some u∧ys[i]?=some v,fun i H=>SqT K H a xs∧xs.length≤i⟩
theorem W3 {P:Program} {w:World} {K:PySem.W.Frag} {elts:List Expr} {k1:Nat} {pos:Pos} (a b z:Addr) (xs ys:List V) (TI TO i1 i2:Addr) (Ap:ZipApart z TI TO i1 i2 a b) :
 Turn P w K (.Tuple elts k1 pos) (NJ K a b xs ys) [z,TI,TO,i1,i2] z (fun i h=>IsZip h z TI TO .none∧IsPair h TI (.ref i1) (.ref i2)∧(∃ u v,IsPair h TO u v)∧h.IsTupleIter i1 a i∧h.IsTupleIter i2 b i) where
 mem:=by simp
 obj:=fun i h st c hc=>by
  obtain ⟨hz,hTI,⟨u,v,hTO⟩,h1,h2⟩:=st
  simp only [List.mem_cons,List.mem_nil_iff,or_false] at hc
  rcases hc with rfl | rfl | rfl | rfl | rfl
  ·exact ⟨_,hz,fun v z=>by have z':Data.fields _=Data.cell v:=z;cases z'⟩
  ·exact ⟨_,hTI,fun v z=>by have z':Data.seq _ _=Data.cell v:=z;cases z'⟩
  ·exact ⟨_,hTO,fun v z=>by have z':Data.seq _ _=Data.cell v:=z;cases z'⟩
  ·obtain ⟨o,e,c,d⟩:=h1;exact ⟨o,e,fun v z=>by rw [d] at z;cases z⟩
  ·obtain ⟨o,e,c,d⟩:=h2;exact ⟨o,e,fun v z=>by rw [d] at z;cases z⟩
 keep:=fun i h h' st k=>by
  obtain ⟨hz,hTI,⟨u,v,hTO⟩,h1,h2⟩:=st
  exact ⟨k z (by simp) _ hz,k TI (by simp) _ hTI,⟨u,v,k TO (by simp) _ hTO⟩,h1.at fun o e=>k i1 (by simp) o e,h2.at fun o e=>k i2 (by simp) o e⟩
 item:=by
  intro X hP hw hK hc i pins s σ H E I hf st hg
  subst hP hw hK
  obtain ⟨hz,hTI,⟨u0,v0,hTO⟩,h1,h2⟩:=st
  obtain ⟨qa,qb,lx,ly⟩:=hg
  obtain ⟨its,rv,p,_⟩:=I.tuple qa
  obtain ⟨its2,rv2,p2,_⟩:=I.tuple qb
  have ex:xs[i]?=some xs[i]:=List.getElem?_eq_getElem lx
  have ey:ys[i]?=some ys[i]:=List.getElem?_eq_getElem ly
  obtain ⟨u,hu,ru⟩:=rv.get ex
  obtain ⟨v,hv,rv'⟩:=rv2.get ey
  refine YJ Ap hz hTI hTO h1 h2 p p2 (p:=u) (q:=v) (by simpa using hu) (by simpa using hv) fun h' a1 a2 a3 a4 a5 hk=>?_
  refine ⟨.ref s.heap.objs.size,rfl,wpAny_letOwnedTupleGo_zip (s:={ s with heap:=h' }) a1 fun h'' hz' hs'=>?_⟩
  have lt:∀ {c o},s.heap.get? c=some o→c≠s.heap.objs.size:=fun e=>Nat.ne_of_lt (Heap.lt_size e)
  have e5:IsPair h'' s.heap.objs.size u v:=(hs'.2 _ (Ne.symm (lt hz))).trans a5
  have hch:∀ c ∈ [z,TO,i1,i2],Z3 X pins H c:=fun c hc=>hf c (by
   simp only [List.mem_cons,List.mem_nil_iff,or_false] at hc ⊢
   rcases hc with rfl | rfl | rfl | rfl <;> simp)
  have I2:Inv X pins σ (upd H s.heap.objs.size (.tup [xs[i],ys[i]])) { s with heap:=h'',toks:=s.toks }:=by
   refine I.turnedNew (ch:=[z,TO,i1,i2]) (fun c o hc e=>?_) hch (7:) ⟨by show 2≤sizeLine;decide,[u,v],.cons ru (.cons rv' .nil),⟨_,e5,rfl,_,rfl⟩⟩
   simp only [List.mem_cons,List.mem_nil_iff,or_false,not_or] at hc
   exact (hs'.2 c hc.1).trans (hk c o hc.1 hc.2.1 hc.2.2.1 hc.2.2.2 e)
  have hfr:∀ c ∈ [z,TI,TO,i1,i2],upd H s.heap.objs.size (.tup [xs[i],ys[i]]) c=none:=fun c hc=>by
   have hc2:=hf c hc
   have:c≠s.heap.objs.size:=by
    simp only [List.mem_cons,List.mem_nil_iff,or_false] at hc
    rcases hc with rfl | rfl | rfl | rfl | rfl
    ·exact lt hz
    ·exact lt hTI
    ·exact lt hTO
    ·obtain ⟨o,e,_⟩:=h1;exact lt e
    ·obtain ⟨o,e,_⟩:=h2;exact lt e
   rw [Qg this];exact hc2.1
  exact (13:)
 done:=by
  intro X hP hw hK hc i pins s σ H E I hf st hg
  subst hP hw hK
  obtain ⟨hz,hTI,⟨u0,v0,hTO⟩,h1,h2⟩:=st
  obtain ⟨qa,hl⟩:=hg
  obtain ⟨its,rv,p,_⟩:=I.tuple qa
  have l1:=rv.length
  have hch:∀ c ∈ [z,TO,i1,i2],Z3 X pins H c:=fun c hc=>hf c (by
   simp only [List.mem_cons,List.mem_nil_iff,or_false] at hc ⊢
   rcases hc with rfl | rfl | rfl | rfl <;> simp)
  refine Y5 (n2:=0) (I.ok.hd hc) Ap hz hTI hTO h1 p (by simp;lia) fun h' hk=>⟨rfl,I.turnedL (t':=s.toks) (ch:=[z,TO,i1,i2]) (fun c o hc e=>?_) hch⟩
  simp only [List.mem_cons,List.mem_nil_iff,or_false,not_or] at hc
  exact hk c o hc.1 hc.2.1 hc.2.2.1 hc.2.2.2 e
 self:=fun _ _ _ _ _ st h=>wpAny_pyIter_zip st.1 h
section
variable {X:Cx} {elts:List Expr} {k1:Nat} {tpos:Pos}
def OX (K:PySem.W.Frag) (ta:TA):TI:=fun σ H R=>ta σ H fun vs H1=>∃ a b xs ys,vs=[.ref a,.ref b]∧SqT K H1 a xs∧SqT K H1 b ys∧R (NJ K a b xs ys) H1
theorem LQ {e1 e2:Expr} {ta:TA} {p pos:Pos} (hg:Gl X "zip") (hm:X.mg "zip" = none) (ha:PA X [e1,e2] ta) (hs:starEach [e1,e2] X.env=[(false,eval e1 X.env),(false,eval e2 X.env)]:=by rfl) (hs2:starEach [e2] X.env=[(false,eval e2 X.env)]:=by rfl) :
 PI X (.Tuple elts k1 tpos) (.Call (.Name "zip" p) [e1,e2] [] pos) (OX X.K ta):=by
 intro pins s σ H R I h
 refine Call_ (ZE I hg hm PyProof.Rows.boot_zip (PyProof.Rows.callWith_type1 (thn (ha pos pins s σ H _ I h) fun us s1 ⟨vs,H1,I1,r1,q1⟩=>?_) (by rw [hs,hs2]) (by rw [hs2];rfl)))
 obtain ⟨a,b,xs,ys,e,qa,qb,q⟩:=q1
 subst e
 obtain ⟨u1,u2,e3,r3,r4⟩:=r1.two
 subst e3
 cases (show u1=Value.ref a from r3)
 cases (show u2=Value.ref b from r4)
 obtain ⟨its,rv,pl,_⟩:=I1.tuple qa
 obtain ⟨its2,rv2,pl2,_⟩:=I1.tuple qb
 have la:@LT.lt Nat _ a s1.heap.objs.size:=by obtain ⟨o,e,_⟩:=pl;exact Heap.lt_size e
 have lb:@LT.lt Nat _ b s1.heap.objs.size:=by obtain ⟨o,e,_⟩:=pl2;exact Heap.lt_size e
 refine WZ pl pl2 fun h' hz hTI hTO h1 h2 hk=>?_
 refine wpAny_pyIter_zip hz ?_
 have I2:Inv X pins σ H1 { s1 with heap:=h' }:=I1.kept (t':=s1.toks) hk
 refine ⟨s1.heap.objs.size + 4,[s1.heap.objs.size + 4,s1.heap.objs.size + 2,s1.heap.objs.size + 3,s1.heap.objs.size,s1.heap.objs.size + 1],_,_,H1,rfl,I2,W3 a b (s1.heap.objs.size + 4) xs ys (s1.heap.objs.size + 2) (s1.heap.objs.size + 3) s1.heap.objs.size (s1.heap.objs.size + 1) ?_,⟨hz,hTI,⟨_,_,hTO⟩,h1,h2⟩,fun c hc=>?_,q⟩
 ·constructor <;> (refine nne ?_;lia)
 ·have hle:@LE.le Nat _ s1.heap.objs.size c:=by
   simp only [List.mem_cons,List.mem_nil_iff,or_false] at hc
   rcases hc with rfl | rfl | rfl | rfl | rfl <;> lia
  exact I1.fpOk hle (I1.hok.fresh hle)
end
theorem Mj {K:PySem.W.Frag} {a b acc:Addr} {xs zs:List V} {tt:TT} {te:TE} {cs:St} {H1:Hp} {Q:Hp→Prop} (hlen:xs.length=zs.length) (Pv:Nat→List V→Hp→Prop) (h0:Pv 0 [] (upd H1 acc (.lst []))) (hl:∀ i ys H,i≤xs.length→Pv i ys H→SqT K H a xs∧SqT K H b zs)
 (hs:∀ i u v p ys H,i < xs.length→xs[i]?=some u→zs[i]?=some v→H p=none→Pv i ys H→tt (some u :: some v :: cs) (upd H p (.tup [u,v])) (JY xs.length Pv acc i te (some u :: some v :: cs))) (hd:∀ ys H,Pv xs.length ys H→Q H):Yf (NJ K a b xs zs) 2 cs (W6 K 2 (ZV (QX 0) (ZV (QX 1) X7))) tt te H1 acc Q:=by
 refine QS (N:=xs.length) Pv h0 (fun ys H p=>?_) fun i ys H hi p=>?_
 ·obtain ⟨qa,qb⟩:=hl _ _ _ (7:) p
  exact ⟨⟨qa,Nat.le_refl _⟩,hd ys H p⟩
 ·obtain ⟨qa,qb⟩:=hl _ _ _ (Nat.le_of_lt hi) p
  refine ⟨⟨qa,qb,hi,by lia⟩,?_⟩
  rintro x H3 ⟨q,u,v,hq,rfl,rfl,hu,hv⟩ as has
  obtain ⟨a0,a1,rfl⟩:=Um has
  exact ⟨q,[u,v],rfl,SqT.of Qb,rfl,u,[v],rfl,v,[],rfl,rfl,⟨[some u,some v],rfl,rfl⟩,hs i u v q ys _ hi hu hv hq p⟩
end L2
namespace L2
open PySem PySem.Spec PyProof.Rows
section
variable {prog:Program} {w:World} {A:Around} {E:Value→Shared→Prop} {s:Shared}
theorem X4:typeLookup (.type "list_reverseiterator") "__len__" = pure Option.none:=by rw [typeLookup_type,builtinLookup_eq_fast];kernel_rfl
theorem U0:Slot "list_reverseiterator" "__length_hint__" "list_reverseiterator.__length_hint__" :=
 .of (owner:="list_reverseiterator") (n:="__length_hint__") (by rw [typeLookup_type,builtinLookup_eq_fast];kernel_rfl) (0:) (0:) (0:)
  (by first | exact .inl (0:) | exact .inr (0:)) (by rw [isSubtype_type];kernel_rfl)
theorem G2 {r l:Addr} {i:Int} {Q:Bool→Shared→Prop} (hr:s.heap.IsRevIter r l i) (h:Q false s):wpAny (15:) A (Builtin.List.listLengthHint (.ref r)) Q E s:=by
 unfold Builtin.List.listLengthHint
 refine wpAny_bind (wpAny_specialOf hr.typeIs X4 ?_)
 show wpAny _ A (specialOf (Value.ref r) (Str.ofString "__length_hint__") >>= _) _ _ _
 refine wpAny_bind (wpAny_specialOf hr.typeIs U0.lookup ?_)
 generalize hid:("list_reverseiterator.__length_hint__" : String)=id0
 wp_delta
 rw [show splitId id0=some ("list_reverseiterator", "__length_hint__") from by subst hid;decide +kernel]
 subst hid
 refine wpAny_bind (wpAny_isInstance (T:="list_reverseiterator") (b:=true) hr.typeIs (by rw [isSubtype_type];kernel_rfl) ?_)
 refine wpAny_ite_split (fun hab=>absurd hab (by decide)) (fun _=>?_)
 refine wpAny_ite_split (fun _=>?_) (fun hab=>absurd (0:) hab)
 refine wpAny_ite_split (fun hab=>absurd hab (0:)) (fun _=>?_)
 exact wpAny_pure h
theorem XQ {R:Result→Shared→Prop} {r l:Addr} {items:Array Value} (hh:A.handled=none) (hr:s.heap.IsRevIter r l ((items.size:Int) - 1)) (hl:s.heap.IsList l items) (hne:l≠r) (hz:items.size≤sizeLine)
 (S:Addr) (res:Value) (c₀:Nat) (hSr:S≠r) (hSl:S≠l) (hS:s.heap.get? S=some { cls:=.type "list", data:=.seq #[] c₀ })
 (hR:∀ h' tk acc' c',(∀ b o,b≠S→b≠r→s.heap.get? b=some o→h'.get? b=some o)→h'.get? S=some { cls:=.type "list", dict:=none,data:=.seq acc' c',slots:=#[] } →
  ItemsOf (fun i v=>items[items.size - 1 - i]?=some v) acc' items.size→R (.ok (.ret res)) { s with heap:=h',toks:=tk }) :
 wpAny (15:) A.in1 (Builtin.List.listExtendWith (.ref S) (.ref r) res)
  (fun fin s'=>match fin with | .done f=>R (.ok f) s' | .again c'=>c'.quiet=true∧codeAny (15:) A c' R s') (fun e s'=>R (.error e) s') s:=by
 have W:=(Walks.listRev (prog:=prog) (w:=w) (A:=A.in1) hh r l hne items).toS
 unfold Builtin.List.listExtendWith
 refine wpAny_bind (wpAny_typeOf hr.typeIs ?_)
 have h1:Builtin.List.listSameRef (.ref S) (.ref r)=false:=by simp [Builtin.List.listSameRef,hSr]
 have h2:(Value.type "list_reverseiterator" == Value.type "list")=false:=by decide
 have h3:(Value.type "list_reverseiterator" == Value.type "tuple")=false:=by decide
 simp only [h1,h2,h3,Bool.or_false,Bool.false_eq_true,if_false]
 refine wpAny_bind (wpAny_pyIter_revIter hr ?_)
 refine wpAny_bind (wpAny_holding (G2 hr ?_))
 refine wpAny_ite_split (fun hab=>absurd hab (0:)) (fun _=>wpAny_pure ⟨plainId_quiet F.plain_extend_loop _,?_⟩)
 have e0:(items.size:Int) - 1 - ((0:Nat):Int)=(items.size:Int) - 1:=by lia
 refine codeAny_extend_loopS W hz S (by simp [hSr,hSl]) res items.size 0 s #[] c₀ rfl (Nat.zero_le _) ⟨Nat.zero_le _,by rw [e0];exact hr,hl⟩ hS (ItemsOf.nil _) fun s' acc' c' hm hS' hacc=>?_
 rw [Moved.eq_with hm]
 refine hR s'.heap s'.toks acc' c' (fun b o hb hb2 e=>hm.heap b o (fun hmem=>?_) e) hS' hacc
 rcases List.mem_cons.mp hmem with e' | hmem
 ·exact hb e'
 ·exact hb2 (List.mem_singleton.mp hmem)
theorem G7 {Q:Value→Shared→Prop} {r l:Addr} {items:Array Value} (hh:A.handled=none) (hr:s.heap.IsRevIter r l ((items.size:Int) - 1)) (hl:s.heap.IsList l items) (hne:l≠r) (hz:items.size≤sizeLine)
 (hQ:∀ h' tk acc' c',(∀ b o,b≠r→s.heap.get? b=some o→h'.get? b=some o) →
  h'.get? s.heap.objs.size=some { cls:=.type "list", dict:=none,data:=.seq acc' c',slots:=#[] }→ItemsOf (fun i v=>items[items.size - 1 - i]?=some v) acc' items.size→Q (.ref s.heap.objs.size) { s with heap:=h',toks:=tk }) :
 wpAny (15:) A (call (.type "list") [.ref r]) Q E s:=by
 refine callType_codes (Q₁:=fun obj s₁=>obj=.ref s.heap.objs.size∧s₁={ s with heap:=s.heap.push { cls:=.type "list", data:=.seq #[] } }) F.called_list (F.typeCall_list_1 _) F.entry_list_init
  (code_list_new _ ⟨rfl,rfl⟩) fun obj s₁ h₁=>?_
 obtain ⟨rfl,rfl⟩:=h₁
 have hS:(s.heap.push { cls:=.type "list", data:=.seq #[] }).get? s.heap.objs.size=some { cls:=.type "list", data:=.seq #[] }:=Heap.get?_push_size _ rfl
 refine ⟨⟨_,hS,rfl⟩,F.args_list_init_2 _ _,?_⟩
 obtain ⟨ol,hol,hlr⟩:=id hl
 obtain ⟨orr,horr,_⟩:=id hr
 have hSl:s.heap.objs.size≠l:=(Nat.ne_of_lt (Heap.lt_size hol)).symm
 have hSr:s.heap.objs.size≠r:=(Nat.ne_of_lt (Heap.lt_size horr)).symm
 show wpAny _ _ (do let old ← Builtin.List.listItems (.ref s.heap.objs.size);Builtin.List.listUpdate (.ref s.heap.objs.size) (fun _=>#[]);letGo old.toList.reverse;Builtin.List.listExtendWith (.ref s.heap.objs.size) (.ref r) .none) _ _ _
 refine wpAny_bind ?_
 unfold Builtin.List.listItems
 refine wpAny_bind (wpAny_seqItems hS rfl (wpAny_pure ?_))
 show wpAny _ _ (updateSeq s.heap.objs.size (fun _=>#[]) >>= fun _=>letGo (#[]:Array Value).toList.reverse >>= fun _=>Builtin.List.listExtendWith (.ref s.heap.objs.size) (.ref r) .none) _ _ _
 refine wpAny_bind (wpAny_updateSeq hS rfl ?_)
 have hS₂:=Heap.get?_update_self (Obj.mapSeq (fun _=>(#[]:Array Value))) hS rfl
 have oth:∀ b o,s.heap.get? b=some o→((s.heap.push { cls:=.type "list", data:=.seq #[] }).update s.heap.objs.size (Obj.mapSeq (fun _=>(#[]:Array Value)))).get? b=some o :=
  fun b o e=>(Heap.get?_update_other _ _ (Nat.ne_of_lt (Heap.lt_size e)).symm).trans (Heap.get?_push_of_some _ e)
 refine wpAny_bind (wpAny_letGo ?_)
 refine XQ (A:=A.in1) hh (hr.at (oth r)) (hl.at (oth l)) hne hz s.heap.objs.size .none _ hSr hSl hS₂ fun h' tk acc' c' hk hS' hacc=>?_
 exact ⟨rfl,hQ h' tk acc' c' (fun b o hb e=>hk b o (Nat.ne_of_lt (Heap.lt_size e)) hb (oth b o e)) hS' hacc⟩
end
section
variable {X:Cx} {e:Expr} {te:TE} {p pos p2 pos2:Pos}
def N0 (K:PySem.W.Frag) (te:TE):TE:=fun σ H Q=>te σ H fun v H1=>∃ (l:Addr) (ys:List V),v=.ref l∧SqL K H1 l ys∧ys.length≤sizeLine∧∀ d,H1 d=none→Q (.ref d) (upd H1 d (.lst ys.reverse))
theorem Xy:∀ {ys:List V} {us:List Value},Vals ys us→Vals ys.reverse us.reverse
 | [],_,.nil=>.nil
 | y :: ys,_,.cons r rr=>by
  rw [List.reverse_cons,List.reverse_cons]
  exact (Xy rr).append (.cons r .nil)
theorem W1 {its:List Value} {acc:Array Value} (h:ItemsOf (fun i v=>its.toArray[its.toArray.size - 1 - i]?=some v) acc its.toArray.size):acc=its.reverse.toArray:=by
 obtain ⟨h1,h2⟩:=h
 apply Array.ext'
 apply List.ext_getElem?
 intro i
 by_cases hi:i < acc.size
 ·have e1:=h2 i acc[i] (Array.getElem?_eq_getElem hi)
  have hi':i < its.length:=by rw [h1] at hi;simpa using hi
  simp only [List.size_toArray,List.getElem?_toArray] at e1
  rw [Array.getElem?_toList,Array.getElem?_eq_getElem hi]
  show some acc[i]=its.reverse[i]?
  rw [List.getElem?_reverse hi',e1]
 ·have hi':¬ i < its.length:=by rw [h1] at hi;simpa using hi
  rw [Array.getElem?_toList,Array.getElem?_eq_none (4:)]
  show Option.none=its.reverse[i]?
  rw [List.getElem?_eq_none (by rw [List.length_reverse];lia)]
theorem Wr (hc:X.calm=true) (he:PE X e te) (hg:Gl X "list" := by rfl) (hm:X.mg "list" = Option.none) (hg2:Gl X "reversed" := by rfl) (hm2:X.mg "reversed" = Option.none)
 (hs1:starEach [e] X.env=[(false,eval e X.env)]:=by rfl) (hs2:starEach [Expr.Call (.Name "reversed" p2) [e] [] pos2] X.env=[(false,eval (Expr.Call (.Name "reversed" p2) [e] [] pos2) X.env)]:=by rfl) :
 PE X (.Call (.Name "list" p) [.Call (.Name "reversed" p2) [e] [] pos2] [] pos) (N0 X.K te):=by
 intro pins s σ H Q I h
 refine wpAny_Call_Name_kw (ZE I hg hm boot_list ?_)
 refine PyProof.Rows.callWith_type1 ?_ hs2 rfl
 rw [hs2]
 show wpAny _ _ (spliced ((false,eval _ X.env) :: [])) _ _ s
 refine Calls.spliced_cons ?_
 refine wpAny_Call_Name_kw (ZE I hg2 hm2 boot_reversed ?_)
 refine PyProof.Rows.callWith_type1 ?_ hs1 rfl
 rw [hs1]
 show wpAny _ _ (spliced ((false,eval _ X.env) :: [])) _ _ s
 refine Calls.spliced_cons (thn (he pins s σ H _ I h) fun u s1 ⟨v,H1,I1,r1,q1⟩=>?_)
 refine Calls.spliced_nil ?_
 obtain ⟨l,ys,rfl,hl,hz,q⟩:=q1
 obtain rfl:u=Value.ref l:=r1
 obtain ⟨its,rv,pl,_⟩:=I1.list hl
 have hlen:=rv.length
 have hL:s1.heap.IsList l its.toArray:=pl.isList
 refine call_reversed_list hL ?_
 refine Calls.spliced_nil ?_
 obtain ⟨ol,hol,_⟩:=id hL
 have hlt:=Heap.lt_size hol
 have kp:∀ b o,s1.heap.get? b=some o→(s1.heap.push (revObj l ((its.toArray.size:Int) - 1))).get? b=some o:=fun b o e=>Heap.get?_push_of_some _ e
 refine G7 (I1.ok.hd hc) (r:=s1.heap.objs.size) ⟨_,Heap.get?_push_size _ rfl,rfl,rfl⟩ (hL.at (kp l)) (Nat.ne_of_lt hlt) (by rw [List.size_toArray];lia) fun h' tk acc' c' k hS' hacc=>?_
 have ea:=W1 hacc
 have hge:s1.heap.objs.size≤(s1.heap.push (revObj l ((its.toArray.size:Int) - 1))).objs.size:=by
  rw [Heap.size_push];lia
 refine ⟨.ref _,_,I1.laid (t':=tk) (fun b o e=>k b o (Nat.ne_of_lt (Heap.lt_size e)) (kp b o e)) hge (show ObjOk X.prog X.w _ h' _ (.lst ys.reverse) from ⟨by rw [List.length_reverse];exact hz,its.reverse,c',Xy rv,by rw [← ea];exact hS'⟩),rfl,q _ (I1.hok.fresh hge)⟩
theorem Jt (hc:X.calm=true):QN X (.builtin "sum") (fun xs H Q=>∃ (l:Addr) (ns:List Int),xs=[.ref l]∧SqL X.K H l (ns.map V.int)∧Q (.int ns.sum) H):=by
 intro pins s σ H xs us Q I r h
 obtain ⟨l,ns,rfl,hl,q⟩:=h
 cases r with
 | cons r rr =>
  cases rr
  obtain rfl:_=Value.ref l:=r
  obtain ⟨its,rv,p,_⟩:=I.list hl
  obtain ⟨ys,rfl,e2⟩:=UM rv
  have hL:s.heap.IsList l (intItems ys.toArray):=by rw [Vy];exact p.isList
  refine sum_intListG (I.ok.hd hc) hL fun h' tk t' hk=>⟨.int ns.sum,H,I.kept (t':=tk) hk,⟨t',?_⟩,q⟩
  rw [LF,e2,List.take_of_length_le]
  rw [← e2];simp
theorem U7 (c:Nat):∀ (k:Nat) (acc:List Nat),List.foldl (fun x1 x2=>x1 ++ x2) acc.toArray (List.replicate k (S [c]).cps)=(acc ++ List.replicate k c).toArray
 | 0,acc=>by simp
 | k + 1,acc=>by
  have e:acc.toArray ++ (S [c]).cps=(acc ++ [c]).toArray:=by simp [S]
  rw [List.replicate_succ,List.foldl_cons,e,U7 c k (acc ++ [c]),List.replicate_succ]
  simp
theorem We:OpR X (binaryOp .Mult) (fun x y H Q=>∃ (c:Nat) (n:Int),x=.str (S [c])∧y=.int n∧1≤n∧n≤100∧Q (.str (S (List.replicate n.toNat c))) H):=by
 intro pins s σ H x y v u Q I rx ry h
 obtain ⟨c,n,rfl,rfl,h1,h2,q⟩:=h
 obtain ⟨t,rfl⟩:=rx
 obtain ⟨t',rfl⟩:=ry
 have hl:(S [c]).length=1:=WQ _
 refine P.mul_str ?_ (fun _ _=>?_) (fun _ _=>?_) ?_
 ·rw [decide_eq_false (4:),decide_eq_false (4:)];rfl
 ·rw [hl]
  have:(1:Int)≤(2 ^ 63 - 1) / n:=(Int.le_ediv_iff_mul_le (4:)).mpr (4:)
  show ¬ (1:Int) > _
  lia
 ·rw [hl,Nat.one_mul]
  have hh:n.toNat≤100:=by lia
  unfold Builtin.Str.tooLong
  simp only [decide_eq_false_iff_not]
  rw [sizeLine_eq]
  lia
 ·rw [if_neg (4:)]
  by_cases hn:n=1
  ·subst hn
   rw [if_pos (by simp)]
   exact ⟨.str (S [c]),H,I,⟨_,rfl⟩,q⟩
  ·rw [if_neg (by simp [hn,hl])]
   have e:=U7 c n.toNat []
   rw [List.nil_append] at e
   refine ⟨?_,.str _,H,I.tok _,⟨_,rfl⟩,?_⟩
   ·rw [e];show (List.replicate n.toNat c).toArray.size≤_
    simp only [List.size_toArray,List.length_replicate]
    rw [sizeLine_eq];lia
   ·rw [e];exact q
end
end L2
namespace TM
inductive Tree (α:Type) where
 | node (name:α) (mark:Int) (bs:List (Tree α))
variable {α:Type}
def Tree.bs:Tree α→List (Tree α)
 | .node _ _ bs=>bs
def atT:Tree α→List Int→Option (Tree α)
 | t,[]=>some t
 | t,i :: r=>if 0≤i then (match t.bs[i.toNat]? with
  | some b=>atT b r
  | none=>none) else none
structure Rows (α:Type) where
 n:Nat
 nm:Nat→α
 mr:Nat→Int
 up:Nat→Nat
variable {R:Rows α}
section
variable {K:Nat→List Int} {B:Nat→Tree α} {o0:Tree α}
def it (R:Rows α):Nat→Nat→Nat
 | 0,s=>s
 | j + 1,s=>R.up (it R j s)
variable {B':Nat→Tree α} {o:Tree α} {s:Nat}
end
end TM
namespace L2
open PySem PySem.Spec PyProof.Rows TM
mutual
inductive TrV (K:PySem.W.Frag) (H:Hp):V→Tree Str→Prop where
 | mk {a b:Addr} {vs:List V} {ts:List (Tree Str)} {name:Str} {mark:Int}:SqT K H a [.str name,.int mark,.ref b]→SqT K H b vs→TrAll K H vs ts→vs.length≤1000→TrV K H (.ref a) (.node name mark ts)
inductive TrAll (K:PySem.W.Frag) (H:Hp):List V→List (Tree Str)→Prop where
 | nil:TrAll K H [] []
 | cons {v:V} {vs:List V} {t:Tree Str} {ts:List (Tree Str)}:TrV K H v t→TrAll K H vs ts→TrAll K H (v :: vs) (t :: ts)
end
mutual
theorem TrV.mono {K:PySem.W.Frag} {H H':Hp} (k:∀ a xs,SqT K H a xs→SqT K H' a xs):∀ {v:V} {t:Tree Str},TrV K H v t→TrV K H' v t
 | _,_,.mk h1 h2 h3 h4=>.mk (k _ _ h1) (k _ _ h2) (TrAll.mono k h3) h4
theorem TrAll.mono {K:PySem.W.Frag} {H H':Hp} (k:∀ a xs,SqT K H a xs→SqT K H' a xs):∀ {vs:List V} {ts:List (Tree Str)},TrAll K H vs ts→TrAll K H' vs ts
 | _,_,.nil=>.nil
 | _,_,.cons h t=>.cons (TrV.mono k h) (TrAll.mono k t)
end
theorem TrAll.length {K:PySem.W.Frag} {H:Hp}:∀ {vs:List V} {ts:List (Tree Str)},TrAll K H vs ts→vs.length=ts.length
 | _,_,.nil=>rfl
 | _,_,.cons _ t=>by rw [List.length_cons,List.length_cons,TrAll.length t]
theorem TrAll.get {K:PySem.W.Frag} {H:Hp}:∀ {vs:List V} {ts:List (Tree Str)} {i:Nat} {t:Tree Str},TrAll K H vs ts→ts[i]?=some t→∃ v,vs[i]?=some v∧TrV K H v t
 | _,_,_,_,.nil,e=>by simp at e
 | _,_,0,_,.cons h _,e=>by simp at e;subst e;exact ⟨_,rfl,h⟩
 | _,_,i + 1,t,.cons _ r,e=>by
  obtain ⟨v,h1,h2⟩:=TrAll.get (i:=i) (t:=t) r (by simpa using e)
  exact ⟨v,by simpa using h1,h2⟩
theorem TrAll.append {K:PySem.W.Frag} {H:Hp}:∀ {vs ws:List V} {ts us:List (Tree Str)},TrAll K H vs ts→TrAll K H ws us→TrAll K H (vs ++ ws) (ts ++ us)
 | _,_,_,_,.nil,h=>h
 | _,_,_,_,.cons a t,h=>.cons a (TrAll.append t h)
theorem SqT.put {K:PySem.W.Frag} {H:Hp} {a d:Addr} {xs ys:List V} {o:HO} (h:SqT K H a xs) (hd:H d=some (.lst ys)):SqT K (upd H d o) a xs:=by
 rcases h with (h | ⟨ob,h⟩) | h
 ·exact .inl (.inl (by rw [Qg (Q4 h hd (by intro z;cases z))];exact h))
 ·exact .inl (.inr ⟨ob,by rw [Qg (Q4 h hd (by intro z;cases z))];exact h⟩)
 ·exact .inr h
end L2
namespace TM
variable {α:Type}
mutual
def sz:Tree α→Nat
 | .node _ _ bs=>1 + szs bs
def szs:List (Tree α)→Nat
 | []=>0
 | t :: r=>sz t + szs r
end
mutual
def lv:Tree α→Nat
 | .node _ _ bs=>1 + lvs bs
def lvs:List (Tree α)→Nat
 | []=>0
 | t :: r=>max (lv t) (lvs r)
end
mutual
def pl:Tree α→List (List Int)
 | .node _ _ bs=>[] :: pls 0 bs
def pls:Nat→List (Tree α)→List (List Int)
 | _,[]=>[]
 | i,t :: r=>(pl t).map (List.cons (i:Int)) ++ pls (i + 1) r
end
theorem Zm (t:Tree α):lv t=1 + lvs t.bs:=by cases t;simp [lv,Tree.bs]
theorem YB {ts:List (Tree α)} {t:Tree α} (h:t ∈ ts):lv t≤lvs ts:=by
 induction ts with
 | nil=>cases h
 | cons u r ih =>
  simp only [lvs]
  rcases List.mem_cons.mp h with rfl | h
  ·lia
  ·have:=ih h;lia
mutual
theorem JX:∀ (t:Tree α) (p:List Int),p ∈ pl t→p.length < lv t
 | .node a m bs,p,h=>by
  simp only [pl,List.mem_cons] at h
  simp only [lv]
  rcases h with rfl | h
  ·simp;lia
  ·have:=WG 0 bs p h;lia
theorem WG:∀ (j:Nat) (ts:List (Tree α)) (p:List Int),p ∈ pls j ts→p.length≤lvs ts
 | j,[],p,h=>by simp [pls] at h
 | j,u :: ts,p,h=>by
  simp only [pls,List.mem_append,List.mem_map] at h
  simp only [lvs]
  rcases h with ⟨q,hq,rfl⟩ | h
  ·have:=JX u q hq;simp;lia
  ·have:=WG (j + 1) ts p h;lia
end
open HT (MO)
variable {R:Rows α} {K:Nat→List Int} {B:Nat→Tree α} {o0:Tree α}
end TM
namespace ST
open PySem TM
inductive Stp where
 | op:Stp
 | put:Str→Int→List Stp→Stp
mutual
def met:Stp→Stp→Stp
 | .op,_=>.op
 | .put _ _ _,.op=>.op
 | .put n m ps,.put n' m' qs=>if n=n'∧m=m'∧ps.length=qs.length then .put n m (OC ps qs) else .op
def OC:List Stp→List Stp→List Stp
 | [],_=>[]
 | _ :: _,[]=>[]
 | p :: ps,q :: qs=>met p q :: OC ps qs
end
mutual
def sl:Stp→Nat
 | .op=>1
 | .put _ _ ps=>1 + sls ps
def sls:List Stp→Nat
 | []=>0
 | p :: r=>max (sl p) (sls r)
end
end ST
namespace L2
open PySem PyProof.Rows TM ST
abbrev Pe:Str:=Str.ofString "open"
abbrev O1:Str:=Str.ofString "put"
mutual
def sd:Stp→PyData
 | .op=>.tuple [.str Pe]
 | .put n m ps=>.tuple [.str O1,.str n,.int m,.tuple (sds ps)]
def sds:List Stp→List PyData
 | []=>[]
 | p :: r=>sd p :: sds r
end
def hd3 (n:Str) (m:Int) (k:Nat):PyData:=.tuple [.str n,.int m,.int (k:Int)]
def Dk (H:Hp) (d:Addr):Prop:=∃ xs:List Int,H d=some (.lst (xs.map V.int))
def SameD (d:Addr) (H H':Hp):Prop:=∀ b u,b≠d→H b=some u→H' b=some u
theorem SameD.refl (d:Addr) (H:Hp):SameD d H H:=fun _ _ _ e=>e
theorem SameD.trans {d:Addr} {H H1 H2:Hp} (a:SameD d H H1) (b:SameD d H1 H2):SameD d H H2:=fun x u n e=>b x u n (a x u n e)
theorem SameD.of {d:Addr} {H H':Hp} (h:Same H H'):SameD d H H':=fun b u _ e=>h b u e
theorem SameD.seqT {K:PySem.W.Frag} {d a:Addr} {H H':Hp} {xs:List V} (g:SameD d H H') (hd:Dk H d) (h:SqT K H a xs):SqT K H' a xs:=by
 obtain ⟨ns,hd⟩:=hd
 rcases h with (h | ⟨ob,h⟩) | h
 ·exact .inl (.inl (g _ _ (Q4 h hd (by intro z;cases z)) h))
 ·exact .inl (.inr ⟨ob,g _ _ (Q4 h hd (by intro z;cases z)) h⟩)
 ·exact .inr h
theorem Dk.same {d:Addr} {H H':Hp} (h:Dk H d) (g:Same H H'):Dk H' d:=by
 obtain ⟨xs,h⟩:=h
 exact ⟨xs,g _ _ h⟩
theorem Dk.ne {d a:Addr} {H:Hp} (h:Dk H d) (ha:H a=none):a≠d:=by
 obtain ⟨xs,h⟩:=h
 rintro rfl
 rw [ha] at h;cases h
theorem Dk.upd {d a:Addr} {H:Hp} {o:HO} (h:Dk H d) (ha:a≠d):Dk (upd H a o) d:=by
 obtain ⟨xs,h⟩:=h
 exact ⟨xs,by rw [Qg (Ne.symm ha)];exact h⟩
end L2
namespace L2
open PySem PyProof.Rows TM
abbrev Vx:Str:=Str.ofString "abcdefghijklmnopqrstuvwxyz"
def LX:List Nat:=[97,98,99,100,101,102,103,104,105,106,107,108,109,110,111,112,113,114,115,116,117,118,119,120,121,122]
theorem V8:Vx=S LX:=by decide +kernel
theorem Ls:Vx.cps.toList=LX:=by rw [V8,VI]
theorem LY:Str.ofString "" = S []:=by decide +kernel
theorem MD (c:Nat):(⟨#[c]⟩ : Str)=S [c]:=rfl
def Nm (z:Str):Prop:=PyData.strOk z=true
theorem Nm.of {u:List Nat} (h:∀ c ∈ u,c < 128):Nm (S u):=by
 unfold Nm PyData.strOk
 rw [Array.all_eq_true_iff_forall_mem]
 intro c hc
 have:c ∈ u:=by simpa [S] using hc
 have:=h c this
 simp;lia
theorem Room.fit {k n:Nat} {A:Around} (r:Room k A) (h:n≤64):A.units + n < cLine:=by have:=r.units;lia
theorem V2 (xs:List Int):PyData.eqv (.list (xs.map PyData.int)) (.list [])=xs.isEmpty:=by
 cases xs <;> simp [PyData.eqv,PyData.eqvAll]
end L2
namespace L2
open PySem PyProof.Rows TM
def Zl (x:Int):Nat:=97 + (x % 26).toNat
theorem GF:∀ i:Fin 26,LX[i.val]?=some (97 + i.val):=by decide
theorem WI (x:Int):atI Vx.cps.toList (x % 26)=some (Zl x):=by
 have h0:0≤x % 26:=Int.emod_nonneg _ (by decide)
 have h1:x % 26 < 26:=Int.emod_lt_of_pos _ (by decide)
 have e:x % 26=(((x % 26).toNat:Nat):Int):=by lia
 rw [e,Ls]
 exact QI (GF ⟨(x % 26).toNat,by lia⟩)
theorem Xc (x:Int):Zl x < 128:=by
 have h1:x % 26 < 26:=Int.emod_lt_of_pos _ (by decide)
 unfold Zl;lia
theorem Js {x y:Int} (h:Zl x=Zl y):x % 26=y % 26:=by
 have h0:0≤x % 26:=Int.emod_nonneg _ (by decide)
 have h1:0≤y % 26:=Int.emod_nonneg _ (by decide)
 unfold Zl at h;lia
def nmL (c k:Int):List Nat :=
 if c / 1664 % 3=2 then List.replicate (1 + k % 8).toNat (Zl (c / 64 % 26 + k / 8))
 else (List.range (1 + c % 8).toNat).map fun (j:Nat)=>Zl (c / 64 % 26 + (c / 1664 % 3 * (j:Int)+if (j:Int)=c / 8 % (1 + c % 8) then k else 0))
theorem NO (c k:Int):∀ x ∈ nmL c k,x < 128:=by
 intro x hx
 unfold nmL at hx
 split at hx
 ·rw [List.eq_of_mem_replicate hx];exact Xc _
 ·obtain ⟨j,_,rfl⟩:=List.mem_map.mp hx
  exact Xc _
theorem LI {c k k':Int} (h0:0≤k) (h1:k < 26) (h0':0≤k') (h1':k' < 26) (e:nmL c k=nmL c k'):k=k':=by
 unfold nmL at e
 split at e
 ·have l:=congrArg List.length e
  rw [List.length_replicate,List.length_replicate] at l
  have a0:0≤k % 8:=Int.emod_nonneg _ (by decide)
  have a1:0≤k' % 8:=Int.emod_nonneg _ (by decide)
  have hm:Zl (c / 64 % 26 + k / 8) ∈ List.replicate (1 + k' % 8).toNat (Zl (c / 64 % 26 + k' / 8)):=by
   rw [← e]
   exact List.mem_replicate.mpr ⟨by lia,rfl⟩
  have:=Js (List.eq_of_mem_replicate hm)
  lia
 ·have b0:0≤c % 8:=Int.emod_nonneg _ (by decide)
  have t0:0≤c / 8 % (1 + c % 8):=Int.emod_nonneg _ (4:)
  have t1:c / 8 % (1 + c % 8) < 1 + c % 8:=Int.emod_lt_of_pos _ (4:)
  have ht:(c / 8 % (1 + c % 8)).toNat < (1 + c % 8).toNat:=by lia
  have g:=congrArg (fun l:List Nat=>l[(c / 8 % (1 + c % 8)).toNat]?) e
  simp only [List.getElem?_map,List.getElem?_range ht,Option.map_some,Option.some.injEq] at g
  have ec:(((c / 8 % (1 + c % 8)).toNat:Nat):Int)=c / 8 % (1 + c % 8):=by lia
  rw [ec,if_pos rfl,if_pos rfl] at g
  have:=Js g
  generalize c / 1664 % 3 * (c / 8 % (1 + c % 8))=z at this
  lia
abbrev nmS (c k:Int):Str:=S (nmL c k)
theorem Ym (c k:Int):PyData.strOk (nmS c k)=true:=Nm.of (NO c k)
theorem L5 {c k k':Int} (h0:0≤k) (h1:k < 26) (h0':0≤k') (h1':k' < 26) (e:nmS c k=nmS c k'):k=k':=LI h0 h1 h0' h1' (Ol e)
end L2
namespace K71
open PySem L2 TM ST
def top (i:Nat):Stmt:=PySem.Challenge.pw_turnery_k71_wants_that_are_met.main.body.getD i (.Pass ⟨0,0,0,0⟩)
abbrev NT:Stmt:=top 15
abbrev VS:Stmt:=top 16
abbrev VR:Stmt:=top 17
abbrev Ga:Stmt:=top 18
structure Gm (mg:Str→Option Value):Prop where
 len:mg "len" = none
 isi:mg "isinstance" = none
 int:mg "int" = none
 boo:mg "bool" = none
 str:mg "str" = none
 tup:mg "tuple" = none
 lst:mg "list" = none
 rng:mg "range" = none
 sum:mg "sum" = none
 rev:mg "reversed" = none
 zip:mg "zip" = none
 all:mg "all" = none
 enu:mg "enumerate" = none
 srt:mg "sorted" = none
 dct:mg "dict" = none
abbrev NI (ns:List Int):List V:=ns.map V.int
def WO (K:PySem.W.Frag):Sp:=fun vs H Q _=>∃ (a:Addr) (ns:List Int),vs=[.ref a,.int 1000]∧SqL K H a (NI ns)∧ns.length≤63∧∀ (d:Addr) (H':Hp),Same H H'→H d=none→Dk H' d→Q (.ref d) H'
def Q9:Sp:=fun vs H Q _=>∃ (d:Addr) (m:Int),vs=[.ref d,.int m]∧Dk H d∧0 < m∧∀ (r:Int) (H':Hp),SameD d H H'→Dk H' d→0≤r→r < m→Q (.int r) H'
def Z0:Sp:=fun vs H Q _=>∃ (d:Addr),vs=[.ref d]∧Dk H d∧∀ (r:Int) (H':Hp),SameD d H H'→Dk H' d→Q (.int r) H'
def Yp:Sp:=fun vs H Q _=>∃ (c k:Int),vs=[.int c,.int k]∧Q (.str (nmS c k)) H
section
variable {P:Program} {w:World} {K:PySem.W.Frag} {mg:Str→Option Value} {base:Heap} {f:Addr} {fd:FuncData}
theorem NN:FnScope ["_law_deck", "_law_most"] ["_law_deck", "_law_most"] (defScope VS):=(1:)
theorem LN (F:Fun K "_law_draw" "_law_draw" VS f fd):FnOk P w K mg base CX0 1 f fd ["_law_deck", "_law_most"] Q9:=by
 refine F.ok NN (9:) (3:)
 ·obtain ⟨d,m,rfl,_⟩:=h
  rfl
 obtain ⟨d,m,rfl,⟨xs,hd⟩,hm,q⟩:=h
 refine ⟨_,(Qf (QG (Qr JK (pv 0) (Zc Qc) (Qu _)) (Qi (Ql Qd)) Qs)
  (Qi (Ql (Qm Q1 (NB PySem.F.plainAttrs_list PySem.F.slot_list_pop PySem.F.type_list_pop Nx (pv 0)) (pv 1))))),?_⟩
 refine ⟨_,rfl,(by show 0≤sizeLine;decide),fun p hp=>?_⟩
 have g:=Qe hp (.lst [])
 have hd':=g _ _ hd
 have hpd:p≠d:=fun z=>by rw [z,hd] at hp;cases hp
 refine ⟨.list (xs.map PyData.int),.list [],.lst (SqL.of hd') (Wy xs),.lst (SqL.of Qb) .nil,(by simp only [PyData.canLay0,Xp]),(by decide),?_,_,rfl,?_⟩
 ·have h2:min (PyData.depth (.list (xs.map PyData.int))) (PyData.depth (.list []))≤1:=Nat.le_trans (Nat.min_le_right _ _) (by simp [PyData.depth,PyData.depthAll])
  exact hr.fit (Nat.le_trans h2 (by decide))
 rw [if_neg Bool.false_ne_true,V2]
 cases xs with
 | nil=>exact Zn (q 0 _ (SameD.of g) ⟨[],hd'⟩ (Int.le_refl _) hm)
 | cons x r =>
  refine Zb ?_
  obtain ⟨y,hy⟩ : ∃ y:Int,(x :: r)[(x :: r).length - 1]?=some y:=⟨_,List.getElem?_eq_getElem (by simp)⟩
  have hy':(NI (x :: r))[(NI (x :: r)).length - 1]?=some (.int y):=by
   rw [List.length_map,List.getElem?_map,hy];rfl
  refine ⟨_,rfl,.inl ⟨rfl,_,SqL.of hd'⟩,d,_,_,rfl,rfl,hd',hy',_,rfl,_,_,rfl,rfl,hm,?_⟩
  refine q _ _ (fun b u hb e=>by rw [Qg hb];exact g _ _ e) ⟨(x :: r).dropLast,by rw [Qb,List.map_dropLast]⟩ (Int.emod_nonneg _ (4:)) (Int.emod_lt_of_pos _ hm)
end
end K71
namespace K71
open PySem L2 TM ST
section
variable {P:Program} {w:World} {K:PySem.W.Frag} {mg:Str→Option Value} {base:Heap} {f:Addr} {fd:FuncData}
theorem VZ:FnScope ["_law_deck", "_law_number"] ["_law_deck"] (defScope VR):=(1:)
theorem Lw (F:Fun K "_law_mark" "_law_mark" VR f fd) (RD:Fn P w K mg base 1 "_law_draw" ["_law_deck", "_law_most"] Q9):FnOk P w K mg base CX0 2 f fd ["_law_deck"] Z0:=by
 refine F.ok VZ (9:) (3:)
 ·obtain ⟨d,rfl,_⟩:=h
  rfl
 obtain ⟨d,rfl,hd,q⟩:=h
 refine ⟨_,(Qf (Qq (i:=1) VZ.nd rfl (Or.inl rfl) (Qp RD hr (Qa (pv 0) (Qa (Qm UC Qd Qd) Qc))))
  (Qf (QG (Qr Zd (Qm Q1 (pv 1) Qd) Qd (Qu _)) (Qi (Ql (Qm YL (Qm Q1 (Qm Zj (pv 1) Qd) (Qm QZ (Qm Z5 Qd (Qm UC Qd Qd)) Qd)) (Qm UC Qd Qd)))) Qs)
  (Qi (Ql (Qm Zj (Qm Q1 (Qm Zj (pv 1) Qd) Qd) Qd))))),?_⟩
 refine ⟨_,rfl,_,_,rfl,rfl,⟨by decide,by decide,by decide⟩,d,_,rfl,hd,(by decide),fun r H1 g1 hd1 h0 h1=>?_⟩
 refine ⟨_,rfl,_,_,rfl,rfl,(by show (0:Int) < 4;decide),rfl,_,rfl,Y1 (fun _=>?_) (fun _=>?_)⟩
 ·refine ⟨_,rfl,_,_,rfl,rfl,⟨by decide,by decide⟩,_,_,rfl,rfl,⟨by decide,by decide,by decide⟩,_,_,rfl,rfl,.inl ⟨by decide,by decide⟩,_,_,rfl,rfl,_,_,rfl,rfl,(by show (0:Int) < 2 * 10 ^ 57 + 1;decide),_,_,rfl,rfl,⟨by decide,by decide,by decide⟩,_,_,rfl,rfl,?_⟩
  exact q _ H1 g1 hd1
 ·refine ⟨_,rfl,_,_,rfl,rfl,⟨by decide,by decide⟩,_,_,rfl,rfl,(by show (0:Int) < 3;decide),_,_,rfl,rfl,⟨by decide,by decide⟩,?_⟩
  exact q _ H1 g1 hd1
theorem ZG:FnScope ["_law_code", "_law_k", "_law_letters", "_law_first", "_law_long", "_law_told_here", "_law_name_here", "_law_j", "_law_step"] ["_law_code", "_law_k"] (defScope Ga):=(1:)
theorem Mv (F:Fun K "_law_name" "_law_name" Ga f fd) (G:Gm mg):FnOk P w K mg base CX0 1 f fd ["_law_code", "_law_k"] Yp:=by
 refine F.ok ZG (9:) (3:)
 ·obtain ⟨c,k,rfl,_⟩:=h
  rfl
 obtain ⟨c,k,rfl,q⟩:=h
 refine ⟨_,(Qf (Qq (i:=2) ZG.nd rfl (Or.inl rfl) Zy)
  (Qf (Qq (i:=3) ZG.nd rfl (Or.inl rfl) (Qm Q1 (Qm Zj (pv 0) Qd) Qd))
  (Qf (QG (Qr Zd (Qm Q1 (Qm Zj (pv 0) Qd) Qd) Qd (Qu _)) (Qi (Ql (Qm We (Qk VQ (pv 2) (Qm Q1 (Qm QZ (pv 3) (Qm Zj (pv 1) Qd)) Qd) (5:)) (Qm QZ Qd (Qm Q1 (pv 1) Qd))))) Qs)
  (Qf (Qq (i:=4) ZG.nd rfl (Or.inl rfl) (Qm QZ Qd (Qm Q1 (pv 0) Qd)))
  (Qf (Qq (i:=5) ZG.nd rfl (Or.inl rfl) (Qm Q1 (Qm Zj (pv 0) Qd) (pv 4)))
  (Qf (Qq (i:=6) ZG.nd rfl (Or.inl rfl) Zy)
  (Qf (QR PassesOwn.never rfl (QD rfl G.rng (Qa (pv 4) Qc)) (Qw (i:=7) ZG.nd rfl (Or.inl rfl)) (Qf (Qq (i:=8) ZG.nd rfl (Or.inl rfl) (Qm Z5 (Qm Q1 (Qm Zj (pv 0) Qd) Qd) (pv 7)))
  (Qf (Uo (QG (Qr Zd (pv 7) (pv 5) (Qu _)) (Qi (Qq (i:=8) ZG.nd rfl (Or.inl rfl) (Qm QZ (pv 8) (pv 1)))) Qs))
  (Qi (Qq (i:=6) ZG.nd rfl (Or.inl rfl) (Qm Wk (pv 6) (Qk VQ (pv 2) (Qm Q1 (Qm QZ (pv 3) (pv 8)) Qd) (5:))))))))
  (Qi (Ql (pv 6)))))))))),?_⟩
 refine ⟨_,rfl,_,_,rfl,rfl,⟨by decide,by decide⟩,_,_,rfl,rfl,(by show (0:Int) < 26;decide),?_⟩
 have hll:Vx.length≤sizeLine:=by rw [V8,WQ];exact WB (by decide)
 refine ⟨_,rfl,_,_,rfl,rfl,⟨by decide,by decide⟩,_,_,rfl,rfl,(by show (0:Int) < 3;decide),rfl,_,rfl,Y1 (fun hc=>?_) (fun hc=>?_)⟩
 ·have m0:0≤k % 8:=Int.emod_nonneg _ (by decide)
  have m1:k % 8 < 8:=Int.emod_lt_of_pos _ (by decide)
  have hc':c / 1664 % 3=2:=V.int.inj (of_decide_eq_true hc)
  refine ⟨_,rfl,_,rfl,_,rfl,_,_,rfl,rfl,⟨by decide,by decide⟩,_,_,rfl,rfl,_,_,rfl,rfl,(by show (0:Int) < 26;decide),_,_,Zl (c / 64 % 26 + k / 8),rfl,rfl,hll,WI _,_,rfl,_,_,rfl,rfl,(by show (0:Int) < 8;decide),_,_,rfl,rfl,Zl (c / 64 % 26 + k / 8),_,rfl,rfl,(by show (1:Int)≤1 + k % 8;lia),(by show (1 + k % 8:Int)≤100;lia),?_⟩
  have e:nmS c k=S (List.replicate (1 + k % 8).toNat (Zl (c / 64 % 26 + k / 8))):=by unfold nmS nmL;rw [if_pos hc']
  rw [e] at q
  exact q
 have hc':¬ c / 1664 % 3=2:=fun z=>of_decide_eq_false (Bool.eq_false_iff.mpr hc) (congrArg V.int z)
 have e:nmS c k=S ((List.range (1 + c % 8).toNat).map fun (j:Nat)=>Zl (c / 64 % 26 + (c / 1664 % 3 * (j:Int)+if (j:Int)=c / 8 % (1 + c % 8) then k else 0))):=by unfold nmS nmL;rw [if_neg hc']
 rw [e] at q
 have h0:0≤c % 8:=Int.emod_nonneg c (by decide)
 have h8:c % 8 < 8:=Int.emod_lt_of_pos c (by decide)
 refine ⟨_,rfl,_,_,rfl,rfl,(by show (0:Int) < 8;decide),_,_,rfl,rfl,?_⟩
 refine ⟨_,rfl,_,_,rfl,rfl,⟨by decide,by decide⟩,_,rfl,_,_,rfl,rfl,(by show (0:Int) < 1 + c % 8;lia),?_⟩
 refine ⟨_,rfl,_,rfl,(by show -(2 ^ 62:Int)≤1 + c % 8;lia),(by show (1 + c % 8:Int) < 2 ^ 62;lia),?_⟩
 refine Q6 (lo:=0) (n:=(1 + c % 8).toNat) (fun i σ H'=>∃ (k1 k2:Option V),σ=[some (.int c),some (.int k),some (.str Vx),some (.int (c / 64 % 26)),some (.int (1 + c % 8)),some (.int (c / 8 % (1 + c % 8))),some (.str (S ((List.range i).map fun (j:Nat)=>Zl (c / 64 % 26 + (c / 1664 % 3 * (j:Int)+if (j:Int)=c / 8 % (1 + c % 8) then k else 0))))),k1,k2]∧H'=H)
  ⟨none,none,by simp only [List.range_zero,List.map_nil];rw [← LY];rfl,rfl⟩ ?_ ?_
 ·rintro i σ H' hi ⟨k1,k2,rfl,rfl⟩
  have hb0:0≤c / 1664 % 3:=Int.emod_nonneg _ (by decide)
  have hb1:c / 1664 % 3 < 3:=Int.emod_lt_of_pos _ (by decide)
  have e0:(0:Int)+(i:Int)=(i:Int):=by lia
  refine ⟨_,rfl,_,_,rfl,rfl,⟨by decide,by decide⟩,_,_,rfl,rfl,(by show (0:Int) < 3;decide),_,rfl,_,_,rfl,rfl,.inl ⟨(by show -(2 ^ 64:Int) < c / 1664 % 3;lia),(by show (c / 1664 % 3:Int) < 2 ^ 64;lia)⟩,?_⟩
  refine ⟨fun σ' H3=>∃ st:Int,st=c / 1664 % 3 * (i:Int)+(if (i:Int)=c / 8 % (1 + c % 8) then k else 0)∧σ'=[some (.int c),some (.int k),some (.str Vx),some (.int (c / 64 % 26)),some (.int (1 + c % 8)),some (.int (c / 8 % (1 + c % 8))),some (.str (S ((List.range i).map fun (j:Nat)=>Zl (c / 64 % 26 + (c / 1664 % 3 * (j:Int)+if (j:Int)=c / 8 % (1 + c % 8) then k else 0))))),some (.int (0 + (i:Int))),some (.int st)]∧H3=H',?_,?_⟩
  ·refine ⟨_,rfl,_,rfl,rfl,_,rfl,Y1 (fun hd=>?_) (fun hd=>?_)⟩
   ·have hd':(0:Int)+(i:Int)=c / 8 % (1 + c % 8):=V.int.inj (of_decide_eq_true hd)
    refine ⟨_,rfl,_,rfl,_,_,rfl,rfl,_,?_,rfl,rfl⟩
    show c / 1664 % 3 * (0 + (i:Int))+k=_
    rw [if_pos (4:),e0]
   ·have hd':¬ (0:Int)+(i:Int)=c / 8 % (1 + c % 8):=fun z=>of_decide_eq_false (Bool.eq_false_iff.mpr hd) (congrArg V.int z)
    refine ⟨_,?_,rfl,rfl⟩
    show c / 1664 % 3 * (0 + (i:Int))=_
    rw [if_neg (4:),Int.add_zero,e0]
  rintro σ' H3 ⟨st,est,rfl,rfl⟩
  refine ⟨_,rfl,_,rfl,_,rfl,_,rfl,_,_,rfl,rfl,_,_,rfl,rfl,(by show (0:Int) < 26;decide),_,_,Zl (c / 64 % 26 + st),rfl,rfl,hll,WI _,_,_,rfl,rfl,?_,?_⟩
  ·rw [MD,WQ,WQ,List.length_map,List.length_range];exact WB (by simp only [List.length_singleton];lia)
  ·refine ⟨some (.int (0 + (i:Int))),some (.int st),?_,rfl⟩
   rw [MD,N6,List.range_succ,List.map_append,est];rfl
 ·rintro σ H' ⟨k1,k2,rfl,rfl⟩
  exact ⟨_,rfl,q⟩
end
end K71
namespace K71
open PySem L2 TM ST
section
variable {P:Program} {w:World} {K:PySem.W.Frag} {mg:Str→Option Value} {base:Heap} {f:Addr} {fd:FuncData}
theorem WT:FnScope ["_law_script", "_law_most", "_law_found", "_law_number"] ["_law_script", "_law_most"] (defScope NT):=(1:)
theorem Nz (F:Fun K "_law_numbers" "_law_numbers" NT f fd) (G:Gm mg):FnOk P w K mg base CX0 1 f fd ["_law_script", "_law_most"] (WO K):=by
 refine F.ok WT (9:) (3:)
 ·obtain ⟨a,ns,rfl,_⟩:=h
  rfl
 obtain ⟨a,ns,rfl,hS,h63,q⟩:=h
 refine ⟨_,(Qf (Q8 (i:=2) (CompG.many (xs:=["_law_cell"]) (caps:=[]) (cap:=[]) (cs:=[]) rfl rfl (0:) (0:) (0:) (0:) (0:) (0:) rfl rfl rfl) rfl (QH (VT LV (pv 0) Ml (Lx (pv 1)))) (Q7 (CompG.many (xs:=["_law_cell"]) (caps:=[]) (cap:=[]) (cs:=[]) rfl rfl (0:) (0:) (0:) (0:) (0:) (0:) rfl rfl rfl)) (fun _ _ _ _=>QT) (fun _ _ _ _=>Qm Q1 (pv 0) (Qm UC Qd Qd)) WT.nd rfl rfl)
  (Qf (Qq (i:=3) WT.nd rfl (Or.inl rfl) (Qm QZ Qd (Qm Q1 (Qo (Jt rfl) rfl G.sum PyProof.Rows.boot_sum (Qa (pv 2) Qc)) Qd)))
  (Qf (Xb PassesOwn.never (Qr Lc (Qo Qn rfl G.len PySem.boot_len (Qa (pv 2) Qc)) (pv 1) (Qu _)) (Qf (Qq (i:=3) WT.nd rfl (Or.inl rfl) (Qm Q1 (Qm QZ (Qm QZ (Qm Z5 (pv 3) (pv 3)) (Qm Z5 Qd (pv 3))) (Qo Qn rfl G.len PySem.boot_len (Qa (pv 2) Qc))) Qd))
  (Qi (Zq (Yz PySem.F.plainAttrs_list PySem.F.slot_list_append PySem.F.type_list_append QW (pv 2) (Qa (pv 3) Qc))))))
  (Qi (Ql (Wr rfl (pv 2) (hm:=G.lst) (hm2:=G.rev))))))),?_⟩
 refine ⟨_,rfl,_,rfl,_,rfl,a,_,rfl,hS,fun p hp=>?_⟩
 have e1000:XW (NI ns) none (some 1000)=NI ns:=by
  have:=OL (NI ns) 1000
  rw [List.take_of_length_le (by rw [List.length_map];lia)] at this
  exact this
 rw [e1000]
 have g1:=Qe hp (.lst (NI ns))
 refine ⟨p,rfl,⟨_,SqL.of Qb⟩,fun d hd=>?_⟩
 have hdH:H d=none:=g1.free hd
 refine Uf (K:=K) (xs:=NI ns) (cs:=[]) (tt:=fun _ H Q=>Q true H) (fun j ys H'=>∃ ms:List Int,ys=NI ms∧ms.length=j∧H' d=some (.lst ys)∧Same (upd H p (.lst (NI ns))) H')
  ⟨[],rfl,rfl,Qb,Qe hd _⟩ ?_ ?_ ?_
 ·rintro j ys H' _ ⟨ms,_,_,_,g⟩
  exact g.seq (SqL.of Qb)
 ·rintro j x ys H' hj hx ⟨ms,rfl,hml,hyd,g⟩
  obtain ⟨n,rfl⟩ : ∃ n:Int,x=.int n:=by
   rw [List.getElem?_map] at hx
   cases e:ns[j]? with
   | none=>rw [e] at hx;cases hx
   | some n=>rw [e] at hx;exact ⟨n,(Option.some.inj hx).symm⟩
  refine Zn ⟨_,rfl,_,_,rfl,rfl,⟨by decide,by decide,by decide⟩,_,_,rfl,rfl,(by show (0:Int) < 10 ^ 59;decide),?_⟩
  have hj':j < ns.length:=by rw [List.length_map] at hj;exact hj
  refine Qx hj hyd (by rw [List.length_map];lia) ⟨ms ++ [n % 10 ^ Int.toNat 59],by simp [NI],by simp [hml],Qb,fun x u e=>?_⟩
  rw [Qg (Qh e hd)];exact g _ _ e
 rintro ys H2 ⟨ms,rfl,hml,hyd,g2⟩
 rw [List.length_map] at hml
 have g12:=g1.trans g2
 refine ⟨_,rfl,d,ms,rfl,SqL.of hyd,_,_,rfl,rfl,(by show (0:Int) < 2147483647;decide),_,_,rfl,rfl,?_⟩
 have s0:0≤ms.sum % 2147483647:=Int.emod_nonneg _ (by decide)
 have s1:ms.sum % 2147483647 < 2147483647:=Int.emod_lt_of_pos _ (by decide)
 refine ⟨fun m σ H'=>∃ (us:List Int) (r:Int),m=1000 - us.length∧us.length≤1000∧σ=[some (.ref a),some (.int 1000),some (.ref d),some (.int r)]∧0≤r∧r < 3000000000∧Same H H'∧H' d=some (.lst (NI us)),⟨_,ms,_,rfl,by lia,rfl,?_,?_,g12,hyd⟩,?_⟩
 ·exact Int.add_nonneg (by decide) s0
 ·show _ + ms.sum % 2147483647 < (3000000000:Int);lia
 rintro m σ H' ⟨us,r,rfl,hul,rfl,hr0,hr1,g,hud⟩
 have hlen:(NI us).length=us.length:=List.length_map ..
 refine ⟨_,rfl,d,_,rfl,.inl (SqL.of hud),_,rfl,_,_,rfl,rfl,_,rfl,Y1 (fun c=>?_) (fun c=>?_)⟩
 ·have c':(((NI us).length:Nat):Int) < 1000:=of_decide_eq_true c
  rw [hlen] at c'
  refine ⟨fun σ' H2=>∃ m',m' < 1000 - us.length∧_,fun _ _ h=>h,?_⟩
  refine ⟨_,rfl,_,rfl,_,_,rfl,rfl,.inl ⟨(by show -(2 ^ 64:Int) < r;lia),(by show (r:Int) < 2 ^ 64;lia)⟩,_,rfl,_,_,rfl,rfl,.inl ⟨by decide,by decide⟩,_,_,rfl,rfl,_,rfl,d,_,rfl,.inl (SqL.of hud),_,_,rfl,rfl,_,_,rfl,rfl,(by show (0:Int) < 2147483647;decide),?_⟩
  dsimp only
  have t0:0≤(r * r + 48271 * r + (((NI us).length:Nat):Int)) % 2147483647:=Int.emod_nonneg _ (by decide)
  have t1:(r * r + 48271 * r + (((NI us).length:Nat):Int)) % 2147483647 < 2147483647:=Int.emod_lt_of_pos _ (by decide)
  generalize (r * r + 48271 * r + (((NI us).length:Nat):Int)) % 2147483647=r2 at t0 t1
  refine ⟨_,rfl,.inl ⟨rfl,_,SqL.of hud⟩,_,rfl,d,NI us,_,rfl,rfl,hud,(by rw [hlen,QK];lia),?_⟩
  refine ⟨_,?_,us ++ [r2],r2,rfl,by simp;lia,rfl,t0,by lia,fun x u e=>?_,?_⟩
  ·simp only [List.length_append,List.length_singleton];lia
  ·rw [Qg (Qh e hdH)];exact g _ _ e
  ·rw [Qb];simp [NI]
 ·refine ⟨_,rfl,d,NI us,rfl,SqL.of hud,(by rw [hlen,QK];lia),fun l hl=>?_⟩
  refine q l _ (g.trans (Qe hl _)) (g.free hl) ⟨us.reverse,?_⟩
  rw [Qb,List.map_reverse]
end
end K71
namespace L2
open PySem PySem.Spec PyProof.Rows PySem.W
section
variable {X:Cx}
end
@[reducible] def strOrd:KeyOrd:=⟨List Nat,fun a b=>decide (a < b),fun a=>strKind.irrefl a,fun a b c=>strKind.trans a b c,fun a b c=>strKind.negTrans a b c,fun a b=>strKind.total a b⟩
abbrev PNx:=Addr × Str × Addr × List Str
def PairN (h:Heap) (t:PNx):Prop:=∃ (tk:Tok) (as:List Addr),h.IsTuple t.1 [Value.str t.2.1 tk,Value.ref t.2.2.1].toArray∧Reads h (.ref t.2.2.1) (.tuple (t.2.2.2.map PyData.str)) as
theorem PairN.keeps {h h':Heap} {t:PNx} (k:∀ b o,h.get? b=some o→h'.get? b=some o) (x:PairN h t):PairN h' t:=by
 obtain ⟨tk,as,h1,h2⟩:=x
 exact ⟨tk,as,IsTuple.keeps k h1,Reads.keeps k h2⟩
theorem Yb {K:PySem.W.Frag} {H:Hp}:∀ p:List Str,RdAll K H (p.map V.str) (p.map PyData.str)
 | []=>.nil
 | i :: r=>.cons (.str i) (Yb r)
theorem YE:∀ p:List Str,(∀ x ∈ p,PyData.strOk x=true)→PyData.canLayAll0 (p.map PyData.str)=true
 | [],_=>by simp [PyData.canLayAll0]
 | i :: r,h=>by simp only [List.map_cons,PyData.canLayAll0,PyData.canLay0,YE r fun x hx=>h x (List.mem_cons_of_mem _ hx),h i List.mem_cons_self,Bool.and_self]
theorem Uy {h:Heap}:∀ {ts:List PNx},(∀ t ∈ ts,PairN h t)→∃ fs:List Value,KatTups h (ts.map fun t=>Value.ref t.1) fs∧(∀ v ∈ fs,∃ x t,v=Value.str x t)∧fs.length=ts.length
 | [],_=>⟨[],KatTups.nil,fun v hv=>(nomatch hv),rfl⟩
 | t :: r,ht=>by
  obtain ⟨tk,as,⟨o,go,gc,n,gd⟩,_⟩:=ht t List.mem_cons_self
  obtain ⟨fs,h1,h2,h3⟩:=Uy fun u hu=>ht u (List.mem_cons_of_mem _ hu)
  refine ⟨Value.str t.2.1 tk :: fs,KatTups.cons go gc gd rfl h1,fun v hv=>?_,by simp [h3]⟩
  rcases List.mem_cons.mp hv with rfl | hv
  ·exact ⟨_,_,rfl⟩
  ·exact h2 v hv
section
variable {prog:Program} {w:World} {A:Around} {E:Value→Shared→Prop} {s:Shared}
theorem GK {t u:PNx} {C:Bool→Shared→Prop} (ht:PairN s.heap t) (hu:PairN s.heap u) (hok:∀ x ∈ t.2.2.2,PyData.strOk x=true) (hd:t.1≠u.1→t.2.1≠u.2.1) (hA:A.units + 2 < cLine) (h:C (decide (t.2.1.cps.toList < u.2.1.cps.toList)) s):wpAny (15:) A (keyLt' (tuples' true) (.ref t.1) (.ref u.1)) C E s:=by
 obtain ⟨tk,as,h1,h4⟩:=ht
 obtain ⟨tk2,as2,g1,g4⟩:=hu
 have lay:(PyData.tuple (t.2.2.2.map PyData.str)).canLay0=true:=by simp only [PyData.canLay0];exact YE _ hok
 have dep:(PyData.tuple (t.2.2.2.map PyData.str)).depth≤1:=by simp only [PyData.depth,Yn];lia
 refine LS h1 g1 (fun hne=>?_) (fun heq=>?_)
 ·refine ⟨?_,oneLt_str h⟩
  have e:=(eqGives_str t.2.1 u.2.1 tk tk2).at A s
  have:(t.2.1 == u.2.1)=false:=by simpa using hd hne
  rw [this] at e
  exact e
 ·refine ⟨?_,?_,?_⟩
  ·have e:=(eqGives_str t.2.1 t.2.1 tk tk).at A s
   simpa using e
  ·have e:=SeqAt.eqAt_reads _ _ A s _ _ _ _ h4 h4 lay lay (4:)
   rw [ZJ _ lay] at e
   exact e
  ·have e1:t.2.1=u.2.1:=by
    obtain ⟨o,e,_,n,d⟩:=h1
    obtain ⟨o2,e2,_,n2,d2⟩:=g1
    rw [heq,e2] at e
    cases e
    rw [d] at d2
    injection d2 with z1 z2
    have z3:[Value.str t.2.1 tk,Value.ref t.2.2.1]=[Value.str u.2.1 tk2,Value.ref u.2.2.1]:=by simpa using congrArg Array.toList z1
    injection z3 with z4 z5
    injection z4
   rw [← e1,decide_eq_false (List.lt_irrefl _)] at h
   exact h
end
section
variable {X:Cx}
theorem JC (hu:X.A.units + 4 < cLine):QN X (.builtin "sorted") (fun xs H Q=>∃ (l:Addr) (ts:List PNx),xs=[.ref l]∧SqL X.K H l (ts.map fun t=>V.ref t.1)∧(∀ t ∈ ts,SqT X.K H t.1 [.str t.2.1,.ref t.2.2.1]∧SqT X.K H t.2.2.1 (t.2.2.2.map V.str)∧∀ x ∈ t.2.2.2,PyData.strOk x=true)∧(ts.map fun t=>t.2.1).Nodup∧ts.length < 64 ∧
 ∀ (out:List PNx) p,out.Perm ts→(out.Pairwise fun x y=>¬ y.2.1.cps.toList < x.2.1.cps.toList)→H p=none→Q (.ref p) (upd H p (.lst (out.map fun t=>V.ref t.1)))):=by
 intro pins s σ H xs us Q I r h
 obtain ⟨l,ts,rfl,hl,ht,hnd,h64,q⟩:=h
 cases r with
 | cons r rr =>
  cases rr
  obtain rfl:_=Value.ref l:=r
  obtain ⟨its,rv,p,_⟩:=I.list hl
  obtain rfl:=YQ rv
  have hP:∀ t ∈ ts,PairN s.heap t:=fun t htm=>by
   obtain ⟨h1,h2,_⟩:=ht t htm
   obtain ⟨its1,r1,p1,_⟩:=I.tuple h1
   obtain ⟨u,v,rfl,ru,rv⟩:=r1.two
   cases (show v=Value.ref _ from rv)
   obtain ⟨tk,rfl⟩:=(show ∃ tk,u=Value.str _ tk from ru)
   obtain ⟨as,q4⟩:=(RdV.tup h2 (Yb _)).reads I (show RelV (.ref t.2.2.1) (.ref t.2.2.1) from rfl)
   exact ⟨tk,as,p1,q4⟩
  let d:PNx:=(0,⟨#[]⟩,0,[])
  have gd:∀ i,i < ts.length→(ts.map fun t=>Value.ref t.1).getD i Value.none=.ref (ts.getD i d).1:=fun i hi=>by simp [List.getD_eq_getElem?_getD,hi]
  have md:∀ i,i < ts.length→ts.getD i d ∈ ts:=fun i hi=>by simp [List.getD_eq_getElem?_getD,hi]
  have ek:(Value.type "str" != Value.type "tuple")=true:=by decide +kernel
  refine XV strOrd (fun i=>(ts.getD i d).2.1.cps.toList) (tuples' true) p.isList (by simpa using h64) (fun s' E' Q' hs h2 hq=>?_) (fun s' i j C hs hi hj hC=>?_) fun pp o1 o2=>?_
  ·obtain ⟨fs,f1,f2,f3⟩:=Uy (h:=s'.heap) fun t htm=>(hP t htm).keeps hs
   refine kat_kind (T:=.type "str") f1 (by rw [f3];rw [List.length_map] at h2;lia) (fun v hv=>?_) (0:) (by rw [ek];exact hq)
   obtain ⟨x,t,rfl⟩:=f2 v hv
   exact .now
  ·rw [List.length_map] at hi hj
   rw [gd i hi,gd j hj]
   refine GK ((hP _ (md i hi)).keeps hs) ((hP _ (md j hj)).keeps hs) (ht _ (md i hi)).2.2 (fun hne he=>hne ?_) (by show X.A.units + 1 + 1 + 2 < cLine;lia) hC
   have hij:i=j:=by
    have a1:(ts.map fun t=>t.2.1)[i]'(by simpa using hi)=(ts.getD i d).2.1:=by simp [List.getD_eq_getElem?_getD,hi]
    have a2:(ts.map fun t=>t.2.1)[j]'(by simpa using hj)=(ts.getD j d).2.1:=by simp [List.getD_eq_getElem?_getD,hj]
    exact (List.getElem_inj hnd).mp (a1.trans (he.trans a2.symm))
   rw [hij]
  ·rw [List.length_map] at o1 o2
   obtain ⟨w1,w2⟩:=LK (O:=strOrd) (ts:=ts) (d:=d) (key:=fun t=>t.2.1.cps.toList) o1 o2
   have em:(pp.toList.map fun i=>(ts.map fun t=>Value.ref t.1).getD i Value.none)=(pp.toList.map fun i=>ts.getD i d).map fun t=>Value.ref t.1:=by
    rw [List.map_map]
    refine List.map_congr_left fun i hi=>?_
    exact gd i (List.mem_range.mp (o1.mem_iff.mp hi))
   rw [em]
   generalize pp.toList.map (fun i=>ts.getD i d)=out at w1 w2
   obtain ⟨e,he⟩:=sortedAll_at s.heap (ts.map fun t=>Value.ref t.1) (out.map fun t=>Value.ref t.1).toArray
   have hfr:H (17:)=none:=I.hok.fresh (Nat.le_succ _)
   refine ⟨.ref (17:),_,I.laid (t':=s.toks) (o:=.lst (out.map fun t=>V.ref t.1)) (fun b o g=>sortedAll_old g) (Nat.le_succ _) ?_,rfl,q out _ w1 (w2.imp fun h=>by simpa using h) hfr⟩
   exact ⟨by rw [List.length_map,w1.length_eq,sizeLine_eq];lia,_,e,U9 out,he⟩
end
end L2
namespace K9
open PySem L2 TM
mutual
def isT (f:Str→Str→Option (List Str)):Tree Str→Str→Bool
 | .node n _ bs,k=>match f k n with
  | none=>false
  | some ss=>decide (ss.length=bs.length) && OS f bs ss
def OS (f:Str→Str→Option (List Str)):List (Tree Str)→List Str→Bool
 | [],ss=>ss.isEmpty
 | b :: bs,ss=>match ss with
  | []=>false
  | s :: r=>isT f b s && OS f bs r
end
mutual
def td:Tree Str→PyData
 | .node n m bs=>.tuple [.str n,.int m,.tuple (tds bs)]
def tds:List (Tree Str)→List PyData
 | []=>[]
 | t :: r=>td t :: tds r
end
mutual
theorem TrV.rd {K:PySem.W.Frag} {H:Hp}:∀ {v:V} {t:Tree Str},TrV K H v t→RdV K H v (td t)
 | _,_,.mk h1 h2 h3 _=>by
  simp only [td]
  exact .tup h1 (.cons (.str _) (.cons (.int _) (.cons (.tup h2 (TrAll.rd h3)) .nil)))
theorem TrAll.rd {K:PySem.W.Frag} {H:Hp}:∀ {vs:List V} {ts:List (Tree Str)},TrAll K H vs ts→RdAll K H vs (tds ts)
 | _,_,.nil=>by simp only [tds];exact .nil
 | _,_,.cons h t=>by simp only [tds];exact .cons (TrV.rd h) (TrAll.rd t)
end
abbrev KdT:=Addr × Str × Addr × List PNx
def RowAt (K:PySem.W.Frag) (H:Hp) (t:PNx):Prop:=SqT K H t.1 [.str t.2.1,.ref t.2.2.1]∧SqT K H t.2.2.1 (t.2.2.2.map V.str)
def RowsL (K:PySem.W.Frag) (H:Hp) (lr:Addr) (rs:List PNx):Prop:=SqL K H lr (rs.map fun t=>V.ref t.1)∧∀ t ∈ rs,RowAt K H t
def WoodAt (K:PySem.W.Frag) (H:Hp) (w:Addr) (ks:List KdT):Prop:=SqL K H w (ks.map fun k=>V.ref k.1)∧∀ k ∈ ks,SqT K H k.1 [.str k.2.1,.ref k.2.2.1]∧RowsL K H k.2.2.1 k.2.2.2
theorem RowAt.same {K:PySem.W.Frag} {H H':Hp} {t:PNx} (g:Same H H') (h:RowAt K H t):RowAt K H' t:=⟨g.seqT h.1,g.seqT h.2⟩
theorem RowsL.same {K:PySem.W.Frag} {H H':Hp} {lr:Addr} {rs:List PNx} (g:Same H H') (h:RowsL K H lr rs):RowsL K H' lr rs:=⟨g.seq h.1,fun t ht=>(h.2 t ht).same g⟩
theorem WoodAt.same {K:PySem.W.Frag} {H H':Hp} {w:Addr} {ks:List KdT} (g:Same H H') (h:WoodAt K H w ks):WoodAt K H' w ks:=⟨g.seq h.1,fun k hk=>⟨g.seqT (h.2 k hk).1,(h.2 k hk).2.same g⟩⟩
structure RowsOk (rs:List PNx):Prop where
 nd:(rs.map fun t=>t.2.1).Nodup
 len:rs.length≤10
 nm:∀ r ∈ rs,PyData.strOk r.2.1=true
 kn:∀ r ∈ rs,∀ x ∈ r.2.2.2,PyData.strOk x=true
 kl:∀ r ∈ rs,r.2.2.2.length≤4
structure WoodOk (ks:List KdT):Prop where
 nd:(ks.map fun k=>k.2.1).Nodup
 len:ks.length≤10
 rows:∀ k ∈ ks,RowsOk k.2.2.2
def Qz (ks:List KdT) (kind:Str):List PNx:=((ks.find? fun k=>decide (k.2.1=kind)).map fun k=>k.2.2.2).getD []
def Me (ks:List KdT) (kind name:Str):Option (List Str):=((Qz ks kind).find? fun r=>decide (r.2.1=name)).map fun r=>r.2.2.2
theorem Jw {α:Type} (f:α→Str) (g:α→V) (z:Str):∀ l:List α,Z7 (l.map fun x=>((Sum.inr (f x):Key),g x)) (Sum.inr z)=(l.find? fun x=>decide (f x=z)).map g
 | []=>rfl
 | x :: r=>by
  rw [List.map_cons,List.find?_cons]
  by_cases e:f x=z
  ·rw [Yu (p:=((Sum.inr (f x):Key),g x)) (by rw [e]),decide_eq_true e];rfl
  ·rw [YH (p:=((Sum.inr (f x):Key),g x)) (fun q=>e (by injection q)),decide_eq_false e]
   exact Jw f g z r
theorem Gf {ks:List KdT} (h:WoodOk ks) (kind:Str):RowsOk (Qz ks kind):=by
 unfold Qz
 cases e:ks.find? fun k=>decide (k.2.1=kind) with
 | none=>exact ⟨List.nodup_nil,Nat.zero_le _,fun r hr=>(nomatch hr),fun r hr=>(nomatch hr),fun r hr=>(nomatch hr)⟩
 | some k=>exact h.rows k (List.mem_of_find?_eq_some e)
def Pj (K:PySem.W.Frag) (H:Hp) (v:V):Option (List Str)→Prop
 | none=>v=.non
 | some ss=>∃ b,v=.ref b∧SqT K H b (ss.map V.str)
theorem ZR {K:PySem.W.Frag} {H:Hp} {v:V} {t:Tree Str} (h:TrV K H v t):∃ a b vs name mark,v=.ref a∧t=.node name mark t.bs∧SqT K H a [.str name,.int mark,.ref b]∧SqT K H b vs∧TrAll K H vs t.bs∧vs.length≤1000:=by
 cases h with
 | mk h1 h2 h3 h4=>exact ⟨_,_,_,_,_,rfl,rfl,h1,h2,h3,h4⟩
end K9
namespace TT
open TM PySem
inductive Lab where
 | call (m b:Int)
 | put (nm:Str) (kept:Bool) (add:Int)
abbrev Tm:=Tree Lab
def Pw (m b:Int):Tm:=.node (.call m b) 0 []
def lcl:Lab→List (Int × Int)
 | .call m b=>[(m,b)]
 | .put _ _ _=>[]
def isC:Lab→Bool
 | .call _ _=>true
 | .put _ _ _=>false
def lab:Tm→Lab
 | .node l _ _=>l
mutual
def cls:Tm→List (Int × Int)
 | .node l _ bs=>lcl l ++ N4 bs
def N4:List Tm→List (Int × Int)
 | []=>[]
 | t :: r=>cls t ++ N4 r
end
def look (t:Tm) (p:List Int):List (Int × Int):=match atT t p with
 | some u=>lcl (lab u)
 | none=>[]
variable {R:Rows Lab}
variable {B B':Nat→Tm} {f:Int→Int→Tm}
end TT
namespace L2
open PySem PyProof.Rows TM TT
abbrev Ye:Str:=Str.ofString "call"
abbrev PUT:Str:=Str.ofString "put"
mutual
inductive TmV (K:PySem.W.Frag) (H:Hp):V→Tm→Prop where
 | call {a:Addr} {m b:Int}:SqT K H a [.str Ye,.int m,.int b]→TmV K H (.ref a) (.node (.call m b) 0 [])
 | put {a b:Addr} {vs:List V} {ts:List Tm} {n:Str} {k:Bool} {ad:Int}:SqT K H a [.str PUT,.str n,.bl k,.int ad,.ref b]→SqT K H b vs→TmAll K H vs ts→vs.length≤1000→TmV K H (.ref a) (.node (.put n k ad) 0 ts)
inductive TmAll (K:PySem.W.Frag) (H:Hp):List V→List Tm→Prop where
 | nil:TmAll K H [] []
 | cons {v:V} {vs:List V} {t:Tm} {ts:List Tm}:TmV K H v t→TmAll K H vs ts→TmAll K H (v :: vs) (t :: ts)
end
mutual
theorem TmV.mono {K:PySem.W.Frag} {H H':Hp} (k:∀ a xs,SqT K H a xs→SqT K H' a xs):∀ {v:V} {t:Tm},TmV K H v t→TmV K H' v t
 | _,_,.call h=>.call (k _ _ h)
 | _,_,.put h1 h2 h3 h4=>.put (k _ _ h1) (k _ _ h2) (TmAll.mono k h3) h4
theorem TmAll.mono {K:PySem.W.Frag} {H H':Hp} (k:∀ a xs,SqT K H a xs→SqT K H' a xs):∀ {vs:List V} {ts:List Tm},TmAll K H vs ts→TmAll K H' vs ts
 | _,_,.nil=>.nil
 | _,_,.cons h t=>.cons (TmV.mono k h) (TmAll.mono k t)
end
theorem TmAll.length {K:PySem.W.Frag} {H:Hp}:∀ {vs:List V} {ts:List Tm},TmAll K H vs ts→vs.length=ts.length
 | _,_,.nil=>rfl
 | _,_,.cons _ t=>by rw [List.length_cons,List.length_cons,TmAll.length t]
theorem TmAll.get {K:PySem.W.Frag} {H:Hp}:∀ {vs:List V} {ts:List Tm} {i:Nat} {t:Tm},TmAll K H vs ts→ts[i]?=some t→∃ v,vs[i]?=some v∧TmV K H v t
 | _,_,_,_,.nil,e=>by simp at e
 | _,_,0,_,.cons h _,e=>by simp at e;subst e;exact ⟨_,rfl,h⟩
 | _,_,i + 1,t,.cons _ r,e=>by
  obtain ⟨v,h1,h2⟩:=TmAll.get (i:=i) (t:=t) r (by simpa using e)
  exact ⟨v,by simpa using h1,h2⟩
theorem TmAll.append {K:PySem.W.Frag} {H:Hp}:∀ {vs ws:List V} {ts us:List Tm},TmAll K H vs ts→TmAll K H ws us→TmAll K H (vs ++ ws) (ts ++ us)
 | _,_,_,_,.nil,h=>h
 | _,_,_,_,.cons a t,h=>.cons a (TmAll.append t h)
def tdl:Lab→List PyData→PyData
 | .call m b,_=>.tuple [.str Ye,.int m,.int b]
 | .put n k a,ds=>.tuple [.str PUT,.str n,.bool k,.int a,.tuple ds]
mutual
def tmd:Tm→PyData
 | .node l _ bs=>tdl l (Y2 bs)
def Y2:List Tm→List PyData
 | []=>[]
 | t :: r=>tmd t :: Y2 r
end
mutual
theorem TmV.rd {K:PySem.W.Frag} {H:Hp}:∀ {v:V} {t:Tm},TmV K H v t→RdV K H v (tmd t)
 | _,_,.call h=>by
  simp only [tmd,tdl]
  exact .tup h (.cons (.str _) (.cons (.int _) (.cons (.int _) .nil)))
 | _,_,.put h1 h2 h3 _=>by
  simp only [tmd,tdl]
  exact .tup h1 (.cons (.str _) (.cons (.str _) (.cons (.bl _) (.cons (.int _) (.cons (.tup h2 (TmAll.rd h3)) .nil)))))
theorem TmAll.rd {K:PySem.W.Frag} {H:Hp}:∀ {vs:List V} {ts:List Tm},TmAll K H vs ts→RdAll K H vs (Y2 ts)
 | _,_,.nil=>by simp only [Y2];exact .nil
 | _,_,.cons h t=>by simp only [Y2];exact .cons (TmV.rd h) (TmAll.rd t)
end
def MOk (d:Nat) (t:Tm):Prop:=(tmd t).canLay0=true∧(tmd t).depth≤d
theorem MOk.mono {d e:Nat} {t:Tm} (h:MOk d t) (hd:d≤e):MOk e t:=⟨h.1,Nat.le_trans h.2 hd⟩
theorem J3 {d:Nat}:∀ ts:List Tm,(∀ t ∈ ts,MOk d t)→PyData.canLayAll0 (Y2 ts)=true∧PyData.depthAll (Y2 ts)≤d
 | [],_=>by simp [Y2,PyData.canLayAll0,PyData.depthAll]
 | t :: r,h=>by
  obtain ⟨h1,h2⟩:=h t List.mem_cons_self
  obtain ⟨h3,h4⟩:=J3 r fun u hu=>h u (List.mem_cons_of_mem _ hu)
  simp only [Y2,PyData.canLayAll0,PyData.depthAll,h1,h3,Bool.and_self,true_and]
  lia
theorem GH:PyData.strOk Ye=true:=by decide +kernel
theorem LR:PyData.strOk PUT=true:=by decide +kernel
theorem leaf_ok (m b:Int) (mk:Int) (bs:List Tm):MOk 1 (.node (.call m b) mk bs):=by
 constructor
 ·simp only [tmd,tdl,PyData.canLay0,PyData.canLayAll0,GH,Bool.and_self]
 ·simp only [tmd,tdl,PyData.depth,PyData.depthAll];lia
theorem put_ok {d:Nat} {n:Str} {k:Bool} {a mk:Int} {ts:List Tm} (hn:PyData.strOk n=true) (h:∀ t ∈ ts,MOk d t):MOk (d + 2) (.node (.put n k a) mk ts):=by
 obtain ⟨h1,h2⟩:=J3 ts h
 constructor
 ·simp only [tmd,tdl,PyData.canLay0,PyData.canLayAll0,h1,hn,LR,Bool.and_self]
 ·simp only [tmd,tdl,PyData.depth,PyData.depthAll]
  lia
end L2
namespace K11
open PySem L2 TM TT K9
def kpl:Lab→Bool
 | .call _ _=>false
 | .put _ k _=>k
mutual
def kp:Tm→Bool
 | .node l _ bs=>kpl l || kps bs
def kps:List Tm→Bool
 | []=>false
 | t :: r=>kp t || kps r
end
abbrev Md:=Str × List Tm
abbrev MdT:=Addr × Str × Addr × List V × List Tm
def MdT.md (m:MdT):Md:=(m.2.1,m.2.2.2.2)
def MdAt (K:PySem.W.Frag) (H:Hp) (m:MdT):Prop:=SqT K H m.1 [.str m.2.1,.ref m.2.2.1]∧SqL K H m.2.2.1 m.2.2.2.1∧TmAll K H m.2.2.2.1 m.2.2.2.2
def ModesL (K:PySem.W.Frag) (H:Hp) (lm:Addr) (ms:List MdT):Prop:=SqL K H lm (ms.map fun m=>V.ref m.1)∧∀ m ∈ ms,MdAt K H m
theorem MdAt.same {K:PySem.W.Frag} {H H':Hp} {m:MdT} (g:Same H H') (h:MdAt K H m):MdAt K H' m:=⟨g.seqT h.1,g.seq h.2.1,h.2.2.mono fun _ _=>g.seqT⟩
theorem ModesL.same {K:PySem.W.Frag} {H H':Hp} {lm:Addr} {ms:List MdT} (g:Same H H') (h:ModesL K H lm ms):ModesL K H' lm ms:=⟨g.seq h.1,fun m hm=>(h.2 m hm).same g⟩
def XH (ks:List KdT) (m:Md) (name:Str):Option Tm:=(((Qz ks m.1).zip m.2).find? fun x=>decide (x.1.2.1=name)).map (·.2)
def TmO (K:PySem.W.Frag) (H:Hp) (v:V):Option Tm→Prop
 | none=>v=.non
 | some t=>TmV K H v t
end K11
namespace L2
open PySem PyProof.Rows TM TT K9 K11
theorem SameD.seqL {K:PySem.W.Frag} {d a:Addr} {H H':Hp} {xs:List V} (g:SameD d H H') (hne:a≠d) (h:SqL K H a xs):SqL K H' a xs:=by
 rcases h with (h | ⟨ob,h⟩) | h
 ·exact .inl (.inl (g _ _ hne h))
 ·exact .inl (.inr ⟨ob,g _ _ hne h⟩)
 ·exact .inr h
def WoodD (K:PySem.W.Frag) (H:Hp) (d w:Addr) (ks:List KdT):Prop:=WoodAt K H w ks∧w≠d∧∀ k ∈ ks,k.2.2.1≠d
theorem WoodD.sameD {K:PySem.W.Frag} {H H':Hp} {d w:Addr} {ks:List KdT} (g:SameD d H H') (hd:Dk H d) (h:WoodD K H d w ks):WoodD K H' d w ks:=by
 obtain ⟨⟨h1,h2⟩,h3,h4⟩:=h
 exact ⟨⟨g.seqL h3 h1,fun k hk=>⟨g.seqT hd (h2 k hk).1,g.seqL (h4 k hk) (h2 k hk).2.1,fun t ht=>⟨g.seqT hd ((h2 k hk).2.2 t ht).1,g.seqT hd ((h2 k hk).2.2 t ht).2⟩⟩⟩,h3,h4⟩
structure DWood (c:Int) (ks:List KdT):Prop where
 ok:WoodOk ks
 pos:0 < ks.length
 three:ks.length≤3
 nm:∀ k ∈ ks,PyData.strOk k.2.1=true
 few:∀ k ∈ ks,k.2.2.2.length≤3
 bare:∀ k ∈ ks,∃ r ∈ k.2.2.2,r.2.2.2=[]
 kin:∀ k ∈ ks,∀ r ∈ k.2.2.2,∀ x ∈ r.2.2.2,x ∈ ks.map fun k=>k.2.1
theorem SameD.put {d a:Addr} {H H':Hp} {o:HO} (g:SameD d H H') (ha:H a=none):SameD d H (L2.upd H' a o):=fun b u hb e=>by
 rw [Qg (Qh e ha)];exact g _ _ hb e
end L2
namespace K71
open PySem L2 TM TT ST K9 K11
abbrev Gy:Stmt:=top 19
def J6 (K:PySem.W.Frag):Sp:=fun vs H Q _=>∃ (d:Addr) (c:Int),vs=[.ref d,.int c]∧Dk H d∧∀ (w:Addr) (H':Hp) (ks:List KdT),SameD d H H'→Dk H' d→WoodD K H' d w ks→DWood c ks→Q (.ref w) H'
def Ng (c:Int) (n:Nat) (r:PNx):Prop:=PyData.strOk r.2.1=true∧r.2.2.2.length≤4∧∀ x ∈ r.2.2.2,x ∈ (List.range n).map fun (i:Nat)=>nmS c (i:Int)
def MR (c:Int) (n:Nat) (b:Int) (rs:List PNx):Prop:=rs.map (fun r=>r.2.1)=(List.range rs.length).map (fun (j:Nat)=>nmS c (b + (j:Int)))∧(∀ r ∈ rs,Ng c n r)∧(∃ r ∈ rs,r.2.2.2=[])
theorem Z1 (c b:Int) (n:Nat) (h0:0≤b) (h1:b + (n:Int)≤26):((List.range n).map fun (j:Nat)=>nmS c (b + (j:Int))).Nodup:=by
 rw [List.nodup_iff_pairwise_ne,List.pairwise_map]
 refine List.Pairwise.imp_of_mem (fun {i j} hi hj hne e=>hne ?_) (List.nodup_iff_pairwise_ne.mp List.nodup_range)
 have hi':=List.mem_range.mp hi
 have hj':=List.mem_range.mp hj
 have:=L5 (c:=c) (k:=b + (i:Int)) (k':=b + (j:Int)) (4:) (4:) (4:) (4:) e
 lia
theorem GE {c:Int} {n:Nat} {b:Int} {rs out:List PNx} (h:MR c n b rs) (h0:0≤b) (h1:b + 3≤26) (hl:rs.length≤3) (hp:out.Perm rs):RowsOk out∧out.length≤3∧(∃ r ∈ out,r.2.2.2=[])∧∀ r ∈ out,Ng c n r:=by
 obtain ⟨h2,h3,r0,hr0,e0⟩:=h
 have hlen:=hp.length_eq
 have nd:(rs.map fun r=>r.2.1).Nodup:=by rw [h2];exact Z1 c b rs.length h0 (4:)
 refine ⟨⟨(hp.map _).nodup_iff.mpr nd,by lia,fun r hr=>(h3 r (hp.mem_iff.mp hr)).1,fun r hr x hx=>?_,fun r hr=>(h3 r (hp.mem_iff.mp hr)).2.1⟩,by lia,⟨r0,hp.mem_iff.mpr hr0,e0⟩,fun r hr=>h3 r (hp.mem_iff.mp hr)⟩
 obtain ⟨i,_,rfl⟩:=List.mem_map.mp ((h3 r (hp.mem_iff.mp hr)).2.2 x hx)
 exact Ym _ _
section
variable {P:Program} {w:World} {K:PySem.W.Frag} {mg:Str→Option Value} {base:Heap} {f:Addr} {fd:FuncData}
theorem ZY:FnScope ["_law_deck", "_law_code", "_law_count", "_law_apart", "_law_wood_here", "_law_k", "_law_rows_here", "_law_j", "_law_branches"] ["_law_deck", "_law_code"] (defScope Gy):=(1:)
theorem LJ (F:Fun K "_law_wood" "_law_wood" Gy f fd) (G:Gm mg) (RD:Fn P w K mg base 1 "_law_draw" ["_law_deck", "_law_most"] Q9) (RN:Fn P w K mg base 1 "_law_name" ["_law_code", "_law_k"] Yp):FnOk P w K mg base CX0 2 f fd ["_law_deck", "_law_code"] (J6 K):=by
 refine F.ok ZY (9:) (3:)
 ·obtain ⟨d,c,rfl,_⟩:=h
  rfl
 obtain ⟨d,c,rfl,hd,q⟩:=h
 refine ⟨_,(Qf (Qq (i:=2) ZY.nd rfl (Or.inr rfl) (Qm QZ Qd (Qp RD hr (Qa (pv 0) (Qa (Qd) Qc)))))
  (Qf (Qq (i:=3) ZY.nd rfl (Or.inl rfl) (Qm Z5 (Qp RD hr (Qa (pv 0) (Qa (Qd) Qc))) Qd))
  (Qf (Qq (i:=4) ZY.nd rfl (Or.inl rfl) (Zc Qc))
  (Qf (QR PassesOwn.never rfl (QD rfl G.rng (Qa (pv 2) Qc)) (Qw (i:=5) ZY.nd rfl (Or.inl rfl)) (Qf (Qq (i:=6) ZY.nd rfl (Or.inl rfl) (Zc (Qa ((QE (Qa (Qp RN hr (Qa (pv 1) (Qa (Qm QZ Qd (Qm Z5 (pv 3) (pv 5))) Qc))) (Qa (QE Qc) Qc)))) Qc)))
  (Qf (QR PassesOwn.never rfl (QD rfl G.rng (Qa (Qp RD hr (Qa (pv 0) (Qa (Qd) Qc))) Qc)) (Qw (i:=7) ZY.nd rfl (Or.inl rfl)) (Qf (Q8 (i:=8) (CompG.many (xs:=["_law_i"]) (caps:=["_law_code", "_law_count", "_law_deck"]) (cap:=[1,2,0]) (cs:=[_,_,_]) rfl rfl (0:) (0:) (0:) (0:) (0:) (0:) rfl rfl rfl) rfl (QD rfl G.rng (Qa (Qp RD hr (Qa (pv 0) (Qa (Qd) Qc))) Qc)) (Q7 (CompG.many (xs:=["_law_i"]) (caps:=["_law_code", "_law_count", "_law_deck"]) (cap:=[1,2,0]) (cs:=[_,_,_]) rfl rfl (0:) (0:) (0:) (0:) (0:) (0:) rfl rfl rfl)) (fun _ _ _ _=>QT) (fun _ _ _ _=>Qp RN hr (Qa (pv 1) (Qa (Qp RD hr (Qa (pv 3) (Qa (pv 2) Qc))) Qc))) ZY.nd rfl rfl)
  (Qi (Zq (Yz PySem.F.plainAttrs_list PySem.F.slot_list_append PySem.F.type_list_append QW (pv 6) (Qa ((QE (Qa (Qp RN hr (Qa (pv 1) (Qa (Qm QZ (Qm QZ Qd (pv 7)) (Qm Z5 (pv 3) (pv 5))) Qc))) (Qa (QJ QO rfl G.tup PyProof.Rows.boot_tuple (Qa (pv 8) Qc)) Qc)))) Qc))))))
  (Qi (Zq (Yz PySem.F.plainAttrs_list PySem.F.slot_list_append PySem.F.type_list_append QW (pv 4) (Qa ((QE (Qa (Qp RN hr (Qa (pv 1) (Qa (pv 5) Qc))) (Qa (Qo (JC (hr.fit (by decide))) rfl G.srt PyProof.Rows.boot_sorted (Qa (pv 6) Qc)) Qc)))) Qc)))))))
  (Qi (Ql (pv 4))))))),?_⟩
 refine ⟨_,rfl,d,_,rfl,hd,(by decide),fun r0 H1 g1 hd1 r00 r01=>⟨_,_,rfl,rfl,?_⟩⟩
 refine ⟨_,rfl,d,_,rfl,hd1,(by decide),fun r1 H2 g2 hd2 r10 r11=>⟨_,_,rfl,rfl,.inr ⟨by decide,by decide⟩,?_⟩⟩
 refine ⟨(by show 0≤sizeLine;decide),fun lw hlw=>?_⟩
 have hlwd:=hd2.ne hlw
 have g12:=g1.trans g2
 obtain ⟨n,hn⟩ : ∃ n:Nat,(n:Int)=1 + r0:=⟨(1 + r0).toNat,by lia⟩
 have hn1:1≤n:=by lia
 have hn3:n≤3:=by lia
 obtain ⟨ap,hap,hap3⟩ : ∃ ap:Nat,(ap:Int)=r1 * 3∧ap≤3:=⟨(r1 * 3).toNat,by lia,by lia⟩
 dsimp only
 rw [← hn,← hap]
 have hlwH:H lw=none:=by
  cases e:H lw with
  | none=>rfl
  | some u=>have:=g12 lw u hlwd e;rw [hlw] at this;cases this
 refine ⟨_,rfl,_,rfl,(by show -(2 ^ 62:Int)≤((n:Nat):Int);lia),(by show ((n:Nat):Int) < 2 ^ 62;lia),?_⟩
 refine Q6 (lo:=0) (n:=(((n:Nat):Int)).toNat) (fun i σ H'=>∃ (ks:List KdT) (c5 c6 c7 c8:Option V),σ=[some (.ref d),some (.int c),some (.int (n:Int)),some (.int (ap:Int)),some (.ref lw),c5,c6,c7,c8]∧SameD d H H'∧Dk H' d∧H' lw=some (.lst (ks.map fun k=>V.ref k.1))∧ks.length=i ∧
  ks.map (fun k=>k.2.1)=(List.range i).map (fun (j:Nat)=>nmS c (j:Int))∧∀ k ∈ ks,SqT K H' k.1 [.str k.2.1,.ref k.2.2.1]∧H' k.2.2.1=some (.lst (k.2.2.2.map fun t=>V.ref t.1))∧(∀ t ∈ k.2.2.2,RowAt K H' t)∧k.2.2.1≠d∧k.2.2.1≠lw∧RowsOk k.2.2.2∧k.2.2.2.length≤3∧(∃ r ∈ k.2.2.2,r.2.2.2=[])∧∀ r ∈ k.2.2.2,Ng c n r)
  ⟨[],none,none,none,none,rfl,g12.trans (SameD.of (Qe hlw _)),hd2.upd hlwd,Qb,rfl,rfl,fun k hk=>(nomatch hk)⟩ ?_ ?_
 ·rintro i σ H' hi ⟨ks,c5,c6,c7,c8,rfl,g,hdk,hlw',hkl,hkn,hkk⟩
  have hi3:i < 3:=by lia
  have e0:(0:Int)+(i:Int)=(i:Int):=by lia
  obtain ⟨bn,hbn,hbn0,hbn9⟩ : ∃ bn:Int,bn=3 + (ap:Int) * (0 + (i:Int))∧0≤bn∧bn≤9:=by
   refine ⟨_,rfl,?_,?_⟩
   ·have:0≤(ap:Int) * (0 + (i:Int)):=Int.mul_nonneg (4:) (4:)
    lia
   ·have:(ap:Int) * (0 + (i:Int))≤3 * 2:=Int.mul_le_mul (4:) (4:) (4:) (4:)
    lia
  have mulOk:-(2 ^ 64:Int) < (ap:Int)∧(ap:Int) < 2 ^ 64:=by constructor <;> lia
  refine ⟨_,rfl,_,rfl,_,rfl,_,_,rfl,rfl,.inl mulOk,_,_,rfl,rfl,c,bn,(by rw [hbn];rfl),?_⟩
  refine ⟨(by show 0≤sizeLine;decide),fun p0 hp0=>⟨(by show 2≤sizeLine;decide),fun p1 hp1=>⟨(by show 1≤sizeLine;decide),fun lr hlr=>?_⟩⟩⟩
  have a0:=Qe hp0 (.tup [])
  have a1:=Qe hp1 (.tup [.str (nmS c bn),.ref p0])
  have a2:=Qe hlr (.lst [.ref p1])
  have a012:=a0.trans (a1.trans a2)
  have hlrd:lr≠d:=(hdk.same (a0.trans a1)).ne hlr
  have hlrw:lr≠lw:=fun z=>by
   have:=(a0.trans a1) _ _ hlw'
   rw [← z,hlr] at this;cases this
  have hrow0:RowAt K (upd (upd (upd H' p0 (.tup [])) p1 (.tup [.str (nmS c bn),.ref p0])) lr (.lst [.ref p1])) (p1,nmS c bn,p0,[]):=⟨a2.seqT (SqT.of Qb),(a1.trans a2).seqT (SqT.of Qb)⟩
  have hlr2:upd (upd (upd H' p0 (.tup [])) p1 (.tup [.str (nmS c bn),.ref p0])) lr (.lst [.ref p1]) lr=some (.lst [.ref p1]):=Qb
  generalize (upd (upd (upd H' p0 (.tup [])) p1 (.tup [.str (nmS c bn),.ref p0])) lr (.lst [.ref p1]))=H3 at a012 hrow0 hlr2
  have hd3:Dk H3 d:=hdk.same a012
  refine ⟨_,rfl,d,_,rfl,hd3,(by decide),fun r2 H4 g4 hd4 r20 r21=>⟨_,rfl,(by show -(2 ^ 62:Int)≤r2;lia),(by show r2 < 2 ^ 62;lia),?_⟩⟩
  have m4:SameD d H' H4:=(SameD.of a012).trans g4
  refine Q6 (lo:=0) (n:=r2.toNat) (fun j σ H5=>∃ (rs:List PNx) (c7 c8:Option V),σ=[some (.ref d),some (.int c),some (.int (n:Int)),some (.int (ap:Int)),some (.ref lw),some (.int (0 + (i:Int))),some (.ref lr),c7,c8]∧(∀ b u,b≠d→b≠lr→H' b=some u→H5 b=some u)∧Dk H5 d∧H5 lr=some (.lst (rs.map fun t=>V.ref t.1))∧rs.length=j + 1∧MR c n bn rs∧∀ t ∈ rs,RowAt K H5 t)
   ⟨[(p1,nmS c bn,p0,[])],c7,c8,rfl,fun b u hb _ e=>m4 b u hb e,hd4,g4 _ _ hlrd hlr2,rfl,⟨by simp,fun r hr'=>?_,⟨_,List.mem_singleton.mpr rfl,rfl⟩⟩,fun t ht=>?_⟩ ?_ ?_
  ·have:r=(p1,nmS c bn,p0,[]):=by simpa using hr'
   rw [this]
   exact ⟨Ym _ _,by simp,fun x hx=>(nomatch hx)⟩
  ·have:t=(p1,nmS c bn,p0,[]):=by simpa using ht
   rw [this]
   exact ⟨g4.seqT hd3 hrow0.1,g4.seqT hd3 hrow0.2⟩
  ·rintro j σ H5 hj ⟨rs,c7,c8,rfl,m5,hd5,hlr5,hrl,hrf,hra⟩
   have hj2:j < 2:=by lia
   refine ⟨_,rfl,d,_,rfl,hd5,(by decide),fun r3 H6 g6 hd6 r30 r31=>⟨_,rfl,(by show -(2 ^ 62:Int)≤r3;lia),(by show r3 < 2 ^ 62;lia),fun acc hacc=>?_⟩⟩
   have had:=hd6.ne hacc
   refine UO (lo:=0) (n:=r3.toNat) (cs:=[some (.int c),some (.int (n:Int)),some (.ref d)]) (tt:=fun _ H Q=>Q true H) (fun m ys H7=>∃ zs:List Str,ys=zs.map V.str∧zs.length=m∧(∀ z ∈ zs,z ∈ (List.range n).map fun (i:Nat)=>nmS c (i:Int))∧H7 acc=some (.lst ys)∧SameD d H6 H7∧Dk H7 d)
    ⟨[],rfl,rfl,fun z hz=>(nomatch hz),Qb,SameD.of (Qe hacc _),hd6.upd had⟩ ?_ ?_
   ·rintro m ys H7 hm ⟨zs,rfl,hzl,hzs,hya,g7,hd7⟩
    refine Zn ⟨_,rfl,_,rfl,_,rfl,d,_,rfl,hd7,(by show (0:Int) < ((n:Nat):Int);lia),fun r4 H8 g8 hd8 r40 r41=>⟨c,r4,rfl,?_⟩⟩
    have hya8:=g8 _ _ had hya
    refine Qx (ys:=zs.map V.str) hm hya8 (by rw [List.length_map];lia) ⟨zs ++ [nmS c r4],by simp,by simp [hzl],fun z hz=>?_,Qb,fun b u hb e=>?_,hd8.upd had⟩
    ·rcases List.mem_append.mp hz with y | y
     ·exact hzs z y
     ·have:z=nmS c r4:=by simpa using y
      rw [this]
      exact List.mem_map.mpr ⟨r4.toNat,List.mem_range.mpr (4:),by rw [show ((r4.toNat:Nat):Int)=r4 by lia]⟩
    ·rw [Qg (Qh e hacc)];exact g8 _ _ hb (g7 _ _ hb e)
   rintro ys H7 ⟨zs,rfl,hzl,hzs,hya,g7,hd7⟩
   have g57:=g6.trans g7
   have hlr7:H7 lr=some (.lst (rs.map fun t=>V.ref t.1)):=g57 _ _ hlrd hlr5
   have en:(4:Int)+(0 + (j:Int))+(ap:Int) * (0 + (i:Int))=bn + ((j + 1:Nat):Int):=by rw [hbn];lia
   refine ⟨_,rfl,.inl ⟨rfl,_,SqL.of hlr7⟩,_,rfl,_,rfl,_,_,rfl,rfl,_,rfl,_,rfl,_,_,rfl,rfl,.inl mulOk,_,_,rfl,rfl,c,bn + ((j + 1:Nat):Int),(by rw [← en];rfl),_,rfl,acc,_,rfl,.inl ⟨SqL.of hya,fun p5 hp5=>⟨(by show 2≤sizeLine;decide),fun p6 hp6=>?_⟩⟩⟩
   have b1:=Qe hp5 (.tup (zs.map V.str))
   have b2:=Qe hp6 (.tup [.str (nmS c (bn + ((j + 1:Nat):Int))),.ref p5])
   have b12:=b1.trans b2
   have hlr8:=b12 _ _ hlr7
   have m7:∀ a xs,SqT K H5 a xs→SqT K (upd (upd H7 p5 (.tup (zs.map V.str))) p6 (.tup [.str (nmS c (bn + ((j + 1:Nat):Int))),.ref p5])) a xs:=fun a xs h=>b12.seqT (g57.seqT hd5 h)
   refine ⟨lr,_,_,rfl,rfl,hlr8,(by rw [List.length_map,QK];lia),?_⟩
   refine ⟨rs ++ [(p6,nmS c (bn + ((j + 1:Nat):Int)),p5,zs)],_,_,rfl,fun b u hb hb2 e=>?_,?_,by rw [Qb];simp,by simp [hrl],⟨?_,fun r hr'=>?_,?_⟩,fun t ht=>?_⟩
   ·rw [Qg hb2];exact b12 _ _ (g57 _ _ hb (m5 _ _ hb hb2 e))
   ·exact (hd7.same b12).upd hlrd
   ·rw [List.map_append,hrf.1,List.length_append,hrl]
    show _=(List.range (j + 1 + 1)).map _
    rw [List.range_succ (n:=j + 1),List.map_append]
    rfl
   ·rcases List.mem_append.mp hr' with z | z
    ·exact hrf.2.1 r z
    ·have:r=(p6,nmS c (bn + ((j + 1:Nat):Int)),p5,zs):=by simpa using z
     rw [this]
     exact ⟨Ym _ _,by show zs.length≤4;lia,hzs⟩
   ·obtain ⟨r,hr',e⟩:=hrf.2.2
    exact ⟨r,List.mem_append_left _ hr',e⟩
   ·rcases List.mem_append.mp ht with z | z
    ·exact ⟨(m7 _ _ (hra t z).1).put hlr8,(m7 _ _ (hra t z).2).put hlr8⟩
    ·have:t=(p6,nmS c (bn + ((j + 1:Nat):Int)),p5,zs):=by simpa using z
     rw [this]
     exact ⟨SqT.put (SqT.of Qb) hlr8,SqT.put (b2.seqT (SqT.of Qb)) hlr8⟩
  ·rintro σ H5 ⟨rs,c7,c8,rfl,m5,hd5,hlr5,hrl,hrf,hra⟩
   have hrs3:rs.length≤3:=by lia
   have hlw5:H5 lw=some (.lst (ks.map fun k=>V.ref k.1)):=m5 _ _ hlwd (Ne.symm hlrw) hlw'
   have nd:(rs.map fun t=>t.2.1).Nodup:=by rw [hrf.1];exact Z1 c bn rs.length hbn0 (4:)
   refine ⟨_,rfl,.inl ⟨rfl,_,SqL.of hlw5⟩,_,rfl,_,rfl,c,(i:Int),(by show [V.int c,V.int (0 + (i:Int))]=_;rw [e0]),_,rfl,lr,rs,rfl,SqL.of hlr5,(fun t ht=>⟨(hra t ht).1,(hra t ht).2,fun x hx=>?_⟩),nd,by lia,fun out p hp hs hpn=>⟨(by show 2≤sizeLine;decide),fun p9 hp9=>?_⟩⟩
   ·obtain ⟨y,_,rfl⟩:=List.mem_map.mp ((hrf.2.1 t ht).2.2 x hx)
    exact Ym _ _
   have b1:=Qe hpn (.lst (out.map fun t=>V.ref t.1))
   have b2:=Qe hp9 (.tup [.str (nmS c (i:Int)),.ref p])
   have b12:=b1.trans b2
   have hlw9:=b12 _ _ hlw5
   have hpd:p≠d:=hd5.ne hpn
   have hpw:p≠lw:=fun z=>by rw [z,hlw5] at hpn;cases hpn
   obtain ⟨o1,o2,o3,o4⟩:=GE hrf hbn0 (4:) hrs3 hp
   refine ⟨lw,_,_,rfl,rfl,hlw9,(by rw [List.length_map,QK];lia),?_⟩
   have mT:∀ a xs,SqT K H' a xs→SqT K H5 a xs:=fun a xs h=>by
    rcases h with (h | ⟨ob,h⟩) | h
    ·obtain ⟨xs',e'⟩:=hdk
     refine .inl (.inl (m5 _ _ (Q4 h e' (by intro z;cases z)) (fun z=>?_) h))
     have:=m4 _ _ (Q4 h e' (by intro z;cases z)) h
     rw [z,g4 _ _ hlrd hlr2] at this;cases this
    ·obtain ⟨xs',e'⟩:=hdk
     refine .inl (.inr ⟨ob,m5 _ _ (Q4 h e' (by intro z;cases z)) (fun z=>?_) h⟩)
     have:=m4 _ _ (Q4 h e' (by intro z;cases z)) h
     rw [z,g4 _ _ hlrd hlr2] at this;cases this
    ·exact .inr h
   refine ⟨ks ++ [(p9,nmS c (i:Int),p,out)],_,_,_,_,rfl,fun b u hb e=>?_,?_,by rw [Qb];simp,by simp [hkl],?_,fun k hk=>?_⟩
   ·have hbl:b≠lw:=Qh e hlwH
    rw [Qg hbl]
    have e':=g b u hb e
    have hblr:b≠lr:=fun z=>by
     have:=a012 _ _ e'
     have h3:=m4 b u hb e'
     rw [z] at e'
     have:H' lr=none:=by
      cases ee:H' lr with
      | none=>rfl
      | some uu=>have:=(a0.trans a1) _ _ ee;rw [hlr] at this;cases this
     rw [this] at e';cases e'
    exact b12 _ _ (m5 b u hb hblr e')
   ·exact (hd5.same b12).upd hlwd
   ·rw [List.map_append,hkn,List.range_succ,List.map_append];rfl
   ·rcases List.mem_append.mp hk with z | z
    ·obtain ⟨k1,k2,k3,k4,k5,k6,k7,k8,k9⟩:=hkk k z
     have hklr:k.2.2.1≠lr:=fun zz=>by
      have:H' lr=none:=by
       cases ee:H' lr with
       | none=>rfl
       | some uu=>have:=(a0.trans a1) _ _ ee;rw [hlr] at this;cases this
      rw [zz,this] at k2;cases k2
     refine ⟨(b12.seqT (mT _ _ k1)).put hlw9,by rw [Qg k5];exact b12 _ _ (m5 _ _ k4 hklr k2),fun t ht=>⟨(b12.seqT (mT _ _ (k3 t ht).1)).put hlw9,(b12.seqT (mT _ _ (k3 t ht).2)).put hlw9⟩,k4,k5,k6,k7,k8,k9⟩
    ·have:k=(p9,nmS c (i:Int),p,out):=by simpa using z
     rw [this]
     refine ⟨SqT.put ?_ hlw9,by rw [Qg hpw];exact b2 _ _ Qb,fun t ht=>?_,hpd,hpw,o1,o2,o3,o4⟩
     ·exact SqT.of Qb
     ·have htr:=hra t (hp.mem_iff.mp ht)
      exact ⟨(b12.seqT htr.1).put hlw9,(b12.seqT htr.2).put hlw9⟩
 ·rintro σ H' ⟨ks,c5,c6,c7,c8,rfl,g,hdk,hlw',hkl,hkn,hkk⟩
  have hkl':ks.length=n:=by lia
  refine ⟨_,rfl,q lw H' ks g hdk ⟨⟨SqL.of hlw',fun k hk=>⟨(hkk k hk).1,SqL.of (hkk k hk).2.1,(hkk k hk).2.2.1⟩⟩,hlwd,fun k hk=>(hkk k hk).2.2.2.1⟩ ⟨⟨?_,by lia,fun k hk=>(hkk k hk).2.2.2.2.2.1⟩,by lia,by lia,fun k hk=>?_,fun k hk=>(hkk k hk).2.2.2.2.2.2.1,fun k hk=>(hkk k hk).2.2.2.2.2.2.2.1,fun k hk r hr' x hx=>?_⟩⟩
  ·rw [hkn]
   have:=Z1 c 0 n (4:) (4:)
   have e:(((n:Nat):Int)).toNat=n:=by lia
   rw [e]
   simpa using this
  ·have hm:k.2.1 ∈ ks.map fun k=>k.2.1:=List.mem_map.mpr ⟨k,hk,rfl⟩
   rw [hkn] at hm
   obtain ⟨j,_,e⟩:=List.mem_map.mp hm
   rw [← e];exact Ym _ _
  ·have:=((hkk k hk).2.2.2.2.2.2.2.2 r hr').2.2 x hx
   rw [hkn]
   have e:(((n:Nat):Int)).toNat=n:=by lia
   rw [e];exact this
end
end K71
namespace ST
open PySem TM TT
mutual
def TDr (cs:List (Int × Int)):Tm→Prop
 | .node (.call m b) _ _=>(m,b) ∈ cs
 | .node (.put n _ _) _ bs=>PyData.strOk n=true∧bs.length≤3∧TDrs cs bs
def TDrs (cs:List (Int × Int)):List Tm→Prop
 | []=>True
 | b :: r=>TDr cs b∧TDrs cs r
end
theorem Zx (cs:List (Int × Int)) (bs:List Tm):TDrs cs bs ↔ ∀ b ∈ bs,TDr cs b:=by
 induction bs with
 | nil=>simp [TDrs]
 | cons u r ih=>simp only [TDrs,ih,List.mem_cons,forall_eq_or_imp]
mutual
theorem TDr.mono {cs ds:List (Int × Int)} (h:∀ c ∈ cs,c ∈ ds):∀ {t:Tm},TDr cs t→TDr ds t
 | .node (.call m b) _ _,z=>by simp only [TDr] at z ⊢;exact h _ z
 | .node (.put n _ _) _ bs,z=>by simp only [TDr] at z ⊢;exact ⟨z.1,z.2.1,TDrs.mono h z.2.2⟩
theorem TDrs.mono {cs ds:List (Int × Int)} (h:∀ c ∈ cs,c ∈ ds):∀ {bs:List Tm},TDrs cs bs→TDrs ds bs
 | [],_=>by simp only [TDrs]
 | b :: r,z=>by simp only [TDrs] at z ⊢;exact ⟨TDr.mono h z.1,TDrs.mono h z.2⟩
end
mutual
theorem TDr.mok {cs:List (Int × Int)}:∀ {t:Tm},TDr cs t→L2.MOk (2 * lv t) t
 | .node (.call m b) mk bs,_=>(L2.leaf_ok m b mk bs).mono (by simp only [lv];lia)
 | .node (.put n k a) mk bs,z=>by
  simp only [TDr] at z
  exact (L2.put_ok (d:=2 * lvs bs) z.1 (TDrs.mok z.2.2)).mono (by simp only [lv];lia)
theorem TDrs.mok {cs:List (Int × Int)}:∀ {bs:List Tm},TDrs cs bs→∀ t ∈ bs,L2.MOk (2 * lvs bs) t
 | [],_,t,h=>(nomatch h)
 | b :: r,z,t,h=>by
  simp only [TDrs] at z
  have i1:=TDr.mok z.1
  have i2:=TDrs.mok z.2
  simp only [lvs]
  rcases List.mem_cons.mp h with e | h
  ·rw [e];exact i1.mono (4:)
  ·exact (i2 t h).mono (4:)
end
theorem Ug {α:Type} {bs:List (Tree α)} {n:Nat} (h:∀ b ∈ bs,lv b≤n):lvs bs≤n:=by
 induction bs with
 | nil=>simp [lvs]
 | cons u r ih =>
  simp only [lvs]
  have h1:=h u List.mem_cons_self
  have h2:=ih fun b hb=>h b (List.mem_cons_of_mem _ hb)
  lia
end ST
namespace L2
open PySem PyProof.Rows TM TT ST
abbrev Cs:=List (Addr × Int × Int)
def CsAt (K:PySem.W.Frag) (H:Hp) (l:Addr) (cs:Cs):Prop:=SqL K H l (cs.map fun t=>V.ref t.1)∧∀ t ∈ cs,SqT K H t.1 [.int t.2.1,.int t.2.2]
def Cs.pr (cs:Cs):List (Int × Int):=cs.map fun t=>t.2
theorem CsAt.sameD {K:PySem.W.Frag} {H H':Hp} {d l:Addr} {cs:Cs} (g:SameD d H H') (hd:Dk H d) (hl:l≠d) (h:CsAt K H l cs):CsAt K H' l cs:=⟨g.seqL hl h.1,fun t ht=>g.seqT hd (h.2 t ht)⟩
theorem CsAt.same {K:PySem.W.Frag} {H H':Hp} {l:Addr} {cs:Cs} (g:Same H H') (h:CsAt K H l cs):CsAt K H' l cs:=⟨g.seq h.1,fun t ht=>g.seqT (h.2 t ht)⟩
def csd (cs:Cs):PyData:=.list (cs.map fun t=>PyData.tuple [.int t.2.1,.int t.2.2])
theorem CsAt.rdA {K:PySem.W.Frag} {H:Hp}:∀ {cs:Cs},(∀ t ∈ cs,SqT K H t.1 [.int t.2.1,.int t.2.2])→RdAll K H (cs.map fun t=>V.ref t.1) (cs.map fun t=>PyData.tuple [.int t.2.1,.int t.2.2])
 | [],_=>.nil
 | t :: r,h=>.cons (.tup (h t List.mem_cons_self) (.cons (.int _) (.cons (.int _) .nil))) (CsAt.rdA fun u hu=>h u (List.mem_cons_of_mem _ hu))
theorem CsAt.rd {K:PySem.W.Frag} {H:Hp} {l:Addr} {cs:Cs} (h:CsAt K H l cs):RdV K H (.ref l) (csd cs):=.lst h.1 (CsAt.rdA h.2)
theorem WV:∀ cs:Cs,(csd cs).canLay0=true:=fun cs=>by
 unfold csd
 simp only [PyData.canLay0]
 induction cs with
 | nil=>simp [PyData.canLayAll0]
 | cons t r ih=>simp only [List.map_cons,PyData.canLayAll0,PyData.canLay0,ih,Bool.and_self]
theorem Wz (cs:Cs):PyData.eqv (csd cs) (.list [])=cs.isEmpty:=by
 unfold csd
 cases cs <;> simp [PyData.eqv,PyData.eqvAll]
theorem SameD.new {d a:Addr} {H:Hp} {o:HO} (h:H a=none):SameD d H (L2.upd H a o):=SameD.of (Qe h o)
theorem Uh {α:Type} {xs:List α} {r:Int} {v:α} (h0:0≤r) (h:xs[r.toNat]?=some v):atI xs r=some v:=by
 obtain ⟨n,rfl⟩:=Int.eq_ofNat_of_zero_le h0
 exact QI (by simpa using h)
theorem NC {X:Cx} {r1 r2:R2} (h1:IxR X r1) (h2:IxR X r2):IxR X (fun x y H Q=>r1 x y H Q∨r2 x y H Q):=by
 intro value slice pins s σ H x y v u Q I rx ry h hs
 rcases h with h | h
 ·exact h1 value slice pins s σ H x y v u Q I rx ry h hs
 ·exact h2 value slice pins s σ H x y v u Q I rx ry h hs
abbrev ON (K:PySem.W.Frag):R2:=fun x y H Q=>Oi K x y H Q∨Gk K x y H Q
end L2
namespace K71
open PySem L2 TM TT ST K9 K11
abbrev Gd:Stmt:=top 20
abbrev Xf:Stmt:=top 21
abbrev Li:Stmt:=top 22
def Yi (K:PySem.W.Frag):Sp:=fun vs H Q _=>∃ (wd:Addr) (ks:List KdT) (kd:KdT),vs=[.ref wd,.str kd.2.1]∧WoodAt K H wd ks∧(ks.map fun k=>k.2.1).Nodup∧ks.length≤10∧kd ∈ ks∧∀ H',Same H H'→Q (.ref kd.2.2.1) H'
def Z6 (K:PySem.W.Frag) (n:Nat):Sp:=fun vs H Q _=>∃ (d:Addr) (c:Int) (lc:Addr) (cs:Cs) (dp:Int),vs=[.ref d,.int c,.ref lc,.int dp]∧Dk H d∧CsAt K H lc cs∧lc≠d∧dp.toNat < n ∧
 ∀ (v:V) (H':Hp) (t:Tm),SameD d H H'→Dk H' d→TmV K H' v t→TDr cs.pr t→lv t≤dp.toNat + 1→Q v H'
def YW (K:PySem.W.Frag) (n:Nat):Sp:=fun vs H Q _=>∃ (d:Addr) (c:Int) (lc:Addr) (cs:Cs) (v:V) (t:Tm),vs=[.ref d,.int c,v,.ref lc]∧Dk H d∧CsAt K H lc cs∧lc≠d∧TmV K H v t∧TDr [] t∧lv t≤n ∧
 ∀ (v':V) (H':Hp) (t':Tm),SameD d H H'→Dk H' d→TmV K H' v' t'→TDr cs.pr t'→lv t'≤lv t→Q v' H'
theorem Jv {ks:List KdT} {kd:KdT} (hn:(ks.map fun k=>k.2.1).Nodup) (hk:kd ∈ ks):ks.find? (fun k=>decide (k.2.1=kd.2.1))=some kd:=by
 induction ks with
 | nil=>cases hk
 | cons u r ih =>
  rw [List.map_cons,List.nodup_cons] at hn
  rcases List.mem_cons.mp hk with e | h
  ·rw [List.find?_cons,e];simp
  ·have hne:u.2.1≠kd.2.1:=fun z=>hn.1 (by rw [z];exact List.mem_map.mpr ⟨kd,h,rfl⟩)
   rw [List.find?_cons,decide_eq_false hne]
   exact ih hn.2 h
section
variable {P:Program} {w:World} {K:PySem.W.Frag} {mg:Str→Option Value} {base:Heap} {f:Addr} {fd:FuncData}
theorem Nb:FnScope ["_law_wood_here", "_law_kind"] ["_law_wood_here", "_law_kind"] (defScope Gd):=(1:)
theorem Mo (F:Fun K "_law_rows" "_law_rows" Gd f fd):FnOk P w K mg base CX0 1 f fd ["_law_wood_here", "_law_kind"] (Yi K):=by
 refine F.ok Nb (9:) (3:)
 ·obtain ⟨wd,ks,kd,rfl,_⟩:=h
  rfl
 obtain ⟨wd,ks,kd,rfl,hw,hn,hl,hk,q⟩:=h
 refine ⟨_,(Qi (Ql (Qk QF (Qy (CompG.many (xs:=["_law_told_here", "_law_rows_here"]) (caps:=["_law_kind"]) (cap:=[1]) (cs:=[_]) rfl rfl (0:) (0:) (0:) (0:) (0:) (0:) rfl rfl rfl) rfl (QH (pv 0)) (UG (CompG.many (xs:=["_law_told_here", "_law_rows_here"]) (caps:=["_law_kind"]) (cap:=[1]) (cs:=[_]) rfl rfl (0:) (0:) (0:) (0:) (0:) (0:) rfl rfl rfl) rfl) (fun _ _ _ _=>ZF (Qr Zd (pv 0) (pv 2) (Qu _))) (fun _ _ _ _=>pv 1)) Qd (5:)))),?_⟩
 refine ⟨_,rfl,wd,rfl,⟨_,hw.1⟩,fun acc hacc=>?_⟩
 refine Y9 (K:=K) (xs:=ks.map fun k=>V.ref k.1) (cs:=[some (.str kd.2.1)]) (te:=Zu 1) (fun i ys H'=>ys=((ks.take i).filter fun k=>decide (k.2.1=kd.2.1)).map (fun k=>V.ref k.2.2.1)∧H' acc=some (.lst ys)∧Same H H')
  ⟨rfl,Qb,Qe hacc _⟩ ?_ ?_ ?_
 ·rintro i ys H' _ ⟨_,_,g⟩
  exact g.seq hw.1
 ·rintro i x ys H' hi hx ⟨rfl,hya,g⟩
  have hik:i < ks.length:=by simpa using hi
  obtain rfl:x=.ref ks[i].1:=by
   rw [List.getElem?_map,List.getElem?_eq_getElem hik] at hx
   exact (Option.some.inj hx).symm
  refine ⟨ks[i].1,_,_,rfl,g.seqT (hw.2 _ (List.getElem_mem hik)).1,_,rfl,_,rfl,rfl,_,rfl,?_⟩
  have elen:(((ks.take i).filter fun k=>decide (k.2.1=kd.2.1)).map (fun k=>V.ref k.2.2.1)).length < 5000:=by
   rw [List.length_map]
   exact Nat.lt_of_le_of_lt (List.length_filter_le _ _) (by rw [List.length_take];lia)
  by_cases hc:ks[i].2.1=kd.2.1
  ·have e:decide (V.str ks[i].2.1=V.str kd.2.1)=true:=decide_eq_true (by rw [hc])
   rw [e]
   refine Zn ⟨_,rfl,Qx hi hya elen ⟨?_,Qb,fun x u e=>by rw [Qg (Qh e hacc)];exact g _ _ e⟩⟩
   rw [List.take_add_one,List.getElem?_eq_getElem hik,List.filter_append,List.map_append]
   simp [hc]
  ·have e:decide (V.str ks[i].2.1=V.str kd.2.1)=false:=decide_eq_false fun z=>hc (V.str.inj z)
   rw [e]
   refine Zb (Zr hi (ys:=((ks.take i).filter fun k=>decide (k.2.1=kd.2.1)).map (fun k=>V.ref k.2.2.1)) ⟨?_,hya,g⟩)
   rw [List.take_add_one,List.getElem?_eq_getElem hik,List.filter_append]
   simp [hc]
 rintro ys H1 ⟨rfl,hya,g⟩
 rw [List.length_map,List.take_length] at hya
 refine ⟨acc,_,0,.ref kd.2.2.1,rfl,rfl,SqL.of hya,QI (j:=0) ?_,q H1 g⟩
 rw [List.getElem?_map,← List.head?_eq_getElem?,List.head?_filter,Jv hn hk]
 rfl
theorem YN:FnScope ["_law_deck", "_law_code", "_law_calls_here", "_law_deep", "_law_pick", "_law_parts", "_law_count", "_law_k", "_law_name_here"] ["_law_deck", "_law_code", "_law_calls_here", "_law_deep"] (defScope Xf):=(1:)
theorem LP {n:Nat} (F:Fun K "_law_term" "_law_term" Xf f fd) (G:Gm mg) (RD:Fn P w K mg base 1 "_law_draw" ["_law_deck", "_law_most"] Q9) (RM:Fn P w K mg base 2 "_law_mark" ["_law_deck"] Z0) (RN:Fn P w K mg base 1 "_law_name" ["_law_code", "_law_k"] Yp)
 (R:Fn P w K mg base (n + 2) "_law_term" ["_law_deck", "_law_code", "_law_calls_here", "_law_deep"] (Z6 K n)):FnOk P w K mg base CX0 (n + 3) f fd ["_law_deck", "_law_code", "_law_calls_here", "_law_deep"] (Z6 K (n + 1)):=by
 refine F.ok YN (9:) (3:)
 ·obtain ⟨d,c,lc,cs,dp,rfl,_⟩:=h
  rfl
 obtain ⟨d,c,lc,cs,dp,rfl,hd,hcs,hlc,hdp,q⟩:=h
 refine ⟨_,(Qf (Qq (i:=4) YN.nd rfl (Or.inl rfl) (Qp RD hr (Qa (pv 0) (Qa (Qd) Qc)) (4:)))
  (Qf (QG (La (PW.pt (pw_and (Qr V1 (pv 4) Qd (Qu _)) (pw_and1 (Qr Ws (pv 2) (Zc Qc) (Qu _)))))) (Qi (Ql (Qm JE (QE (Qa (Zy) Qc)) (Qk QF (pv 2) (Qp RD hr (Qa (pv 0) (Qa (Qo Qn rfl G.len PySem.boot_len (Qa (pv 2) Qc)) Qc)) (4:)) (5:))))) Qs)
  (Qf (Qq (i:=5) YN.nd rfl (Or.inl rfl) (Zc Qc))
  (Qf (Uo (QG (Qr V1 (pv 3) Qd (Qu _)) (Qf (Qq (i:=6) YN.nd rfl (Or.inl rfl) (Qp RD hr (Qa (pv 0) (Qa (Qd) Qc)) (4:)))
  (Qi (QR PassesOwn.never rfl (QD rfl G.rng (Qa (pv 6) Qc)) (Qw (i:=7) YN.nd rfl (Or.inl rfl)) (Qi (Zq (Yz PySem.F.plainAttrs_list PySem.F.slot_list_append PySem.F.type_list_append QW (pv 5) (Qa (Qp R hr (Qa (pv 0) (Qa (pv 1) (Qa (pv 2) (Qa (Qm YL (Qm YL (pv 3) Qd) (Qm Zj (pv 6) Qd)) Qc)))) (7:)) Qc))))))) Qs))
  (Qf (Qq (i:=8) YN.nd rfl (Or.inl rfl) (Qp RN hr (Qa (pv 1) (Qa (Qm QZ Qd (Qp RD hr (Qa (pv 0) (Qa (Qd) Qc)) (4:))) Qc)) (4:)))
  (Qi (Ql (QE (Qa (Zy) (Qa (pv 8) (Qa (Zz Zd (pv 4) Qd (Qu _)) (Qa (Qp RM hr (Qa (pv 0) Qc) (Nat.le_add_left 2 n)) (Qa (QJ QO rfl G.tup PyProof.Rows.boot_tuple (Qa (pv 5) Qc)) Qc))))))))))))),?_⟩
 refine ⟨_,rfl,d,_,rfl,hd,(by decide),fun r0 H1 g1 hd1 r00 r01=>?_⟩
 have hcs1:=hcs.sameD g1 hd hlc
 refine ⟨fun b H'=>SameD d H H'∧Dk H' d∧CsAt K H' lc cs∧(b=true→cs≠[]),?_,?_⟩
 ·refine ⟨_,rfl,_,_,rfl,rfl,_,rfl,Y1 (fun _=>?_) (fun _=>?_)⟩
  ·refine ⟨_,rfl,(by show 0≤sizeLine;decide),fun p hp=>?_⟩
   have ge:=Qe hp (.lst [])
   refine ⟨csd cs,.list [],(hcs1.same ge).rd,.lst (SqL.of Qb) .nil,WV cs,by decide,hr.fit (Nat.le_trans (Nat.min_le_right _ _) (by simp [PyData.depth,PyData.depthAll])),_,rfl,?_⟩
   rw [if_pos rfl,Wz]
   refine ⟨g1.trans (SameD.of ge),hd1.same ge,hcs1.same ge,fun hb z=>?_⟩
   rw [z] at hb;simp at hb
  ·exact ⟨g1,hd1,hcs1,fun z=>by cases z⟩
 rintro b H2 ⟨g2,hd2,hcs2,hne⟩
 refine NL (fun hb=>?_) (fun _=>?_)
 ·have hne':=hne hb
  have hlen:0 < cs.length:=List.length_pos_iff.mpr hne'
  refine ⟨(by show 1≤sizeLine;decide),fun p hp=>⟨_,rfl,_,rfl,_,rfl,lc,_,rfl,.inl ((hcs2.same (Qe hp _)).1),d,_,rfl,hd2.same (Qe hp _),(by rw [List.length_map];show (0:Int) < ((cs.length:Nat):Int);lia),fun r H3 g3 hd3 r30 r31=>?_⟩⟩
  have ga:=Qe hp (.tup [.str Ye])
  have hcs3:=(hcs2.same ga).sameD g3 (hd2.same ga) hlc
  rw [List.length_map] at r31
  obtain ⟨x,hx⟩ : ∃ x,cs[r.toNat]?=some x:=⟨_,List.getElem?_eq_getElem (4:)⟩
  have hxm:=List.mem_of_getElem? hx
  refine ⟨lc,_,_,.ref x.1,rfl,rfl,hcs3.1,Uh r30 (by rw [List.getElem?_map,hx];rfl),?_⟩
  have hct:=hcs3.2 _ hxm
  refine ⟨p,x.1,[.str Ye],[.int x.2.1,.int x.2.2],rfl,rfl,g3.seqT (hd2.same ga) (SqT.of Qb),hct,(by show 3≤sizeLine;decide),fun p4 H4 g4 hp4=>?_⟩
  refine q (.ref p4) H4 (.node (.call x.2.1 x.2.2) 0 []) (g2.trans ((SameD.of ga).trans (g3.trans (SameD.of g4)))) (hd3.same g4) (.call hp4) ?_ (by simp only [lv,lvs];lia)
  simp only [TDr]
  exact List.mem_map.mpr ⟨x,hxm,rfl⟩
 refine ⟨(by show 0≤sizeLine;decide),fun lp hlp=>?_⟩
 have hlpd:=hd2.ne hlp
 refine ⟨fun σ' H'=>∃ (us:List V) (ts:List Tm) (c6 c7:Option V),σ'=[some (.ref d),some (.int c),some (.ref lc),some (.int dp),some (.int r0),some (.ref lp),c6,c7,none]∧SameD d H2 H'∧Dk H' d∧H' lp=some (.lst us)∧TmAll K H' us ts∧ts.length≤3∧∀ t ∈ ts,TDr cs.pr t∧lv t≤dp.toNat,?_,?_⟩
 ·refine ⟨_,rfl,_,_,rfl,rfl,_,rfl,Y1 (fun hc=>?_) (fun _=>?_)⟩
  ·have hc':dp > 0:=of_decide_eq_true hc
   refine ⟨_,rfl,d,_,rfl,hd2.upd hlpd,(by decide),fun cn H3 g3 hd3 cn0 cn1=>⟨_,rfl,_,rfl,(by show -(2 ^ 62:Int)≤cn;lia),(by show cn < 2 ^ 62;lia),?_⟩⟩
   have hlp3:H3 lp=some (.lst []):=g3 _ _ hlpd Qb
   refine Q6 (lo:=0) (n:=cn.toNat) (fun i σ H'=>∃ (us:List V) (ts:List Tm) (c7:Option V),σ=[some (.ref d),some (.int c),some (.ref lc),some (.int dp),some (.int r0),some (.ref lp),some (.int cn),c7,none]∧SameD d H2 H'∧Dk H' d∧H' lp=some (.lst us)∧TmAll K H' us ts∧ts.length=i∧∀ t ∈ ts,TDr cs.pr t∧lv t≤dp.toNat)
    ⟨[],[],none,rfl,(SameD.new hlp).trans g3,hd3,hlp3,.nil,rfl,fun t ht=>(nomatch ht)⟩ ?_ ?_
   ·rintro i σ H' hi ⟨us,ts,c7,rfl,g,hdk,hlp',hts,htl,hok⟩
    have hlen:=hts.length
    have e3:0≤cn / 3:=Int.ediv_nonneg cn0 (by decide)
    refine ⟨_,rfl,.inl ⟨rfl,_,SqL.of hlp'⟩,_,rfl,_,rfl,_,rfl,_,rfl,_,_,rfl,rfl,_,rfl,_,_,rfl,rfl,⟨by decide,by decide⟩,_,_,rfl,rfl,d,c,lc,cs,dp - 1 - cn / 3,rfl,hdk,hcs2.sameD g hd2 hlc,hlc,by lia,fun v H4 t g4 hd4 hv ht hl=>?_⟩
    have hlp4:=g4 _ _ hlpd hlp'
    refine ⟨lp,us,_,rfl,rfl,hlp4,(by rw [QK];lia),?_⟩
    refine ⟨us ++ [v],ts ++ [t],_,rfl,(g.trans g4).put hlp,hd4.upd hlpd,Qb,?_,by simp [htl],fun u hu=>?_⟩
    ·exact TmAll.append (hts.mono fun _ _ h=>(g4.seqT hdk h).put hlp4) (.cons (hv.mono fun _ _ h=>h.put hlp4) .nil)
    ·rcases List.mem_append.mp hu with z | z
     ·exact hok u z
     ·have:u=t:=by simpa using z
      rw [this];exact ⟨ht,by lia⟩
   ·rintro σ H' ⟨us,ts,c7,rfl,g,hdk,hlp',hts,htl,hok⟩
    exact ⟨us,ts,_,_,rfl,g,hdk,hlp',hts,by lia,hok⟩
  ·exact ⟨[],[],none,none,rfl,SameD.new hlp,hd2.upd hlpd,Qb,.nil,by simp,fun t ht=>(nomatch ht)⟩
 rintro σ' H3 ⟨us,ts,c6,c7,rfl,g3,hd3,hlp3,hts,htl,hok⟩
 have hlen:=hts.length
 refine ⟨_,rfl,_,rfl,d,_,rfl,hd3,(by decide),fun r1 H4 g4 hd4 r10 r11=>⟨_,_,rfl,rfl,c,_,rfl,?_⟩⟩
 refine ⟨_,rfl,_,rfl,rfl,_,rfl,d,rfl,hd4,fun mk H5 g5 hd5=>?_⟩
 have g35:=g4.trans g5
 have hlp5:=g35 _ _ hlpd hlp3
 refine ⟨_,rfl,lp,us,rfl,.inl ⟨SqL.of hlp5,fun pt hpt=>⟨(by show 5≤sizeLine;decide),fun pp hpp=>?_⟩⟩⟩
 have ga:=Qe hpt (.tup us)
 have gb:=Qe hpp (.tup [.str PUT,.str (nmS c (3 + r1)),.bl (decide (V.int r0=V.int 0)),.int mk,.ref pt])
 have gab:=ga.trans gb
 refine q (.ref pp) _ (.node (.put (nmS c (3 + r1)) (decide (V.int r0=V.int 0)) mk) 0 ts) (g2.trans (g3.trans (g35.trans (SameD.of gab)))) (hd5.same gab) (.put (SqT.of Qb) (gb.seqT (SqT.of Qb)) (hts.mono fun _ _ h=>gab.seqT (g35.seqT hd3 h)) (4:)) ?_ ?_
 ·simp only [TDr]
  exact ⟨Ym _ _,htl,(Zx _ ts).mpr fun b hb=>(hok b hb).1⟩
 ·simp only [lv]
  have:=Ug fun b hb=>(hok b hb).2
  lia
theorem VD {k:Nat}:FnOk P w K mg base CX0 k f fd ["_law_deck", "_law_code", "_law_calls_here", "_law_deep"] (Z6 K 0):=by
 have no:∀ vs H Q E,¬ Z6 K 0 vs H Q E:=fun vs H Q E h=>by
  obtain ⟨d,c,lc,cs,dp,_,_,_,_,h0,_⟩:=h
  lia
 exact ⟨fun vs H Q E h=>absurd h (no vs H Q E),fun A outer s H args us vs Q E _ _ _ _ h=>absurd h (no vs H Q E)⟩
theorem Xj (F:Fun K "_law_term" "_law_term" Xf f fd) (G:Gm mg) (RD:Fn P w K mg base 1 "_law_draw" ["_law_deck", "_law_most"] Q9) (RM:Fn P w K mg base 2 "_law_mark" ["_law_deck"] Z0) (RN:Fn P w K mg base 1 "_law_name" ["_law_code", "_law_k"] Yp)
 (hb:Binds K fd ["_law_deck", "_law_code", "_law_calls_here", "_law_deep"] []) (hm:mg "_law_term" = some (.ref f)):∀ n:Nat,FnOk P w K mg base CX0 (n + 2) f fd ["_law_deck", "_law_code", "_law_calls_here", "_law_deep"] (Z6 K n)
 | 0=>VD
 | n + 1=>LP F G RD RM RN ⟨f,fd,Xj F G RD RM RN hb hm n,hb,F.kp,hm⟩
end
end K71
namespace K71
open PySem L2 TM TT ST K9 K11
abbrev Wp:Stmt:=top 23
abbrev GW:Stmt:=top 24
abbrev XE:Stmt:=top 26
def CsF (kn bs:List Str) (cs:Cs):Prop:=∀ t ∈ cs,∃ (k j:Nat) (z:Str),t.2=((k:Int),(j:Int))∧kn[k]?=some z∧bs[j]?=some z
def JP (K:PySem.W.Frag):Sp:=fun vs H Q _=>∃ (lk bv:Addr) (kn bs:List Str),vs=[.ref lk,.ref bv]∧SqL K H lk (kn.map V.str)∧(SqL K H bv (bs.map V.str)∨SqT K H bv (bs.map V.str))∧kn.length≤10∧bs.length≤10 ∧
 ∀ (l:Addr) (H':Hp) (cs:Cs),Same H H'→H l=none→CsAt K H' l cs→CsF kn bs cs→cs.length≤100→Q (.ref l) H'
def X0 (K:PySem.W.Frag):Sp:=fun vs H Q _=>∃ (d:Addr) (c:Int) (lc:Addr) (cs:Cs) (v:V) (t:Tm),vs=[.ref d,.int c,v,.ref lc]∧Dk H d∧CsAt K H lc cs∧lc≠d∧TmV K H v t∧TDr [] t∧lv t≤3 ∧
 ∀ (v':V) (H':Hp) (t':Tm),SameD d H H'→Dk H' d→TmV K H' v' t'→TDr cs.pr t'→lv t'≤3→Q v' H'
def Z2 (K:PySem.W.Frag) (n:Nat):Sp:=fun vs H Q _=>∃ (v:V) (t:Tm) (cs:List (Int × Int)),vs=[v]∧TmV K H v t∧TDr cs t∧lv t≤n∧∀ (v':V) (H':Hp) (t':Tm),Same H H'→TmV K H' v' t'→TDr cs t'→lv t'≤lv t→Q v' H'
theorem tm_op {K:PySem.W.Frag} {H:Hp} {v:V} {t:Tm} (h:TmV K H v t):(∃ a m b,v=.ref a∧t=.node (.call m b) 0 []∧SqT K H a [.str Ye,.int m,.int b]) ∨
 ∃ a b vs n k ad ts,v=.ref a∧t=.node (.put n k ad) 0 ts∧SqT K H a [.str PUT,.str n,.bl k,.int ad,.ref b]∧SqT K H b vs∧TmAll K H vs ts∧vs.length≤1000:=by
 cases h with
 | call h=>exact .inl ⟨_,_,_,rfl,rfl,h⟩
 | put h1 h2 h3 h4=>exact .inr ⟨_,_,_,_,_,_,_,rfl,rfl,h1,h2,h3,h4⟩
section
variable {P:Program} {w:World} {K:PySem.W.Frag} {mg:Str→Option Value} {base:Heap} {f:Addr} {fd:FuncData}
theorem WM:FnScope ["_law_deck", "_law_code", "_law_term_here", "_law_calls_here", "_law_pick", "_law_name_here", "_law_parts"] ["_law_deck", "_law_code", "_law_term_here", "_law_calls_here"] (defScope Li):=(1:)
theorem Nf {n:Nat} (F:Fun K "_law_changed" "_law_changed" Li f fd) (G:Gm mg) (RD:Fn P w K mg base 1 "_law_draw" ["_law_deck", "_law_most"] Q9) (RM:Fn P w K mg base 2 "_law_mark" ["_law_deck"] Z0) (RN:Fn P w K mg base 1 "_law_name" ["_law_code", "_law_k"] Yp)
 (R:Fn P w K mg base (n + 2) "_law_changed" ["_law_deck", "_law_code", "_law_term_here", "_law_calls_here"] (YW K n)):FnOk P w K mg base CX0 (n + 3) f fd ["_law_deck", "_law_code", "_law_term_here", "_law_calls_here"] (YW K (n + 1)):=by
 refine F.ok WM (9:) (3:)
 ·obtain ⟨d,c,lc,cs,v,t,rfl,_⟩:=h
  rfl
 obtain ⟨d,c,lc,cs,v,t,rfl,hd,hcs,hlc,ht,htd,hlv,q⟩:=h
 refine ⟨_,(Qf (Qq (i:=4) WM.nd rfl (Or.inl rfl) (Qp RD hr (Qa (pv 0) (Qa (Qd) Qc)) (4:)))
  (Qf (QG (La (PW.pt (pw_and (Qr Zd (pv 4) Qd (Qu _)) (pw_and1 (Qr Ws (pv 3) (Zc Qc) (Qu _)))))) (Qi (Ql (Qm JE (QE (Qa (Zy) Qc)) (Qk QF (pv 3) (Qp RD hr (Qa (pv 0) (Qa (Qo Qn rfl G.len PySem.boot_len (Qa (pv 3) Qc)) Qc)) (4:)) (5:))))) Qs)
  (Qf (QG (Qr Zd (pv 4) Qd (Qu _)) (Qf (Qq (i:=5) WM.nd rfl (Or.inl rfl) (Qp RN hr (Qa (pv 1) (Qa (Qm QZ Qd (Qp RD hr (Qa (pv 0) (Qa (Qd) Qc)) (4:))) Qc)) (4:)))
  (Qi (Ql (QE (Qa (Zy) (Qa (pv 5) (Qa (Zv) (Qa (Qp RM hr (Qa (pv 0) Qc) (Nat.le_add_left 2 n)) (Qa (QE Qc) Qc))))))))) Qs)
  (Qf (Q8 (i:=6) (CompG.many (xs:=["_law_part"]) (caps:=["_law_calls_here", "_law_code", "_law_deck"]) (cap:=[3,1,0]) (cs:=[_,_,_]) rfl rfl (0:) (0:) (0:) (0:) (0:) (0:) rfl rfl rfl) rfl (ZI (Qk Qj (pv 2) Qd (5:))) (Q7 (CompG.many (xs:=["_law_part"]) (caps:=["_law_calls_here", "_law_code", "_law_deck"]) (cap:=[3,1,0]) (cs:=[_,_,_]) rfl rfl (0:) (0:) (0:) (0:) (0:) (0:) rfl rfl rfl)) (fun _ _ _ _=>QT) (fun _ _ _ _=>Qp R hr (Qa (pv 3) (Qa (pv 2) (Qa (pv 0) (Qa (pv 1) Qc)))) (7:)) WM.nd rfl rfl)
  (Qi (Ql (QE (Qa (Zy) (Qa (Qk Qj (pv 2) Qd (5:)) (Qa (JV (Qk Qj (pv 2) Qd (5:)) (J4 (Zz Lc (pv 4) Qd (Qu _)))) (Qa (Qk Qj (pv 2) Qd (5:)) (Qa (QJ QO rfl G.tup PyProof.Rows.boot_tuple (Qa (pv 6) Qc)) Qc)))))))))))),?_⟩
 refine ⟨_,rfl,d,_,rfl,hd,(by decide),fun r0 H1 g1 hd1 r00 r01=>?_⟩
 have hcs1:=hcs.sameD g1 hd hlc
 have hl1:1≤lv t:=by rw [Zm];lia
 refine ⟨fun b H'=>SameD d H H'∧Dk H' d∧CsAt K H' lc cs∧(b=true→cs≠[]),?_,?_⟩
 ·refine ⟨_,rfl,rfl,_,rfl,Y1 (fun _=>?_) (fun _=>?_)⟩
  ·refine ⟨_,rfl,(by show 0≤sizeLine;decide),fun p hp=>?_⟩
   have ge:=Qe hp (.lst [])
   refine ⟨csd cs,.list [],(hcs1.same ge).rd,.lst (SqL.of Qb) .nil,WV cs,by decide,hr.fit (Nat.le_trans (Nat.min_le_right _ _) (by simp [PyData.depth,PyData.depthAll])),_,rfl,?_⟩
   rw [if_pos rfl,Wz]
   refine ⟨g1.trans (SameD.of ge),hd1.same ge,hcs1.same ge,fun hb z=>?_⟩
   rw [z] at hb;simp at hb
  ·exact ⟨g1,hd1,hcs1,fun z=>by cases z⟩
 rintro b H2 ⟨g2,hd2,hcs2,hne⟩
 refine NL (fun hb=>?_) (fun _=>?_)
 ·have hne':=hne hb
  have hlen:0 < cs.length:=List.length_pos_iff.mpr hne'
  refine ⟨(by show 1≤sizeLine;decide),fun p hp=>⟨_,rfl,_,rfl,_,rfl,lc,_,rfl,.inl ((hcs2.same (Qe hp _)).1),d,_,rfl,hd2.same (Qe hp _),(by rw [List.length_map];show (0:Int) < ((cs.length:Nat):Int);lia),fun r H3 g3 hd3 r30 r31=>?_⟩⟩
  have ga:=Qe hp (.tup [.str Ye])
  have hcs3:=(hcs2.same ga).sameD g3 (hd2.same ga) hlc
  rw [List.length_map] at r31
  obtain ⟨x,hx⟩ : ∃ x,cs[r.toNat]?=some x:=⟨_,List.getElem?_eq_getElem (4:)⟩
  have hxm:=List.mem_of_getElem? hx
  refine ⟨lc,_,_,.ref x.1,rfl,rfl,hcs3.1,Uh r30 (by rw [List.getElem?_map,hx];rfl),?_⟩
  have hct:=hcs3.2 _ hxm
  refine ⟨p,x.1,[.str Ye],[.int x.2.1,.int x.2.2],rfl,rfl,g3.seqT (hd2.same ga) (SqT.of Qb),hct,(by show 3≤sizeLine;decide),fun p4 H4 g4 hp4=>?_⟩
  refine q (.ref p4) H4 (.node (.call x.2.1 x.2.2) 0 []) (g2.trans ((SameD.of ga).trans (g3.trans (SameD.of g4)))) (hd3.same g4) (.call hp4) ?_ (by simp only [lv,lvs];lia)
  simp only [TDr]
  exact List.mem_map.mpr ⟨x,hxm,rfl⟩
 refine ⟨_,rfl,rfl,_,rfl,Y1 (fun _=>?_) (fun _=>?_)⟩
 ·refine ⟨_,rfl,_,rfl,d,_,rfl,hd2,(by decide),fun r1 H4 g4 hd4 r10 r11=>⟨_,_,rfl,rfl,c,_,rfl,?_⟩⟩
  refine ⟨_,rfl,_,rfl,d,rfl,hd4,fun mk H5 g5 hd5=>⟨(by show 0≤sizeLine;decide),fun pt hpt=>⟨(by show 5≤sizeLine;decide),fun pp hpp=>?_⟩⟩⟩
  have ga:=Qe hpt (.tup [])
  have gb:=Qe hpp (.tup [.str PUT,.str (nmS c (3 + r1)),.bl false,.int mk,.ref pt])
  have gab:=ga.trans gb
  refine q (.ref pp) _ (.node (.put (nmS c (3 + r1)) false mk) 0 []) (g2.trans (g4.trans (g5.trans (SameD.of gab)))) (hd5.same gab) (.put (SqT.of Qb) (gb.seqT (SqT.of Qb)) .nil (by simp)) ?_ (by simp only [lv,lvs];lia)
  simp only [TDr,TDrs]
  exact ⟨Ym _ _,by simp,trivial⟩
 rcases tm_op ht with ⟨a,m,b,rfl,rfl,h1⟩ | ⟨a,b,bs,nm,k,ad,ts,rfl,rfl,h1,h2,h3,h4⟩
 ·simp [TDr] at htd
 have l3:=h3.length
 simp only [TDr] at htd
 simp only [lv] at hlv q
 have h1':=g2.seqT hd h1
 refine ⟨_,rfl,a,_,4,_,rfl,rfl,h1',rfl,b,rfl,⟨_,g2.seqT hd h2⟩,fun acc hacc=>?_⟩
 have had:=hd2.ne hacc
 refine Yo (K:=K) (xs:=bs) (cs:=[some (.ref lc),some (.int c),some (.ref d)]) (tt:=fun _ H Q=>Q true H) (te:=Jn (YW K n) [] E0 (Ze (Zu 3) (Ze (Zu 2) (Ze (Zu 0) (Ze (Zu 1) Y3))))) (fun i ys H'=>∃ us:List Tm,H' acc=some (.lst ys)∧SameD d H2 H'∧Dk H' d∧TmAll K H' ys us∧us.length=i∧∀ u ∈ us,TDr cs.pr u∧lv u≤lvs ts)
  ⟨[],Qb,SameD.new hacc,hd2.upd had,.nil,rfl,fun t ht=>(nomatch ht)⟩ ?_ ?_ ?_
 ·rintro i ys H' _ ⟨us,_,g,_⟩
  exact (g2.trans g).seqT hd h2
 ·rintro i x ys H' hi hx ⟨us,hya,g,hdk,hus,hul,hok⟩
  have hit:i < ts.length:=by lia
  have hlen:=hus.length
  obtain ⟨cv,hcv,hct⟩:=h3.get (List.getElem?_eq_getElem hit)
  obtain rfl:cv=x:=Option.some.inj (hcv.symm.trans hx)
  have hm:=List.getElem_mem hit
  have a1:=YB hm
  refine Zn ⟨_,rfl,_,rfl,_,rfl,_,rfl,d,c,lc,cs,cv,ts[i],rfl,hdk,hcs2.sameD g hd2 hlc,hlc,hct.mono fun _ _=>(g2.trans g).seqT hd,(Zx _ ts).mp htd.2.2 _ hm,by lia,fun v4 H4 t4 g4 hd4 hv4 ht4 hl4=>?_⟩
  have hya4:=g4 _ _ had hya
  refine Qx (ys:=ys) hi hya4 (4:) ⟨us ++ [t4],Qb,(g.trans g4).put hacc,hd4.upd had,?_,by simp [hul],fun u hu=>?_⟩
  ·exact TmAll.append (hus.mono fun _ _ h=>(g4.seqT hdk h).put hya4) (.cons (hv4.mono fun _ _ h=>h.put hya4) .nil)
  ·rcases List.mem_append.mp hu with z | z
   ·exact hok u z
   ·have:u=t4:=by simpa using z
    rw [this];exact ⟨ht4,by lia⟩
 rintro ys H4 ⟨us,hya,g4,hd4,hus,hul,hok⟩
 have hlen:=hus.length
 have h14:=(g2.trans g4).seqT hd h1
 have fin:∀ kb:Bool,∀ pt,H4 pt=none→∀ pp,upd H4 pt (.tup ys) pp=none→Q (.ref pp) (upd (upd H4 pt (.tup ys)) pp (.tup [.str PUT,.str nm,.bl kb,.int ad,.ref pt])):=fun kb pt hpt pp hpp=>by
  have ga:=Qe hpt (.tup ys)
  have gb:=Qe hpp (.tup [.str PUT,.str nm,.bl kb,.int ad,.ref pt])
  have gab:=ga.trans gb
  refine q (.ref pp) _ (.node (.put nm kb ad) 0 us) (g2.trans (g4.trans (SameD.of gab))) (hd4.same gab) (.put (SqT.of Qb) (gb.seqT (SqT.of Qb)) (hus.mono fun _ _=>gab.seqT) (4:)) ?_ ?_
  ·simp only [TDr]
   exact ⟨htd.1,by lia,(Zx _ us).mpr fun b hb=>(hok b hb).1⟩
  ·simp only [lv]
   have:=Ug fun b hb=>(hok b hb).2
   lia
 refine ⟨_,rfl,a,_,1,_,rfl,rfl,h14,rfl,_,rfl,a,_,2,_,rfl,rfl,h14,rfl,_,rfl,?_⟩
 cases k with
 | true =>
  refine Zn ⟨_,rfl,_,_,rfl,rfl,_,rfl,a,_,3,_,rfl,rfl,h14,rfl,_,rfl,acc,ys,rfl,.inl ⟨SqL.of hya,fun pt hpt=>⟨(by show 5≤sizeLine;decide),fun pp hpp=>?_⟩⟩⟩
  exact fin _ pt hpt pp hpp
 | false =>
  refine Zb ⟨_,rfl,a,_,3,_,rfl,rfl,h14,rfl,_,rfl,acc,ys,rfl,.inl ⟨SqL.of hya,fun pt hpt=>⟨(by show 5≤sizeLine;decide),fun pp hpp=>?_⟩⟩⟩
  exact fin _ pt hpt pp hpp
theorem Gg {k:Nat}:FnOk P w K mg base CX0 k f fd ["_law_deck", "_law_code", "_law_term_here", "_law_calls_here"] (YW K 0):=by
 have no:∀ vs H Q E,¬ YW K 0 vs H Q E:=fun vs H Q E h=>by
  obtain ⟨d,c,lc,cs,v,t,_,_,_,_,_,_,h0,_⟩:=h
  rw [Zm] at h0;lia
 exact ⟨fun vs H Q E h=>absurd h (no vs H Q E),fun A outer s H args us vs Q E _ _ _ _ h=>absurd h (no vs H Q E)⟩
theorem WC (F:Fun K "_law_changed" "_law_changed" Li f fd) (G:Gm mg) (RD:Fn P w K mg base 1 "_law_draw" ["_law_deck", "_law_most"] Q9) (RM:Fn P w K mg base 2 "_law_mark" ["_law_deck"] Z0) (RN:Fn P w K mg base 1 "_law_name" ["_law_code", "_law_k"] Yp)
 (hb:Binds K fd ["_law_deck", "_law_code", "_law_term_here", "_law_calls_here"] []) (hm:mg "_law_changed" = some (.ref f)):∀ n:Nat,FnOk P w K mg base CX0 (n + 2) f fd ["_law_deck", "_law_code", "_law_term_here", "_law_calls_here"] (YW K n)
 | 0=>Gg
 | n + 1=>Nf F G RD RM RN ⟨f,fd,WC F G RD RM RN hb hm n,hb,F.kp,hm⟩
theorem Ll:FnScope ["_law_deck", "_law_code", "_law_base", "_law_calls_here", "_law_way"] ["_law_deck", "_law_code", "_law_base", "_law_calls_here"] (defScope GW):=(1:)
theorem LD (F:Fun K "_law_rule" "_law_rule" GW f fd) (RD:Fn P w K mg base 1 "_law_draw" ["_law_deck", "_law_most"] Q9) (RC:Fn P w K mg base 5 "_law_changed" ["_law_deck", "_law_code", "_law_term_here", "_law_calls_here"] (YW K 3)) (RT:Fn P w K mg base 5 "_law_term" ["_law_deck", "_law_code", "_law_calls_here", "_law_deep"] (Z6 K 3)):FnOk P w K mg base CX0 6 f fd ["_law_deck", "_law_code", "_law_base", "_law_calls_here"] (X0 K):=by
 refine F.ok Ll (9:) (3:)
 ·obtain ⟨d,c,lc,cs,v,t,rfl,_⟩:=h
  rfl
 obtain ⟨d,c,lc,cs,v,t,rfl,hd,hcs,hlc,ht,htd,hlv,q⟩:=h
 refine ⟨_,(Qf (Qq (i:=4) Ll.nd rfl (Or.inl rfl) (Qp RD hr (Qa (pv 0) (Qa (Qd) Qc))))
  (Qf (QG (Qr Zd (pv 4) Qd (Qu _)) (Qi (Ql (pv 2))) Qs)
  (Qf (QG (Qr Zd (pv 4) Qd (Qu _)) (Qi (Ql (Qp RC hr (Qa (pv 0) (Qa (pv 1) (Qa (pv 2) (Qa (pv 3) Qc))))))) Qs)
  (Qi (Ql (Qp RT hr (Qa (pv 0) (Qa (pv 1) (Qa (pv 3) (Qa (Qd) Qc)))))))))),?_⟩
 refine ⟨_,rfl,d,_,rfl,hd,(by decide),fun r0 H1 g1 hd1 r00 r01=>?_⟩
 have hcs1:=hcs.sameD g1 hd hlc
 have ht1:TmV K H1 v t:=ht.mono fun _ _=>g1.seqT hd
 refine ⟨_,rfl,rfl,_,rfl,Y1 (fun _=>?_) (fun _=>?_)⟩
 ·exact ⟨_,rfl,q v H1 t g1 hd1 ht1 (htd.mono (cs:=[]) fun c hc=>by cases hc) hlv⟩
 refine ⟨_,rfl,rfl,_,rfl,Y1 (fun _=>?_) (fun _=>?_)⟩
 ·refine ⟨_,rfl,_,rfl,_,rfl,_,rfl,d,c,lc,cs,v,t,rfl,hd1,hcs1,hlc,ht1,htd,hlv,fun v' H2 t' g2 hd2 hv' ht' hl'=>?_⟩
  exact q v' H2 t' (g1.trans g2) hd2 hv' ht' (4:)
 ·refine ⟨_,rfl,_,rfl,_,rfl,d,c,lc,cs,2,rfl,hd1,hcs1,hlc,by decide,fun v' H2 t' g2 hd2 hv' ht' hl'=>?_⟩
  exact q v' H2 t' (g1.trans g2) hd2 hv' ht' hl'
theorem Nn:FnScope ["_law_term_here"] ["_law_term_here"] (defScope XE):=(1:)
theorem Lv {n:Nat} (F:Fun K "_law_bare" "_law_bare" XE f fd) (G:Gm mg) (R:Fn P w K mg base n "_law_bare" ["_law_term_here"] (Z2 K n)):FnOk P w K mg base CX0 (n + 1) f fd ["_law_term_here"] (Z2 K (n + 1)):=by
 refine F.ok Nn (9:) (3:)
 ·obtain ⟨v,t,cs,rfl,_⟩:=h
  rfl
 obtain ⟨v,t,cs,rfl,ht,htd,hlv,q⟩:=h
 refine ⟨_,(Qf (QG (Qr Zd (Qk Qj (pv 0) Qd (5:)) Zy (Qu _)) (Qi (Ql (pv 0))) Qs)
  (Qi (Ql (QE (Qa (Zy) (Qa (Qk Qj (pv 0) Qd (5:)) (Qa (Zv) (Qa (Qk Qj (pv 0) Qd (5:)) (Qa (QJ QO rfl G.tup PyProof.Rows.boot_tuple (Qa (Qy (CompG.many (xs:=["_law_part"]) (caps:=[]) (cap:=[]) (cs:=[]) rfl rfl (0:) (0:) (0:) (0:) (0:) (0:) rfl rfl rfl) rfl (ZI (Qk Qj (pv 0) Qd (5:))) (Q7 (CompG.many (xs:=["_law_part"]) (caps:=[]) (cap:=[]) (cs:=[]) rfl rfl (0:) (0:) (0:) (0:) (0:) (0:) rfl rfl rfl)) (fun _ _ _ _=>QT) (fun _ _ _ _=>Qp R hr (Qa (pv 0) Qc) (7:))) Qc)) Qc))))))))),?_⟩
 have ePC:¬ V.str PUT=V.str Ye:=by decide +kernel
 rcases tm_op ht with ⟨a,m,b,rfl,rfl,h1⟩ | ⟨a,b,bs,nm,k,ad,ts,rfl,rfl,h1,h2,h3,h4⟩
 ·exact ⟨_,rfl,a,_,0,_,rfl,rfl,h1,rfl,rfl,_,rfl,NH rfl ⟨_,rfl,q _ H _ (Same.refl _) ht htd (7:)⟩⟩
 refine ⟨_,rfl,a,_,0,_,rfl,rfl,h1,rfl,rfl,_,rfl,Gs ePC ?_⟩
 have l3:=h3.length
 simp only [TDr] at htd
 simp only [lv] at hlv q
 refine ⟨_,rfl,a,_,1,_,rfl,rfl,h1,rfl,_,rfl,a,_,3,_,rfl,rfl,h1,rfl,_,rfl,a,_,4,_,rfl,rfl,h1,rfl,b,rfl,⟨_,h2⟩,fun acc hacc=>?_⟩
 refine Yo (K:=K) (xs:=bs) (cs:=[]) (tt:=fun _ H Q=>Q true H) (te:=Jn (Z2 K n) [] E0 (Ze (Zu 0) Y3)) (fun i ys H'=>∃ us:List Tm,H' acc=some (.lst ys)∧Same H H'∧TmAll K H' ys us∧us.length=i∧∀ u ∈ us,TDr cs u∧lv u≤lvs ts)
  ⟨[],Qb,Qe hacc _,.nil,rfl,fun t ht=>(nomatch ht)⟩ ?_ ?_ ?_
 ·rintro i ys H' _ ⟨us,_,g,_⟩
  exact g.seqT h2
 ·rintro i x ys H' hi hx ⟨us,hya,g,hus,hul,hok⟩
  have hit:i < ts.length:=by lia
  have hlen:=hus.length
  obtain ⟨cv,hcv,hct⟩:=h3.get (List.getElem?_eq_getElem hit)
  obtain rfl:cv=x:=Option.some.inj (hcv.symm.trans hx)
  have hm:=List.getElem_mem hit
  have a1:=YB hm
  refine Zn ⟨_,rfl,cv,ts[i],cs,rfl,hct.mono fun _ _=>g.seqT,(Zx _ ts).mp htd.2.2 _ hm,by lia,fun v4 H4 t4 g4 hv4 ht4 hl4=>?_⟩
  have hya4:=g4 _ _ hya
  refine Qx (ys:=ys) hi hya4 (4:) ⟨us ++ [t4],Qb,fun x u e=>by rw [Qg (Qh e hacc)];exact g4 _ _ (g _ _ e),?_,by simp [hul],fun u hu=>?_⟩
  ·exact TmAll.append (hus.mono fun _ _ h=>(g4.seqT h).put hya4) (.cons (hv4.mono fun _ _ h=>h.put hya4) .nil)
  ·rcases List.mem_append.mp hu with z | z
   ·exact hok u z
   ·have:u=t4:=by simpa using z
    rw [this];exact ⟨ht4,by lia⟩
 rintro ys H4 ⟨us,hya,g4,hus,hul,hok⟩
 have hlen:=hus.length
 refine ⟨acc,ys,rfl,.inl ⟨SqL.of hya,fun pt hpt=>⟨(by show 5≤sizeLine;decide),fun pp hpp=>?_⟩⟩⟩
 have ga:=Qe hpt (.tup ys)
 have gb:=Qe hpp (.tup [.str PUT,.str nm,.bl false,.int ad,.ref pt])
 have gab:=ga.trans gb
 refine q (.ref pp) _ (.node (.put nm false ad) 0 us) (g4.trans gab) (.put (SqT.of Qb) (gb.seqT (SqT.of Qb)) (hus.mono fun _ _=>gab.seqT) (4:)) ?_ ?_
 ·simp only [TDr]
  exact ⟨htd.1,by lia,(Zx _ us).mpr fun b hb=>(hok b hb).1⟩
 ·simp only [lv]
  have:=Ug fun b hb=>(hok b hb).2
  lia
theorem Vp {k:Nat}:FnOk P w K mg base CX0 k f fd ["_law_term_here"] (Z2 K 0):=by
 have no:∀ vs H Q E,¬ Z2 K 0 vs H Q E:=fun vs H Q E h=>by
  obtain ⟨v,t,cs,_,_,_,h0,_⟩:=h
  rw [Zm] at h0;lia
 exact ⟨fun vs H Q E h=>absurd h (no vs H Q E),fun A outer s H args us vs Q E _ _ _ _ h=>absurd h (no vs H Q E)⟩
theorem Xz (F:Fun K "_law_bare" "_law_bare" XE f fd) (G:Gm mg) (hb:Binds K fd ["_law_term_here"] []) (hm:mg "_law_bare" = some (.ref f)):∀ n:Nat,FnOk P w K mg base CX0 n f fd ["_law_term_here"] (Z2 K n)
 | 0=>Vp
 | n + 1=>Lv F G ⟨f,fd,Xz F G hb hm n,hb,F.kp,hm⟩
end
end K71
namespace K71
open PySem L2 TM TT ST K9 K11
section
variable {P:Program} {w:World} {K:PySem.W.Frag} {mg:Str→Option Value} {base:Heap} {f:Addr} {fd:FuncData}
theorem Ui:FnScope ["_law_kinds", "_law_branches", "_law_found", "_law_k", "_law_j"] ["_law_kinds", "_law_branches"] (defScope Wp):=(1:)
theorem Gv (F:Fun K "_law_calls" "_law_calls" Wp f fd) (G:Gm mg):FnOk P w K mg base CX0 1 f fd ["_law_kinds", "_law_branches"] (JP K):=by
 refine F.ok Ui (9:) (3:)
 ·obtain ⟨lk,bv,kn,bs,rfl,_⟩:=h
  rfl
 obtain ⟨lk,bv,kn,bs,rfl,hk,hb,hkl,hbl,q⟩:=h
 refine ⟨_,(Qf (Qq (i:=2) Ui.nd rfl (Or.inl rfl) (Zc Qc))
  (Qf (QR PassesOwn.never rfl (QD rfl G.rng (Qa (Qo Qn rfl G.len PySem.boot_len (Qa (pv 0) Qc)) Qc)) (Qw (i:=3) Ui.nd rfl (Or.inl rfl)) (Qi
   (QR PassesOwn.never rfl (QD rfl G.rng (Qa (Qo Qn rfl G.len PySem.boot_len (Qa (pv 1) Qc)) Qc)) (Qw (i:=4) Ui.nd rfl (Or.inl rfl)) (Qi
    (QG (Qr Zd (Qk QF (pv 0) (pv 3) (5:)) (Qk (NC QF Qj) (pv 1) (pv 4) (5:)) (Qu _)) (Qi (Zq (Yz PySem.F.plainAttrs_list PySem.F.slot_list_append PySem.F.type_list_append QW (pv 2) (Qa ((QE (Qa (pv 3) (Qa (pv 4) Qc)))) Qc)))) Qs)))))
  (Qi (Ql (pv 2))))),?_⟩
 refine ⟨(by show 0≤sizeLine;decide),fun l hl=>?_⟩
 have hb':∀ H',Same H H'→(SqL K H' bv (bs.map V.str)∨SqT K H' bv (bs.map V.str)):=fun H' g=>hb.elim (fun z=>.inl (g.seq z)) fun z=>.inr (g.seqT z)
 have g0:=Qe hl (.lst [])
 have ekl:(kn.map V.str).length=kn.length:=List.length_map ..
 have ebl:(bs.map V.str).length=bs.length:=List.length_map ..
 refine ⟨_,rfl,lk,_,rfl,.inl (g0.seq hk),_,rfl,(by rw [ekl];show -(2 ^ 62:Int)≤((kn.length:Nat):Int);lia),(by rw [ekl];show ((kn.length:Nat):Int) < 2 ^ 62;lia),?_⟩
 have inv:∀ (m:Nat),∀ (σ:L2.St) (H':Hp),True:=fun _ _ _=>trivial
 refine Q6 (lo:=0) (n:=(((kn.map V.str).length:Nat):Int).toNat) (fun i σ H'=>∃ (cs:Cs) (c3 c4:Option V),σ=[some (.ref lk),some (.ref bv),some (.ref l),c3,c4]∧Same H H'∧H' l=some (.lst (cs.map fun t=>V.ref t.1))∧(∀ t ∈ cs,SqT K H' t.1 [.int t.2.1,.int t.2.2])∧CsF kn bs cs∧cs.length≤i * 10)
  ⟨[],none,none,rfl,g0,Qb,fun t ht=>(nomatch ht),fun t ht=>(nomatch ht),by simp⟩ ?_ ?_
 ·rintro i σ H' hi ⟨cs,c3,c4,rfl,g,hl',hat,hcf,hcl⟩
  rw [ekl] at hi
  have hik:i < kn.length:=by lia
  have e0:(0:Int)+(i:Int)=(i:Int):=by lia
  refine ⟨_,rfl,bv,_,rfl,hb' _ g,_,rfl,(by rw [ebl];show -(2 ^ 62:Int)≤((bs.length:Nat):Int);lia),(by rw [ebl];show ((bs.length:Nat):Int) < 2 ^ 62;lia),?_⟩
  refine Q6 (lo:=0) (n:=(((bs.map V.str).length:Nat):Int).toNat) (fun j σ H'=>∃ (cs:Cs) (c4:Option V),σ=[some (.ref lk),some (.ref bv),some (.ref l),some (.int (0 + (i:Int))),c4]∧Same H H'∧H' l=some (.lst (cs.map fun t=>V.ref t.1))∧(∀ t ∈ cs,SqT K H' t.1 [.int t.2.1,.int t.2.2])∧CsF kn bs cs∧cs.length≤i * 10 + j)
   ⟨cs,c4,rfl,g,hl',hat,hcf,by lia⟩ ?_ ?_
  ·rintro j σ H2 hj ⟨cs,c4,rfl,g,hl',hat,hcf,hcl⟩
   rw [ebl] at hj
   have hjb:j < bs.length:=by lia
   have e1:(0:Int)+(j:Int)=(j:Int):=by lia
   have hix:ON K (.ref bv) (.int (0 + (j:Int))) H2 (fun v H3=>v=.str bs[j]∧H3=H2):=by
    have hv:atI (bs.map V.str) (0 + (j:Int))=some (.str bs[j]):=by rw [e1];exact QI (by rw [List.getElem?_map,List.getElem?_eq_getElem hjb];rfl)
    rcases hb' _ g with z | z
    ·exact .inl ⟨bv,_,_,_,rfl,rfl,z,hv,rfl,rfl⟩
    ·exact .inr ⟨bv,_,_,_,rfl,rfl,z,hv,rfl,rfl⟩
   have use:∀ Q2:VK,Q2 (.str bs[j]) H2→ON K (.ref bv) (.int (0 + (j:Int))) H2 Q2:=fun Q2 hq=>by
    rcases hix with ⟨a,xs,i',v,e2,e3,e4,e5,e6,e7⟩ | ⟨a,xs,i',v,e2,e3,e4,e5,e6,e7⟩
    ·exact .inl ⟨a,xs,i',v,e2,e3,e4,e5,by rw [e6];exact hq⟩
    ·exact .inr ⟨a,xs,i',v,e2,e3,e4,e5,by rw [e6];exact hq⟩
   refine ⟨_,rfl,_,rfl,lk,_,_,.str kn[i],rfl,rfl,g.seq hk,(by rw [e0];exact QI (by rw [List.getElem?_map,List.getElem?_eq_getElem hik];rfl)),_,rfl,_,rfl,use _ ⟨rfl,_,rfl,Y1 (fun hc=>?_) (fun _=>?_)⟩⟩
   ·have hc':kn[i]=bs[j]:=V.str.inj (of_decide_eq_true hc)
    refine ⟨_,rfl,.inl ⟨rfl,_,SqL.of hl'⟩,_,rfl,_,rfl,(by show 2≤sizeLine;decide),fun p hp=>?_⟩
    have gp:=Qe hp (.tup [.int (0 + (i:Int)),.int (0 + (j:Int))])
    have hlp:=gp _ _ hl'
    refine ⟨l,_,_,rfl,rfl,hlp,(by rw [List.length_map,QK];lia),?_⟩
    refine ⟨cs ++ [(p,(i:Int),(j:Int))],_,rfl,fun x u e=>by rw [Qg (Qh e hl)];exact gp _ _ (g _ _ e),by rw [Qb];simp,fun t ht=>?_,fun t ht=>?_,by simp;lia⟩
    ·rcases List.mem_append.mp ht with z | z
     ·exact (gp.seqT (hat t z)).put hlp
     ·have:t=(p,(i:Int),(j:Int)):=by simpa using z
      rw [this,e0,e1] at *
      exact SqT.put (SqT.of Qb) hlp
    ·rcases List.mem_append.mp ht with z | z
     ·exact hcf t z
     ·have:t=(p,(i:Int),(j:Int)):=by simpa using z
      rw [this]
      exact ⟨i,j,kn[i],rfl,List.getElem?_eq_getElem hik,by rw [hc'];exact List.getElem?_eq_getElem hjb⟩
   ·exact ⟨cs,_,rfl,g,hl',hat,hcf,by lia⟩
  ·rintro σ H2 ⟨cs,c4,rfl,g,hl',hat,hcf,hcl⟩
   rw [ebl] at hcl
   exact ⟨cs,_,_,rfl,g,hl',hat,hcf,by lia⟩
 ·rintro σ H' ⟨cs,c3,c4,rfl,g,hl',hat,hcf,hcl⟩
  rw [ekl] at hcl
  exact ⟨_,rfl,q l H' cs g hl ⟨SqL.of hl',hat⟩ hcf (4:)⟩
end
end K71
namespace L2
open PySem PyProof.Rows TM TT ST K9 K11
structure TurnD (K:PySem.W.Frag) (H:Hp) (tu wd lm:Addr) (sv:V) (ks:List KdT) (st:Tm) (ms:List MdT):Prop where
 tu:SqT K H tu [.ref wd,sv,.ref lm]
 w:WoodAt K H wd ks
 s:TmV K H sv st
 m:ModesL K H lm ms
def Xl (kn bs:List Str) (t:Tm):Prop:=∃ cs:List (Int × Int),(∀ c ∈ cs,∃ (k j:Nat) (z:Str),c=((k:Int),(j:Int))∧kn[k]?=some z∧bs[j]?=some z)∧TDr cs t
structure ModeD (kn:List Str) (ks:List KdT) (m:MdT):Prop where
 ex:∃ kd ∈ ks,kd.2.1=m.2.1∧m.2.2.2.2.length=kd.2.2.2.length∧∀ (j:Nat) (r:PNx) (t:Tm),kd.2.2.2[j]?=some r→m.2.2.2.2[j]?=some t→Xl kn r.2.2.2 t∧lv t≤3
structure DTurn (ks:List KdT) (st:Tm) (ms:List MdT):Prop where
 pos:0 < ms.length
 four:ms.length≤4
 md:∀ m ∈ ms,ModeD (ms.map fun m=>m.2.1) ks m
 st:∀ k,ks[0]?=some k→Xl (ms.map fun m=>m.2.1) [k.2.1] st∧lv st≤2
theorem TurnD.same {K:PySem.W.Frag} {H H':Hp} {tu wd lm:Addr} {sv:V} {ks:List KdT} {st:Tm} {ms:List MdT} (g:Same H H') (h:TurnD K H tu wd lm sv ks st ms):TurnD K H' tu wd lm sv ks st ms:=⟨g.seqT h.tu,h.w.same g,h.s.mono fun _ _=>g.seqT,h.m.same g⟩
def Zg (k:KdT):Str × List PNx:=(k.2.1,k.2.2.2)
def Yl (r:PNx):PyData:=.tuple [.str r.2.1,.tuple (r.2.2.2.map .str)]
theorem WX {K:PySem.W.Frag} {H:Hp}:∀ {rs:List PNx},(∀ t ∈ rs,RowAt K H t)→RdAll K H (rs.map fun t=>V.ref t.1) (rs.map Yl)
 | [],_=>.nil
 | t :: r,h=>.cons (.tup (h t List.mem_cons_self).1 (.cons (.str _) (.cons (.tup (h t List.mem_cons_self).2 (Yb _)) .nil))) (WX fun u hu=>h u (List.mem_cons_of_mem _ hu))
theorem XF:∀ {rs:List PNx},(∀ r ∈ rs,PyData.strOk r.2.1=true)→(∀ r ∈ rs,∀ x ∈ r.2.2.2,PyData.strOk x=true)→PyData.canLayAll0 (rs.map Yl)=true
 | [],_,_=>by simp [PyData.canLayAll0]
 | r :: rs,h1,h2=>by
  simp only [List.map_cons,PyData.canLayAll0,Yl,PyData.canLay0,h1 r List.mem_cons_self,YE _ (h2 r List.mem_cons_self),Bool.and_self,Bool.true_and]
  exact XF (fun u hu=>h1 u (List.mem_cons_of_mem _ hu)) fun u hu=>h2 u (List.mem_cons_of_mem _ hu)
def Yc (p:Str × List PNx):PyData:=.tuple [.str p.1,.list (p.2.map Yl)]
theorem Xg {K:PySem.W.Frag} {H:Hp}:∀ {ks:List KdT},(∀ k ∈ ks,SqT K H k.1 [.str k.2.1,.ref k.2.2.1]∧RowsL K H k.2.2.1 k.2.2.2)→RdAll K H (ks.map fun k=>V.ref k.1) ((ks.map Zg).map Yc)
 | [],_=>.nil
 | k :: r,h=>.cons (.tup (h k List.mem_cons_self).1 (.cons (.str _) (.cons (.lst (h k List.mem_cons_self).2.1 (WX (h k List.mem_cons_self).2.2)) .nil))) (Xg fun u hu=>h u (List.mem_cons_of_mem _ hu))
theorem Jb:∀ {ks:List KdT},(∀ k ∈ ks,PyData.strOk k.2.1=true)→(∀ k ∈ ks,RowsOk k.2.2.2)→PyData.canLayAll0 ((ks.map Zg).map Yc)=true
 | [],_,_=>by simp [PyData.canLayAll0]
 | k :: r,h1,h2=>by
  have h3:PyData.canLayAll0 (k.2.2.2.map Yl)=true:=XF (h2 k List.mem_cons_self).nm (h2 k List.mem_cons_self).kn
  simp only [List.map_cons,PyData.canLayAll0,Yc,Zg,PyData.canLay0,h1 k List.mem_cons_self,h3,Bool.and_self,Bool.true_and]
  exact Jb (fun u hu=>h1 u (List.mem_cons_of_mem _ hu)) fun u hu=>h2 u (List.mem_cons_of_mem _ hu)
theorem UK:∀ rs:List PNx,PyData.depthAll (rs.map Yl)≤2
 | []=>by simp [PyData.depthAll]
 | r :: rs=>by
  have:=UK rs
  simp only [List.map_cons,PyData.depthAll,Yl,PyData.depth,Yn]
  lia
theorem YX:∀ ks:List (Str × List PNx),PyData.depthAll (ks.map Yc)≤4
 | []=>by simp [PyData.depthAll]
 | k :: r=>by
  have h1:=YX r
  have h2:=UK k.2
  simp only [List.map_cons,PyData.depthAll,Yc,PyData.depth]
  lia
def Ys (m:Md):PyData:=.tuple [.str m.1,.list (Y2 m.2)]
theorem XG {K:PySem.W.Frag} {H:Hp}:∀ {ms:List MdT},(∀ m ∈ ms,MdAt K H m)→RdAll K H (ms.map fun m=>V.ref m.1) ((ms.map MdT.md).map Ys)
 | [],_=>.nil
 | m :: r,h=>.cons (.tup (h m List.mem_cons_self).1 (.cons (.str _) (.cons (.lst (h m List.mem_cons_self).2.1 (h m List.mem_cons_self).2.2.rd) .nil))) (XG fun x hx=>h x (List.mem_cons_of_mem _ hx))
theorem Jq:∀ {ms:List MdT},(∀ m ∈ ms,PyData.strOk m.2.1=true∧∀ t ∈ m.2.2.2.2,MOk 6 t)→PyData.canLayAll0 ((ms.map MdT.md).map Ys)=true∧PyData.depthAll ((ms.map MdT.md).map Ys)≤12
 | [],_=>by simp [PyData.canLayAll0,PyData.depthAll]
 | m :: r,h=>by
  obtain ⟨h1,h2⟩:=Jq fun x hx=>h x (List.mem_cons_of_mem _ hx)
  obtain ⟨h5,hm⟩:=h m List.mem_cons_self
  obtain ⟨h3,h4⟩:=J3 (d:=6) m.2.2.2.2 hm
  have h5':PyData.strOk m.md.1=true:=h5
  have h3':PyData.canLayAll0 (Y2 m.md.2)=true:=h3
  have h4':PyData.depthAll (Y2 m.md.2)≤6:=h4
  constructor
  ·simp only [List.map_cons,PyData.canLayAll0,Ys,PyData.canLay0,h5',h3',h1,Bool.and_self]
  ·have e:((m :: r).map MdT.md).map Ys=Ys m.md :: (r.map MdT.md).map Ys:=rfl
   rw [e]
   have e2:PyData.depthAll (Ys m.md :: (r.map MdT.md).map Ys)=max (Ys m.md).depth (PyData.depthAll ((r.map MdT.md).map Ys)):=by simp only [PyData.depthAll]
   have e3:(Ys m.md).depth≤11:=by simp only [Ys,PyData.depth,PyData.depthAll];lia
   rw [e2]
   lia
abbrev Q5 (ks:List KdT) (t:Tm) (ms:List MdT):PyData:=.tuple [.list ((ks.map Zg).map Yc),tmd t,.list ((ms.map MdT.md).map Ys)]
theorem WD {K:PySem.W.Frag} {H:Hp} {tu wd lm:Addr} {sv:V} {ks:List KdT} {st:Tm} {ms:List MdT} (h:TurnD K H tu wd lm sv ks st ms):RdV K H (.ref tu) (Q5 ks st ms) :=
 .tup h.tu (.cons (.lst h.w.1 (Xg h.w.2)) (.cons h.s.rd (.cons (.lst h.m.1 (XG h.m.2)) .nil)))
theorem Lj {ks:List KdT} {t:Tm} {ms:List MdT} (h1:∀ k ∈ ks,PyData.strOk k.2.1=true) (h2:∀ k ∈ ks,RowsOk k.2.2.2) (ht:MOk 6 t) (hm:∀ m ∈ ms,PyData.strOk m.2.1=true∧∀ t ∈ m.2.2.2.2,MOk 6 t):(Q5 ks t ms).canLay0=true∧(Q5 ks t ms).depth≤20:=by
 have a1:=Jb h1 h2
 have a2:=YX (ks.map Zg)
 obtain ⟨b1,b2⟩:=ht
 obtain ⟨c1,c2⟩:=Jq hm
 constructor
 ·simp only [PyData.canLay0,PyData.canLayAll0,a1,b1,c1,Bool.and_self]
 ·simp only [PyData.depth,PyData.depthAll]
  lia
end L2
namespace K71
open PySem L2 TM TT ST K9 K11
abbrev G1:Stmt:=top 25
def JJ (K:PySem.W.Frag):Sp:=fun vs H Q _=>∃ (d:Addr) (c:Int) (wd:Addr) (ks:List KdT),vs=[.ref d,.int c,.ref wd]∧Dk H d∧WoodD K H d wd ks∧DWood c ks ∧
 ∀ (tu lm:Addr) (sv:V) (st:Tm) (ms:List MdT) (H':Hp),SameD d H H'→Dk H' d→TurnD K H' tu wd lm sv ks st ms→DTurn ks st ms→lm≠d→(∀ m ∈ ms,m.2.2.1≠d)→Q (.ref tu) H'
theorem WP {kn bs:List Str} {cs:Cs} {t:Tm} (h:CsF kn bs cs) (ht:TDr cs.pr t):Xl kn bs t:=⟨cs.pr,fun c hc=>by
 obtain ⟨u,hu,rfl⟩:=List.mem_map.mp hc
 exact h u hu,ht⟩
section
variable {P:Program} {w:World} {K:PySem.W.Frag} {mg:Str→Option Value} {base:Heap} {f:Addr} {fd:FuncData}
theorem ZH:FnScope ["_law_deck", "_law_code", "_law_wood_here", "_law_kinds", "_law_k", "_law_modes", "_law_kind", "_law_base", "_law_rules", "_law_name_here", "_law_branches", "_law_start"] ["_law_deck", "_law_code", "_law_wood_here"] (defScope G1):=(1:)
theorem Mm (F:Fun K "_law_turning" "_law_turning" G1 f fd) (G:Gm mg) (RD:Fn P w K mg base 1 "_law_draw" ["_law_deck", "_law_most"] Q9) (RT:Fn P w K mg base 5 "_law_term" ["_law_deck", "_law_code", "_law_calls_here", "_law_deep"] (Z6 K 3)) (RR:Fn P w K mg base 6 "_law_rule" ["_law_deck", "_law_code", "_law_base", "_law_calls_here"] (X0 K))
 (RC:Fn P w K mg base 1 "_law_calls" ["_law_kinds", "_law_branches"] (JP K)) (RO:Fn P w K mg base 1 "_law_rows" ["_law_wood_here", "_law_kind"] (Yi K)) (RB:Fn P w K mg base 3 "_law_bare" ["_law_term_here"] (Z2 K 3)):FnOk P w K mg base CX0 7 f fd ["_law_deck", "_law_code", "_law_wood_here"] (JJ K):=by
 refine F.ok ZH (9:) (3:)
 ·obtain ⟨d,c,wd,ks,rfl,_⟩:=h
  rfl
 obtain ⟨d,c,wd,ks,rfl,hd,hW,hDW,q⟩:=h
 refine ⟨_,(Qf (Qq (i:=3) ZH.nd rfl (Or.inl rfl) (Zc (Qa (Qk Qj (Qk QF (pv 2) Qd (5:)) Qd (5:)) Qc)))
  (Qf (QR PassesOwn.never rfl (QD rfl G.rng (Qa (Qp RD hr (Qa (pv 0) (Qa (Qd) Qc))) Qc)) (Qw (i:=4) ZH.nd rfl (Or.inl rfl)) (Qi (Zq (Yz PySem.F.plainAttrs_list PySem.F.slot_list_append PySem.F.type_list_append QW (pv 3) (Qa (Qk Qj (Qk QF (pv 2) (Qp RD hr (Qa (pv 0) (Qa (Qo Qn rfl G.len PySem.boot_len (Qa (pv 2) Qc)) Qc))) (5:)) Qd (5:)) Qc)))))
  (Qf (Qq (i:=5) ZH.nd rfl (Or.inl rfl) (Zc Qc))
  (Qf (QR PassesOwn.never rfl (QH (pv 3)) (Qw (i:=6) ZH.nd rfl (Or.inl rfl)) (Qf (Qq (i:=7) ZH.nd rfl (Or.inl rfl) (Qp RT hr (Qa (pv 0) (Qa (pv 1) (Qa (Zc Qc) (Qa (Qd) Qc))))))
  (Qf (Qq (i:=8) ZH.nd rfl (Or.inl rfl) (Zc Qc))
  (Qf (QR PassesOwn.never rfl (QH (Qp RO hr (Qa (pv 2) (Qa (pv 6) Qc)))) (ZS rfl (QB (Qw (i:=9) ZH.nd rfl (Or.inl rfl)) (QB (Qw (i:=10) ZH.nd rfl (Or.inl rfl)) ZB))) (Qi (Zq (Yz PySem.F.plainAttrs_list PySem.F.slot_list_append PySem.F.type_list_append QW (pv 8) (Qa (Qp RR hr (Qa (pv 0) (Qa (pv 1) (Qa (pv 7) (Qa (Qp RC hr (Qa (pv 3) (Qa (pv 10) Qc))) Qc))))) Qc)))))
  (Qi (Zq (Yz PySem.F.plainAttrs_list PySem.F.slot_list_append PySem.F.type_list_append QW (pv 5) (Qa ((QE (Qa (pv 6) (Qa (pv 8) Qc)))) Qc))))))))
  (Qf (Qq (i:=11) ZH.nd rfl (Or.inl rfl) (Qp RT hr (Qa (pv 0) (Qa (pv 1) (Qa (Qp RC hr (Qa (pv 3) (Qa ((Zc (Qa (Qk Qj (Qk QF (pv 2) Qd (5:)) Qd (5:)) Qc))) Qc))) (Qa (Qd) Qc))))))
  (Qi (Ql (QE (Qa (pv 2) (Qa (Qp RB hr (Qa (pv 11) Qc)) (Qa (pv 5) Qc))))))))))),?_⟩
 have hkpos:=hDW.pos
 have hk3:=hDW.three
 obtain ⟨k0,hk0⟩ : ∃ k0,ks[0]?=some k0:=⟨_,List.getElem?_eq_getElem hkpos⟩
 have hk0m:=List.mem_of_getElem? hk0
 have w0:∀ H',SameD d H H'→WoodD K H' d wd ks:=fun H' g=>hW.sameD g hd
 have at0:atI (ks.map fun k=>V.ref k.1) 0=some (.ref k0.1):=QI (j:=0) (by rw [List.getElem?_map,hk0];rfl)
 refine ⟨_,rfl,wd,_,_,.ref k0.1,rfl,rfl,hW.1.1,at0,k0.1,_,0,_,rfl,rfl,(hW.1.2 k0 hk0m).1,rfl,(by show 1≤sizeLine;decide),fun lk hlk=>?_⟩
 have hlkd:=hd.ne hlk
 refine ⟨_,rfl,d,_,rfl,hd.upd hlkd,(by decide),fun r0 H1 g1 hd1 r00 r01=>⟨_,rfl,(by show -(2 ^ 62:Int)≤r0;lia),(by show r0 < 2 ^ 62;lia),?_⟩⟩
 refine Q6 (lo:=0) (n:=r0.toNat) (fun i σ H'=>∃ (kn:List Str) (c4:Option V),σ=[some (.ref d),some (.int c),some (.ref wd),some (.ref lk),c4,none,none,none,none,none,none,none]∧SameD d H H'∧Dk H' d∧H' lk=some (.lst (kn.map V.str))∧kn.length=i + 1∧∀ z ∈ kn,∃ kd ∈ ks,kd.2.1=z)
  ⟨[k0.2.1],none,rfl,(SameD.new hlk).trans g1,hd1,g1 _ _ hlkd Qb,rfl,fun z hz=>⟨k0,hk0m,(List.mem_singleton.mp hz).symm⟩⟩ ?_ ?_
 ·rintro i σ H' hi ⟨kn,c4,rfl,g,hdk,hlk',hkl,hkz⟩
  have hw:=w0 H' g
  refine ⟨_,rfl,.inl ⟨rfl,_,SqL.of hlk'⟩,_,rfl,_,rfl,_,rfl,wd,_,rfl,.inl hw.1.1,d,_,rfl,hdk,(by rw [List.length_map];show (0:Int) < ((ks.length:Nat):Int);lia),fun r H2 g2 hd2 r20 r21=>?_⟩
  rw [List.length_map] at r21
  obtain ⟨x,hx⟩ : ∃ x,ks[r.toNat]?=some x:=⟨_,List.getElem?_eq_getElem (4:)⟩
  have hxm:=List.mem_of_getElem? hx
  have hw2:=hw.sameD g2 hdk
  have hlk2:=g2 _ _ hlkd hlk'
  refine ⟨wd,_,_,.ref x.1,rfl,rfl,hw2.1.1,Uh r20 (by rw [List.getElem?_map,hx];rfl),x.1,_,0,_,rfl,rfl,(hw2.1.2 x hxm).1,rfl,lk,_,_,rfl,rfl,hlk2,(by rw [List.length_map,QK];lia),?_⟩
  refine ⟨kn ++ [x.2.1],_,rfl,(g.trans g2).put hlk,hd2.upd hlkd,by rw [Qb];simp,by simp [hkl],fun z hz=>?_⟩
  rcases List.mem_append.mp hz with y | y
  ·exact hkz z y
  ·have:z=x.2.1:=by simpa using y
   rw [this];exact ⟨x,hxm,rfl⟩
 rintro σ H2 ⟨kn,c4,rfl,g2,hd2,hlk2,hkl,hkz⟩
 have hkn4:kn.length≤4:=by lia
 refine ⟨(by show 0≤sizeLine;decide),fun lm hlm=>?_⟩
 have hlmd:=hd2.ne hlm
 refine ⟨_,rfl,lk,rfl,⟨_,(Qe hlm _).seq (SqL.of hlk2)⟩,?_⟩
 refine ZM (K:=K) (xs:=kn.map V.str) (fun i σ H'=>∃ (ms:List MdT) (c6 c7 c8 c9 c10:Option V),σ=[some (.ref d),some (.int c),some (.ref wd),some (.ref lk),c4,some (.ref lm),c6,c7,c8,c9,c10,none]∧SameD d H2 H'∧Dk H' d∧H' lm=some (.lst (ms.map fun m=>V.ref m.1))∧ms.map (fun m=>m.2.1)=kn.take i ∧
  ∀ m ∈ ms,SqT K H' m.1 [.str m.2.1,.ref m.2.2.1]∧H' m.2.2.1=some (.lst m.2.2.2.1)∧TmAll K H' m.2.2.2.1 m.2.2.2.2∧m.2.2.1≠d∧m.2.2.1≠lm∧ModeD kn ks m)
  ⟨[],none,none,none,none,none,rfl,SameD.new hlm,hd2.upd hlmd,Qb,rfl,fun m hm=>(nomatch hm)⟩ ?_ ?_ ?_
 ·rintro i σ H' _ ⟨ms,c6,c7,c8,c9,c10,_,g,_⟩
  exact SqL.of (g _ _ hlkd hlk2)
 ·rintro i x σ H3 hx ⟨ms,c6,c7,c8,c9,c10,rfl,g3,hd3,hlm3,hmk,hmm⟩
  have hik:i < kn.length:=by
   have:=(List.getElem?_eq_some_iff.mp hx).1
   simpa using this
  obtain rfl:x=.str kn[i]:=by
   rw [List.getElem?_map,List.getElem?_eq_getElem hik] at hx
   exact (Option.some.inj hx).symm
  obtain ⟨kd,hkd,ekd⟩:=hkz _ (List.getElem_mem hik)
  have hml:ms.length≤4:=by
   have:=congrArg List.length hmk
   rw [List.length_map,List.length_take] at this
   lia
  refine ⟨_,rfl,_,rfl,(by show 0≤sizeLine;decide),fun l0 hl0=>?_⟩
  have a0:=Qe hl0 (.lst [])
  have hd30:=hd3.same a0
  refine ⟨d,c,l0,[],2,rfl,hd30,⟨SqL.of Qb,fun t ht=>(nomatch ht)⟩,hd3.ne hl0,by decide,fun bv H4 bt g4 hd4 hbv hbt hbl=>?_⟩
  have g34:SameD d H3 H4:=(SameD.of a0).trans g4
  have hbt0:TDr [] bt:=hbt
  refine ⟨(by show 0≤sizeLine;decide),fun lr hlr=>?_⟩
  have hlrd:=hd4.ne hlr
  have a1:=Qe hlr (.lst [])
  have hd41:=hd4.same a1
  have hw4:=w0 _ (g2.trans (g3.trans (g34.trans (SameD.of a1))))
  refine ⟨_,rfl,_,rfl,wd,ks,kd,by rw [ekd];rfl,hw4.1,hDW.ok.nd,by lia,hkd,fun H5 g5=>⟨kd.2.2.1,rfl,⟨_,g5.seq (hw4.1.2 kd hkd).2.1⟩,?_⟩⟩
  have hr0:∀ H',SameD d H4 H'→RowsL K H' kd.2.2.1 kd.2.2.2:=fun H' g=>((w0 _ (g2.trans (g3.trans (g34.trans g)))).1.2 kd hkd).2
  have hrl:=hDW.few kd hkd
  refine ZM (K:=K) (xs:=kd.2.2.2.map fun t=>V.ref t.1) (fun j σ H'=>∃ (us:List V) (ts:List Tm) (c9 c10:Option V),σ=[some (.ref d),some (.int c),some (.ref wd),some (.ref lk),c4,some (.ref lm),some (.str kn[i]),some bv,some (.ref lr),c9,c10,none]∧SameD d H4 H'∧Dk H' d∧H' lr=some (.lst us)∧TmAll K H' us ts∧ts.length=j ∧
   ∀ (m:Nat) (r:PNx) (t:Tm),kd.2.2.2[m]?=some r→ts[m]?=some t→Xl kn r.2.2.2 t∧lv t≤3)
   ⟨[],[],c9,c10,rfl,(SameD.of a1).trans (SameD.of g5),hd41.same g5,g5 _ _ Qb,.nil,rfl,fun m r t _ ht=>by simp at ht⟩ ?_ ?_ ?_
  ·rintro j σ H' _ ⟨us,ts,_,_,_,g,_⟩
   exact (hr0 H' g).1
  ·rintro j x σ H6 hx ⟨us,ts,c9,c10,rfl,g6,hd6,hlr6,hts,htl,hfit⟩
   have hjr:j < kd.2.2.2.length:=by
    have:=(List.getElem?_eq_some_iff.mp hx).1
    simpa using this
   obtain rfl:x=.ref kd.2.2.2[j].1:=by
    rw [List.getElem?_map,List.getElem?_eq_getElem hjr] at hx
    exact (Option.some.inj hx).symm
   have hrow:=(hr0 H6 g6).2 _ (List.getElem_mem hjr)
   have hlen:=hts.length
   have hbl4:=((hDW.ok.rows kd hkd).kl _ (List.getElem_mem hjr))
   refine ⟨kd.2.2.2[j].1,_,rfl,hrow.1,rfl,_,_,rfl,_,_,rfl,rfl,?_⟩
   have hlk6:H6 lk=some (.lst (kn.map V.str)):=g6 _ _ hlkd (g34 _ _ hlkd (g3 _ _ hlkd hlk2))
   refine ⟨_,rfl,.inl ⟨rfl,_,SqL.of hlr6⟩,_,rfl,_,rfl,_,rfl,_,rfl,_,rfl,lk,kd.2.2.2[j].2.2.1,kn,kd.2.2.2[j].2.2.2,rfl,SqL.of hlk6,.inr hrow.2,by lia,by lia,fun lc H7 cs g7 hlcn hcs hcf hcl=>?_⟩
   have hd7:=hd6.same g7
   refine ⟨d,c,lc,cs,bv,bt,rfl,hd7,hcs,hd6.ne hlcn,hbv.mono fun _ _ h=>g7.seqT (g6.seqT hd4 h),hbt0,hbl,fun v' H8 t' g8 hd8 hv' ht' hl'=>?_⟩
   have g68:SameD d H6 H8:=(SameD.of g7).trans g8
   have hlr8:=g68 _ _ hlrd hlr6
   refine ⟨lr,us,_,rfl,rfl,hlr8,(by rw [QK];lia),?_⟩
   refine ⟨us ++ [v'],ts ++ [t'],_,_,rfl,(g6.trans g68).put hlr,hd8.upd hlrd,Qb,?_,by simp [htl],fun m r t hr' ht''=>?_⟩
   ·exact TmAll.append (hts.mono fun _ _ h=>(g68.seqT hd6 h).put hlr8) (.cons (hv'.mono fun _ _ h=>h.put hlr8) .nil)
   ·by_cases hm:m < ts.length
    ·rw [List.getElem?_append_left hm] at ht''
     exact hfit m r t hr' ht''
    ·have hml2:m < (ts ++ [t']).length:=(List.getElem?_eq_some_iff.mp ht'').1
     rw [List.length_append,List.length_singleton] at hml2
     have hmj:m=j:=by lia
     subst hmj
     rw [List.getElem?_append_right (4:),htl,Nat.sub_self] at ht''
     have et:t'=t:=by simpa using ht''
     have er:kd.2.2.2[m]=r:=Option.some.inj ((List.getElem?_eq_getElem hjr).symm.trans hr')
     rw [← et,← er]
     exact ⟨WP hcf ht',hl'⟩
  ·rintro σ H6 ⟨us,ts,c9,c10,rfl,g6,hd6,hlr6,hts,htl,hfit⟩
   rw [List.length_map] at htl
   have g36:=g34.trans g6
   have hlm6:H6 lm=some (.lst (ms.map fun m=>V.ref m.1)):=g36 _ _ hlmd hlm3
   have hlrm:lr≠lm:=fun z=>by
    have:=g34 _ _ hlmd hlm3
    rw [← z,hlr] at this;cases this
   refine ⟨_,rfl,.inl ⟨rfl,_,SqL.of hlm6⟩,_,rfl,_,rfl,(by show 2≤sizeLine;decide),fun p hp=>?_⟩
   have gp:=Qe hp (.tup [.str kn[i],.ref lr])
   have hlmp:=gp _ _ hlm6
   refine ⟨lm,_,_,rfl,rfl,hlmp,(by rw [List.length_map,QK];lia),?_⟩
   refine ⟨ms ++ [(p,kn[i],lr,us,ts)],_,_,_,_,_,rfl,((g3.trans g36).trans (SameD.of gp)).put hlm,(hd6.same gp).upd hlmd,by rw [Qb];simp,?_,fun m hm=>?_⟩
   ·rw [List.map_append,hmk,List.take_add_one,List.getElem?_eq_getElem hik];rfl
   ·rcases List.mem_append.mp hm with z | z
    ·obtain ⟨m1,m2,m3,m4,m5,m6⟩:=hmm m z
     refine ⟨(gp.seqT (g36.seqT hd3 m1)).put hlmp,by rw [Qg m5];exact gp _ _ (g36 _ _ m4 m2),m3.mono fun _ _ h=>(gp.seqT (g36.seqT hd3 h)).put hlmp,m4,m5,m6⟩
    ·have:m=(p,kn[i],lr,us,ts):=by simpa using z
     rw [this]
     refine ⟨SqT.put (SqT.of Qb) hlmp,by rw [Qg hlrm];exact gp _ _ hlr6,hts.mono fun _ _ h=>(gp.seqT h).put hlmp,hlrd,hlrm,⟨kd,hkd,ekd,htl,hfit⟩⟩
 ·rintro σ H3 ⟨ms,c6,c7,c8,c9,c10,rfl,g3,hd3,hlm3,hmk,hmm⟩
  rw [List.length_map,List.take_length] at hmk
  have hw3:=w0 _ (g2.trans g3)
  have hlk3:H3 lk=some (.lst (kn.map V.str)):=g3 _ _ hlkd hlk2
  have hmlen:ms.length=kn.length:=by have:=congrArg List.length hmk;simpa using this
  refine ⟨_,rfl,_,rfl,_,rfl,_,rfl,wd,_,_,.ref k0.1,rfl,rfl,hw3.1.1,at0,k0.1,_,0,_,rfl,rfl,(hw3.1.2 k0 hk0m).1,rfl,(by show 1≤sizeLine;decide),fun lb hlb=>?_⟩
  have b0:=Qe hlb (.lst [.str k0.2.1])
  refine ⟨lk,lb,kn,[k0.2.1],rfl,b0.seq (SqL.of hlk3),.inl (SqL.of Qb),by lia,by simp,fun lc H4 cs g4 hlcn hcs hcf hcl=>?_⟩
  have hd4:=(hd3.same b0).same g4
  refine ⟨d,c,lc,cs,1,rfl,hd4,hcs,(hd3.same b0).ne hlcn,by decide,fun sv H5 st g5 hd5 hsv hst hsl=>?_⟩
  have g35:SameD d H3 H5:=(SameD.of (b0.trans g4)).trans g5
  refine ⟨_,rfl,_,rfl,sv,st,cs.pr,rfl,hsv,hst,by lia,fun sv' H6 st' g6 hsv' hst' hsl'=>⟨_,rfl,(by show 3≤sizeLine;decide),fun tu htu=>?_⟩⟩
  have gt:=Qe htu (.tup [.ref wd,sv',.ref lm])
  have g67:SameD d H3 (upd H6 tu (.tup [.ref wd,sv',.ref lm])):=g35.trans (SameD.of (g6.trans gt))
  have hl2:lv st≤2:=hsl
  refine q tu lm sv' st' ms _ (g2.trans (g3.trans g67)) (hd5.same (g6.trans gt)) ⟨SqT.of Qb,(w0 _ (g2.trans (g3.trans g67))).1,hsv'.mono fun _ _=>gt.seqT,⟨SqL.of (g67 _ _ hlmd hlm3),fun m hm=>?_⟩⟩ ⟨by lia,by lia,fun m hm=>by rw [hmk];exact (hmm m hm).2.2.2.2.2,fun k hk=>?_⟩ hlmd fun m hm=>(hmm m hm).2.2.2.1
  ·obtain ⟨m1,m2,m3,m4,m5,m6⟩:=hmm m hm
   exact ⟨g67.seqT hd3 m1,SqL.of (g67 _ _ m4 m2),m3.mono fun _ _=>g67.seqT hd3⟩
  ·obtain rfl:k0=k:=Option.some.inj (hk0.symm.trans hk)
   rw [hmk]
   exact ⟨WP hcf hst',by lia⟩
end
end K71
namespace K71
open PySem L2 TM TT ST K9 K11
abbrev GA:Stmt:=top 27
def JD (K:PySem.W.Frag):Sp:=fun vs H Q _=>∃ (tu wd lm:Addr) (sv:V) (ks:List KdT) (st:Tm) (ms:List MdT),vs=[.ref tu]∧TurnD K H tu wd lm sv ks st ms∧WoodOk ks∧ms.length≤10 ∧
 ∀ (tu' wd' lm':Addr) (hs:List KdT) (ms':List MdT) (H':Hp),Same H H'→TurnD K H' tu' wd' lm' sv hs st ms'→hs.map Zg=ks.map Zg→ms'.map MdT.md=ms.map MdT.md→Q (.ref tu') H'
abbrev JO (K:PySem.W.Frag):List V→Hp→VK→Prop:=fun xs H Q=>∃ p ys,xs=[.ref p]∧(SqL K H p ys∨SqT K H p ys)∧∀ l,H l=none→Q (.ref l) (upd H l (.lst ys))
section
variable {P:Program} {w:World} {K:PySem.W.Frag} {mg:Str→Option Value} {base:Heap} {f:Addr} {fd:FuncData}
theorem GR:FnScope ["_law_turning_here", "_law_wood_here"] ["_law_turning_here"] (defScope GA):=(1:)
theorem Mi (F:Fun K "_law_copy" "_law_copy" GA f fd) (G:Gm mg):FnOk P w K mg base CX0 1 f fd ["_law_turning_here"] (JD K):=by
 refine F.ok GR (9:) (3:)
 ·obtain ⟨tu,wd,lm,sv,ks,st,ms,rfl,_⟩:=h
  rfl
 obtain ⟨tu,wd,lm,sv,ks,st,ms,rfl,hT,hO,hm10,q⟩:=h
 refine ⟨_,(Qf (Q8 (i:=1) (CompG.many (xs:=["_law_kind", "_law_rows_here"]) (caps:=[]) (cap:=[]) (cs:=[]) rfl rfl (0:) (0:) (0:) (0:) (0:) (0:) rfl rfl rfl) rfl (QH (Qk Qj (pv 0) Qd (5:))) (UG (CompG.many (xs:=["_law_kind", "_law_rows_here"]) (caps:=[]) (cap:=[]) (cs:=[]) rfl rfl (0:) (0:) (0:) (0:) (0:) (0:) rfl rfl rfl) rfl) (fun _ _ _ _=>QT) (fun _ _ _ _=>(QE (Qa (pv 0) (Qa (QJ (r:=JO K) ZT rfl G.lst PyProof.Rows.boot_list (Qa (pv 1) Qc)) Qc)))) GR.nd rfl rfl)
  (Qi (Ql (QE (Qa (pv 1) (Qa (Qk Qj (pv 0) Qd (5:)) (Qa (Qy (CompG.many (xs:=["_law_kind", "_law_rules"]) (caps:=[]) (cap:=[]) (cs:=[]) rfl rfl (0:) (0:) (0:) (0:) (0:) (0:) rfl rfl rfl) rfl (QH (Qk Qj (pv 0) Qd (5:))) (UG (CompG.many (xs:=["_law_kind", "_law_rules"]) (caps:=[]) (cap:=[]) (cs:=[]) rfl rfl (0:) (0:) (0:) (0:) (0:) (0:) rfl rfl rfl) rfl) (fun _ _ _ _=>QT) (fun _ _ _ _=>(QE (Qa (pv 0) (Qa (QJ (r:=JO K) ZT rfl G.lst PyProof.Rows.boot_list (Qa (pv 1) Qc)) Qc))))) Qc))))))),?_⟩
 refine ⟨_,rfl,tu,_,0,_,rfl,rfl,hT.tu,rfl,wd,rfl,⟨_,hT.w.1⟩,fun lx hlx=>?_⟩
 refine Y9 (K:=K) (xs:=ks.map fun k=>V.ref k.1) (cs:=[]) (tt:=fun _ H Q=>Q true H) (te:=MW (Ze (Zu 0) (Ze (tCB (JO K) (Ze (Zu 1) Y3)) Y3))) (fun j ys H'=>∃ hs:List KdT,ys=hs.map (fun k=>V.ref k.1)∧hs.map Zg=(ks.take j).map Zg∧(∀ k ∈ hs,SqT K H' k.1 [.str k.2.1,.ref k.2.2.1]∧(H' k.2.2.1=some (.lst (k.2.2.2.map fun t=>V.ref t.1))∧k.2.2.1≠lx)∧∀ t ∈ k.2.2.2,RowAt K H' t)∧H' lx=some (.lst ys)∧Same H H')
  ⟨[],rfl,rfl,fun k hk=>(nomatch hk),Qb,Qe hlx _⟩ ?_ ?_ ?_
 ·rintro j ys H' _ ⟨hs,_,_,_,_,g⟩
  exact (hT.w.same g).1
 ·rintro j x ys H' hj hx ⟨hs,rfl,hkey,hat,hya,g⟩
  have hjk:j < ks.length:=by simpa using hj
  obtain rfl:x=.ref ks[j].1:=by
   rw [List.getElem?_map,List.getElem?_eq_getElem hjk] at hx
   exact (Option.some.inj hx).symm
  obtain ⟨hk1,hkr⟩:=(hT.w.same g).2 _ (List.getElem_mem hjk)
  have hhl:hs.length=j:=by
   have:=congrArg List.length hkey
   rw [List.length_map,List.length_map,List.length_take] at this
   lia
  have hkl:=hO.len
  refine ⟨ks[j].1,_,_,rfl,hk1,Zn ⟨_,rfl,_,rfl,ks[j].2.2.1,_,rfl,.inl hkr.1,fun l2 hl2=>⟨(by show 2≤sizeLine;decide),fun p2 hp2=>?_⟩⟩⟩
  have e1:=Qe hl2 (.lst (ks[j].2.2.2.map fun t=>V.ref t.1))
  have e2:=Qe hp2 (.tup [.str ks[j].2.1,.ref l2])
  have e12:=e1.trans e2
  have hya2:=e12 _ _ hya
  have hl2x:l2≠lx:=fun z=>by rw [z,hya] at hl2;cases hl2
  refine Qx (ys:=hs.map fun k=>V.ref k.1) hj hya2 (by rw [List.length_map];lia) ⟨hs ++ [(p2,ks[j].2.1,l2,ks[j].2.2.2)],by simp,?_,fun k hk=>?_,Qb,fun x u e=>by rw [Qg (Qh e hlx)];exact e12 _ _ (g _ _ e)⟩
  ·rw [List.map_append,hkey,List.take_add_one,List.getElem?_eq_getElem hjk,List.map_append]
   rfl
  ·rcases List.mem_append.mp hk with z | z
   ·obtain ⟨a1,⟨a2,a3⟩,a4⟩:=hat k z
    exact ⟨(e12.seqT a1).put hya2,⟨by rw [Qg a3];exact e12 _ _ a2,a3⟩,fun t ht=>⟨(e12.seqT (a4 t ht).1).put hya2,(e12.seqT (a4 t ht).2).put hya2⟩⟩
   ·have:k=(p2,ks[j].2.1,l2,ks[j].2.2.2):=by simpa using z
    rw [this]
    refine ⟨SqT.put (SqT.of Qb) hya2,⟨by rw [Qg hl2x];exact e2 _ _ Qb,hl2x⟩,fun t ht=>⟨(e12.seqT (hkr.2 t ht).1).put hya2,(e12.seqT (hkr.2 t ht).2).put hya2⟩⟩
 rintro ys H1 ⟨hs,rfl,hkey,hat,hya,g1⟩
 rw [List.length_map,List.take_length] at hkey
 have hWH:WoodAt K H1 lx hs:=⟨SqL.of hya,fun k hk=>by
  obtain ⟨a1,⟨a2,_⟩,a4⟩:=hat k hk
  exact ⟨a1,SqL.of a2,a4⟩⟩
 have hT1:=hT.same g1
 refine ⟨_,rfl,_,rfl,tu,_,1,_,rfl,rfl,hT1.tu,rfl,_,rfl,tu,_,2,_,rfl,rfl,hT1.tu,rfl,lm,rfl,⟨_,hT1.m.1⟩,fun ly hly=>?_⟩
 refine Y9 (K:=K) (xs:=ms.map fun k=>V.ref k.1) (cs:=[]) (tt:=fun _ H Q=>Q true H) (te:=MW (Ze (Zu 0) (Ze (tCB (JO K) (Ze (Zu 1) Y3)) Y3))) (fun j ys H'=>∃ ns:List MdT,ys=ns.map (fun k=>V.ref k.1)∧ns.map MdT.md=(ms.take j).map MdT.md∧(∀ m ∈ ns,SqT K H' m.1 [.str m.2.1,.ref m.2.2.1]∧(H' m.2.2.1=some (.lst m.2.2.2.1)∧m.2.2.1≠ly)∧TmAll K H' m.2.2.2.1 m.2.2.2.2)∧H' ly=some (.lst ys)∧Same H1 H')
  ⟨[],rfl,rfl,fun k hk=>(nomatch hk),Qb,Qe hly _⟩ ?_ ?_ ?_
 ·rintro j ys H' _ ⟨hs,_,_,_,_,g⟩
  exact (hT1.m.same g).1
 ·rintro j x ys H' hj hx ⟨ns,rfl,hkm,hat,hyb,g⟩
  have hjk:j < ms.length:=by simpa using hj
  obtain rfl:x=.ref ms[j].1:=by
   rw [List.getElem?_map,List.getElem?_eq_getElem hjk] at hx
   exact (Option.some.inj hx).symm
  obtain ⟨hk1,hk2,hk3⟩:=(hT1.m.same g).2 _ (List.getElem_mem hjk)
  have hhl:ns.length=j:=by
   have:=congrArg List.length hkm
   rw [List.length_map,List.length_map,List.length_take] at this
   lia
  refine ⟨ms[j].1,_,_,rfl,hk1,Zn ⟨_,rfl,_,rfl,ms[j].2.2.1,_,rfl,.inl hk2,fun l2 hl2=>⟨(by show 2≤sizeLine;decide),fun p2 hp2=>?_⟩⟩⟩
  have e1:=Qe hl2 (.lst ms[j].2.2.2.1)
  have e2:=Qe hp2 (.tup [.str ms[j].2.1,.ref l2])
  have e12:=e1.trans e2
  have hyb2:=e12 _ _ hyb
  have hl2x:l2≠ly:=fun z=>by rw [z,hyb] at hl2;cases hl2
  refine Qx (ys:=ns.map fun k=>V.ref k.1) hj hyb2 (by rw [List.length_map];lia) ⟨ns ++ [(p2,ms[j].2.1,l2,ms[j].2.2.2.1,ms[j].2.2.2.2)],by simp,?_,fun k hk=>?_,Qb,fun x u e=>by rw [Qg (Qh e hly)];exact e12 _ _ (g _ _ e)⟩
  ·rw [List.map_append,hkm,List.take_add_one,List.getElem?_eq_getElem hjk,List.map_append]
   rfl
  ·rcases List.mem_append.mp hk with z | z
   ·obtain ⟨a1,⟨a2,a3⟩,a4⟩:=hat k z
    exact ⟨(e12.seqT a1).put hyb2,⟨by rw [Qg a3];exact e12 _ _ a2,a3⟩,a4.mono fun _ _ h=>(e12.seqT h).put hyb2⟩
   ·have:k=(p2,ms[j].2.1,l2,ms[j].2.2.2.1,ms[j].2.2.2.2):=by simpa using z
    rw [this]
    exact ⟨SqT.put (SqT.of Qb) hyb2,⟨by rw [Qg hl2x];exact e2 _ _ Qb,hl2x⟩,hk3.mono fun _ _ h=>(e12.seqT h).put hyb2⟩
 rintro ys H2 ⟨ns,rfl,hkm,hat2,hyb,g2⟩
 rw [List.length_map,List.take_length] at hkm
 refine ⟨(by show 3≤sizeLine;decide),fun p hp=>?_⟩
 have k3:=Qe hp (.tup [.ref lx,sv,.ref ly])
 have g23:=g2.trans k3
 exact q p lx ly hs ns _ (g1.trans g23) ⟨SqT.of Qb,hWH.same g23,hT1.s.mono fun _ _=>g23.seqT,⟨SqL.of (k3 _ _ hyb),fun m hm=>by
  obtain ⟨a1,⟨a2,_⟩,a4⟩:=hat2 m hm
  exact ⟨k3.seqT a1,SqL.of (k3 _ _ a2),a4.mono fun _ _=>k3.seqT⟩⟩⟩ hkey hkm
end
end K71
namespace ST
open PySem TM TT
mutual
def rsT (S:Int→Stp):Tm→Stp
 | .node (.call m _) _ _=>S m
 | .node (.put n k a) _ bs=>if k=true then .op else .put n a (Op S bs)
def Op (S:Int→Stp):List Tm→List Stp
 | []=>[]
 | b :: r=>rsT S b :: Op S r
end
def Oh:List Stp→Stp
 | []=>.op
 | x :: r=>r.foldl met x
abbrev Rls:=List (List (Bool × Tm))
def Ov (S:List Stp):Int→Stp:=fun m=>(S[m.toNat]?).getD .op
def OU (rs:List (Bool × Tm)):Stp:=Oh ((rs.filter fun r=>r.1).map fun r=>rsT (fun _=>.op) r.2)
def OB (S:List Stp) (rs:List (Bool × Tm)):Stp:=Oh (rs.map fun r=>rsT (Ov S) r.2)
def D (ms:Rls):Nat→List Stp
 | 0=>ms.map OU
 | n + 1=>ms.map (OB (D ms n))
end ST
namespace ST
open PySem TM TT L2 K9
mutual
def OfK (rw:Str→List PNx):Tree Str→Str→Prop
 | .node n _ bs,k=>∃ r ∈ rw k,r.2.1=n∧OfKs rw bs r.2.2.2
def OfKs (rw:Str→List PNx):List (Tree Str)→List Str→Prop
 | [],ks=>ks=[]
 | b :: r,ks=>∃ k ks',ks=k :: ks'∧OfK rw b k∧OfKs rw r ks'
end
theorem OfKs.len {rw:Str→List PNx}:∀ {bs:List (Tree Str)} {ks:List Str},OfKs rw bs ks→bs.length=ks.length
 | [],ks,h=>by simp only [OfKs] at h;rw [h];rfl
 | b :: r,ks,h=>by
  simp only [OfKs] at h
  obtain ⟨k,ks',rfl,_,h2⟩:=h
  rw [List.length_cons,List.length_cons,OfKs.len h2]
theorem OfKs.get {rw:Str→List PNx}:∀ {bs:List (Tree Str)} {ks:List Str} {j:Nat} {k:Str},OfKs rw bs ks→ks[j]?=some k→∃ b,bs[j]?=some b∧OfK rw b k
 | [],ks,j,k,h,e=>by simp only [OfKs] at h;rw [h] at e;cases e
 | b :: r,ks,j,k,h,e=>by
  simp only [OfKs] at h
  obtain ⟨k0,ks',rfl,h1,h2⟩:=h
  cases j with
  | zero =>
   obtain rfl:k0=k:=by simpa using e
   exact ⟨b,rfl,h1⟩
  | succ j =>
   obtain ⟨b',e1,e2⟩:=OfKs.get (j:=j) (k:=k) h2 (by simpa using e)
   exact ⟨b',by simpa using e1,e2⟩
theorem OfKs.snoc {rw:Str→List PNx} {b:Tree Str} {k:Str} (hb:OfK rw b k):∀ {bs:List (Tree Str)} {ks:List Str},OfKs rw bs ks→OfKs rw (bs ++ [b]) (ks ++ [k])
 | [],ks,h=>by
  simp only [OfKs] at h
  subst h
  show OfKs rw [b] [k]
  simp only [OfKs]
  exact ⟨k,[],rfl,hb,rfl⟩
 | a :: r,ks,h=>by
  simp only [OfKs] at h
  obtain ⟨k0,ks',rfl,h1,h2⟩:=h
  show OfKs rw (a :: (r ++ [b])) (k0 :: (ks' ++ [k]))
  simp only [OfKs]
  exact ⟨k0,_,rfl,h1,OfKs.snoc hb h2⟩
end ST
namespace K71
open PySem L2 TM TT ST K9 K11
abbrev sRO:Stmt:=top 29
abbrev Ja:Stmt:=top 30
abbrev sMB:Stmt:=top 31
theorem ZL {ks:List KdT} {kd:KdT} (hn:(ks.map fun k=>k.2.1).Nodup) (hk:kd ∈ ks):Qz ks kd.2.1=kd.2.2.2:=by
 unfold Qz
 rw [Jv hn hk]
 rfl
def Xv (K:PySem.W.Frag):Sp:=fun vs H Q _=>∃ (tu wd lm:Addr) (sv:V) (ks:List KdT) (st:Tm) (ms:List MdT) (m:Nat) (md:MdT) (kd:KdT) (j:Nat) (r:PNx) (t:Tm),vs=[.ref tu,.int (m:Int),.str r.2.1]∧TurnD K H tu wd lm sv ks st ms∧WoodOk ks∧ms[m]?=some md∧kd ∈ ks∧kd.2.1=md.2.1∧md.2.2.2.2.length=kd.2.2.2.length∧kd.2.2.2[j]?=some r∧md.2.2.2.2[j]?=some t ∧
 ∀ (v:V) (H':Hp),Same H H'→TmV K H' v t→Q v H'
theorem Zs {rs:List PNx} (h:(rs.map fun t=>t.2.1).Nodup) {i j:Nat} {a b:PNx} (ha:rs[i]?=some a) (hb:rs[j]?=some b) (e:a.2.1=b.2.1):i=j:=by
 obtain ⟨hi,ei⟩:=List.getElem?_eq_some_iff.mp ha
 obtain ⟨hj,ej⟩:=List.getElem?_eq_some_iff.mp hb
 have nd:=List.pairwise_iff_getElem.mp (List.nodup_iff_pairwise_ne.mp h)
 rcases Nat.lt_trichotomy i j with z | z | z
 ·exact absurd (by rw [List.getElem_map,List.getElem_map,ei,ej];exact e) (nd i j (by rw [List.length_map];exact hi) (by rw [List.length_map];exact hj) z)
 ·exact z
 ·exact absurd (by rw [List.getElem_map,List.getElem_map,ei,ej];exact e.symm) (nd j i (by rw [List.length_map];exact hj) (by rw [List.length_map];exact hi) z)
section
variable {P:Program} {w:World} {K:PySem.W.Frag} {mg:Str→Option Value} {base:Heap} {f:Addr} {fd:FuncData}
theorem Nc:FnScope ["_law_turning_here", "_law_mode", "_law_name_here", "_law_kind", "_law_rules"] ["_law_turning_here", "_law_mode", "_law_name_here"] (defScope sRO):=(1:)
theorem NS (F:Fun K "_law_rule_of" "_law_rule_of" sRO f fd) (G:Gm mg) (RO:Fn P w K mg base 1 "_law_rows" ["_law_wood_here", "_law_kind"] (Yi K)):FnOk P w K mg base CX0 2 f fd ["_law_turning_here", "_law_mode", "_law_name_here"] (Xv K):=by
 refine F.ok Nc (9:) (3:)
 ·obtain ⟨tu,wd,lm,sv,ks,st,ms,m,md,kd,j,r,t,rfl,_⟩:=h
  rfl
 obtain ⟨tu,wd,lm,sv,ks,st,ms,m,md,kd,j,r,t,rfl,hT,wo,hm,hkd,ekd,hlen,hr1,ht1,q⟩:=h
 refine ⟨_,(Qf (Wq (Qk QF (Qk Qj (pv 0) Qd (5:)) (pv 1) (5:)) (ZS rfl (QB (Qw (i:=3) Nc.nd rfl (Or.inl rfl)) (QB (Qw (i:=4) Nc.nd rfl (Or.inl rfl)) ZB))))
  (Qi (Ql (Qk QF (Qy (CompG.many (xs:=["_law_row", "_law_rule_here"]) (caps:=["_law_name_here"]) (cap:=[2]) (cs:=[_]) rfl rfl (0:) (0:) (0:) (0:) (0:) (0:) rfl rfl rfl) rfl (VV rfl G.zip (Qa (Qp RO hr (Qa (Qk Qj (pv 0) Qd (5:)) (Qa (pv 3) Qc))) (Qa (pv 4) Qc))) (UG (CompG.many (xs:=["_law_row", "_law_rule_here"]) (caps:=["_law_name_here"]) (cap:=[2]) (cs:=[_]) rfl rfl (0:) (0:) (0:) (0:) (0:) (0:) rfl rfl rfl) rfl) (fun _ _ _ _=>ZF (Qr Zd (Qk (r:=Gk K) Qj (pv 0) Qd (5:)) (pv 2) (Qu _))) (fun _ _ _ _=>pv 1)) Qd (5:))))),?_⟩
 have hmd:=List.mem_of_getElem? hm
 obtain ⟨m1,m2,m3⟩:=hT.m.2 md hmd
 have hlu:=m3.length
 have hl10:=(wo.rows kd hkd).len
 obtain ⟨uj,huj,hjt⟩:=m3.get ht1
 have hjl:j < kd.2.2.2.length:=(List.getElem?_eq_some_iff.mp hr1).1
 refine ⟨_,rfl,tu,_,2,_,rfl,rfl,hT.tu,rfl,_,rfl,lm,_,_,.ref md.1,rfl,rfl,hT.m.1,QI (j:=m) (by rw [List.getElem?_map,hm];rfl),md.1,_,rfl,m1,rfl,_,_,rfl,_,_,rfl,rfl,?_⟩
 refine ⟨_,rfl,tu,_,0,_,rfl,rfl,hT.tu,rfl,_,rfl,wd,ks,kd,by rw [ekd];rfl,hT.w,wo.nd,wo.len,hkd,fun H1 g1=>⟨_,rfl,kd.2.2.1,md.2.2.1,_,md.2.2.2.1,rfl,g1.seq (hT.w.2 kd hkd).2.1,g1.seq m2,fun acc hacc=>?_⟩⟩
 have hz:(kd.2.2.2.map fun t=>V.ref t.1).length=md.2.2.2.1.length:=by rw [List.length_map];lia
 have hrow:=(hT.w.2 kd hkd).2
 refine M8 (K:=K) (xs:=kd.2.2.2.map fun t=>V.ref t.1) (zs:=md.2.2.2.1) (cs:=[some (.str r.2.1)]) (te:=Zu 1) hz (fun i ys H'=>H' acc=some (.lst ys)∧Same H1 H'∧ys=if i≤j then [] else [uj])
  ⟨Qb,Qe hacc _,by rw [if_pos (Nat.zero_le _)]⟩ ?_ ?_ ?_
 ·rintro i ys H' _ ⟨_,g,_⟩
  exact ⟨g.seq (g1.seq hrow.1),g.seq (g1.seq m2)⟩
 ·rintro i u v p ys H' hi hu hv hp ⟨hya,g,hys⟩
  have hir:i < kd.2.2.2.length:=by simpa using hi
  obtain rfl:u=.ref kd.2.2.2[i].1:=by
   rw [List.getElem?_map,List.getElem?_eq_getElem hir] at hu
   exact (Option.some.inj hu).symm
  have gp:=Qe hp (.tup [.ref kd.2.2.2[i].1,v])
  have ggp:=g.trans gp
  have hra:=hrow.2 _ (List.getElem_mem hir)
  refine ⟨_,rfl,_,_,0,_,rfl,rfl,(g1.trans ggp).seqT hra.1,rfl,_,rfl,rfl,_,rfl,?_⟩
  have hya2:=gp _ _ hya
  by_cases hc:kd.2.2.2[i].2.1=r.2.1
  ·have hij:=Zs (wo.rows kd hkd).nd (List.getElem?_eq_getElem hir) hr1 hc
   obtain rfl:uj=v:=by rw [hij] at hv;exact Option.some.inj (huj.symm.trans hv)
   have hy0:ys=[]:=by rw [hys,if_pos (4:)]
   have e:decide (V.str kd.2.2.2[i].2.1=V.str r.2.1)=true:=decide_eq_true (by rw [hc])
   rw [e]
   refine Zn ⟨_,rfl,Qx (ys:=ys) hi hya2 (by rw [hy0];decide) ⟨Qb,fun b u e=>?_,by rw [hy0,if_neg (4:)];rfl⟩⟩
   rw [Qg (Qh e hacc)];exact ggp _ _ e
  ·have hij:i≠j:=fun z=>hc (by
    subst z
    rw [List.getElem?_eq_getElem hir] at hr1
    rw [Option.some.inj hr1])
   have e:decide (V.str kd.2.2.2[i].2.1=V.str r.2.1)=false:=decide_eq_false fun z=>hc (V.str.inj z)
   rw [e]
   refine Zb (Zr hi (ys:=ys) ⟨hya2,ggp,?_⟩)
   rw [hys]
   by_cases h2:i < j
   ·rw [if_pos (4:),if_pos (4:)]
   ·rw [if_neg (4:),if_neg (4:)]
 rintro ys H2 ⟨hya,g2,hys⟩
 rw [List.length_map,if_neg (4:)] at hys
 subst hys
 exact ⟨acc,_,0,uj,rfl,rfl,SqL.of hya,QI (j:=0) rfl,q uj H2 (g1.trans g2) (hjt.mono fun _ _=>(g1.trans g2).seqT)⟩
end
end K71
namespace K71
open PySem L2 TM TT ST K9 K11
abbrev Jg:Stmt:=top 32
def Zw (K:PySem.W.Frag) (n:Nat):Sp:=fun vs H Q _=>∃ (d wd:Addr) (c:Int) (ks:List KdT) (kd:KdT) (dp:Nat),vs=[.ref d,.ref wd,.str kd.2.1,.int (dp:Int)]∧Dk H d∧WoodD K H d wd ks∧DWood c ks∧kd ∈ ks∧1≤dp∧dp≤n ∧
 ∀ (v:V) (H':Hp) (T:Tree Str),SameD d H H'→Dk H' d→TrV K H' v T→OfK (Qz ks) T kd.2.1→lv T≤dp→Q v H'
theorem Ge (p:List Str):PyData.eqv (.tuple (p.map PyData.str)) (.tuple [])=p.isEmpty:=by
 cases p <;> simp [PyData.eqv,PyData.eqvAll]
theorem Yb {K:PySem.W.Frag} {H:Hp}:∀ p:List Str,RdAll K H (p.map V.str) (p.map PyData.str)
 | []=>.nil
 | x :: r=>.cons (.str x) (Yb r)
section
variable {P:Program} {w:World} {K:PySem.W.Frag} {mg:Str→Option Value} {base:Heap} {f:Addr} {fd:FuncData}
theorem YO:FnScope ["_law_deck", "_law_wood_here", "_law_kind", "_law_deep", "_law_rows_here", "_law_name_here", "_law_branches", "_law_mark_here"] ["_law_deck", "_law_wood_here", "_law_kind", "_law_deep"] (defScope Jg):=(1:)
theorem MA {n:Nat} (F:Fun K "_law_tree" "_law_tree" Jg f fd) (G:Gm mg) (RD:Fn P w K mg base 1 "_law_draw" ["_law_deck", "_law_most"] Q9) (RM:Fn P w K mg base 2 "_law_mark" ["_law_deck"] Z0) (RO:Fn P w K mg base 1 "_law_rows" ["_law_wood_here", "_law_kind"] (Yi K))
 (R:Fn P w K mg base (n + 2) "_law_tree" ["_law_deck", "_law_wood_here", "_law_kind", "_law_deep"] (Zw K n)):FnOk P w K mg base CX0 (n + 3) f fd ["_law_deck", "_law_wood_here", "_law_kind", "_law_deep"] (Zw K (n + 1)):=by
 refine F.ok YO (9:) (3:)
 ·obtain ⟨d,wd,c,ks,kd,dp,rfl,_⟩:=h
  rfl
 obtain ⟨d,wd,c,ks,kd,dp,rfl,hd,hw,hW,hkd,hd1,hdn,q⟩:=h
 refine ⟨_,(Qf (Qq (i:=4) YO.nd rfl (Or.inl rfl) (Qp RO hr (Qa (pv 1) (Qa (pv 2) Qc)) (4:)))
  (Qf (Uo (QG (Qr Zd (pv 3) Qd (Qu _)) (Qi (Q8 (i:=4) (CompG.many (xs:=["_law_row"]) (caps:=[]) (cap:=[]) (cs:=[]) rfl rfl (0:) (0:) (0:) (0:) (0:) (0:) rfl rfl rfl) rfl (QH (pv 4)) (Q7 (CompG.many (xs:=["_law_row"]) (caps:=[]) (cap:=[]) (cs:=[]) rfl rfl (0:) (0:) (0:) (0:) (0:) (0:) rfl rfl rfl)) (fun _ _ _ _=>ZF (Qr (r:=Na K (A.deeper (PyProof.Rows.envOfC "_law_tree" (defScope Jg) s.heap.objs.size f cdv)) false) JK (Qk (r:=Gk K) Qj (pv 0) Qd (5:)) (QE Qc) (Qu _))) (fun _ _ _ _=>pv 0) YO.nd rfl rfl)) Qs))
  (Qf (Wq (Qk QF (pv 4) (Qp RD hr (Qa (pv 0) (Qa (Qo Qn rfl G.len PySem.boot_len (Qa (pv 4) Qc)) Qc)) (4:)) (5:)) (ZS rfl (QB (Qw (i:=5) YO.nd rfl (Or.inl rfl)) (QB (Qw (i:=6) YO.nd rfl (Or.inl rfl)) ZB))))
  (Qf (Qq (i:=7) YO.nd rfl (Or.inl rfl) (Qp RM hr (Qa (pv 0) Qc) (Nat.le_add_left 2 n)))
  (Qi (Ql (QE (Qa (pv 5) (Qa (pv 7) (Qa (QJ QO rfl G.tup PyProof.Rows.boot_tuple (Qa (Qy (CompG.many (xs:=["_law_branch"]) (caps:=["_law_deck", "_law_deep", "_law_wood_here"]) (cap:=[0,3,1]) (cs:=[_,_,_]) rfl rfl (0:) (0:) (0:) (0:) (0:) (0:) rfl rfl rfl) rfl (ZI (pv 6)) (Q7 (CompG.many (xs:=["_law_branch"]) (caps:=["_law_deck", "_law_deep", "_law_wood_here"]) (cap:=[0,3,1]) (cs:=[_,_,_]) rfl rfl (0:) (0:) (0:) (0:) (0:) (0:) rfl rfl rfl)) (fun _ _ _ _=>QT) (fun _ _ _ _=>Qp R hr (Qa (pv 1) (Qa (pv 3) (Qa (pv 0) (Qa (Qm YL (pv 2) Qd) Qc)))) (7:))) Qc)) Qc)))))))))),?_⟩
 have hrl:=(hw.1.2 kd hkd).2
 have hl3:=hW.few kd hkd
 refine ⟨_,rfl,_,rfl,wd,ks,kd,rfl,hw.1,hW.ok.nd,hW.ok.len,hkd,fun H1 g1=>?_⟩
 have hd1':=hd.same g1
 have hrl1:=hrl.same g1
 refine ⟨fun σ' H'=>∃ (lr:Addr) (rs:List PNx),σ'=[some (.ref d),some (.ref wd),some (.str kd.2.1),some (.int (dp:Int)),some (.ref lr),none,none,none]∧Same H H'∧RowsL K H' lr rs∧lr≠d∧rs≠[]∧rs.length≤3∧(∀ r ∈ rs,r ∈ kd.2.2.2)∧(dp=1→∀ r ∈ rs,r.2.2.2=[]),?_,?_⟩
 ·obtain ⟨r0,hr0,er0⟩:=hW.bare kd hkd
  refine ⟨_,rfl,rfl,_,rfl,Y1 (fun hc=>?_) (fun hc=>?_)⟩
  ·refine ⟨_,rfl,kd.2.2.1,rfl,⟨_,hrl1.1⟩,fun acc hacc=>?_⟩
   refine Uf (K:=K) (xs:=kd.2.2.2.map fun t=>V.ref t.1) (cs:=[]) (te:=Zu 0) (fun i ys H'=>ys=((kd.2.2.2.take i).filter fun r=>r.2.2.2.isEmpty).map (fun r=>V.ref r.1)∧H' acc=some (.lst ys)∧Same H1 H')
    ⟨rfl,Qb,Qe hacc _⟩ ?_ ?_ ?_
   ·rintro i ys H' _ ⟨_,_,g⟩
    exact (hrl1.same g).1
   ·rintro i x ys H' hi hx ⟨rfl,hya,g⟩
    have hik:i < kd.2.2.2.length:=by simpa using hi
    obtain rfl:x=.ref kd.2.2.2[i].1:=by
     rw [List.getElem?_map,List.getElem?_eq_getElem hik] at hx
     exact (Option.some.inj hx).symm
    have hra:=(hrl1.same g).2 _ (List.getElem_mem hik)
    have hkn:=(hW.ok.rows kd hkd).kn _ (List.getElem_mem hik)
    refine ⟨_,rfl,_,_,1,_,rfl,rfl,hra.1,rfl,(by show 0≤sizeLine;decide),fun p hp=>?_⟩
    have gp:=Qe hp (.tup [])
    have cl:(PyData.tuple (kd.2.2.2[i].2.2.2.map PyData.str)).canLay0=true:=by
     simp only [PyData.canLay0]
     exact YE _ hkn
    refine ⟨.tuple (kd.2.2.2[i].2.2.2.map PyData.str),.tuple [],.tup (gp.seqT hra.2) (Yb _),.tup (SqT.of Qb) .nil,cl,by decide,hr.fit (Nat.le_trans (Nat.min_le_right _ _) (by simp [PyData.depth,PyData.depthAll])),_,rfl,?_⟩
    rw [if_neg Bool.false_ne_true,Ge]
    have hya2:=gp _ _ hya
    have elen:(((kd.2.2.2.take i).filter fun r=>r.2.2.2.isEmpty).map (fun r=>V.ref r.1)).length < 5000:=by
     rw [List.length_map]
     exact Nat.lt_of_le_of_lt (List.length_filter_le _ _) (by rw [List.length_take];lia)
    refine NL (fun hb=>?_) (fun hb=>?_)
    ·refine ⟨_,rfl,Qx hi hya2 elen ⟨?_,Qb,fun x u e=>by rw [Qg (Qh e hacc)];exact gp _ _ (g _ _ e)⟩⟩
     rw [List.take_add_one,List.getElem?_eq_getElem hik,List.filter_append,List.map_append]
     simp [hb]
    ·refine Zr hi (ys:=((kd.2.2.2.take i).filter fun r=>r.2.2.2.isEmpty).map (fun r=>V.ref r.1)) ⟨?_,hya2,g.trans gp⟩
     rw [List.take_add_one,List.getElem?_eq_getElem hik,List.filter_append]
     simp [hb]
   rintro ys H2 ⟨rfl,hya,g2⟩
   rw [List.length_map,List.take_length] at hya
   have hacc0:H acc=none:=g1.free hacc
   refine ⟨acc,kd.2.2.2.filter fun r=>r.2.2.2.isEmpty,rfl,g1.trans g2,⟨SqL.of hya,fun t ht=>(hrl1.same g2).2 t (List.mem_filter.mp ht).1⟩,hd.ne hacc0,fun z=>?_,Nat.le_trans (List.length_filter_le _ _) hl3,fun r hr=>(List.mem_filter.mp hr).1,fun _ r hr=>List.isEmpty_iff.mp (List.mem_filter.mp hr).2⟩
   have:r0 ∈ kd.2.2.2.filter fun r=>r.2.2.2.isEmpty:=List.mem_filter.mpr ⟨hr0,by rw [er0];rfl⟩
   rw [z] at this;cases this
  ·refine ⟨kd.2.2.1,kd.2.2.2,rfl,g1,hrl1,hw.2.2 kd hkd,fun z=>(by rw [z] at hr0;cases hr0),hl3,fun r hr=>hr,fun z=>?_⟩
   exact absurd (decide_eq_true (by rw [z];rfl)) hc
 rintro σ' H2 ⟨lr,rs,rfl,g2,hrs,hlr,hne,hrs3,hsub,hbare⟩
 have hd2:=hd.same g2
 have hpos:0 < rs.length:=List.length_pos_iff.mpr hne
 refine ⟨_,rfl,_,rfl,_,rfl,lr,_,rfl,.inl hrs.1,d,_,rfl,hd2,(by rw [List.length_map];show (0:Int) < ((rs.length:Nat):Int);lia),fun x H3 g3 hd3 x0 x1=>?_⟩
 rw [List.length_map] at x1
 obtain ⟨r,hrx⟩ : ∃ r,rs[x.toNat]?=some r:=⟨_,List.getElem?_eq_getElem (4:)⟩
 have hrm:=List.mem_of_getElem? hrx
 have hra:=hrs.2 r hrm
 refine ⟨lr,_,_,.ref r.1,rfl,rfl,g3.seqL hlr hrs.1,Uh x0 (by rw [List.getElem?_map,hrx];rfl),r.1,_,rfl,g3.seqT hd2 hra.1,rfl,_,_,rfl,_,_,rfl,rfl,?_⟩
 refine ⟨_,rfl,d,rfl,hd3,fun mk H4 g4 hd4=>?_⟩
 have g24:=g3.trans g4
 have gH4:SameD d H H4:=(SameD.of g2).trans g24
 have hb4:SqT K H4 r.2.2.1 (r.2.2.2.map V.str):=g24.seqT hd2 hra.2
 have hw4:WoodD K H4 d wd ks:=hw.sameD gH4 hd
 have hrk:=hsub r hrm
 have hkl:=(hW.ok.rows kd hkd).kl r hrk
 refine ⟨_,rfl,_,rfl,_,rfl,r.2.2.1,rfl,⟨_,hb4⟩,fun acc hacc=>?_⟩
 have had:=hd4.ne hacc
 refine Yo (K:=K) (xs:=r.2.2.2.map V.str) (cs:=[some (.ref d),some (.int (dp:Int)),some (.ref wd)]) (tt:=fun _ H Q=>Q true H) (te:=Jn (Zw K n) [] E0 (Ze (Zu 1) (Ze (Zu 3) (Ze (Zu 0) (Ze (tOp (rI0 fun i j=>.int (i - j)) (Zu 2) (tC (.int 1))) Y3))))) (fun i ys H'=>∃ us:List (Tree Str),H' acc=some (.lst ys)∧SameD d H4 H'∧Dk H' d∧TrAll K H' ys us∧us.length=i∧(∀ u ∈ us,lv u≤dp - 1)∧OfKs (Qz ks) us (r.2.2.2.take i))
  ⟨[],Qb,SameD.new hacc,hd4.upd had,.nil,rfl,fun u hu=>(nomatch hu),by simp only [OfKs];rfl⟩ ?_ ?_ ?_
 ·rintro i ys H' _ ⟨us,_,g,_⟩
  exact g.seqT hd4 hb4
 ·rintro i x ys H' hi hx ⟨us,hya,g,hdk,hus,hul,hlv,hof⟩
  have hir:i < r.2.2.2.length:=by simpa using hi
  have hlen:=hus.length
  obtain rfl:x=.str r.2.2.2[i]:=by
   rw [List.getElem?_map,List.getElem?_eq_getElem hir] at hx
   exact (Option.some.inj hx).symm
  have hdp:dp≠1:=fun z=>by
   have:=hbare z r hrm
   rw [this] at hir;exact absurd hir (Nat.not_lt_zero _)
  obtain ⟨kd2,hkd2,ek⟩:=List.mem_map.mp (hW.kin kd hkd r hrk _ (List.getElem_mem hir))
  refine Zn ⟨_,rfl,_,rfl,_,rfl,_,rfl,_,_,rfl,rfl,d,wd,c,ks,kd2,dp - 1,?_,hdk,hw4.sameD g hd4,hW,hkd2,by lia,by lia,fun v5 H5 T5 g5 hd5 hv5 hof5 hlv5=>?_⟩
  ·have e1:((dp - 1:Nat):Int)=(dp:Int) - 1:=by lia
   rw [ek,e1];rfl
  have hya5:=g5 _ _ had hya
  refine Qx (ys:=ys) hi hya5 (4:) ⟨us ++ [T5],Qb,(g.trans g5).put hacc,hd5.upd had,?_,by simp [hul],fun u hu=>?_,?_⟩
  ·exact TrAll.append (hus.mono fun _ _ h=>(g5.seqT hdk h).put hya5) (.cons (hv5.mono fun _ _ h=>h.put hya5) .nil)
  ·rcases List.mem_append.mp hu with z | z
   ·exact hlv u z
   ·obtain rfl:u=T5:=by simpa using z
    exact hlv5
  ·rw [List.take_add_one,List.getElem?_eq_getElem hir]
   exact OfKs.snoc (by rw [← ek];exact hof5) hof
 rintro ys H5 ⟨us,hya,g5,hd5,hus,hul,hlv,hof⟩
 rw [List.length_map] at hul hof
 rw [List.take_length] at hof
 have hlen:=hus.length
 refine ⟨acc,ys,rfl,.inl ⟨SqL.of hya,fun pt hpt=>⟨(by show 3≤sizeLine;decide),fun pp hpp=>?_⟩⟩⟩
 have ga:=Qe hpt (.tup ys)
 have gb:=Qe hpp (.tup [.str r.2.1,.int mk,.ref pt])
 have gab:=ga.trans gb
 refine q (.ref pp) _ (.node r.2.1 mk us) (gH4.trans (g5.trans (SameD.of gab))) (hd5.same gab) (.mk (SqT.of Qb) (gb.seqT (SqT.of Qb)) (hus.mono fun _ _=>gab.seqT) (4:)) ?_ ?_
 ·simp only [OfK]
  exact ⟨r,by rw [ZL hW.ok.nd hkd];exact hrk,rfl,hof⟩
 ·simp only [lv]
  have:=Ug hlv
  lia
theorem Vz {k:Nat}:FnOk P w K mg base CX0 k f fd ["_law_deck", "_law_wood_here", "_law_kind", "_law_deep"] (Zw K 0):=by
 have no:∀ vs H Q E,¬ Zw K 0 vs H Q E:=fun vs H Q E h=>by
  obtain ⟨d,wd,c,ks,kd,dp,_,_,_,_,_,h1,h0,_⟩:=h
  lia
 exact ⟨fun vs H Q E h=>absurd h (no vs H Q E),fun A outer s H args us vs Q E _ _ _ _ h=>absurd h (no vs H Q E)⟩
theorem Xn (F:Fun K "_law_tree" "_law_tree" Jg f fd) (G:Gm mg) (RD:Fn P w K mg base 1 "_law_draw" ["_law_deck", "_law_most"] Q9) (RM:Fn P w K mg base 2 "_law_mark" ["_law_deck"] Z0) (RO:Fn P w K mg base 1 "_law_rows" ["_law_wood_here", "_law_kind"] (Yi K))
 (hb:Binds K fd ["_law_deck", "_law_wood_here", "_law_kind", "_law_deep"] []) (hm:mg "_law_tree" = some (.ref f)):∀ n:Nat,FnOk P w K mg base CX0 (n + 2) f fd ["_law_deck", "_law_wood_here", "_law_kind", "_law_deep"] (Zw K n)
 | 0=>Vz
 | n + 1=>MA F G RD RM RO ⟨f,fd,Xn F G RD RM RO hb hm n,hb,F.kp,hm⟩
end
end K71
namespace L2
open PySem PySem.Spec PyProof.Rows PySem.W
theorem WY:∀ {vs:List Value} {fs:List Int},vs.length=fs.length→(∀ (j:Nat) (v:Value),vs[j]?=some v→∃ n t,fs[j]?=some n∧v=Value.int n t)→IntsAre vs fs
 | [],[],_,_=>.nil
 | [],_ :: _,h,_=>by cases h
 | _ :: _,[],h,_=>by cases h
 | v :: vs,f :: fs,h,k=>by
  obtain ⟨n,t,e,rfl⟩:=k 0 v rfl
  obtain rfl:f=n:=by simpa using e
  exact .cons f t (WY (by simpa using h) fun j v hv=>k (j + 1) v hv)
theorem YA:∀ {vs:List Value} {fs:List Int},IntsAre vs fs→Vals (fs.map V.int) vs
 | _,_,.nil=>.nil
 | _,_,.cons n t h=>.cons ⟨t,rfl⟩ (YA h)
section
variable {prog:Program} {w:World} {A:Around} {E:Value→Shared→Prop} {s:Shared}
theorem XA {d:Addr} {kvs:List (Key × Value)} {Q:Value→Shared→Prop} (hh:A.handled=none) (lo:(d == sysModules)=false) (hd:s.heap.DictOf (Qt prog w) d kvs) (h64:kvs.length < 64)
 (h:∀ (h1:Heap) (tk:Nat) (vs:List Value),(∀ b o,s.heap.get? b=some o→h1.get? b=some o)→vs.length=kvs.length→(∀ (j:Nat) (v:Value),vs[j]?=some v→∃ k x,kvs[j]?=some (k,x)∧(Qt prog w).is k v=true) →
  (h1.push (seqObj "list" vs.toArray 0)).get? h1.objs.size=some (seqObj "list" vs.toArray 0) →
  wpAny (15:) A.in1.in1 (Builtin.«list.sort» ⟨[.ref h1.objs.size],[]⟩) (fun fin s'=>∃ v,fin=.done (.ret v)∧Q (.ref h1.objs.size) s') E { s with heap:=h1.push (seqObj "list" vs.toArray 0),toks:=tk }) :
 wpAny (15:) A (call (.builtin "sorted") [.ref d]) Q E s:=by
 obtain ⟨ep,hat⟩:=hd.dictAt
 refine Calls.call_function_entry kind_sorted plain_sorted entry_sorted (args_sorted1 _) ?_
 unfold Builtin.«sorted»
 refine wpAny_bind (m:=checkCount "sorted" 1 1 _) (wpAny_pure ?_)
 refine wpAny_bind (kdu_collect (A:=A.in1) (kdl_dict (knd:=Qt prog w) (kvs:=kvs) (ep:=ep) lo) hh hat (by rw [sizeLine_eq];lia) fun h1 tk acc hk1 hacc=>?_)
 have hl:acc.toList.length=kvs.length:=by rw [Array.length_toList];exact hacc.1
 refine wpAny_bind (wpAny_newList ?_ (by rw [hl,sizeLine_eq];lia))
 have hoL:(h1.push (seqObj "list" acc.toList.toArray 0)).get? h1.objs.size=some (seqObj "list" acc.toList.toArray 0):=Heap.get?_push_size _ rfl
 refine wpAny_bind (wpAny_holding (wpAny_call_entry slot_list_sort ⟨_,hoL,rfl⟩ entry_list_sort (wpAny_mono (h h1 tk acc.toList hk1 hl (fun j v e=>hacc.2 j v (by rw [← Array.getElem?_toList];exact e)) hoL) (fun fin s' hq=>?_) fun _ _ e=>e) (args_list_sort _)))
 obtain ⟨v,rfl,q⟩:=hq
 exact ⟨_,rfl,wpAny_pure ⟨_,rfl,q⟩⟩
end
section
variable {X:Cx}
theorem UX (hc:X.calm=true):QN X (.builtin "sorted") (fun xs H Q=>∃ (d:Addr) (kvs:List (Key × V)) (fs:List Int),xs=[.ref d]∧H d=some (.dK kvs)∧kvs.map (·.1)=fs.map Sum.inl∧fs.length < 64 ∧
 ∀ (out:List Int) p,out.Perm fs→out.Pairwise (·≤·)→H p=none→Q (.ref p) (upd H p (.lst (out.map V.int)))):=by
 intro pins s σ H xs us Q I r h
 obtain ⟨d,kvs,fs,rfl,hd,hk,h64,q⟩:=h
 cases r with
 | cons r rr =>
  cases rr
  obtain rfl:_=Value.ref d:=r
  obtain ⟨z,lo,vs,rkv,hD⟩:=MQ I.hok hd
  have hlen:kvs.length=fs.length:=by have:=congrArg List.length hk;simpa using this
  have hlv:=rkv.length
  refine XA (I.ok.hd hc) lo hD (4:) fun h1 tk ks hk1 hl hks hoL=>?_
  have hI:IntsAre ks fs:=by
   refine WY (4:) fun j v hv=>?_
   obtain ⟨k,x,e,his⟩:=hks j v hv
   have e2:(vs.map (·.1))[j]?=some k:=by rw [List.getElem?_map,e];rfl
   rw [KV.keys' rkv,hk,List.getElem?_map] at e2
   cases ef:fs[j]? with
   | none=>rw [ef] at e2;cases e2
   | some n =>
    rw [ef] at e2
    have e3:(Sum.inl n:Key)=k:=Option.some.inj e2
    subst e3
    have his':Ut (Sum.inl n) v=true:=his
    rcases QC his' with ⟨i,t,e4,e5⟩ | ⟨y,t,e4,_⟩
    ·cases e4
     exact ⟨n,t,rfl,e5⟩
    ·cases e4
  have I1:Inv X pins σ H { s with heap:=h1,toks:=tk }:=I.kept hk1
  refine list_sort_tree hoL hI (4:) fun out ns' a1 a2 a3=>⟨_,rfl,?_⟩
  have hfr:H h1.objs.size=none:=I1.hok.fresh (7:)
  obtain ⟨e,he⟩:=sortedHeap_at (vs:=ks) (out:=out) hoL
  refine ⟨.ref h1.objs.size,_,I1.laid (t':=tk) (o:=.lst (ns'.map V.int)) (fun b o g=>?_) (7:) ?_,rfl,q ns' _ a2 a3 hfr⟩
  ·have hlt:b < h1.objs.size:=Heap.lt_size g
   exact (sortedHeap_old (Nat.ne_of_lt hlt) (by rw [size_push'];exact Nat.lt_succ_of_lt hlt)).trans (Heap.get?_push_of_some _ g)
  ·exact ⟨by rw [List.length_map,a2.length_eq,sizeLine_eq];lia,out.toList,e,YA a1,by rw [Array.toArray_toList];exact he⟩
end
end L2
namespace L2
open PySem PySem.Spec PyProof.Rows
section
variable {prog:Program} {w:World} {A:Around} {E:Value→Shared→Prop} {s:Shared}
theorem Vh {zp ti tu j1 j2 t1 t2:Addr} {n1 n2:Nat} {us vs:Array Value} {p q c d:Value} {Q:Value→Shared→Prop} (Ap:ZipApart zp ti tu j1 j2 t1 t2)
 (gz:IsZip s.heap zp ti tu .none) (gi:IsPair s.heap ti (.ref j1) (.ref j2)) (gu:IsPair s.heap tu c d)
 (w1:s.heap.IsTupleIter j1 t1 n1) (w2:s.heap.IsListIter j2 t2 n2) (l1:s.heap.IsTuple t1 us) (l2:s.heap.IsList t2 vs) (ep:us[n1]?=some p) (eq:vs[n2]?=some q)
 (k:∀ h',IsZip h' zp ti tu (rawInt s.heap.objs.size)→IsPair h' tu p q→h'.IsTupleIter j1 t1 (n1 + 1)→h'.IsListIter j2 t2 (n2 + 1)→IsPair h' s.heap.objs.size p q →
  (10:)→Q (.ref s.heap.objs.size) { s with heap:=h' }) :
 wpAny (15:) A (Builtin.«zip.__next__» ⟨[.ref zp],[]⟩) (fun fin s'=>∃ v,fin=.done (.ret v)∧Q v s') E s:=by
 show wpAny _ _ (field (.ref zp) 2 >>= _) _ _ _
 refine wpAny_bind (wpAny_field gz rfl (x:=.bool false) rfl ?_)
 show wpAny _ _ (field (.ref zp) 3 >>= _) _ _ _
 refine wpAny_bind (wpAny_field gz rfl (x:=.ref ti) rfl ?_)
 refine wpAny_bind (wpAny_seqItems gi rfl ?_)
 show wpAny _ _ (Builtin.SmallTypes.ownedTupleIsFree (.ref zp) >>= _) _ _ _
 refine wpAny_bind ?_;(unfold Builtin.SmallTypes.ownedTupleIsFree);refine wpAny_bind (wpAny_field gz rfl (x:=.none) rfl (wpAny_pure ?_))
 simp only [if_true]
 refine wpAny_bind (wpAny_rule (wpAny_bind (wpAny_field gz rfl (x:=.ref tu) rfl ?_)))
 refine wpAny_bind (wpAny_setField_rec gz (by simp) fun ha gza sa=>?_)
 replace gza:IsZip ha zp ti tu .ellipsis:=gza
 refine wpAny_bind ?_
 simp only [List.forIn_cons,List.forIn_nil,List.zipIdx_cons,List.zipIdx_nil]
 refine wpAny_bind (wpAny_bind (wpAny_onRaise ?_))
 show wpAny _ _ (Builtin.SmallTypes.nextOf (.ref j1) >>= _) _ _ _
 refine wpAny_bind (Za (w1.extBut sa.extBut Ap.i1z) (l1.extBut sa.extBut Ap.l1z) ep fun hb w1b sb=>wpAny_pure ?_)
 have gub:IsPair hb tu c d:=sb.extBut _ _ Ap.TOi1 (sa.extBut _ _ Ap.TOz gu)
 refine wpAny_bind (wpAny_seqItems gub rfl (wpAny_bind (wpAny_updateSeq_pair gub fun hc guc sc=>?_)))
 replace guc:IsPair hc tu p d:=guc
 refine wpAny_bind (wpAny_letGo (wpAny_pure (wpAny_bind (wpAny_bind (wpAny_onRaise ?_)))))
 show wpAny _ _ (Builtin.SmallTypes.nextOf (.ref j2) >>= _) _ _ _
 refine wpAny_bind (wpAny_nextOf_list_item (((w2.extBut sa.extBut Ap.i2z).extBut sb.extBut Ap.i12.symm).extBut sc.extBut Ap.TOi2.symm) (((l2.extBut sa.extBut Ap.l2z).extBut sb.extBut Ap.l2i1).extBut sc.extBut Ap.l2TO) eq fun hd w2d sd=>wpAny_pure ?_)
 have gud:IsPair hd tu p d:=sd.extBut _ _ Ap.TOi2 guc
 refine wpAny_bind (wpAny_seqItems gud rfl (wpAny_bind (wpAny_updateSeq_pair gud fun he gue se=>?_)))
 replace gue:IsPair he tu p q:=gue
 refine wpAny_bind (wpAny_letGo (wpAny_pure (wpAny_pure (wpAny_bind (wpAny_seqItems gue rfl (wpAny_bind (wpAny_newTuple ?_)))))))
 have size5:he.objs.size=s.heap.objs.size:=by rw [se.1,sd.1,sc.1,sb.1,sa.1]
 have gze:IsZip he zp ti tu .ellipsis:=se.extBut _ _ Ap.TOz.symm (sd.extBut _ _ Ap.i2z.symm (sc.extBut _ _ Ap.TOz.symm (sb.extBut _ _ Ap.i1z.symm gza)))
 have kept5:∀ b o,b≠zp→b≠tu→b≠j1→b≠j2→s.heap.get? b=some o→he.get? b=some o:=fun b o b1 b2 b3 b4 e=>se.extBut _ _ b2 (sd.extBut _ _ b4 (sc.extBut _ _ b2 (sb.extBut _ _ b3 (sa.extBut _ _ b1 e))))
 have w1e:he.IsTupleIter j1 t1 (n1 + 1):=((w1b.extBut sc.extBut Ap.TOi1.symm).extBut sd.extBut Ap.i12).extBut se.extBut Ap.TOi1.symm
 have w2e:he.IsListIter j2 t2 (n2 + 1):=w2d.extBut se.extBut Ap.TOi2.symm
 have lz:zp < he.objs.size:=Heap.lt_size gze
 show wpAny _ _ (Builtin.SmallTypes.ownedTupleHandOut (.ref zp) (.ref he.objs.size) >>= _) _ _ _
 refine wpAny_bind ?_;(unfold Builtin.SmallTypes.ownedTupleHandOut)
 have gzf:IsZip (he.push { cls:=.type "tuple", data:=.seq #[p,q] }) zp ti tu .ellipsis:=Heap.get?_push_of_some _ gze
 refine wpAny_bind (wpAny_setField_rec gzf (by simp) fun hg gzg sg=>?_)
 replace gzg:IsZip hg zp ti tu (rawInt he.objs.size):=gzg
 refine wpAny_setField_rec gzg (by simp) fun hh gzh sh=>?_
 replace gzh:IsZip hh zp ti tu (rawInt he.objs.size):=gzh
 have upw:∀ b o,b≠zp→he.get? b=some o→hh.get? b=some o:=fun b o b1 e=>sh.extBut _ _ b1 (sg.extBut _ _ b1 (Heap.get?_push_of_some _ e))
 have gnew:IsPair hh he.objs.size p q:=sh.extBut _ _ (Nat.ne_of_gt lz) (sg.extBut _ _ (Nat.ne_of_gt lz) (Heap.get?_push_size _ rfl))
 rw [size5] at gzh gnew
 refine wpAny_pure ⟨_,rfl,?_⟩
 show Q (.ref he.objs.size) _
 rw [size5]
 exact k hh gzh (upw _ _ Ap.TOz gue) (w1e.at fun o e=>upw _ o Ap.i1z e) (w2e.at fun o e=>upw _ o Ap.i2z e) gnew fun b o b1 b2 b3 b4 e=>upw b o b1 (kept5 b o b1 b2 b3 b4 e)
theorem VX {zp ti tu j1 j2 t1 t2:Addr} {n1 n2:Nat} {us vs:Array Value} {c d:Value} {Q:Fin→Shared→Prop} (hh:A.handled=none) (Ap:ZipApart zp ti tu j1 j2 t1 t2)
 (gz:IsZip s.heap zp ti tu .none) (gi:IsPair s.heap ti (.ref j1) (.ref j2)) (gu:IsPair s.heap tu c d)
 (w1:s.heap.IsTupleIter j1 t1 n1) (l1:s.heap.IsTuple t1 us) (ep:us[n1]?=none)
 (k:∀ h' e,(10:)→(∃ o,h'.get? e=some o∧o.cls=.type "StopIteration")→E (.ref e) { s with heap:=h' }) :
 wpAny (15:) A (Builtin.«zip.__next__» ⟨[.ref zp],[]⟩) Q E s:=by
 show wpAny _ _ (field (.ref zp) 2 >>= _) _ _ _
 refine wpAny_bind (wpAny_field gz rfl (x:=.bool false) rfl ?_)
 show wpAny _ _ (field (.ref zp) 3 >>= _) _ _ _
 refine wpAny_bind (wpAny_field gz rfl (x:=.ref ti) rfl ?_)
 refine wpAny_bind (wpAny_seqItems gi rfl ?_)
 show wpAny _ _ (Builtin.SmallTypes.ownedTupleIsFree (.ref zp) >>= _) _ _ _
 refine wpAny_bind ?_;(unfold Builtin.SmallTypes.ownedTupleIsFree);refine wpAny_bind (wpAny_field gz rfl (x:=.none) rfl (wpAny_pure ?_))
 simp only [if_true]
 refine wpAny_bind (wpAny_rule (wpAny_bind (wpAny_field gz rfl (x:=.ref tu) rfl ?_)))
 refine wpAny_bind (wpAny_setField_rec gz (by simp) fun ha gza sa=>?_)
 replace gza:IsZip ha zp ti tu .ellipsis:=gza
 refine wpAny_bind ?_
 simp only [List.forIn_cons,List.forIn_nil,List.zipIdx_cons,List.zipIdx_nil]
 refine wpAny_bind (wpAny_bind (wpAny_onRaise ?_))
 show wpAny _ _ (Builtin.SmallTypes.nextOf (.ref j1) >>= _) _ _ _
 refine wpAny_bind (YU hh (w1.extBut sa.extBut Ap.i1z) (l1.extBut sa.extBut Ap.l1z) ep fun hb e sb ge=>?_)
 obtain ⟨oe,hoe,hce⟩:=ge
 have gzb:IsZip hb zp ti tu .ellipsis:=sb _ _ Ap.i1z.symm gza
 have nez:e≠zp:=fun x=>by subst x;rw [gzb] at hoe;cases hoe;simp at hce
 refine wpAny_setField_rec gzb (by simp) fun hc _ sc=>k hc e (fun b o b1 _ b3 _ x=>sc.extBut _ _ b1 (sb _ _ b3 (sa.extBut _ _ b1 x))) ⟨oe,sc.extBut _ _ nez hoe,hce⟩
theorem YT {zp ti tu j1 j2 t1 t2:Addr} {n1 n2:Nat} {us vs:Array Value} {p q c d:Value} {Q:Option Value→Shared→Prop} (Ap:ZipApart zp ti tu j1 j2 t1 t2)
 (gz:IsZip s.heap zp ti tu .none) (gi:IsPair s.heap ti (.ref j1) (.ref j2)) (gu:IsPair s.heap tu c d)
 (w1:s.heap.IsTupleIter j1 t1 n1) (w2:s.heap.IsListIter j2 t2 n2) (l1:s.heap.IsTuple t1 us) (l2:s.heap.IsList t2 vs) (ep:us[n1]?=some p) (eq:vs[n2]?=some q)
 (k:∀ h',IsZip h' zp ti tu (rawInt s.heap.objs.size)→IsPair h' tu p q→h'.IsTupleIter j1 t1 (n1 + 1)→h'.IsListIter j2 t2 (n2 + 1)→IsPair h' s.heap.objs.size p q →
  (10:)→Q (some (.ref s.heap.objs.size)) { s with heap:=h' }) :
 wpAny (15:) A (pyNext (.ref zp)) Q E s:=by
 have tz:s.TypeIs (.ref zp) "zip" := ⟨_,gz,rfl⟩
 unfold pyNext
 exact wpAny_bind (wpAny_attempt (wpAny_callSpecial?_slot (name:=Str.ofString "__next__") tz F.slot_zip_next (wpAny_call_entry F.slot_zip_next tz F.entry_zip_next (Vh Ap gz gi gu w1 w2 l1 l2 ep eq fun h' a1 a2 a3 a4 a5 a6=>wpAny_pure (k h' a1 a2 a3 a4 a5 a6)) (F.args_zip_next_1 _))))
theorem Y7 {zp ti tu j1 j2 t1 t2:Addr} {n1 n2:Nat} {us:Array Value} {c d:Value} {Q:Option Value→Shared→Prop} (hh:A.handled=none) (Ap:ZipApart zp ti tu j1 j2 t1 t2)
 (gz:IsZip s.heap zp ti tu .none) (gi:IsPair s.heap ti (.ref j1) (.ref j2)) (gu:IsPair s.heap tu c d) (w1:s.heap.IsTupleIter j1 t1 n1) (l1:s.heap.IsTuple t1 us) (ep:us[n1]?=none)
 (k:∀ h',(10:)→Q none { s with heap:=h' }):wpAny (15:) A (pyNext (.ref zp)) Q E s:=by
 have tz:s.TypeIs (.ref zp) "zip" := ⟨_,gz,rfl⟩
 unfold pyNext
 refine wpAny_bind (wpAny_attempt (wpAny_callSpecial?_slot (name:=Str.ofString "__next__") tz F.slot_zip_next (wpAny_call_entry F.slot_zip_next tz F.entry_zip_next (VX hh (n2:=n2) (vs:=us) Ap gz gi gu w1 l1 ep fun h' e hk ge=>?_) (F.args_zip_next_1 _))))
 obtain ⟨o,ho,hc⟩:=ge
 exact wpAny_bind (wpAny_isInstance (T:="StopIteration") (b:=true) ⟨o,ho,hc⟩ isSubtype_stop (wpAny_pure (k _ hk)))
abbrev zM1 (h:Heap) (t1:Addr):Heap:=h.push { cls:=.type "tuple_iterator", data:=.fields #[.ref t1,.int 0 0] }
abbrev zM2 (h:Heap) (t1 t2:Addr):Heap:=(zM1 h t1).push { cls:=.type "list_iterator", data:=.fields #[.ref t2,.int 0 0] }
abbrev zM3 (h:Heap) (t1 t2:Addr):Heap:=(zM2 h t1 t2).push { cls:=.type "tuple", data:=.seq #[.ref h.objs.size,.ref (zM1 h t1).objs.size] }
abbrev zM4 (h:Heap) (t1 t2:Addr):Heap:=(zM3 h t1 t2).push { cls:=.type "tuple", data:=.seq #[.none,.none] }
abbrev zM5 (h:Heap) (t1 t2:Addr):Heap:=(zM4 h t1 t2).push { cls:=.type "zip", data:=.fields #[.none,.bool false,.bool false,.ref (zM2 h t1 t2).objs.size,.ref (zM3 h t1 t2).objs.size] }
theorem GV (t1 t2:Addr) (us vs:Array Value) :
 Meets (Builtin.«zip.__new__» ⟨[.type "zip", .ref t1,.ref t2],[]⟩) (fun _ R s=>s.heap.IsTuple t1 us∧s.heap.IsList t2 vs ∧
  R (.ok (.ret (.ref (zM4 s.heap t1 t2).objs.size))) { s with heap:=zM5 s.heap t1 t2 }) :=
 .of_wp fun prog w A R s h=>by
  obtain ⟨hp,g,d,tk,os⟩:=s;obtain ⟨l1,l2,h⟩:=h
  have hsub:=sub_zip
  have L1:Heap.IsTuple (Shared.heap ⟨hp,g,d,tk,os⟩) t1 us:=l1
  have L2:Heap.IsList (Shared.heap ⟨hp.push { cls:=.type "tuple_iterator", data:=.fields #[.ref t1,.int 0 0] },g,d,tk,os⟩) t2 vs:=let ⟨o,e,r⟩:=l2;⟨o,Heap.get?_push_of_some _ e,r⟩
  wp_walk using wpAny_pyIter_tuple L1,wpAny_pyIter_list L2
  exact ⟨_,rfl,h⟩
theorem W2 {t1 t2:Addr} {us vs:Array Value} {Q:Value→Shared→Prop} (l1:s.heap.IsTuple t1 us) (l2:s.heap.IsList t2 vs)
 (h:∀ h',IsZip h' (s.heap.objs.size + 4) (s.heap.objs.size + 2) (s.heap.objs.size + 3) .none→IsPair h' (s.heap.objs.size + 2) (.ref s.heap.objs.size) (.ref (17:)) →
  IsPair h' (s.heap.objs.size + 3) .none .none→h'.IsTupleIter s.heap.objs.size t1 0→h'.IsListIter (17:) t2 0 →
  (∀ c o,s.heap.get? c=some o→h'.get? c=some o)→Q (.ref (s.heap.objs.size + 4)) { s with heap:=h' }) :
 wpAny (15:) A (call (.type "zip") [.ref t1,.ref t2]) Q E s:=by
 refine callType_new F.called_zip (by decide) (F.typeCall_zip_2 _ _) (F.newCall_zip_2 _ _) (fun obj=>F.args_object_init_3 obj _ _) F.entry_zip_new (GV t1 t2 us vs) ⟨l1,l2,?_⟩
 have q1:(zM1 s.heap t1).objs.size=s.heap.objs.size + 1:=Heap.size_push ..
 have q2:(zM2 s.heap t1 t2).objs.size=s.heap.objs.size + 2:=by rw [Heap.size_push,q1]
 have q3:(zM3 s.heap t1 t2).objs.size=s.heap.objs.size + 3:=by rw [Heap.size_push,q2]
 have q4:(zM4 s.heap t1 t2).objs.size=s.heap.objs.size + 4:=by rw [Heap.size_push,q3]
 have r5:(zM5 s.heap t1 t2).get? (zM4 s.heap t1 t2).objs.size=some _:=Heap.get?_push_size _ rfl
 have r4:(zM5 s.heap t1 t2).get? (zM3 s.heap t1 t2).objs.size=some _:=Heap.get?_push_of_some _ (Heap.get?_push_size _ rfl)
 have r3:(zM5 s.heap t1 t2).get? (zM2 s.heap t1 t2).objs.size=some _:=Heap.get?_push_of_some _ (Heap.get?_push_of_some _ (Heap.get?_push_size _ rfl))
 have r2:(zM5 s.heap t1 t2).get? (zM1 s.heap t1).objs.size=some _:=Heap.get?_push_of_some _ (16:)
 have r1:(zM5 s.heap t1 t2).get? s.heap.objs.size=some _:=Heap.get?_push_of_some _ (Heap.get?_push_of_some _ (16:))
 show _∧_
 rw [q2,q3,q4] at r5
 rw [q1,q2] at r3
 rw [q3] at r4
 rw [q1] at r2
 rw [q4]
 exact ⟨⟨_,r5,rfl⟩,h _ r5 r3 r4 ⟨_,r1,rfl,rfl⟩ ⟨_,r2,rfl,rfl⟩ fun b o x=>Heap.get?_push_of_some _ (Heap.get?_push_of_some _ (Heap.get?_push_of_some _ (Heap.get?_push_of_some _ (Heap.get?_push_of_some _ x))))⟩
end
def MY (K:PySem.W.Frag) (a b:Addr) (xs ys:List V):It :=
 ⟨fun i H=>SqT K H a xs∧SqL K H b ys∧i < xs.length∧i < ys.length,fun i H x H'=>∃ p u v,H p=none∧x=.ref p∧H'=upd H p (.tup [u,v])∧xs[i]?=some u∧ys[i]?=some v,fun i H=>SqT K H a xs∧xs.length≤i⟩
theorem Vd {P:Program} {w:World} {K:PySem.W.Frag} {elts:List Expr} {k1:Nat} {pos:Pos} (a b z:Addr) (xs ys:List V) (TI TO i1 i2:Addr) (Ap:ZipApart z TI TO i1 i2 a b) :
 Turn P w K (.Tuple elts k1 pos) (MY K a b xs ys) [z,TI,TO,i1,i2] z (fun i h=>IsZip h z TI TO .none∧IsPair h TI (.ref i1) (.ref i2)∧(∃ u v,IsPair h TO u v)∧h.IsTupleIter i1 a i∧h.IsListIter i2 b i) where
 mem:=by simp
 obj:=fun i h st c hc=>by
  obtain ⟨hz,hTI,⟨u,v,hTO⟩,h1,h2⟩:=st
  simp only [List.mem_cons,List.mem_nil_iff,or_false] at hc
  rcases hc with rfl | rfl | rfl | rfl | rfl
  ·exact ⟨_,hz,fun v z=>by have z':Data.fields _=Data.cell v:=z;cases z'⟩
  ·exact ⟨_,hTI,fun v z=>by have z':Data.seq _ _=Data.cell v:=z;cases z'⟩
  ·exact ⟨_,hTO,fun v z=>by have z':Data.seq _ _=Data.cell v:=z;cases z'⟩
  ·obtain ⟨o,e,c,d⟩:=h1;exact ⟨o,e,fun v z=>by rw [d] at z;cases z⟩
  ·obtain ⟨o,e,c,d⟩:=h2;exact ⟨o,e,fun v z=>by rw [d] at z;cases z⟩
 keep:=fun i h h' st k=>by
  obtain ⟨hz,hTI,⟨u,v,hTO⟩,h1,h2⟩:=st
  exact ⟨k z (by simp) _ hz,k TI (by simp) _ hTI,⟨u,v,k TO (by simp) _ hTO⟩,h1.at fun o e=>k i1 (by simp) o e,h2.at fun o e=>k i2 (by simp) o e⟩
 item:=by
  intro X hP hw hK hc i pins s σ H E I hf st hg
  subst hP hw hK
  obtain ⟨hz,hTI,⟨u0,v0,hTO⟩,h1,h2⟩:=st
  obtain ⟨qa,qb,lx,ly⟩:=hg
  obtain ⟨its,rv,p,_⟩:=I.tuple qa
  obtain ⟨its2,rv2,p2,_⟩:=I.list qb
  have ex:xs[i]?=some xs[i]:=List.getElem?_eq_getElem lx
  have ey:ys[i]?=some ys[i]:=List.getElem?_eq_getElem ly
  obtain ⟨u,hu,ru⟩:=rv.get ex
  obtain ⟨v,hv,rv'⟩:=rv2.get ey
  refine YT Ap hz hTI hTO h1 h2 p p2.isList (p:=u) (q:=v) (by simpa using hu) (by simpa using hv) fun h' a1 a2 a3 a4 a5 hk=>?_
  refine ⟨.ref s.heap.objs.size,rfl,wpAny_letOwnedTupleGo_zip (s:={ s with heap:=h' }) a1 fun h'' hz' hs'=>?_⟩
  have lt:∀ {c o},s.heap.get? c=some o→c≠s.heap.objs.size:=fun e=>Nat.ne_of_lt (Heap.lt_size e)
  have e5:IsPair h'' s.heap.objs.size u v:=(hs'.2 _ (Ne.symm (lt hz))).trans a5
  have hch:∀ c ∈ [z,TO,i1,i2],Z3 X pins H c:=fun c hc=>hf c (by
   simp only [List.mem_cons,List.mem_nil_iff,or_false] at hc ⊢
   rcases hc with rfl | rfl | rfl | rfl <;> simp)
  have I2:Inv X pins σ (upd H s.heap.objs.size (.tup [xs[i],ys[i]])) { s with heap:=h'',toks:=s.toks }:=by
   refine I.turnedNew (ch:=[z,TO,i1,i2]) (fun c o hc e=>?_) hch (7:) ⟨by show 2≤sizeLine;decide,[u,v],.cons ru (.cons rv' .nil),⟨_,e5,rfl,_,rfl⟩⟩
   simp only [List.mem_cons,List.mem_nil_iff,or_false,not_or] at hc
   exact (hs'.2 c hc.1).trans (hk c o hc.1 hc.2.1 hc.2.2.1 hc.2.2.2 e)
  have hfr:∀ c ∈ [z,TI,TO,i1,i2],upd H s.heap.objs.size (.tup [xs[i],ys[i]]) c=none:=fun c hc=>by
   have hc2:=hf c hc
   have:c≠s.heap.objs.size:=by
    simp only [List.mem_cons,List.mem_nil_iff,or_false] at hc
    rcases hc with rfl | rfl | rfl | rfl | rfl
    ·exact lt hz
    ·exact lt hTI
    ·exact lt hTO
    ·obtain ⟨o,e,_⟩:=h1;exact lt e
    ·obtain ⟨o,e,_⟩:=h2;exact lt e
   rw [Qg this];exact hc2.1
  exact (13:)
 done:=by
  intro X hP hw hK hc i pins s σ H E I hf st hg
  subst hP hw hK
  obtain ⟨hz,hTI,⟨u0,v0,hTO⟩,h1,h2⟩:=st
  obtain ⟨qa,hl⟩:=hg
  obtain ⟨its,rv,p,_⟩:=I.tuple qa
  have l1:=rv.length
  have hch:∀ c ∈ [z,TO,i1,i2],Z3 X pins H c:=fun c hc=>hf c (by
   simp only [List.mem_cons,List.mem_nil_iff,or_false] at hc ⊢
   rcases hc with rfl | rfl | rfl | rfl <;> simp)
  refine Y7 (n2:=0) (I.ok.hd hc) Ap hz hTI hTO h1 p (by simp;lia) fun h' hk=>⟨rfl,I.turnedL (t':=s.toks) (ch:=[z,TO,i1,i2]) (fun c o hc e=>?_) hch⟩
  simp only [List.mem_cons,List.mem_nil_iff,or_false,not_or] at hc
  exact hk c o hc.1 hc.2.1 hc.2.2.1 hc.2.2.2 e
 self:=fun _ _ _ _ _ st h=>wpAny_pyIter_zip st.1 h
section
variable {X:Cx} {elts:List Expr} {k1:Nat} {tpos:Pos}
def N3 (K:PySem.W.Frag) (ta:TA):TI:=fun σ H R=>ta σ H fun vs H1=>∃ a b xs ys,vs=[.ref a,.ref b]∧SqT K H1 a xs∧SqL K H1 b ys∧R (MY K a b xs ys) H1
theorem Mc {e1 e2:Expr} {ta:TA} {p pos:Pos} (hg:Gl X "zip") (hm:X.mg "zip" = none) (ha:PA X [e1,e2] ta) (hs:starEach [e1,e2] X.env=[(false,eval e1 X.env),(false,eval e2 X.env)]:=by rfl) (hs2:starEach [e2] X.env=[(false,eval e2 X.env)]:=by rfl) :
 PI X (.Tuple elts k1 tpos) (.Call (.Name "zip" p) [e1,e2] [] pos) (N3 X.K ta):=by
 intro pins s σ H R I h
 refine Call_ (ZE I hg hm PyProof.Rows.boot_zip (PyProof.Rows.callWith_type1 (thn (ha pos pins s σ H _ I h) fun us s1 ⟨vs,H1,I1,r1,q1⟩=>?_) (by rw [hs,hs2]) (by rw [hs2];rfl)))
 obtain ⟨a,b,xs,ys,e,qa,qb,q⟩:=q1
 subst e
 obtain ⟨u1,u2,e3,r3,r4⟩:=r1.two
 subst e3
 cases (show u1=Value.ref a from r3)
 cases (show u2=Value.ref b from r4)
 obtain ⟨its,rv,pl,_⟩:=I1.tuple qa
 obtain ⟨its2,rv2,pl2,_⟩:=I1.list qb
 have la:@LT.lt Nat _ a s1.heap.objs.size:=by obtain ⟨o,e,_⟩:=pl;exact Heap.lt_size e
 have lb:@LT.lt Nat _ b s1.heap.objs.size:=by obtain ⟨o,_,e,_⟩:=pl2;exact Heap.lt_size e
 refine W2 pl pl2.isList fun h' hz hTI hTO h1 h2 hk=>?_
 refine wpAny_pyIter_zip hz ?_
 have I2:Inv X pins σ H1 { s1 with heap:=h' }:=I1.kept (t':=s1.toks) hk
 refine ⟨s1.heap.objs.size + 4,[s1.heap.objs.size + 4,s1.heap.objs.size + 2,s1.heap.objs.size + 3,s1.heap.objs.size,s1.heap.objs.size + 1],_,_,H1,rfl,I2,Vd a b (s1.heap.objs.size + 4) xs ys (s1.heap.objs.size + 2) (s1.heap.objs.size + 3) s1.heap.objs.size (s1.heap.objs.size + 1) ?_,⟨hz,hTI,⟨_,_,hTO⟩,h1,h2⟩,fun c hc=>?_,q⟩
 ·constructor <;> (refine nne ?_;lia)
 ·have hle:@LE.le Nat _ s1.heap.objs.size c:=by
   simp only [List.mem_cons,List.mem_nil_iff,or_false] at hc
   rcases hc with rfl | rfl | rfl | rfl | rfl <;> lia
  exact I1.fpOk hle (I1.hok.fresh hle)
end
end L2
namespace K71
open PySem L2 TM TT ST K9 K11
abbrev MZ:Stmt:=top 1
abbrev sMP:Stmt:=top 2
abbrev JA:Stmt:=top 4
abbrev X8:Stmt:=top 5
abbrev NW:Stmt:=top 7
abbrev Jy:Stmt:=top 9
abbrev sHO:Stmt:=top 10
abbrev Wg:Stmt:=top 11
abbrev Wo:Stmt:=top 13
abbrev X6:Stmt:=top 28
abbrev VN:Stmt:=top 33
abbrev GG:Stmt:=top 34
abbrev UP:Stmt:=top 35
abbrev Nq:Stmt:=top 36
abbrev Wa:Stmt:=top 39
abbrev X9:Stmt:=top 40
abbrev JF:Stmt:=top 41
abbrev X5:Stmt:=top 42
theorem JR {K:PySem.W.Frag} {H:Hp} {v:V} {t:Tm} (h:TmV K H v t):(∃ a m b,v=.ref a∧t=Pw m b∧SqT K H a [.str Ye,.int m,.int b]) ∨
 ∃ a b vs n k ad,v=.ref a∧t=.node (.put n k ad) 0 t.bs∧SqT K H a [.str PUT,.str n,.bl k,.int ad,.ref b]∧SqT K H b vs∧TmAll K H vs t.bs∧vs.length≤1000:=by
 cases h with
 | call h=>exact .inl ⟨_,_,_,rfl,rfl,h⟩
 | put h1 h2 h3 h4=>exact .inr ⟨_,_,_,_,_,_,rfl,rfl,h1,h2,h3,h4⟩
theorem Ua {α:Type} {p:α→Bool}:∀ {l:List α} {i:Nat} {x:α},l[i]?=some x→p x=true→(∀ (j:Nat) y,j < i→l[j]?=some y→p y=false)→l.find? p=some x
 | [],i,x,h,_,_=>by simp at h
 | a :: r,0,x,h,hp,_=>by
  have:a=x:=by simpa using h
  subst this
  rw [List.find?_cons,hp]
 | a :: r,i + 1,x,h,hp,hn=>by
  have h0:=hn 0 a (4:) rfl
  rw [List.find?_cons,h0]
  exact Ua (i:=i) (by simpa using h) hp fun j y hj e=>hn (j + 1) y (4:) (by simpa using e)
theorem L7 {α:Type} {p:α→Bool} {l:List α} (h:∀ (j:Nat) y,l[j]?=some y→p y=false):l.find? p=none:=by
 rw [List.find?_eq_none]
 intro x hx
 obtain ⟨j,hj,e⟩:=List.getElem_of_mem hx
 have:=h j x (by rw [List.getElem?_eq_getElem hj,e])
 simp [this]
def Xs (K:PySem.W.Frag):Sp:=fun vs H Q _=>∃ (v:V) (t:Tm),vs=[v]∧TmV K H v t∧Q (.bl (isC (lab t))) H
def Yx (K:PySem.W.Frag):Sp:=fun vs H Q _=>∃ (w:Addr) (kind:Str) (ks:List KdT),vs=[.ref w,.str kind]∧WoodAt K H w ks∧WoodOk ks∧∀ (lr:Addr) (H':Hp),Same H H'→RowsL K H' lr (Qz ks kind)→Q (.ref lr) H'
def JM (K:PySem.W.Frag):Sp:=fun vs H Q _=>∃ (w:Addr) (kind name:Str) (ks:List KdT),vs=[.ref w,.str kind,.str name]∧WoodAt K H w ks∧WoodOk ks∧∀ (v:V) (H':Hp),Same H H'→Pj K H' v (Me ks kind name)→Q v H'
def GD (K:PySem.W.Frag):Sp:=fun vs H Q _=>∃ (p w lm:Addr) (v:V) (i:Nat) (name:Str) (ks:List KdT) (ms:List MdT) (m:MdT),vs=[.ref p,.int (i:Int),.str name]∧SqT K H p [.ref w,v,.ref lm]∧WoodAt K H w ks∧WoodOk ks∧ModesL K H lm ms∧ms[i]?=some m∧m.2.2.2.2.length=(Qz ks m.2.1).length∧∀ v' H',Same H H'→TmO K H' v' (XH ks m.md name)→Q v' H'
def YF:Sp:=fun vs H Q _=>∃ i:Int,vs=[.int i]∧Q (.bl true) H
section
variable {P:Program} {w:World} {K:PySem.W.Frag} {mg:Str→Option Value} {base:Heap} {f:Addr} {fd:FuncData}
theorem Of:FnScope ["term"] ["term"] (defScope MZ):=(1:)
theorem MT (F:Fun K "is_call" "is_call" MZ f fd):FnOk P w K mg base CX0 1 f fd ["term"] (Xs K):=by
 refine F.ok Of (9:) (3:)
 ·obtain ⟨v,t,rfl,_⟩:=h
  rfl
 obtain ⟨v,t,rfl,ht,q⟩:=h
 refine ⟨_,(Qi (Ql (Zz Zd (Qk Qj (pv 0) Qd (5:)) Zy (Qu _)))),?_⟩
 rcases JR ht with ⟨a,m,b,rfl,rfl,h1⟩ | ⟨a,b,bs,n,k,ad,rfl,et,h1,h2,h3,h4⟩
 ·refine ⟨_,rfl,a,_,0,_,rfl,rfl,h1,rfl,rfl,?_⟩
  have e:decide (V.str Ye=V.str Ye)=true:=decide_eq_true rfl
  show Q (.bl (decide (V.str Ye=V.str Ye))) H
  rw [e];exact q
 ·refine ⟨_,rfl,a,_,0,_,rfl,rfl,h1,rfl,rfl,?_⟩
  have e:decide (V.str PUT=V.str Ye)=false:=by decide +kernel
  show Q (.bl (decide (V.str PUT=V.str Ye))) H
  rw [et] at q
  rw [e];exact q
theorem GQ:FnScope ["wood", "kind"] ["wood", "kind"] (defScope JA):=(1:)
theorem W9 (F:Fun K "rows_of" "rows_of" JA f fd) (G:Gm mg):FnOk P w K mg base CX0 1 f fd ["wood", "kind"] (Yx K):=by
 refine F.ok GQ (9:) (3:)
 ·obtain ⟨w,kind,ks,rfl,_⟩:=h
  rfl
 obtain ⟨wd,kind,ks,rfl,hW,hO,q⟩:=h
 refine ⟨_,(Qi (Ql (Gx (V7 hr) (QJ (Uz rfl) rfl G.dct PyProof.Rows.boot_dict (Qa (pv 0) Qc)) (pv 1) (Zc Qc) ⟨rfl,rfl,rfl,rfl⟩))),?_⟩
 have hlen:=hO.len
 refine ⟨_,rfl,wd,ks.map (fun k=>(k.1,k.2.1,V.ref k.2.2.1)),rfl,(by rw [List.map_map];exact hW.1),fun t ht=>?_,(by rw [List.map_map];exact hO.nd),(by rw [List.length_map];lia),fun d hd=>⟨d,rfl,.inl ⟨_,.inl Qb⟩,_,rfl,(by show 0≤sizeLine;decide),fun p hp=>⟨_,DGet.k (k:=Sum.inr kind) ((Qe hp _) _ _ Qb),?_⟩⟩⟩
 ·obtain ⟨k,hk,rfl⟩:=List.mem_map.mp ht
  exact (hW.2 k hk).1
 ·have g1:=Qe hd (.dK ((ks.map (fun k=>(k.1,k.2.1,V.ref k.2.2.1))).map fun t=>((Sum.inr t.2.1:Key),t.2.2)))
  have g2:=Qe hp (.lst [])
  have g12:=g1.trans g2
  have ev:Z7 ((ks.map (fun k=>(k.1,k.2.1,V.ref k.2.2.1))).map fun t=>((Sum.inr t.2.1:Key),t.2.2)) (Sum.inr kind)=(ks.find? fun k=>decide (k.2.1=kind)).map fun k=>V.ref k.2.2.1:=by
   rw [List.map_map]
   exact Jw (fun k:KdT=>k.2.1) (fun k=>V.ref k.2.2.1) kind ks
  rw [ev]
  unfold Qz at q
  cases e:ks.find? fun k=>decide (k.2.1=kind) with
  | none =>
   rw [e] at q
   exact q p _ g12 ⟨SqL.of Qb,fun t ht=>(nomatch ht)⟩
  | some k =>
   rw [e] at q
   exact q k.2.2.1 _ g12 ((hW.2 k (List.mem_of_find?_eq_some e)).2.same g12)
theorem Mb:FnScope ["wood", "kind", "name"] ["wood", "kind", "name"] (defScope X8):=(1:)
theorem VP (F:Fun K "row_of" "row_of" X8 f fd) (G:Gm mg) (RO:Fn P w K mg base 1 "rows_of" ["wood", "kind"] (Yx K)):FnOk P w K mg base CX0 2 f fd ["wood", "kind", "name"] (JM K):=by
 refine F.ok Mb (9:) (3:)
 ·obtain ⟨w,kind,name,ks,rfl,_⟩:=h
  rfl
 obtain ⟨wd,kind,name,ks,rfl,hW,hO,q⟩:=h
 refine ⟨_,(Qi (Ql (VM (V7 hr) (QJ (Uz rfl) rfl G.dct PyProof.Rows.boot_dict (Qa (Qp RO hr (Qa (pv 0) (Qa (pv 1) Qc))) Qc)) (pv 2) ⟨rfl,rfl,rfl,rfl⟩))),?_⟩
 refine ⟨_,rfl,_,rfl,wd,kind,ks,rfl,hW,hO,fun lr H1 g1 hR=>?_⟩
 have hRo:=Gf hO kind
 have hlen:=hRo.len
 refine ⟨lr,(Qz ks kind).map (fun r=>(r.1,r.2.1,V.ref r.2.2.1)),rfl,(by rw [List.map_map];exact hR.1),fun t ht=>?_,(by rw [List.map_map];exact hRo.nd),(by rw [List.length_map];lia),fun d hd=>⟨d,rfl,.inl ⟨_,.inl Qb⟩,_,rfl,_,DGet.k (k:=Sum.inr name) Qb,?_⟩⟩
 ·obtain ⟨k,hk,rfl⟩:=List.mem_map.mp ht
  exact (hR.2 k hk).1
 ·have g2:=Qe hd (.dK (((Qz ks kind).map (fun r=>(r.1,r.2.1,V.ref r.2.2.1))).map fun t=>((Sum.inr t.2.1:Key),t.2.2)))
  have ev:Z7 (((Qz ks kind).map (fun r=>(r.1,r.2.1,V.ref r.2.2.1))).map fun t=>((Sum.inr t.2.1:Key),t.2.2)) (Sum.inr name)=((Qz ks kind).find? fun r=>decide (r.2.1=name)).map fun r=>V.ref r.2.2.1:=by
   rw [List.map_map]
   exact Jw (fun r:PNx=>r.2.1) (fun r=>V.ref r.2.2.1) name (Qz ks kind)
  rw [ev]
  unfold Me at q
  cases e:(Qz ks kind).find? fun r=>decide (r.2.1=name) with
  | none =>
   rw [e] at q
   exact q .non _ (g1.trans g2) rfl
  | some r =>
   rw [e] at q
   exact q (.ref r.2.2.1) _ (g1.trans g2) ⟨_,rfl,g2.seqT (hR.2 r (List.mem_of_find?_eq_some e)).2⟩
theorem Xx:FnScope ["turning", "mode", "name", "kind", "rules", "row", "rule"] ["turning", "mode", "name"] (defScope NW):=(1:)
theorem Nj (F:Fun K "rule_of" "rule_of" NW f fd) (G:Gm mg) (RO:Fn P w K mg base 1 "rows_of" ["wood", "kind"] (Yx K)):FnOk P w K mg base CX0 2 f fd ["turning", "mode", "name"] (GD K):=by
 refine F.ok Xx (9:) (3:)
 ·obtain ⟨p,wd,lm,v,i,name,ks,ms,m,rfl,_⟩:=h
  rfl
 obtain ⟨p,wd,lm,v,i,name,ks,ms,m,rfl,hp,hW,hO,hM,hm,hlen,q⟩:=h
 refine ⟨_,(Qf (Qq (i:=3) Xx.nd rfl (Or.inl rfl) (Qk Qj (Qk QF (Qk Qj (pv 0) Qd (5:)) (pv 1) (5:)) Qd (5:)))
  (Qf (Qq (i:=4) Xx.nd rfl (Or.inl rfl) (Qk Qj (Qk QF (Qk Qj (pv 0) Qd (5:)) (pv 1) (5:)) Qd (5:)))
  (Qf (QR PassesOwn.never rfl (VV rfl G.zip (Qa (Qp RO hr (Qa (Qk Qj (pv 0) Qd (5:)) (Qa (pv 3) Qc))) (Qa (pv 4) Qc))) (ZS rfl (QB (Qw (i:=5) Xx.nd rfl (Or.inl rfl)) (QB (Qw (i:=6) Xx.nd rfl (Or.inl rfl)) ZB)))
   (Qi (QG (Qr Zd (Qk Qj (pv 5) Qd (5:)) (pv 2) (Qu _)) (Qi (Ql (pv 6))) Qs)))
  (Qi (Ql Yj))))),?_⟩
 have hmm:=List.mem_of_getElem? hm
 have hA:=hM.2 m hmm
 have hat:atI (ms.map fun m=>V.ref m.1) (i:Int)=some (.ref m.1):=QI (by rw [List.getElem?_map,hm];rfl)
 refine ⟨_,rfl,p,_,2,_,rfl,rfl,hp,rfl,_,rfl,lm,_,_,_,rfl,rfl,hM.1,hat,m.1,_,0,_,rfl,rfl,hA.1,rfl,?_⟩
 refine ⟨_,rfl,p,_,2,_,rfl,rfl,hp,rfl,_,rfl,lm,_,_,_,rfl,rfl,hM.1,hat,m.1,_,1,_,rfl,rfl,hA.1,rfl,?_⟩
 refine ⟨_,rfl,p,_,0,_,rfl,rfl,hp,rfl,_,rfl,wd,m.2.1,ks,rfl,hW,hO,fun lr H1 g1 hR=>⟨_,rfl,lr,m.2.2.1,_,m.2.2.2.1,rfl,hR.1,g1.seq hA.2.1,?_⟩⟩
 have hul:=hA.2.2.length
 have elr:((Qz ks m.2.1).map fun t=>V.ref t.1).length=(Qz ks m.2.1).length:=List.length_map ..
 refine LA (K:=K) (by rw [elr];lia) (fun j σ H'=>∃ c5 c6,σ=[some (.ref p),some (.int (i:Int)),some (.str name),some (.str m.2.1),some (.ref m.2.2.1),c5,c6]∧Same H1 H'∧∀ (k:Nat) r,k < j→(Qz ks m.2.1)[k]?=some r→r.2.1≠name)
  ⟨none,none,rfl,Same.refl _,fun k r hk _=>by lia⟩ ?_ ?_ ?_
 ·rintro j σ H' _ ⟨c5,c6,_,g,_⟩
  exact ⟨g.seq hR.1,(g1.trans g).seq hA.2.1⟩
 ·rintro j u v' pp σ H' hu hv hpp ⟨c5,c6,rfl,g,hno⟩
  have hjr:j < (Qz ks m.2.1).length:=by
   have:=(List.getElem?_eq_some_iff.mp hu).1
   simpa using this
  have hjt:j < m.2.2.2.2.length:=by lia
  obtain ⟨cv,hcv,hct⟩:=hA.2.2.get (List.getElem?_eq_getElem hjt)
  obtain rfl:cv=v':=Option.some.inj (hcv.symm.trans hv)
  obtain rfl:u=.ref (Qz ks m.2.1)[j].1:=by
   rw [List.getElem?_map,List.getElem?_eq_getElem hjr] at hu
   exact (Option.some.inj hu).symm
  have gp:=Qe hpp (.tup [.ref (Qz ks m.2.1)[j].1,cv])
  have gg:=g1.trans (g.trans gp)
  have hRA:=(hR.2 _ (List.getElem_mem hjr)).same (g.trans gp)
  refine ⟨pp,_,rfl,SqT.of Qb,rfl,_,_,rfl,_,_,rfl,rfl,?_⟩
  refine ⟨_,rfl,_,_,0,_,rfl,rfl,hRA.1,rfl,_,rfl,rfl,_,rfl,?_⟩
  by_cases he:(Qz ks m.2.1)[j].2.1=name
  ·refine NH (by rw [he]) ⟨_,rfl,q cv _ gg ?_⟩
   have ef:((Qz ks m.2.1).zip m.2.2.2.2).find? (fun x=>decide (x.1.2.1=name))=some ((Qz ks m.2.1)[j],m.2.2.2.2[j]):=by
    refine Ua (i:=j) (by rw [List.getElem?_zip_eq_some];exact ⟨List.getElem?_eq_getElem hjr,List.getElem?_eq_getElem hjt⟩) (decide_eq_true he) fun k y hk e=>?_
    rw [List.getElem?_zip_eq_some] at e
    exact decide_eq_false (hno k y.1 hk e.1)
   unfold XH MdT.md
   rw [ef]
   exact hct.mono fun _ _=>gg.seqT
  ·refine Gs (fun z=>he (by injection z)) ⟨_,_,rfl,g.trans gp,fun k r hk e=>?_⟩
   by_cases hkj:k=j
   ·subst hkj
    rw [List.getElem?_eq_getElem hjr] at e
    cases e
    exact he
   ·exact hno k r (4:) e
 ·rintro σ H' ⟨c5,c6,rfl,g,hno⟩
  refine q .non H' (g1.trans g) ?_
  have ef:((Qz ks m.2.1).zip m.2.2.2.2).find? (fun x=>decide (x.1.2.1=name))=none:=by
   refine L7 fun k y e=>?_
   rw [List.getElem?_zip_eq_some] at e
   have hk:=(List.getElem?_eq_some_iff.mp e.1).1
   exact decide_eq_false (hno k y.1 (by rw [elr];exact hk) e.1)
  unfold XH MdT.md
  rw [ef]
  rfl
theorem Lp:FnScope ["_law_found"] ["_law_found"] (defScope X6):=(1:)
theorem Gu (F:Fun K "_law_whole" "_law_whole" X6 f fd) (G:Gm mg):FnOk P w K mg base CX0 1 f fd ["_law_found"] YF:=by
 refine F.ok Lp (9:) (3:)
 ·obtain ⟨i,rfl,_⟩:=h
  rfl
 obtain ⟨i,rfl,q⟩:=h
 refine ⟨_,(Qi (Ql (JV (Qo ZD rfl G.isi PyProof.Rows.boot_isinstance (Qa (pv 0) (Qa (Zk (v:=.ty "int") rfl G.int PyProof.Rows.boot_int rfl) Qc))) (J4 (GU (Qo ZD rfl G.isi PyProof.Rows.boot_isinstance (Qa (pv 0) (Qa (Zk (v:=.ty "bool") rfl G.boo PyProof.Rows.boot_bool rfl) Qc)))))))),?_⟩
 exact ⟨_,rfl,_, "int", _,true,rfl,.int _,rfl,_,rfl,Zn ⟨_,rfl,_, "bool", _,false,rfl,.int _,rfl,_,rfl,q⟩⟩
end
end K71
namespace G3
open PySem L2
inductive C where
 | v (i:Nat) | k (x:V) | bin (op:Operator) (a b:C) | cmp (op:CmpOp) (a b:C) | ix (a b:C)
 | tup (as:List C) | lst (as:List C) | call (i:Nat) (as:List C)
 | meth (i:Nat) (o:C) (as:List C) | no (a:C) | an (a b:C) | oo (a b:C)
 | nd (i:Nat) (as:List C) | iff (c a b:C)
 | comp (kd:Nat) (it:C) (cap:List Nat) (elt:C) | compI (kd:Nat) (it:C) (cap:List Nat) (cnd elt:C)
abbrev Rel:=St→List V→Hp→VK→Prop
structure Mr where
 ty:V→Hp→Prop
 r:V→List V→Hp→VK→Prop
structure En where
 K:PySem.W.Frag
 fs:List Rel
 ms:List Mr
 nr:List (List V→Hp→VK→Prop)
 sr:List (St→List V→Hp→(St→Hp→Prop)→Prop)
def Pl (a:Option V) (k:V→Prop):Prop:=match a with
 | none=>False
 | some x=>k x
def Nu:St→Nat→(V→Prop)→Prop
 | [],_,_=>False
 | a :: _,0,k=>Pl a k
 | _ :: r,n + 1,k=>Nu r n k
def J9:St→Nat→V→(St→Prop)→Prop
 | [],_,_,_=>False
 | _ :: r,0,x,k=>k (some x :: r)
 | a :: r,n + 1,x,k=>J9 r n x fun r'=>k (a :: r')
def Vr:List V→Nat→Bool
 | [],_=>true
 | _ :: _,0=>false
 | _ :: r,n + 1=>Vr r n
structure Cnd (p q:Prop):Prop where
 c :: (h:p) (k:q)
structure NewT (K:PySem.W.Frag) (xs:List V) (H:Hp) (Q:VK):Prop where
 t :: (h:∀ p H',Same H H'→SqT K H' p xs→H' p=some (.tup xs)→Q (.ref p) H')
structure NewL (xs:List V) (H:Hp) (Q:VK):Prop where
 l :: (h:∀ p H',Same H H'→H' p=some (.lst xs)→H p=none→Q (.ref p) H')
inductive Ix (K:PySem.W.Frag) (a:Addr) (i:Int) (H:Hp) (Q:VK):Prop where
 | t (xs:List V) (v:V) (h:SqT K H a xs) (e:atI xs i=some v) (k:Q v H):Ix K a i H Q
 | l (xs:List V) (v:V) (h:SqL K H a xs) (e:atI xs i=some v) (k:Q v H):Ix K a i H Q
inductive Cat (K:PySem.W.Frag) (a b:Addr) (H:Hp) (Q:VK):Prop where
 | a (xs ys:List V) (h1:SqT K H a xs) (h2:SqT K H b ys) (hz:xs.length + ys.length≤sizeLine) (k:∀ p H',Same H H'→SqT K H' p (xs ++ ys)→Q (.ref p) H'):Cat K a b H Q
def MX (i j:Int) (H:Hp) (Q:VK):Prop:=match j with
 | .ofNat (_ + 1)=>Q (.int (i % j)) H
 | _=>False
def Nh (i j:Int) (H:Hp) (Q:VK):Prop:=match j with
 | .ofNat (n + 1)=>cond (Nat.ble (n + 2) 1073741824) (Q (.int (i / j)) H) False
 | _=>False
def rB (K:PySem.W.Frag) (op:Operator) (x y:V) (H:Hp) (Q:VK):Prop:=match op,x,y with
 | .Add,.int i,.int j=>Q (.int (i + j)) H
 | .Add,.ref a,.ref b=>Cat K a b H Q
 | .Sub,.int i,.int j=>Q (.int (i - j)) H
 | .Mult,.int i,.int j=>Cnd (CMul i j) (Q (.int (i * j)) H)
 | .Mod,.int i,.int j=>MX i j H Q
 | .FloorDiv,.int i,.int j=>Nh i j H Q
 | _,_,_=>False
def MF:V→Bool
 | .non=>true
 | _=>false
def rC (op:CmpOp) (x y:V) (H:Hp) (Q:VK):Prop:=match op,x,y with
 | .Eq,.int i,.int j=>Q (.bl (decide (i=j))) H
 | .Eq,.str i,.str j=>Q (.bl (decide (i=j))) H
 | .NotEq,.int i,.int j=>Q (.bl (!decide (i=j))) H
 | .NotEq,.str i,.str j=>Q (.bl (!decide (i=j))) H
 | .Lt,.int i,.int j=>Q (.bl (decide (i < j))) H
 | .LtE,.int i,.int j=>Q (.bl (decide (i≤j))) H
 | .Gt,.int i,.int j=>Q (.bl (decide (j < i))) H
 | .GtE,.int i,.int j=>Q (.bl (decide (j≤i))) H
 | .Lt,.str i,.str j=>Q (.bl (decide (i.cps.toList < j.cps.toList))) H
 | .Is,_,.non=>Q (.bl (MF x)) H
 | .IsNot,_,.non=>Q (.bl (!MF x)) H
 | _,_,_=>False
def rX (K:PySem.W.Frag) (x y:V) (H:Hp) (Q:VK):Prop:=match x,y with
 | .ref a,.int i=>Ix K a i H Q
 | _,_=>False
def asB (x:V) (H:Hp) (Q:Bool→Hp→Prop):Prop:=match x with
 | .bl b=>Q b H
 | _=>False
def OA (j:Int):Prop:=-(2 ^ 62)≤j∧j < 2 ^ 62
inductive Cmp (K:PySem.W.Frag) (it:Hp→Prop) (itm:Nat→V) (m:Nat) (cs:St) (tt:TT) (te:TE) (H:Hp) (Q:VK):Prop where
 | s (R:Nat→List V→Hp→Prop) (h0:∀ H1,Same H H1→R 0 [] H1)
  (hm:∀ acc i ys l H1 H2,R i ys H1→H1 acc=some (.lst l)→H acc=none→(∀ a o,a≠acc→H1 a=some o→H2 a=some o)→(∀ a xs,SqT K H1 a xs→SqT K H2 a xs)→R i ys H2) (hz:m≤4000)
  (hs:∀ i ys H1,i < m→ys.length≤i→Same H H1→R i ys H1→tt (some (itm i) :: cs) H1 fun b H2=>cond b (te (some (itm i) :: cs) H2 fun y H3=>Same H1 H3∧R (i + 1) (ys ++ [y]) H3) (Same H1 H2∧R (i + 1) ys H2))
  (hd:∀ p ys H1,Same H H1→H1 p=some (.lst ys)→R m ys H1→Q (.ref p) H1):Cmp K it itm m cs tt te H Q
 | m (R:Addr→Nat→List V→Hp→Prop) (hz:m≤4000) (h0:∀ acc H1,H acc=none→Same H H1→H1 acc=some (.lst [])→R acc 0 [] H1) (hx:∀ acc i ys H1,R acc i ys H1→it H1)
  (hs:∀ acc i ys H1,i < m→ys.length≤i→H acc=none→R acc i ys H1→tt (some (itm i) :: cs) H1 fun b H2=>cond b (te (some (itm i) :: cs) H2 fun y H3=>H3 acc=some (.lst ys)∧R acc (i + 1) (ys ++ [y]) (upd H3 acc (.lst (ys ++ [y])))) (R acc (i + 1) ys H2))
  (hd:∀ acc ys H1,H acc=none→R acc m ys H1→Q (.ref acc) H1):Cmp K it itm m cs tt te H Q
inductive CmpL (K:PySem.W.Frag) (a:Addr) (cs:St) (tt:TT) (te:TE) (H:Hp) (Q:VK):Prop where
 | l (xs:List V) (h:SqL K H a xs) (k:Cmp K (fun H=>SqL K H a xs) (fun i=>(xs[i]?).getD .non) xs.length cs tt te H Q):CmpL K a cs tt te H Q
inductive CmpT (K:PySem.W.Frag) (a:Addr) (cs:St) (tt:TT) (te:TE) (H:Hp) (Q:VK):Prop where
 | t (xs:List V) (h:SqT K H a xs) (k:Cmp K (fun H=>SqT K H a xs) (fun i=>(xs[i]?).getD .non) xs.length cs tt te H Q):CmpT K a cs tt te H Q
def Oe (K:PySem.W.Frag) (kd:Nat) (x:V) (cs:St) (tt:TT) (te:TE) (H:Hp) (Q:VK):Prop:=match kd,x with
 | 0,.int j=>Cnd (OA j) (Cmp K (fun _=>True) (fun i=>.int (i:Int)) j.toNat cs tt te H Q)
 | 1,.ref a=>CmpL K a cs tt te H Q
 | 2,.ref a=>CmpT K a cs tt te H Q
 | _,_=>False
def VW:List Nat→St→St
 | [],_=>[]
 | j :: r,σ=>(σ[j]?).getD none :: VW r σ
mutual
def E (n:En):C→TE
 | .v i=>fun σ H Q=>Nu σ i fun x=>Q x H
 | .k x=>fun _ H Q=>Q x H
 | .bin op a b=>fun σ H Q=>E n a σ H fun x H1=>E n b σ H1 fun y H2=>rB n.K op x y H2 Q
 | .cmp op a b=>fun σ H Q=>E n a σ H fun x H1=>E n b σ H1 fun y H2=>rC op x y H2 Q
 | .ix a b=>fun σ H Q=>E n a σ H fun x H1=>E n b σ H1 fun y H2=>rX n.K x y H2 Q
 | .tup as=>fun σ H Q=>Es n as σ H fun xs H1=>cond (Vr xs 1000) (NewT n.K xs H1 Q) False
 | .lst as=>fun σ H Q=>Es n as σ H fun xs H1=>cond (Vr xs 1000) (NewL xs H1 Q) False
 | .call i as=>fun σ H Q=>Es n as σ H fun xs H1=>match n.fs[i]? with | some r=>r σ xs H1 Q | none=>False
 | .no a=>fun σ H Q=>E n a σ H fun x H1=>asB x H1 fun b H2=>Q (.bl (!b)) H2
 | .an a b=>fun σ H Q=>E n a σ H fun x H1=>asB x H1 fun c H2=>cond c (E n b σ H2 Q) (Q (.bl false) H2)
 | .oo a b=>fun σ H Q=>E n a σ H fun x H1=>asB x H1 fun c H2=>cond c (Q (.bl true) H2) (E n b σ H2 Q)
 | .meth i o as=>fun σ H Q=>E n o σ H fun x H1=>match n.ms[i]? with | some m=>Cnd (m.ty x H1) (Es n as σ H1 fun xs H2=>m.r x xs H2 Q) | none=>False
 | .nd i as=>fun σ H Q=>Es n as σ H fun xs H1=>match n.nr[i]? with | some r=>r xs H1 Q | none=>False
 | .iff c a b=>fun σ H Q=>E n c σ H fun x H1=>asB x H1 fun t H2=>cond t (E n a σ H2 Q) (E n b σ H2 Q)
 | .comp kd it cap elt=>fun σ H Q=>E n it σ H fun x H1=>Oe n.K kd x (VW cap σ) (fun _ H Q=>Q true H) (E n elt) H1 Q
 | .compI kd it cap cnd elt=>fun σ H Q=>E n it σ H fun x H1=>Oe n.K kd x (VW cap σ) (fun σ H Q=>E n cnd σ H fun x H1=>asB x H1 Q) (E n elt) H1 Q
termination_by structural c=>c
def Es (n:En):List C→TA
 | []=>fun _ H Q=>Q [] H
 | a :: r=>fun σ H Q=>E n a σ H fun x H1=>Es n r σ H1 fun xs H2=>Q (x :: xs) H2
termination_by structural c=>c
end
theorem iteI {p:Prop} [Decidable p] {A B:Prop} (h1:p→A) (h2:¬ p→B):cond (decide p) A B:=by
 by_cases h:p
 ·rw [decide_eq_true h];exact h1 h
 ·rw [decide_eq_false h];exact h2 h
end G3
namespace G3
open PySem L2
theorem VH {i j:Int} {H:Hp} {Q:VK} (h:MX i j H Q):0 < j∧Q (.int (i % j)) H:=by
 unfold MX at h
 split at h
 ·exact ⟨by simp,h⟩
 ·exact h.elim
theorem GB {i j:Int} {H:Hp} {Q:VK} (h:Nh i j H Q):N2 i j∧Q (.int (i / j)) H:=by
 unfold Nh at h
 split at h
 ·rename_i n
  cases hb:Nat.ble (n + 2) 1073741824 with
  | false=>rw [hb] at h;exact h.elim
  | true =>
   rw [hb] at h
   have:=Nat.ble_eq.mp hb
   refine ⟨⟨by simp,?_⟩,h⟩
   show ((n + 1:Nat):Int) < _
   lia
 ·exact h.elim
section
variable {X:Cx}
theorem Py (op:Operator):OpR X (binaryOp op) (rB X.K op):=by
 intro pins s σ H x y v u Q I rx ry h
 unfold rB at h
 split at h
 ·exact QZ pins s σ H _ _ v u Q I rx ry ⟨_,_,rfl,rfl,h⟩
 ·obtain ⟨xs,ys,h1,h2,hz,k⟩:=h
  exact JE pins s σ H _ _ v u Q I rx ry ⟨_,_,xs,ys,rfl,rfl,h1,h2,hz,k⟩
 ·exact YL pins s σ H _ _ v u Q I rx ry ⟨_,_,rfl,rfl,h⟩
 ·exact Z5 pins s σ H _ _ v u Q I rx ry ⟨_,_,rfl,rfl,h.h,h.k⟩
 ·exact Q1 pins s σ H _ _ v u Q I rx ry ⟨_,_,rfl,rfl,(VH h).1,(VH h).2⟩
 ·exact Zj pins s σ H _ _ v u Q I rx ry ⟨_,_,rfl,rfl,(GB h).1,(GB h).2⟩
 ·exact h.elim
theorem dI {i j:Int}:decide (V.int i=V.int j)=decide (i=j):=by simp
theorem dS {i j:Str}:decide (V.str i=V.str j)=decide (i=j):=by simp
theorem OP (op:CmpOp):OpR X (compareOp op) (rC op):=by
 intro pins s σ H x y v u Q I rx ry h
 unfold rC at h
 split at h
 ·exact Zd pins s σ H _ _ v u Q I rx ry ⟨rfl,by rw [dI];exact h⟩
 ·exact Zd pins s σ H _ _ v u Q I rx ry ⟨rfl,by rw [dS];exact h⟩
 ·exact YC pins s σ H _ _ v u Q I rx ry ⟨rfl,by rw [dI];exact h⟩
 ·exact YC pins s σ H _ _ v u Q I rx ry ⟨rfl,by rw [dS];exact h⟩
 ·exact Lc pins s σ H _ _ v u Q I rx ry ⟨_,_,rfl,rfl,h⟩
 ·exact OW pins s σ H _ _ v u Q I rx ry ⟨_,_,rfl,rfl,h⟩
 ·exact V1 pins s σ H _ _ v u Q I rx ry ⟨_,_,rfl,rfl,h⟩
 ·exact OK pins s σ H _ _ v u Q I rx ry ⟨_,_,rfl,rfl,h⟩
 ·exact Vs pins s σ H _ _ v u Q I rx ry ⟨_,_,rfl,rfl,h⟩
 ·refine M0 pins s σ H _ _ v u Q I rx ry ⟨rfl,?_⟩
  cases x <;> exact h
 ·refine L9 pins s σ H _ _ v u Q I rx ry ⟨rfl,?_⟩
  cases x <;> exact h
 ·exact h.elim
theorem Pr:IxR X (rX X.K):=by
 intro value slice pins s σ H x y v u Q I rx ry h hs
 unfold rX at h
 split at h
 ·cases h with
  | t xs w hq he k=>exact Qj value slice pins s σ H _ _ v u Q I rx ry ⟨_,xs,_,w,rfl,rfl,hq,he,k⟩ hs
  | l xs w hq he k=>exact QF value slice pins s σ H _ _ v u Q I rx ry ⟨_,xs,_,w,rfl,rfl,hq,he,k⟩ hs
 ·exact h.elim
def ord:Expr→Bool
 | .Starred _ _=>false
 | .Slice _ _ _ _=>false
 | .Set _ _ _=>false
 | _=>true
def osw:Expr→Bool
 | .ListComp _ _ _ _=>false
 | .SetComp _ _ _ _=>false
 | .DictComp _ _ _ _ _=>false
 | _=>true
def tst:Expr→Bool
 | .UnaryOp .Not _ _=>false
 | .BoolOp _ _ _=>false
 | .IfExp _ _ _ _=>false
 | .Compare _ _ _ _=>false
 | _=>true
theorem QL {e:Expr} {es:List Expr} {env:Env} (h:ord e=true):starEach (e :: es) env=(false,eval e env) :: starEach es env:=by
 cases e <;> first | rfl | exact absurd (show false=true from h) Bool.false_ne_true
theorem XN {e:Expr} {t:Option Expr} {l:Nat} {env:Env} (h:osw e=true):swapsWith e t l env=pure false:=by
 cases e <;> first | rfl | exact absurd (show false=true from h) Bool.false_ne_true
theorem ord_ix {e:Expr} (h:ord e=true):Wx e:=by
 cases e <;> first | exact fun _ _=>rfl | exact absurd (show false=true from h) Bool.false_ne_true
theorem QU {e:Expr} {env:Env} (h:ord e=true) (x:Value):foldedSetIterable e env x=pure x:=by
 cases e <;> first | rfl | exact absurd (show false=true from h) Bool.false_ne_true
theorem VA {e:Expr} {env:Env} (h:tst e=true) (wh:Sem Value):isTrue e env wh=(do let v ← wh;standAt e.pos;holding [v] (truthy v)):=by
 cases e <;> first | rfl | exact absurd (show false=true from h) Bool.false_ne_true | (rename_i op _ _;cases op <;> first | rfl | exact absurd (show false=true from h) Bool.false_ne_true)
theorem Vf {es:List Expr} {pos:Pos} {env:Env} (h:es.all ord=true):(backTo pos (starEach es env)).any (·.1)=false:=by
 induction es with
 | nil=>rfl
 | cons e es ih =>
  rw [List.all_cons,Bool.and_eq_true] at h
  rw [QL h.1]
  show (false || (backTo pos (starEach es env)).any (·.1))=false
  rw [ih h.2];rfl
structure CallOk (X:Cx) (x:Str) (r:Rel):Prop where
 ok:∀ (p pos:Pos) (e:Expr) (es:List Expr) (t:TA),PA X (e :: es) t→Gl X x→(x == ("__debug__" : Str))=false→starEach (e :: es) X.env=(false,eval e X.env) :: starEach es X.env→(backTo pos (starEach es X.env)).any (·.1)=false→PE X (.Call (.Name x p) (e :: es) [] pos) (fun σ H Q=>t σ H fun vs H1=>r σ vs H1 Q)
theorem CallOk.fn {k k':Nat} {x:Str} {ps:List Str} {sp:Sp} (F:Fn X.prog X.w X.K X.mg X.base k x ps sp) (hr:Room k' X.A) (hk:k≤k':=by decide):CallOk X x (fun _ vs H Q=>sp vs H Q E0) :=
 ⟨fun p pos e es t ha hg hd he hp=>by
  have:=Qp (p:=p) (pos:=pos) F hr ha hk hg hd he hp
  intro pins s σ H Q I h
  exact this pins s σ H Q I (by
   show t σ H fun vs H1=>sp (vs ++ []) H1 Q E0
   simpa only [List.append_nil] using h)⟩
structure MethOk (X:Cx) (m:Str) (q:Mr):Prop where
 ok:∀ (o e:Expr) (es:List Expr) (to:TE) (t:TA) (ap cp:Pos),PE X o to→PA X (e :: es) t→attributeBase o m X.env (eval o X.env)=eval o X.env→((e :: es).all ord)=true→(e :: es).length < 20→(ap.endLine == cp.line)=true→PE X (.Call (.Attribute o m ap) (e :: es) [] cp) (fun σ H Q=>to σ H fun x H1=>q.ty x H1∧t σ H1 fun vs H2=>q.r x vs H2 Q)
inductive PEs (X:Cx):List Expr→List TE→Prop where
 | nil:PEs X [] []
 | cons {e:Expr} {es:List Expr} {t:TE} {ts:List TE}:PE X e t→PEs X es ts→PEs X (e :: es) (t :: ts)
def XY:List TE→TA
 | []=>fun _ H Q=>Q [] H
 | t :: r=>fun σ H Q=>t σ H fun x H1=>XY r σ H1 fun xs H2=>Q (x :: xs) H2
structure NodeOk (X:Cx) (sh:Expr→Option (List Expr)) (r:List V→Hp→VK→Prop):Prop where
 ok:∀ (e:Expr) (es:List Expr) (ts:List TE),sh e=some es→PEs X es ts→PE X e (fun σ H Q=>XY ts σ H fun vs H1=>r vs H1 Q)
 okT:∀ (e:Expr) (es:List Expr) (ts:List TE),sh e=some es→PEs X es ts→PT X e (fun σ H Q=>XY ts σ H fun vs H1=>r vs H1 fun x H2=>asB x H2 Q)
end
end G3
namespace G3
open PySem L2
def up (t:TE):TE:=fun σ H Q=>∃ Q0:VK,t σ H Q0∧∀ x H',Q0 x H'→Q x H'
def upA (t:TA):TA:=fun σ H Q=>∃ Q0:List V→Hp→Prop,t σ H Q0∧∀ x H',Q0 x H'→Q x H'
def upT (t:TT):TT:=fun σ H Q=>∃ Q0:Bool→Hp→Prop,t σ H Q0∧∀ x H',Q0 x H'→Q x H'
def upR (r:R2):R2:=fun x y H Q=>∃ Q0:VK,r x y H Q0∧∀ x H',Q0 x H'→Q x H'
theorem pe_up {X:Cx} {e:Expr} {t:TE} (h:PE X e t):PE X e (up t):=fun pins s σ H Q I ⟨Q0,h0,k⟩=>thn (h pins s σ H Q0 I h0) fun v s1 ⟨x,H1,I1,r1,q1⟩=>⟨x,H1,I1,r1,k _ _ q1⟩
theorem MN {X:Cx} {es:List Expr} {t:TA} (h:PA X es t):PA X es (upA t):=fun pos pins s σ H Q I ⟨Q0,h0,k⟩=>thn (h pos pins s σ H Q0 I h0) fun v s1 ⟨x,H1,I1,r1,q1⟩=>⟨x,H1,I1,r1,k _ _ q1⟩
theorem UE {X:Cx} {e:Expr} {t:TT} (h:PT X e t):PT X e (upT t):=fun pins s σ H Q I ⟨Q0,h0,k⟩=>thn (h pins s σ H Q0 I h0) fun v s1 ⟨H1,I1,q1⟩=>⟨H1,I1,k _ _ q1⟩
theorem GS {X:Cx} {f:Value→Value→Sem Value} {r:R2} (h:OpR X f r):OpR X f (upR r):=fun pins s σ H x y v u Q I rx ry ⟨Q0,h0,k⟩=>thn (h pins s σ H x y v u Q0 I rx ry h0) fun v s1 ⟨x,H1,I1,r1,q1⟩=>⟨x,H1,I1,r1,k _ _ q1⟩
theorem ZU {X:Cx} {es:List Expr} {t:TT} (h:PF X es t):PF X es (upT t):=fun pins s σ H Q I ⟨Q0,h0,k⟩=>thn (h pins s σ H Q0 I h0) fun v s1 ⟨H1,I1,q1⟩=>⟨H1,I1,k _ _ q1⟩
theorem pe_mono {X:Cx} {e:Expr} {t u:TE} (h:PE X e t) (k:∀ σ H Q,u σ H Q→t σ H Q):PE X e u:=fun pins s σ H Q I q=>h pins s σ H Q I (k σ H Q q)
theorem ZA {X:Cx} {e:Expr} {t u:TT} (h:PT X e t) (k:∀ σ H Q,u σ H Q→t σ H Q):PT X e u:=fun pins s σ H Q I q=>h pins s σ H Q I (k σ H Q q)
section
variable {K:PySem.W.Frag} {m:Nat} {cs:St} {tt:TT} {te:TE} {H:Hp} {Q:VK} {acc:Addr} {itm:Nat→V}
theorem UD {R:Nat→List V→Hp→Prop} {i n:Nat} {ys:List V} {H1:Hp} {x:V} (hn:i < n) (hz:n≤4000) (ha:H acc=none) (hm:∀ acc i ys l H1 H2,R i ys H1→H1 acc=some (.lst l)→H acc=none→(∀ a o,a≠acc→H1 a=some o→H2 a=some o)→(∀ a xs,SqT K H1 a xs→SqT K H2 a xs)→R i ys H2)
 (hy:H1 acc=some (.lst ys)) (hl:ys.length≤i) (g:Same H H1) (q:tt (some x :: cs) H1 fun b H2=>cond b (te (some x :: cs) H2 fun y H3=>Same H1 H3∧R (i + 1) (ys ++ [y]) H3) (Same H1 H2∧R (i + 1) ys H2)) :
 upT tt (some x :: cs) H1 (JY n (fun i ys H'=>H' acc=some (.lst ys)∧Same H H'∧R i ys H'∧ys.length≤i) acc i (up te) (some x :: cs)):=by
 refine ⟨_,q,fun b H2 q=>?_⟩
 cases b with
 | true =>
  refine Zn ⟨_,q,fun y H3 q=>?_⟩
  have hy3:=q.1 _ _ hy
  refine Qx (ys:=ys) hn hy3 (4:) ⟨Qb,fun z u e=>?_,hm acc _ _ ys H3 _ q.2 hy3 ha (fun a o na e=>by rw [Qg na];exact e) (fun a xs h=>SqT.put h hy3),by rw [List.length_append];show ys.length + 1≤_;lia⟩
  rw [Qg (Qh e ha)]
  exact q.1 _ _ (g _ _ e)
 | false=>exact Zb (Zr hn ⟨q.1 _ _ hy,g.trans q.1,q.2,by lia⟩)
theorem YM {R:Addr→Nat→List V→Hp→Prop} {i n:Nat} {ys:List V} {H1:Hp} {x:V} (hn:i < n) (hz:n≤4000) (hl:ys.length≤i) (q:tt (some x :: cs) H1 fun b H2=>cond b (te (some x :: cs) H2 fun y H3=>H3 acc=some (.lst ys)∧R acc (i + 1) (ys ++ [y]) (upd H3 acc (.lst (ys ++ [y])))) (R acc (i + 1) ys H2)) :
 upT tt (some x :: cs) H1 (JY n (fun i ys H'=>R acc i ys H'∧ys.length≤i) acc i (up te) (some x :: cs)):=by
 refine ⟨_,q,fun b H2 q=>?_⟩
 cases b with
 | true=>exact Zn ⟨_,q,fun y H3 q=>Qx (ys:=ys) hn q.1 (4:) ⟨q.2,by rw [List.length_append];show ys.length + 1≤_;lia⟩⟩
 | false=>exact Zb (Zr hn ⟨q,by lia⟩)
theorem Ya (h:Cmp K (fun _=>True) (fun i=>.int (i:Int)) m cs tt te H Q) (ha:H acc=none):Yf (Itr 0 m) 1 cs (QX 0) (upT tt) (up te) H acc (fun H'=>Q (.ref acc) H'):=by
 cases h with
 | s R h0 hm hz hs hd =>
  refine UO (fun i ys H'=>H' acc=some (.lst ys)∧Same H H'∧R i ys H'∧ys.length≤i) ⟨Qb,Qe ha _,h0 _ (Qe ha _),Nat.zero_le _⟩ (fun i ys H1 hi p=>?_) fun ys H1 p=>hd acc ys H1 p.2.1 p.1 p.2.2.1
  rw [Int.zero_add]
  exact UD hi hz ha hm p.1 p.2.2.2 p.2.1 (hs i ys H1 hi p.2.2.2 p.2.1 p.2.2.1)
 | m R hz h0 hx hs hd =>
  refine UO (fun i ys H'=>R acc i ys H'∧ys.length≤i) ⟨h0 acc _ ha (Qe ha _) Qb,Nat.zero_le _⟩ (fun i ys H1 hi p=>?_) fun ys H1 p=>hd acc ys H1 ha p.1
  rw [Int.zero_add]
  exact YM hi hz p.2 (hs acc i ys H1 hi p.2 ha p.1)
theorem YD {a:Addr} {xs:List V} (hx:SqL K H a xs) (h:Cmp K (fun H=>SqL K H a xs) (fun i=>(xs[i]?).getD .non) xs.length cs tt te H Q) (ha:H acc=none):Yf (Itl K a) 1 cs (QX 0) (upT tt) (up te) H acc (fun H'=>Q (.ref acc) H'):=by
 cases h with
 | s R h0 hm hz hs hd =>
  refine Uf (xs:=xs) (fun i ys H'=>H' acc=some (.lst ys)∧Same H H'∧R i ys H'∧ys.length≤i) ⟨Qb,Qe ha _,h0 _ (Qe ha _),Nat.zero_le _⟩ (fun i ys H1 _ p=>p.2.1.seq hx) (fun i x ys H1 hi e p=>?_) fun ys H1 p=>hd acc ys H1 p.2.1 p.1 p.2.2.1
  have q:=hs i ys H1 hi p.2.2.2 p.2.1 p.2.2.1
  rw [e] at q
  exact UD hi hz ha hm p.1 p.2.2.2 p.2.1 q
 | m R hz h0 hx' hs hd =>
  refine Uf (xs:=xs) (fun i ys H'=>R acc i ys H'∧ys.length≤i) ⟨h0 acc _ ha (Qe ha _) Qb,Nat.zero_le _⟩ (fun i ys H1 _ p=>hx' acc i ys H1 p.1) (fun i x ys H1 hi e p=>?_) fun ys H1 p=>hd acc ys H1 ha p.1
  have q:=hs acc i ys H1 hi p.2 ha p.1
  rw [e] at q
  exact YM hi hz p.2 q
theorem Ud {a:Addr} {xs:List V} (hx:SqT K H a xs) (h:Cmp K (fun H=>SqT K H a xs) (fun i=>(xs[i]?).getD .non) xs.length cs tt te H Q) (ha:H acc=none):Yf (Itt K a) 1 cs (QX 0) (upT tt) (up te) H acc (fun H'=>Q (.ref acc) H'):=by
 cases h with
 | s R h0 hm hz hs hd =>
  refine Yo (xs:=xs) (fun i ys H'=>H' acc=some (.lst ys)∧Same H H'∧R i ys H'∧ys.length≤i) ⟨Qb,Qe ha _,h0 _ (Qe ha _),Nat.zero_le _⟩ (fun i ys H1 _ p=>p.2.1.seqT hx) (fun i x ys H1 hi e p=>?_) fun ys H1 p=>hd acc ys H1 p.2.1 p.1 p.2.2.1
  have q:=hs i ys H1 hi p.2.2.2 p.2.1 p.2.2.1
  rw [e] at q
  exact UD hi hz ha hm p.1 p.2.2.2 p.2.1 q
 | m R hz h0 hx' hs hd =>
  refine Yo (xs:=xs) (fun i ys H'=>R acc i ys H'∧ys.length≤i) ⟨h0 acc _ ha (Qe ha _) Qb,Nat.zero_le _⟩ (fun i ys H1 _ p=>hx' acc i ys H1 p.1) (fun i x ys H1 hi e p=>?_) fun ys H1 p=>hd acc ys H1 ha p.1
  have q:=hs acc i ys H1 hi p.2 ha p.1
  rw [e] at q
  exact YM hi hz p.2 q
end
end G3
namespace G3
open PySem L2
structure Tb where
 N:List Str
 sc:Scope
 fn:List Str
 mt:List Str
 nk:List (Expr→Option (List Expr))
 sk:List (Stmt→Option (List Expr))
def NK (sc:Scope) (x:Str):Bool:=match sc.names.lookup x with
 | some .local=>true
 | some .cell=>true
 | some .free=>true
 | _=>false
def XL (sc:Scope) (x:Str):Bool:=match sc.names.lookup x with
 | some .local=>true
 | some .cell=>true
 | _=>false
def glB (sc:Scope) (x:Str):Bool:=match sc.names.lookup x with
 | some .globalImplicit=>true
 | _=>false
def ndB (x:Str):Bool:=!(x == ("__debug__" : Str)) && !(x == ("__classdict__" : Str))
def OV:Const→V→Bool
 | .int i,.int j=>decide (i=j)
 | .str i,.str j=>decide (i=j)
 | .bool i,.bl j=>decide (i=j)
 | .none,.non=>true
 | _,_=>false
def MP (scope sc:Scope):Scope:={ scope with names:=scope.names.map fun (n,k)=>if (k == NameKind.free && sc.kind == .function && sc.names.lookup n == some .cell) then (n,NameKind.cell) else (n,k) }
def inn (T:Tb) (x:Str) (scope:Scope):Tb:=⟨x :: Zo scope.names,MP scope T.sc,T.fn,T.mt,T.nk,T.sk⟩
def U6 (T:Tb) (cap:List Nat) (x:Str) (scope:Scope):Bool :=
 decide (scope.kind=.function) && decide (T.sc.kind=.function) && decide (cap.map (fun j=>T.N[j]?)=(Zo scope.names).map some) && decide (∀ z ∈ scope.names,z.2≠.cell) && decide (∀ y ∈ scope.names,y.2=.local→scope.names.lookup y.1=some .local)
  && decide (scope.names.lookup x=some .local) && decide ((x :: Zo scope.names).Nodup) && decide (∀ y ∈ Zo scope.names,scope.names.lookup y=some .free) && decide (∀ y ∈ Zo scope.names,T.sc.names.lookup y=some .cell)
def Os:Expr→Bool
 | .Call _ _ _ _=>false
 | _=>true
mutual
def chk:C→Tb→Expr→Bool
 | .v i,T,e=>match e with
  | .Name x _=>decide (T.N[i]?=some x) && NK T.sc x && ndB x
  | _=>false
 | .k x,T,e=>match e with
  | .Constant c _ _=>OV c x
  | _=>false
 | .bin op a b,T,e=>match e with
  | .BinOp x op' y _=>decide (op=op') && chk a T x && chk b T y
  | _=>false
 | .cmp op a b,T,e=>match e with
  | .Compare x [op'] [y] _=>decide (op=op') && chk a T x && chk b T y && !(behindInMarks op y)
  | _=>false
 | .ix a b,T,e=>match e with
  | .Subscript x y _=>chk a T x && chk b T y && ord y
  | _=>false
 | .tup as,T,e=>match e with
  | .Tuple es _ _=>Yd as T es
  | _=>false
 | .lst as,T,e=>match e with
  | .List es _=>Yd as T es
  | _=>false
 | .call i as,T,e=>match e with
  | .Call (.Name x _) (z :: es) [] _=>decide (T.fn[i]?=some x) && glB T.sc x && ndB x && Yd as T (z :: es)
  | _=>false
 | .no a,T,e=>match e with
  | .UnaryOp .Not x _=>chk a T x
  | _=>false
 | .an a b,T,e=>match e with
  | .BoolOp .And [x,y] _=>chk a T x && chk b T y
  | .BoolOp .And (x :: y :: z :: r) p=>chk a T x && chk b T (.BoolOp .And (y :: z :: r) p)
  | _=>false
 | .oo a b,T,e=>match e with
  | .BoolOp .Or [x,y] _=>chk a T x && chk b T y
  | .BoolOp .Or (x :: y :: z :: r) p=>chk a T x && chk b T (.BoolOp .Or (y :: z :: r) p)
  | _=>false
 | .meth i o as,T,e=>match e with
  | .Call (.Attribute x m ap) (z :: es) [] cp=>decide (T.mt[i]?=some m) && chk o T x && Os x && Yd as T (z :: es) && Nat.ble (z :: es).length 19 && (ap.endLine == cp.line)
  | _=>false
 | .nd i as,T,e=>match T.nk[i]? with
  | some sh=>match sh e with
   | some es=>Yd as T es
   | none=>false
  | none=>false
 | .iff c a b,T,e=>match e with
  | .IfExp x y z _=>chk c T x && chk a T y && chk b T z
  | _=>false
 | .comp kd it cap elt,T,e=>match e with
  | .ListComp el [⟨.Name x _,iter,[],0⟩] scope _=>U6 T cap x scope && chk elt (inn T x scope) el && (match kd,iter with
   | 0,.Call (.Name r _) [z] [] _=>decide (r = "range") && glB T.sc r && chk it T z && ord z
   | 1,iter=>chk it T iter && ord iter
   | 2,iter=>chk it T iter && ord iter
   | _,_=>false)
  | _=>false
 | .compI kd it cap cnd elt,T,e=>match e with
  | .ListComp el [⟨.Name x _,iter,[c],0⟩] scope _=>U6 T cap x scope && chk elt (inn T x scope) el && chk cnd (inn T x scope) c && (match kd,iter with
   | 0,.Call (.Name r _) [z] [] _=>decide (r = "range") && glB T.sc r && chk it T z && ord z
   | 1,iter=>chk it T iter && ord iter
   | 2,iter=>chk it T iter && ord iter
   | _,_=>false)
  | _=>false
termination_by structural c=>c
def Yd:List C→Tb→List Expr→Bool
 | [],T,es=>match es with
  | []=>true
  | _=>false
 | a :: r,T,es=>match es with
  | e :: es=>ord e && chk a T e && Yd r T es
  | []=>false
termination_by structural c=>c
end
end G3
namespace G3
open PySem L2
theorem Nv {sc:Scope} {x:Str} (h:NK sc x=true):Vis sc x:=by
 unfold NK at h
 split at h
 ·exact .inl (by assumption)
 ·exact .inr (.inl (by assumption))
 ·exact .inr (.inr (by assumption))
 ·cases h
theorem Gj {sc:Scope} {x:Str} (h:XL sc x=true):Loc sc x:=by
 unfold XL at h
 split at h
 ·exact .inl (by assumption)
 ·exact .inr (by assumption)
 ·cases h
theorem Jh {X:Cx} {x:Str} (h:glB X.env.scope x=true):Gl X x:=by
 unfold glB at h
 split at h
 ·assumption
 ·cases h
theorem Lg {x:Str} (h:ndB x=true):(x == ("__debug__" : Str))=false∧(x == ("__classdict__" : Str))=false:=by
 unfold ndB at h
 rw [Bool.and_eq_true] at h
 exact ⟨by simpa using h.1,by simpa using h.2⟩
theorem Jz {k:V→Prop}:∀ {σ:St} {i:Nat},Nu σ i k→∃ v,σ[i]?=some (some v)∧k v
 | [],_,h=>h.elim
 | none :: _,0,h=>h.elim
 | some x :: _,0,h=>⟨x,rfl,h⟩
 | none :: r,n + 1,h=>by rw [List.getElem?_cons_succ];exact Jz (σ:=r) (i:=n) h
 | some _ :: r,n + 1,h=>by rw [List.getElem?_cons_succ];exact Jz (σ:=r) (i:=n) h
theorem QV {x:V}:∀ {σ:St} {i:Nat} {k:St→Prop},J9 σ i x k→k (σ.set i (some x))
 | [],_,_,h=>h.elim
 | _ :: _,0,_,h=>h
 | a :: r,n + 1,k,h=>QV (σ:=r) (i:=n) (k:=fun r'=>k (a :: r')) h
theorem ZX {x:V} {H:Hp} {Q:Bool→Hp→Prop} (h:asB x H Q):∃ b,x=.bl b∧Q b H:=by
 unfold asB at h
 split at h
 ·exact ⟨_,rfl,h⟩
 ·exact h.elim
theorem UZ {c:Bool} {A B:Prop} (h:cond c A B):if c=true then A else B:=by
 cases c with
 | true=>exact h
 | false=>exact h
theorem JX:∀ {xs:List V} {n:Nat},Vr xs n=true→xs.length≤n
 | [],_,_=>Nat.zero_le _
 | _ :: _,0,h=>nomatch h
 | _ :: r,n + 1,h=>Nat.succ_le_succ (JX (xs:=r) h)
theorem GL {xs:List V} {n:Nat} {A:Prop} (h:cond (Vr xs n) A False):xs.length≤n∧A:=by
 cases hb:Vr xs n with
 | false=>rw [hb] at h;exact h.elim
 | true=>rw [hb] at h;exact ⟨JX hb,h⟩
theorem J0 {T:Tb}:∀ (as:List C) (es:List Expr),Yd as T es=true→es.all ord=true
 | [],es,h=>by
  unfold Yd at h
  split at h
  ·rfl
  ·cases h
 | a :: r,es,h=>by
  unfold Yd at h
  split at h
  ·rw [Bool.and_eq_true,Bool.and_eq_true] at h
   rw [List.all_cons,Bool.and_eq_true]
   exact ⟨h.1.1,J0 r _ h.2⟩
  ·cases h
theorem Om {X:Cx} {op:BoolOp} {es:List Expr} {pos:Pos} {t:TT} (h:PT X (.BoolOp op es pos) t):PW X (.BoolOp op es pos) t:=fun _ pins s σ H Q I q=>h pins s σ H Q I q
def ET (n:En) (c:C):TT:=fun σ H Q=>E n c σ H fun x H1=>asB x H1 Q
theorem Zh:∀ {cap:List Nat} {σ:St},VW cap σ=UY cap σ
 | [],_=>rfl
 | j :: r,σ=>by rw [VW,Zh (cap:=r)];rfl
structure Fam (X X':Cx):Prop where
 p:X'.prog=X.prog
 w:X'.w=X.w
 K:X'.K=X.K
 m:X'.mg=X.mg
 b:X'.base=X.base
 A:X'.A=X.A
 c:X'.calm=X.calm
structure Fit (X:Cx) (T:Tb) (fs:List Rel) (ms:List Mr) (nr:List (List V→Hp→VK→Prop)):Prop where
 hN:T.N=X.N
 hs:T.sc=X.env.scope
 hf:∀ X':Cx,Fam X X'→∀ (i:Nat) x,T.fn[i]?=some x→∃ r,fs[i]?=some r∧CallOk X' x r
 hm:∀ X':Cx,Fam X X'→∀ (i:Nat) x,T.mt[i]?=some x→∃ r,ms[i]?=some r∧MethOk X' x r
 hn:∀ X':Cx,Fam X X'→∀ (i:Nat) sh,T.nk[i]?=some sh→∃ r,nr[i]?=some r∧NodeOk X' sh r
 ca:X.calm=true
 rg:X.mg "range" = none
theorem Fit.inn {X:Cx} {T:Tb} {fs:List Rel} {ms:List Mr} {nr:List (List V→Hp→VK→Prop)} (F:Fit X T fs ms nr) (x:Str) (scope:Scope) (cl:List (Str × Addr)) (C:Addr) (fp:List Addr) (s₀:Shared) (H₀:Hp):Fit (QP X ([x] ++ Zo scope.names) scope cl C fp s₀ H₀) (inn T x scope) fs ms nr :=
 ⟨rfl,by
  show MP scope T.sc=relabel scope X.env
  rw [F.hs];rfl,fun X' f=>F.hf X' ⟨f.p,f.w,f.K,f.m,f.b,f.A,f.c⟩,fun X' f=>F.hm X' ⟨f.p,f.w,f.K,f.m,f.b,f.A,f.c⟩,fun X' f=>F.hn X' ⟨f.p,f.w,f.K,f.m,f.b,f.A,f.c⟩,F.ca,F.rg⟩
theorem Uc {X:Cx} {T:Tb} {fs:List Rel} {ms:List Mr} {nr:List (List V→Hp→VK→Prop)} (F:Fit X T fs ms nr) {cap:List Nat} {x:Str} {scope:Scope} (h:U6 T cap x scope=true) (has:∀ y,X.env.scope.names.lookup y=some .cell→∃ c,X.env.cells.lookup y=some c):∃ cl,CompG X [x] (Zo scope.names) cap scope cl:=by
 unfold U6 at h
 simp only [Bool.and_eq_true,decide_eq_true_eq] at h
 obtain ⟨⟨⟨⟨⟨⟨⟨⟨h1,h2⟩,h3⟩,h4⟩,h5⟩,h6⟩,h7⟩,h8⟩,h9⟩:=h
 rw [F.hs] at h2 h9
 rw [F.hN] at h3
 obtain ⟨cs,hcs⟩ : ∃ cs:List Addr,(Zo scope.names).map (fun y=>X.env.cells.lookup y)=cs.map some:=by
  have:∀ l:List Str,(∀ y ∈ l,X.env.scope.names.lookup y=some .cell)→∃ cs:List Addr,l.map (fun y=>X.env.cells.lookup y)=cs.map some:=by
   intro l
   induction l with
   | nil=>exact fun _=>⟨[],rfl⟩
   | cons y r ih =>
    intro h
    obtain ⟨cs,e⟩:=ih fun z hz=>h z (List.mem_cons_of_mem _ hz)
    obtain ⟨c,ec⟩:=has y (h y List.mem_cons_self)
    exact ⟨c :: cs,by rw [List.map_cons,e,ec];rfl⟩
  exact this _ h9
 exact ⟨_,CompG.many (xs:=[x]) (caps:=Zo scope.names) (cap:=cap) (cs:=cs) h1 h2 rfl h4 h5 (fun z hz=>by rw [List.mem_singleton.mp hz];exact h6) h7 h8 (List.map_congr_left fun y hy=>h9 y hy) hcs h3⟩
theorem pvT {X:Cx} {e:Expr} {t:TE} (h:PE X e t) (ht:tst e=true):PE X e t∧PT X e (fun σ H Q=>t σ H fun x H1=>asB x H1 Q):=⟨h,ZA (QM (pe_up h) (VA ht)) fun σ H Q q=>⟨_,q,fun x H1 q=>ZX q⟩⟩
theorem JU {n:En}:∀ (as:List C) {σ:St} {H:Hp} {Q:List V→Hp→Prop},Es n as σ H Q ↔ XY (as.map (E n)) σ H Q
 | [],σ,H,Q=>Iff.rfl
 | a :: r,σ,H,Q=>by
  have:(fun x H1=>Es n r σ H1 fun xs H2=>Q (x :: xs) H2)=fun x H1=>XY (r.map (E n)) σ H1 fun xs H2=>Q (x :: xs) H2:=by
   funext x H1
   exact propext (JU r)
  show (E n a σ H fun x H1=>Es n r σ H1 fun xs H2=>Q (x :: xs) H2) ↔ _
  rw [this]
  exact Iff.rfl
section
variable {fs:List Rel} {ms:List Mr} {nr:List (List V→Hp→VK→Prop)} {sr:List (St→List V→Hp→(St→Hp→Prop)→Prop)}
mutual
theorem snb:∀ (c:C) {X:Cx} {T:Tb} (F:Fit X T fs ms nr) (e:Expr),chk c T e=true→PE X e (E (14:) c)∧PT X e (ET (14:) c)
 | .v i,X,T,F,e,h=>by
  unfold chk at h
  split at h
  ·rw [Bool.and_eq_true,Bool.and_eq_true] at h
   have h1:=of_decide_eq_true h.1.1
   rw [F.hN] at h1
   have h2:=h.1.2
   rw [F.hs] at h2
   exact pvT (pe_mono (V3 h1 (Nv h2) (Lg h.2).1 (Lg h.2).2) fun σ H Q q=>Jz q) rfl
  ·cases h
 | .k x,X,T,F,e,h=>by
  unfold chk at h
  split at h
  ·unfold OV at h
   split at h
   ·rw [of_decide_eq_true h];exact pvT Qd rfl
   ·rw [of_decide_eq_true h];exact pvT Zy rfl
   ·rw [of_decide_eq_true h];exact pvT Zv rfl
   ·exact pvT Yj rfl
   ·cases h
  ·cases h
 | .bin op a b,X,T,F,e,h=>by
  unfold chk at h
  split at h
  ·rw [Bool.and_eq_true,Bool.and_eq_true] at h
   rw [← of_decide_eq_true h.1.1]
   exact pvT (Qm (Py op) (snb a F _ h.1.2).1 (snb b F _ h.2).1) rfl
  ·cases h
 | .cmp op a b,X,T,F,e,h=>by
  unfold chk at h
  split at h
  ·rw [Bool.and_eq_true,Bool.and_eq_true,Bool.and_eq_true] at h
   rw [← of_decide_eq_true h.1.1.1]
   exact ⟨Zz (OP op) (snb a F _ h.1.1.2).1 (snb b F _ h.1.2).1 (by simpa using h.2),ZA (Qr (GS (OP op)) (pe_up (snb a F _ h.1.1.2).1) (pe_up (snb b F _ h.1.2).1) (by simpa using h.2)) fun σ H Q q=>⟨_,q,fun x H1 q=>⟨_,q,fun y H2 q=>⟨_,q,fun z H3 q=>ZX q⟩⟩⟩⟩
  ·cases h
 | .ix a b,X,T,F,e,h=>by
  unfold chk at h
  split at h
  ·rw [Bool.and_eq_true,Bool.and_eq_true] at h
   exact pvT (Qk Pr (snb a F _ h.1.1).1 (snb b F _ h.1.2).1 (ord_ix h.2)) rfl
  ·cases h
 | .tup as,X,T,F,e,h=>by
  unfold chk at h
  split at h
  ·exact pvT (pe_mono (QE (MN (Lb as F _ h))) fun σ H Q q=>⟨_,q,fun vs H1 q=>by
    obtain ⟨hl,q⟩:=GL q
    exact ⟨Nat.le_trans hl (by decide),fun p hp=>q.h p _ (Qe hp _) (SqT.of Qb) Qb⟩⟩) rfl
  ·cases h
 | .lst as,X,T,F,e,h=>by
  unfold chk at h
  split at h
  ·exact pvT (pe_mono (Zc (MN (Lb as F _ h))) fun σ H Q q=>⟨_,q,fun vs H1 q=>by
    obtain ⟨hl,q⟩:=GL q
    exact ⟨Nat.le_trans hl (by decide),fun p hp=>q.h p _ (Qe hp _) Qb hp⟩⟩) rfl
  ·cases h
 | .call i as,X,T,F,e,h=>by
  unfold chk at h
  split at h
  ·rw [Bool.and_eq_true,Bool.and_eq_true,Bool.and_eq_true] at h
   obtain ⟨r,h1,h2⟩:=F.hf X ⟨rfl,rfl,rfl,rfl,rfl,rfl,rfl⟩ _ _ (of_decide_eq_true h.1.1.1)
   have h3:=h.1.1.2
   rw [F.hs] at h3
   have h4:=J0 as _ h.2
   rw [List.all_cons,Bool.and_eq_true] at h4
   refine pvT (pe_mono (h2.ok _ _ _ _ _ (Lb as F _ h.2) (Jh h3) (Lg h.1.2).1 (QL h4.1) (Vf h4.2)) fun σ H Q q=>?_) rfl
   have q:Es (14:) as σ H fun vs H1=>match fs[i]? with | some r=>r σ vs H1 Q | none=>False:=q
   rw [h1] at q
   exact q
  ·cases h
 | .no a,X,T,F,e,h=>by
  unfold chk at h
  split at h
  ·exact ⟨pe_mono (GU (pe_up (snb a F _ h).1)) fun σ H Q q=>⟨_,q,fun x H1 q=>ZX q⟩,Q3 (snb a F _ h).2⟩
  ·cases h
 | .an a b,X,T,F,e,h=>by
  unfold chk at h
  split at h
  ·rw [Bool.and_eq_true] at h
   exact ⟨pe_mono (JV (pe_up (snb a F _ h.1).1) (J4 (snb b F _ h.2).1)) fun σ H Q q=>⟨_,q,fun x H1 q=>by
    obtain ⟨c,e,q⟩:=ZX q
    exact ⟨c,e,UZ q⟩⟩,ZA (PW.pt (pw_and (UE (snb a F _ h.1).2) (pw_and1 (snb b F _ h.2).2))) fun σ H Q q=>⟨_,q,fun x H1 q=>UZ q⟩⟩
  ·rw [Bool.and_eq_true] at h
   exact ⟨pe_mono (JV (pe_up (snb a F _ h.1).1) (snb b F _ h.2).1) fun σ H Q q=>⟨_,q,fun x H1 q=>by
    obtain ⟨c,e,q⟩:=ZX q
    exact ⟨c,e,UZ q⟩⟩,ZA (PW.pt (pw_and (UE (snb a F _ h.1).2) (Om (snb b F _ h.2).2))) fun σ H Q q=>⟨_,q,fun x H1 q=>UZ q⟩⟩
  ·cases h
 | .oo a b,X,T,F,e,h=>by
  unfold chk at h
  split at h
  ·rw [Bool.and_eq_true] at h
   exact ⟨pe_mono (MI (pe_up (snb a F _ h.1).1) (J4 (snb b F _ h.2).1)) fun σ H Q q=>⟨_,q,fun x H1 q=>by
    obtain ⟨c,e,q⟩:=ZX q
    exact ⟨c,e,UZ q⟩⟩,ZA (PW.pt (pw_or (UE (snb a F _ h.1).2) (pw_or1 (snb b F _ h.2).2))) fun σ H Q q=>⟨_,q,fun x H1 q=>UZ q⟩⟩
  ·rw [Bool.and_eq_true] at h
   exact ⟨pe_mono (MI (pe_up (snb a F _ h.1).1) (snb b F _ h.2).1) fun σ H Q q=>⟨_,q,fun x H1 q=>by
    obtain ⟨c,e,q⟩:=ZX q
    exact ⟨c,e,UZ q⟩⟩,ZA (PW.pt (pw_or (UE (snb a F _ h.1).2) (Om (snb b F _ h.2).2))) fun σ H Q q=>⟨_,q,fun x H1 q=>UZ q⟩⟩
  ·cases h
 | .meth i o as,X,T,F,e,h=>by
  unfold chk at h
  split at h
  ·simp only [Bool.and_eq_true] at h
   obtain ⟨⟨⟨⟨⟨h1,h2⟩,h3⟩,h4⟩,h5⟩,h6⟩:=h
   obtain ⟨r,e1,e2⟩:=F.hm X ⟨rfl,rfl,rfl,rfl,rfl,rfl,rfl⟩ _ _ (of_decide_eq_true h1)
   rename_i x m ap z es cp
   refine pvT (pe_mono (e2.ok _ _ _ _ _ _ _ (pe_up (snb o F _ h2).1) (Lb as F _ h4) (by cases x <;> first | rfl | exact absurd (show false=true from h3) Bool.false_ne_true) (J0 as _ h4) (Nat.lt_succ_of_le (Nat.ble_eq.mp h5)) h6) fun σ H Q q=>⟨_,q,fun x H1 q=>?_⟩) rfl
   have q:(match ms[i]? with | some m=>Cnd (m.ty x H1) (Es (14:) as σ H1 fun xs H2=>m.r x xs H2 Q) | none=>False):=q
   rw [e1] at q
   exact ⟨q.h,q.k⟩
  ·cases h
 | .nd i as,X,T,F,e,h=>by
  unfold chk at h
  split at h
  ·rename_i sh hsh
   obtain ⟨r,e1,e2⟩:=F.hn X ⟨rfl,rfl,rfl,rfl,rfl,rfl,rfl⟩ _ _ hsh
   split at h
   ·rename_i es hes
    refine ⟨pe_mono (e2.ok e es _ hes (LH as F _ h)) fun σ H Q q=>?_,ZA (e2.okT e es _ hes (LH as F _ h)) fun σ H Q q=>?_⟩
    ·have q:Es (14:) as σ H fun vs H1=>match nr[i]? with | some r=>r vs H1 Q | none=>False:=q
     rw [e1] at q
     exact (JU as).mp q
    ·have q:Es (14:) as σ H fun vs H1=>match nr[i]? with | some r=>r vs H1 (fun x H2=>asB x H2 Q) | none=>False:=q
     rw [e1] at q
     exact (JU as).mp q
   ·cases h
  ·cases h
 | .iff c a b,X,T,F,e,h=>by
  unfold chk at h
  split at h
  ·rw [Bool.and_eq_true,Bool.and_eq_true] at h
   refine ⟨pe_mono (UV (UE (snb c F _ h.1.1).2) (snb a F _ h.1.2).1 (snb b F _ h.2).1) fun σ H Q q=>⟨_,q,fun x H1 q=>UZ q⟩,fun pins s σ H Q I q=>?_⟩
   refine PyProof.Rows.isTrue_IfExp (thn ((snb c F _ h.1.1).2 pins s σ H _ I q) fun d s1 ⟨H1,I1,q1⟩=>?_)
   cases d with
   | true=>exact (snb a F _ h.1.2).2 pins s1 σ H1 _ I1 q1
   | false=>exact (snb b F _ h.2).2 pins s1 σ H1 _ I1 q1
  ·cases h
 | .comp kd it cap elt,X,T,F,e,h=>by
  unfold chk at h
  split at h
  ·simp only [Bool.and_eq_true] at h
   obtain ⟨⟨h1,h2⟩,h3⟩:=h
   refine pvT (fun pins s σ H Q I q=>?_) rfl
   obtain ⟨cl,O⟩:=Uc F h1 fun y hy=>I.ok.has y (.inl hy)
   have hel:=fun C fp s₀ H₀=>pe_up (snb elt (F.inn _ _ cl C fp s₀ H₀) _ h2).1
   split at h3
   ·simp only [Bool.and_eq_true] at h3
    obtain ⟨⟨⟨z1,z2⟩,z3⟩,z4⟩:=h3
    have z1:=of_decide_eq_true z1
    subst z1
    rw [F.hs] at z2
    refine Qy (te:=up (E (14:) elt)) (tt:=upT fun _ H Q=>Q true H) O F.ca (QD (Jh z2) F.rg (Qa (pe_up (snb it F _ z3).1) Qc (QL z4)) (QL z4)) (Q7 O) (fun C fp s₀ H₀=>ZU QT) hel (fun _=>rfl) pins s σ H Q I ⟨_,q,fun x H1 q=>?_⟩
    cases x with
    | int j =>
     obtain ⟨hr,q⟩:=q
     rw [Zh] at q
     exact ⟨j,rfl,hr.1,hr.2,fun acc ha=>Ya q ha⟩
    | _=>exact False.elim q
   ·simp only [Bool.and_eq_true] at h3
    obtain ⟨z3,z4⟩:=h3
    refine Qy (te:=up (E (14:) elt)) (tt:=upT fun _ H Q=>Q true H) O F.ca (QH (pe_up (snb it F _ z3).1)) (Q7 O) (fun C fp s₀ H₀=>ZU QT) hel (QU z4) pins s σ H Q I ⟨_,q,fun x H1 q=>?_⟩
    cases x with
    | ref a =>
     cases q with
     | l xs hx q =>
      rw [Zh] at q
      exact ⟨a,rfl,⟨xs,hx⟩,fun acc ha=>YD hx q ha⟩
    | _=>exact False.elim q
   ·simp only [Bool.and_eq_true] at h3
    obtain ⟨z3,z4⟩:=h3
    refine Qy (te:=up (E (14:) elt)) (tt:=upT fun _ H Q=>Q true H) O F.ca (ZI (pe_up (snb it F _ z3).1)) (Q7 O) (fun C fp s₀ H₀=>ZU QT) hel (QU z4) pins s σ H Q I ⟨_,q,fun x H1 q=>?_⟩
    cases x with
    | ref a =>
     cases q with
     | t xs hx q =>
      rw [Zh] at q
      exact ⟨a,rfl,⟨xs,hx⟩,fun acc ha=>Ud hx q ha⟩
    | _=>exact False.elim q
   ·cases h3
  ·cases h
 | .compI kd it cap cnd elt,X,T,F,e,h=>by
  unfold chk at h
  split at h
  ·simp only [Bool.and_eq_true] at h
   obtain ⟨⟨⟨h1,h2⟩,hc⟩,h3⟩:=h
   refine pvT (fun pins s σ H Q I q=>?_) rfl
   obtain ⟨cl,O⟩:=Uc F h1 fun y hy=>I.ok.has y (.inl hy)
   have hel:=fun C fp s₀ H₀=>pe_up (snb elt (F.inn _ _ cl C fp s₀ H₀) _ h2).1
   split at h3
   ·simp only [Bool.and_eq_true] at h3
    obtain ⟨⟨⟨z1,z2⟩,z3⟩,z4⟩:=h3
    have z1:=of_decide_eq_true z1
    subst z1
    rw [F.hs] at z2
    refine Qy (te:=up (E (14:) elt)) (tt:=upT (ET (14:) cnd)) O F.ca (QD (Jh z2) F.rg (Qa (pe_up (snb it F _ z3).1) Qc (QL z4)) (QL z4)) (Q7 O) (fun C fp s₀ H₀=>ZU (ZF (snb cnd (F.inn _ _ cl C fp s₀ H₀) _ hc).2)) hel (fun _=>rfl) pins s σ H Q I ⟨_,q,fun x H1 q=>?_⟩
    cases x with
    | int j =>
     obtain ⟨hr,q⟩:=q
     rw [Zh] at q
     exact ⟨j,rfl,hr.1,hr.2,fun acc ha=>Ya q ha⟩
    | _=>exact False.elim q
   ·simp only [Bool.and_eq_true] at h3
    obtain ⟨z3,z4⟩:=h3
    refine Qy (te:=up (E (14:) elt)) (tt:=upT (ET (14:) cnd)) O F.ca (QH (pe_up (snb it F _ z3).1)) (Q7 O) (fun C fp s₀ H₀=>ZU (ZF (snb cnd (F.inn _ _ cl C fp s₀ H₀) _ hc).2)) hel (QU z4) pins s σ H Q I ⟨_,q,fun x H1 q=>?_⟩
    cases x with
    | ref a =>
     cases q with
     | l xs hx q =>
      rw [Zh] at q
      exact ⟨a,rfl,⟨xs,hx⟩,fun acc ha=>YD hx q ha⟩
    | _=>exact False.elim q
   ·simp only [Bool.and_eq_true] at h3
    obtain ⟨z3,z4⟩:=h3
    refine Qy (te:=up (E (14:) elt)) (tt:=upT (ET (14:) cnd)) O F.ca (ZI (pe_up (snb it F _ z3).1)) (Q7 O) (fun C fp s₀ H₀=>ZU (ZF (snb cnd (F.inn _ _ cl C fp s₀ H₀) _ hc).2)) hel (QU z4) pins s σ H Q I ⟨_,q,fun x H1 q=>?_⟩
    cases x with
    | ref a =>
     cases q with
     | t xs hx q =>
      rw [Zh] at q
      exact ⟨a,rfl,⟨xs,hx⟩,fun acc ha=>Ud hx q ha⟩
    | _=>exact False.elim q
   ·cases h3
  ·cases h
theorem Lb:∀ (as:List C) {X:Cx} {T:Tb} (F:Fit X T fs ms nr) (es:List Expr),Yd as T es=true→PA X es (Es (14:) as)
 | [],X,T,F,es,h=>by
  unfold Yd at h
  split at h
  ·exact Qc
  ·cases h
 | a :: r,X,T,F,es,h=>by
  unfold Yd at h
  split at h
  ·rw [Bool.and_eq_true,Bool.and_eq_true] at h
   exact Qa (snb a F _ h.1.2).1 (Lb r F _ h.2) (QL h.1.1)
  ·cases h
theorem LH:∀ (as:List C) {X:Cx} {T:Tb} (F:Fit X T fs ms nr) (es:List Expr),Yd as T es=true→PEs X es (as.map (E (14:)))
 | [],X,T,F,es,h=>by
  unfold Yd at h
  split at h
  ·exact .nil
  ·cases h
 | a :: r,X,T,F,es,h=>by
  unfold Yd at h
  split at h
  ·rw [Bool.and_eq_true,Bool.and_eq_true] at h
   exact .cons (snb a F _ h.1.2).1 (LH r F _ h.2)
  ·cases h
end
theorem snd (c:C) {X:Cx} {T:Tb} (F:Fit X T fs ms nr) (e:Expr) (h:chk c T e=true):PE X e (E (14:) c):=(snb c F e h).1
theorem snt (c:C) {X:Cx} {T:Tb} (F:Fit X T fs ms nr) (e:Expr) (h:chk c T e=true):PT X e (ET (14:) c):=(snb c F e h).2
end
end G3
namespace G3
open PySem L2
inductive S where
 | set (i:Nat) (c:C) | ret (c:C) | ex (c:C) | ite (c:C) (a b:List S)
 | forR (i:Nat) (c:C) (b:List S) | forL (i:Nat) (c:C) (b:List S) | forT (i:Nat) (c:C) (b:List S)
 | setC (i:Nat) (c:C) | cut (s:S) | unp (is:List Nat) (c:C)
 | wh (c:C) (b:List S) | forU (is:List Nat) (c:C) (b:List S) | sx (i:Nat) (as:List C)
inductive ForR (i m:Nat) (tb:TS) (D:Ends) (σ:St) (H:Hp):Prop where
 | f (Pv:Nat→St→Hp→Prop) (h0:Pv 0 σ H) (hs:∀ j σ H,j < m→Pv j σ H→J9 σ i (.int (j:Int)) fun σ2=>tb { D with nx:=Pv (j + 1),ct:=Pv (j + 1),bk:=D.nx } σ2 H) (hd:∀ σ H,Pv m σ H→D.nx σ H):ForR i m tb D σ H
inductive ForL (K:PySem.W.Frag) (i:Nat) (a:Addr) (tb:TS) (D:Ends) (σ:St) (H:Hp):Prop where
 | f (xs:List V) (Pv:Nat→St→Hp→Prop) (h0:Pv 0 σ H) (hl:∀ j σ H,j≤xs.length→Pv j σ H→SqL K H a xs) (hs:∀ j x σ H,xs[j]?=some x→Pv j σ H→J9 σ i x fun σ2=>tb { D with nx:=Pv (j + 1),ct:=Pv (j + 1),bk:=D.nx } σ2 H) (hd:∀ σ H,Pv xs.length σ H→D.nx σ H):ForL K i a tb D σ H
inductive ForT (K:PySem.W.Frag) (i:Nat) (a:Addr) (tb:TS) (D:Ends) (σ:St) (H:Hp):Prop where
 | f (xs:List V) (Pv:Nat→St→Hp→Prop) (h0:Pv 0 σ H) (hl:∀ j σ H,j≤xs.length→Pv j σ H→SqT K H a xs) (hs:∀ j x σ H,xs[j]?=some x→Pv j σ H→J9 σ i x fun σ2=>tb { D with nx:=Pv (j + 1),ct:=Pv (j + 1),bk:=D.nx } σ2 H) (hd:∀ σ H,Pv xs.length σ H→D.nx σ H):ForT K i a tb D σ H
inductive Cut (t:TS) (D:Ends) (σ:St) (H:Hp):Prop where
 | c (R:St→Hp→Prop) (h:t { D with nx:=R } σ H) (k:∀ σ' H',R σ' H'→D.nx σ' H'):Cut t D σ H
def Xq:St→List Nat→List V→(St→Prop)→Prop
 | σ,[],[],k=>k σ
 | σ,i :: is,x :: xs,k=>J9 σ i x fun σ'=>Xq σ' is xs k
 | _,_,_,_=>False
inductive Unp (K:PySem.W.Frag) (a:Addr) (is:List Nat) (σ:St) (H:Hp) (k:St→Hp→Prop):Prop where
 | u (xs:List V) (h:SqT K H a xs) (q:Xq σ is xs fun σ'=>k σ' H):Unp K a is σ H k
inductive Wh (c:TT) (tb:TS) (D:Ends) (σ:St) (H:Hp):Prop where
 | w (J:Nat→St→Hp→Prop) (m:Nat) (h0:J m σ H) (hs:∀ m σ H,J m σ H→c σ H fun b H1=>cond b (tb { D with nx:=fun σ' H'=>∃ m' < m,J m' σ' H',ct:=fun σ' H'=>∃ m' < m,J m' σ' H',bk:=D.nx } σ H1) (D.nx σ H1)):Wh c tb D σ H
inductive ForU (K:PySem.W.Frag) (is:List Nat) (a:Addr) (tb:TS) (D:Ends) (σ:St) (H:Hp):Prop where
 | f (xs:List V) (Pv:Nat→St→Hp→Prop) (h0:Pv 0 σ H) (hl:∀ j σ H,j≤xs.length→Pv j σ H→SqL K H a xs) (hs:∀ j x σ H,xs[j]?=some x→Pv j σ H→∃ b ys,x=.ref b∧SqT K H b ys∧Xq σ is ys fun σ2=>tb { D with nx:=Pv (j + 1),ct:=Pv (j + 1),bk:=D.nx } σ2 H) (hd:∀ σ H,Pv xs.length σ H→D.nx σ H):ForU K is a tb D σ H
mutual
def E1 (n:En):S→TS
 | .set i c=>fun D σ H=>E n c σ H fun x H1=>J9 σ i x fun σ'=>D.nx σ' H1
 | .ret c=>fun D σ H=>E n c σ H D.rt
 | .ex c=>fun D σ H=>E n c σ H fun _ H1=>D.nx σ H1
 | .ite c a b=>fun D σ H=>ET n c σ H fun t H1=>cond t (ES n a D σ H1) (ES n b D σ H1)
 | .forR i c b=>fun D σ H=>E n c σ H fun x H1=>match x with | .int j=>Cnd (OA j) (ForR i j.toNat (ES n b) D σ H1) | _=>False
 | .forL i c b=>fun D σ H=>E n c σ H fun x H1=>match x with | .ref a=>ForL n.K i a (ES n b) D σ H1 | _=>False
 | .forT i c b=>fun D σ H=>E n c σ H fun x H1=>match x with | .ref a=>ForT n.K i a (ES n b) D σ H1 | _=>False
 | .cut s=>fun D σ H=>Cut (E1 n s) D σ H
 | .unp is c=>fun D σ H=>E n c σ H fun x H1=>match x with | .ref a=>Unp n.K a is σ H1 D.nx | _=>False
 | .wh c b=>fun D σ H=>Wh (ET n c) (ES n b) D σ H
 | .forU is c b=>fun D σ H=>E n c σ H fun x H1=>match x with | .ref a=>ForU n.K is a (ES n b) D σ H1 | _=>False
 | .sx i as=>fun D σ H=>Es n as σ H fun vs H1=>match n.sr[i]? with | some r=>r σ vs H1 D.nx | none=>False
 | .setC i c=>fun D σ H=>E n c σ H fun x H1=>J9 σ i x fun σ'=>D.nx σ' H1
termination_by structural c=>c
def ES (n:En):List S→TS
 | []=>fun D σ H=>D.nx σ H
 | s :: r=>fun D σ H=>E1 n s { D with nx:=ES n r D } σ H
termination_by structural c=>c
end
def chN (T:Tb):List Nat→List Expr→Bool
 | [],[]=>true
 | i :: is,.Name x _ :: es=>decide (T.N[i]?=some x) && XL T.sc x && chN T is es
 | _,_=>false
def On:Expr→Bool
 | .Tuple _ _ _=>false
 | _=>true
def MS:C→Bool
 | .comp _ _ _ _=>true
 | .compI _ _ _ _ _=>true
 | _=>false
mutual
def ch1 (T:Tb):S→Stmt→Bool
 | .set i c,s=>match s with
  | .Assign [.Name x _] e _=>decide (T.N[i]?=some x) && XL T.sc x && chk c T e && osw e
  | _=>false
 | .ret c,s=>match s with
  | .Return (some e) _=>chk c T e
  | _=>false
 | .ex c,s=>match s with
  | .Expr e _=>chk c T e && osw e
  | _=>false
 | .ite c a b,s=>match s with
  | .If t x y _=>chk c T t && chS T a x && chS T b y
  | _=>false
 | .forR i c b,s=>match s with
  | .For (.Name x _) (.Call (.Name r _) [e] [] _) y [] _=>decide (T.N[i]?=some x) && XL T.sc x && decide (r = "range") && glB T.sc r && chk c T e && ord e && chS T b y
  | _=>false
 | .forL i c b,s=>match s with
  | .For (.Name x _) e y [] _=>decide (T.N[i]?=some x) && XL T.sc x && chk c T e && ord e && chS T b y
  | _=>false
 | .forT i c b,s=>match s with
  | .For (.Name x _) e y [] _=>decide (T.N[i]?=some x) && XL T.sc x && chk c T e && ord e && chS T b y
  | _=>false
 | .cut a,s=>ch1 T a s
 | .unp is c,s=>match s with
  | .Assign [.Tuple es _ _] e _=>chN T is es && chk c T e && On e
  | _=>false
 | .wh c b,s=>match s with
  | .While t y [] _=>chk c T t && chS T b y
  | _=>false
 | .forU is c b,s=>match s with
  | .For (.Tuple es _ _) e y [] _=>chN T is es && chk c T e && ord e && chS T b y
  | _=>false
 | .sx i as,s=>match T.sk[i]? with
  | some sh=>match sh s with
   | some es=>Yd as T es
   | none=>false
  | none=>false
 | .setC i c,s=>match s with
  | .Assign [.Name y py] (.ListComp el gs scope pos) sp=>MS c && (decide (T.N[i]?=some y) && decide (T.sc.names.lookup y=some .local) && chk c T (.ListComp el gs scope pos) && (py.line == pos.line) && !(scope.names.any fun z=>z.1 == y && (z.2 == .local || z.2 == .cell)))
  | _=>false
termination_by structural c=>c
def chS (T:Tb):List S→List Stmt→Bool
 | [],ss=>match ss with
  | []=>true
  | _=>false
 | a :: r,ss=>match ss with
  | s :: ss=>ch1 T a s && chS T r ss
  | []=>false
termination_by structural c=>c
end
theorem Zi {X:Cx} {s:Stmt} {t u:TS} (h:PS X s t) (k:∀ D σ H,u D σ H→t D σ H):PS X s u:=fun pins s σ H D I q=>h pins s σ H D I (k D σ H q)
structure SNodeOk (X:Cx) (sh:Stmt→Option (List Expr)) (r:St→List V→Hp→(St→Hp→Prop)→Prop):Prop where
 ok:∀ (s:Stmt) (es:List Expr) (ts:List TE),sh s=some es→PEs X es ts→PS X s (fun D σ H=>XY ts σ H fun vs H1=>r σ vs H1 D.nx)
structure FitS (X:Cx) (T:Tb) (fs:List Rel) (ms:List Mr) (nr:List (List V→Hp→VK→Prop)) (sr:List (St→List V→Hp→(St→Hp→Prop)→Prop)):Prop where
 f:Fit X T fs ms nr
 nd:X.N.Nodup
 fn:∀ x,X.fn x=true
 po:PassesOwn (6:) X.A X.env X.xe
 hx:∀ (i:Nat) sh,T.sk[i]?=some sh→∃ r,sr[i]?=some r∧SNodeOk X sh r
theorem ZK {K:PySem.W.Frag} {m:Nat} {cs:St} {tt:TT} {te:TE} {H:Hp} {Q Q':VK} {it:Hp→Prop} {itm:Nat→V} (h:Cmp K it itm m cs tt te H Q) (k:∀ x H,Q x H→Q' x H):Cmp K it itm m cs tt te H Q':=by
 cases h with
 | s R h0 hm hz hs hd=>exact .s R h0 hm hz hs fun p ys H1 g e r=>k _ _ (hd p ys H1 g e r)
 | m R hz h0 hx hs hd=>exact .m R hz h0 hx hs fun p ys H1 g r=>k _ _ (hd p ys H1 g r)
theorem Je {X:Cx} {T:Tb} {fs:List Rel} {ms:List Mr} {nr:List (List V→Hp→VK→Prop)} (F:Fit X T fs ms nr) {cap:List Nat} {x y:Str} {scope:Scope} {el:Expr} {gs:List Comprehension} {pos py sp:Pos} (h:U6 T cap x scope=true) (h2:T.sc.names.lookup y=some .local) (h3:(py.line == pos.line)=true) (h4:(!(scope.names.any fun z=>z.1 == y && (z.2 == .local || z.2 == .cell)))=true) :
 swapsWith (.ListComp el gs scope pos) (some (.Name y py)) sp.line X.env=pure true:=by
 unfold U6 at h
 simp only [Bool.and_eq_true,decide_eq_true_eq] at h
 have hk:T.sc.kind=.function:=h.1.1.1.1.1.1.1.2
 rw [F.hs] at hk h2
 have e1:X.env.blockKind=.function:=by unfold Env.blockKind;rw [hk];rfl
 show (pure (X.env.blockKind == .function && X.env.kindOf y == some .local && py.line == pos.line && !(scope.names.any fun z=>z.1 == y && (z.2 == .local || z.2 == .cell))):Sem Bool)=pure true
 rw [e1,h3,h4,show X.env.kindOf y=some .local from h2]
 rfl
def gsN:List Nat→TGs
 | []=>X7
 | i :: is=>ZV (QX i) (gsN is)
theorem JB {H:Hp} {k:St→Hp→Prop}:∀ {is:List Nat} {xs:List V} {σ:St},(Xq σ is xs fun σ'=>k σ' H)→gsN is xs σ H k
 | [],[],σ,h=>⟨rfl,h⟩
 | i :: is,x :: xs,σ,h=>⟨x,xs,rfl,JB (is:=is) (xs:=xs) (QV h)⟩
 | [],_ :: _,_,h=>h.elim
 | _ :: _,[],_,h=>h.elim
theorem Uv {k:St→Prop}:∀ {is:List Nat} {xs:List V} {σ:St},Xq σ is xs k→xs.length=is.length
 | [],[],σ,h=>rfl
 | i :: is,x :: xs,σ,h=>congrArg (· + 1) (Uv (is:=is) (xs:=xs) (QV h))
 | [],_ :: _,_,h=>h.elim
 | _ :: _,[],_,h=>h.elim
section
variable {X:Cx} {T:Tb} {fs:List Rel} {ms:List Mr} {nr:List (List V→Hp→VK→Prop)} {sr:List (St→List V→Hp→(St→Hp→Prop)→Prop)} (F:FitS X T fs ms nr sr)
include F
theorem WA {i:Nat} {x:Str} {pos:Pos} (h1:decide (T.N[i]?=some x)=true) (h2:XL T.sc x=true):PG X (.Name x pos) (QX i):=by
 have h1:=of_decide_eq_true h1
 rw [F.f.hN] at h1
 rw [F.f.hs] at h2
 exact Qw F.nd h1 (Gj h2) (.inl (F.fn x))
theorem Us:∀ (is:List Nat) (es:List Expr),chN T is es=true→PGs X es (gsN is)∧(assignEach es X.env).length=is.length∧(assignEach es X.env).findIdx? (·.1)=none
 | [],[],_=>⟨ZB,rfl,rfl⟩
 | i :: is,.Name x p :: es,h=>by
  unfold chN at h
  rw [Bool.and_eq_true,Bool.and_eq_true] at h
  obtain ⟨h1,h2,h3⟩:=Us is es h.2
  refine ⟨QB (WA F h.1.1 h.1.2) h1 rfl,?_,?_⟩
  ·show (assignEach es X.env).length + 1=is.length + 1
   rw [h2]
  ·show ((false,assign (.Name x p) X.env) :: assignEach es X.env).findIdx? (·.1)=none
   rw [List.findIdx?_cons]
   simp [h3]
 | [],_ :: _,h=>by cases h
 | _ :: _,[],h=>by cases h
mutual
theorem sn1:∀ (c:S) (s:Stmt),ch1 T c s=true→PS X s (E1 (14:) c)
 | .set i c,s,h=>by
  unfold ch1 at h
  split at h
  ·rw [Bool.and_eq_true,Bool.and_eq_true,Bool.and_eq_true] at h
   have h1:=of_decide_eq_true h.1.1.1
   rw [F.f.hN] at h1
   have h2:=h.1.1.2
   rw [F.f.hs] at h2
   exact Zi (Qq F.nd h1 (Gj h2) (pe_up (snd (sr:=sr) c F.f _ h.1.2)) (XN h.2) (.inl (F.fn _))) fun D σ H q=>⟨_,q,fun x H1 q=>QV q⟩
  ·cases h
 | .ret c,s,h=>by
  unfold ch1 at h
  split at h
  ·exact Ql (snd (sr:=sr) c F.f _ h)
  ·cases h
 | .ex c,s,h=>by
  unfold ch1 at h
  split at h
  ·rw [Bool.and_eq_true] at h
   exact Zq (snd (sr:=sr) c F.f _ h.1) (XN h.2)
  ·cases h
 | .ite c a b,s,h=>by
  unfold ch1 at h
  split at h
  ·rw [Bool.and_eq_true,Bool.and_eq_true] at h
   exact Zi (QG (UE (snt (sr:=sr) c F.f _ h.1.1)) (snS a _ h.1.2) (snS b _ h.2)) fun D σ H q=>⟨_,q,fun x H1 q=>UZ q⟩
  ·cases h
 | .forR i c b,s,h=>by
  unfold ch1 at h
  split at h
  ·simp only [Bool.and_eq_true] at h
   obtain ⟨⟨⟨⟨⟨⟨h1,h2⟩,h3⟩,h4⟩,h5⟩,h6⟩,h7⟩:=h
   have h3:=of_decide_eq_true h3
   subst h3
   rw [F.f.hs] at h4
   refine Zi (QR F.po F.f.ca (QD (Jh h4) F.f.rg (Qa (pe_up (snd (sr:=sr) c F.f _ h5)) Qc (QL h6)) (QL h6)) (WA F h1 h2) (snS b _ h7)) fun D σ H q=>⟨_,q,fun x H1 q=>?_⟩
   cases x with
   | int j =>
    obtain ⟨hr,q⟩:=q
    refine ⟨j,rfl,hr.1,hr.2,?_⟩
    cases q with
    | f Pv h0 hs hd=>exact Q6 (lo:=0) Pv h0 (fun j σ H hj hp=>by rw [Int.zero_add];exact QV (hs j σ H hj hp)) hd
   | _=>exact False.elim q
  ·cases h
 | .forL i c b,s,h=>by
  unfold ch1 at h
  split at h
  ·simp only [Bool.and_eq_true] at h
   obtain ⟨⟨⟨⟨h1,h2⟩,h5⟩,h6⟩,h7⟩:=h
   refine Zi (QR F.po F.f.ca (QH (pe_up (snd (sr:=sr) c F.f _ h5))) (WA F h1 h2) (snS b _ h7) (QU h6)) fun D σ H q=>⟨_,q,fun x H1 q=>?_⟩
   cases x with
   | ref a =>
    cases q with
    | f ys Pv h0 hl hs hd=>exact ⟨a,rfl,⟨ys,hl 0 _ _ (Nat.zero_le _) h0⟩,ZM Pv h0 hl (fun j x σ H hj hp=>QV (hs j x σ H hj hp)) hd⟩
   | _=>exact False.elim q
  ·cases h
 | .forT i c b,s,h=>by
  unfold ch1 at h
  split at h
  ·simp only [Bool.and_eq_true] at h
   obtain ⟨⟨⟨⟨h1,h2⟩,h5⟩,h6⟩,h7⟩:=h
   refine Zi (QR F.po F.f.ca (ZI (pe_up (snd (sr:=sr) c F.f _ h5))) (WA F h1 h2) (snS b _ h7) (QU h6)) fun D σ H q=>⟨_,q,fun x H1 q=>?_⟩
   cases x with
   | ref a =>
    cases q with
    | f ys Pv h0 hl hs hd=>exact ⟨a,rfl,⟨ys,hl 0 _ _ (Nat.zero_le _) h0⟩,Mh Pv h0 hl (fun j x σ H hj hp=>QV (hs j x σ H hj hp)) hd⟩
   | _=>exact False.elim q
  ·cases h
 | .cut a,s,h=>by
  unfold ch1 at h
  exact Zi (Uo (sn1 a s h)) fun D σ H q=>by
   cases q with
   | c R h k=>exact ⟨R,h,k⟩
 | .unp is c,s,h=>by
  unfold ch1 at h
  split at h
  ·rw [Bool.and_eq_true,Bool.and_eq_true] at h
   obtain ⟨h1,h2,h3⟩:=Us F is _ h.1.1
   rename_i es k p e pos
   refine Zi (Wq (pe_up (snd (sr:=sr) c F.f _ h.1.2)) (ZS (X:=X) F.f.ca h1 h2 h3) (by cases e <;> rfl) (by cases e <;> first | rfl | exact absurd (show false=true from h.2) Bool.false_ne_true) rfl) fun D σ H q=>⟨_,q,fun x H1 q=>?_⟩
   cases x with
   | ref a =>
    cases q with
    | u xs hx k=>exact ⟨a,xs,rfl,hx,Uv k,JB k⟩
   | _=>exact False.elim q
  ·cases h
 | .wh c b,s,h=>by
  unfold ch1 at h
  split at h
  ·rw [Bool.and_eq_true] at h
   refine Zi (Xb F.po (UE (snt (sr:=sr) c F.f _ h.1)) (snS b _ h.2)) fun D σ H q=>?_
   cases q with
   | w J m h0 hs=>exact ⟨J,⟨m,h0⟩,fun m σ H p=>⟨_,hs m σ H p,fun b H1 q=>by
    cases b with
    | true=>exact Zn ⟨_,fun σ' H' h=>h,q⟩
    | false=>exact Zb q⟩⟩
  ·cases h
 | .forU is c b,s,h=>by
  unfold ch1 at h
  split at h
  ·simp only [Bool.and_eq_true] at h
   obtain ⟨⟨⟨h1,h5⟩,h6⟩,h7⟩:=h
   obtain ⟨n1,n2,n3⟩:=Us F is _ h1
   refine Zi (QR F.po F.f.ca (QH (pe_up (snd (sr:=sr) c F.f _ h5))) (ZS (X:=X) F.f.ca n1 n2 n3) (snS b _ h7) (QU h6)) fun D σ H q=>⟨_,q,fun x H1 q=>?_⟩
   cases x with
   | ref a =>
    cases q with
    | f ys Pv h0 hl hs hd=>exact ⟨a,rfl,⟨ys,hl 0 _ _ (Nat.zero_le _) h0⟩,ZM Pv h0 hl (fun j x σ H hj hp=>by
     obtain ⟨b',zs,e,hz,k⟩:=hs j x σ H hj hp
     exact ⟨b',zs,e,hz,Uv k,JB (k:=fun σ2 H2=>ES (14:) b { D with nx:=Pv (j + 1),ct:=Pv (j + 1),bk:=D.nx } σ2 H2) k⟩) hd⟩
   | _=>exact False.elim q
  ·cases h
 | .sx i as,s,h=>by
  unfold ch1 at h
  split at h
  ·rename_i sh hsh
   obtain ⟨r,e1,e2⟩:=F.hx _ _ hsh
   split at h
   ·rename_i es hes
    refine Zi (e2.ok s es _ hes (LH (sr:=sr) as F.f _ h)) fun D σ H q=>?_
    have q:Es (14:) as σ H fun vs H1=>match sr[i]? with | some r=>r σ vs H1 D.nx | none=>False:=q
    rw [e1] at q
    exact (JU as).mp q
   ·cases h
  ·cases h
 | .setC i (.comp kd it cap elt),s,h=>by
  unfold ch1 at h
  split at h
  ·simp only [Bool.and_eq_true] at h
   obtain ⟨_,⟨⟨⟨y1,y2⟩,h⟩,y3⟩,y4⟩:=h
   have y1:=of_decide_eq_true y1
   have y2:=of_decide_eq_true y2
   rw [F.f.hN] at y1
   unfold chk at h
   split at h
   ·rename_i e9
    cases e9
    simp only [Bool.and_eq_true] at h
    obtain ⟨⟨h1,h2⟩,h3⟩:=h
    intro pins s σ H D I q
    obtain ⟨cl,O⟩:=Uc F.f h1 fun y hy=>I.ok.has y (.inl hy)
    have hel:=fun C fp s₀ H₀=>pe_up (snd (sr:=sr) elt (F.f.inn _ _ cl C fp s₀ H₀) _ h2)
    have y6:=y2
    rw [F.f.hs] at y6
    split at h3
    ·simp only [Bool.and_eq_true] at h3
     obtain ⟨⟨⟨z1,z2⟩,z3⟩,z4⟩:=h3
     have z1:=of_decide_eq_true z1
     subst z1
     rw [F.f.hs] at z2
     refine Q8 (te:=up (E (14:) elt)) (tt:=upT fun _ H Q=>Q true H) O F.f.ca (QD (Jh z2) F.f.rg (Qa (pe_up (snd (sr:=sr) it F.f _ z3)) Qc (QL z4)) (QL z4)) (Q7 O) (fun C fp s₀ H₀=>ZU QT) hel F.nd y1 y6 (Je F.f h1 y2 y3 y4) (fun _=>rfl) pins s σ H D I ⟨_,q,fun x H1 q=>?_⟩
     cases x with
     | int j =>
      obtain ⟨hr,q⟩:=q
      rw [Zh] at q
      exact ⟨j,rfl,hr.1,hr.2,fun acc ha=>Ya (ZK q fun _ _ q=>QV q) ha⟩
     | _=>exact False.elim q
    ·simp only [Bool.and_eq_true] at h3
     obtain ⟨z3,z4⟩:=h3
     refine Q8 (te:=up (E (14:) elt)) (tt:=upT fun _ H Q=>Q true H) O F.f.ca (QH (pe_up (snd (sr:=sr) it F.f _ z3))) (Q7 O) (fun C fp s₀ H₀=>ZU QT) hel F.nd y1 y6 (Je F.f h1 y2 y3 y4) (QU z4) pins s σ H D I ⟨_,q,fun x H1 q=>?_⟩
     cases x with
     | ref a =>
      cases q with
      | l xs hx q =>
       rw [Zh] at q
       exact ⟨a,rfl,⟨xs,hx⟩,fun acc ha=>YD hx (ZK q fun _ _ q=>QV q) ha⟩
     | _=>exact False.elim q
    ·simp only [Bool.and_eq_true] at h3
     obtain ⟨z3,z4⟩:=h3
     refine Q8 (te:=up (E (14:) elt)) (tt:=upT fun _ H Q=>Q true H) O F.f.ca (ZI (pe_up (snd (sr:=sr) it F.f _ z3))) (Q7 O) (fun C fp s₀ H₀=>ZU QT) hel F.nd y1 y6 (Je F.f h1 y2 y3 y4) (QU z4) pins s σ H D I ⟨_,q,fun x H1 q=>?_⟩
     cases x with
     | ref a =>
      cases q with
      | t xs hx q =>
       rw [Zh] at q
       exact ⟨a,rfl,⟨xs,hx⟩,fun acc ha=>Ud hx (ZK q fun _ _ q=>QV q) ha⟩
     | _=>exact False.elim q
    ·cases h3
   ·cases h
  ·cases h
 | .setC i (.compI kd it cap cnd elt),s,h=>by
  unfold ch1 at h
  split at h
  ·simp only [Bool.and_eq_true] at h
   obtain ⟨_,⟨⟨⟨y1,y2⟩,h⟩,y3⟩,y4⟩:=h
   have y1:=of_decide_eq_true y1
   have y2:=of_decide_eq_true y2
   rw [F.f.hN] at y1
   unfold chk at h
   split at h
   ·rename_i e9
    cases e9
    simp only [Bool.and_eq_true] at h
    obtain ⟨⟨⟨h1,h2⟩,hc⟩,h3⟩:=h
    intro pins s σ H D I q
    obtain ⟨cl,O⟩:=Uc F.f h1 fun y hy=>I.ok.has y (.inl hy)
    have hel:=fun C fp s₀ H₀=>pe_up (snd (sr:=sr) elt (F.f.inn _ _ cl C fp s₀ H₀) _ h2)
    have y6:=y2
    rw [F.f.hs] at y6
    split at h3
    ·simp only [Bool.and_eq_true] at h3
     obtain ⟨⟨⟨z1,z2⟩,z3⟩,z4⟩:=h3
     have z1:=of_decide_eq_true z1
     subst z1
     rw [F.f.hs] at z2
     refine Q8 (te:=up (E (14:) elt)) (tt:=upT (ET (14:) cnd)) O F.f.ca (QD (Jh z2) F.f.rg (Qa (pe_up (snd (sr:=sr) it F.f _ z3)) Qc (QL z4)) (QL z4)) (Q7 O) (fun C fp s₀ H₀=>ZU (ZF (snt (sr:=sr) cnd (F.f.inn _ _ cl C fp s₀ H₀) _ hc))) hel F.nd y1 y6 (Je F.f h1 y2 y3 y4) (fun _=>rfl) pins s σ H D I ⟨_,q,fun x H1 q=>?_⟩
     cases x with
     | int j =>
      obtain ⟨hr,q⟩:=q
      rw [Zh] at q
      exact ⟨j,rfl,hr.1,hr.2,fun acc ha=>Ya (ZK q fun _ _ q=>QV q) ha⟩
     | _=>exact False.elim q
    ·simp only [Bool.and_eq_true] at h3
     obtain ⟨z3,z4⟩:=h3
     refine Q8 (te:=up (E (14:) elt)) (tt:=upT (ET (14:) cnd)) O F.f.ca (QH (pe_up (snd (sr:=sr) it F.f _ z3))) (Q7 O) (fun C fp s₀ H₀=>ZU (ZF (snt (sr:=sr) cnd (F.f.inn _ _ cl C fp s₀ H₀) _ hc))) hel F.nd y1 y6 (Je F.f h1 y2 y3 y4) (QU z4) pins s σ H D I ⟨_,q,fun x H1 q=>?_⟩
     cases x with
     | ref a =>
      cases q with
      | l xs hx q =>
       rw [Zh] at q
       exact ⟨a,rfl,⟨xs,hx⟩,fun acc ha=>YD hx (ZK q fun _ _ q=>QV q) ha⟩
     | _=>exact False.elim q
    ·simp only [Bool.and_eq_true] at h3
     obtain ⟨z3,z4⟩:=h3
     refine Q8 (te:=up (E (14:) elt)) (tt:=upT (ET (14:) cnd)) O F.f.ca (ZI (pe_up (snd (sr:=sr) it F.f _ z3))) (Q7 O) (fun C fp s₀ H₀=>ZU (ZF (snt (sr:=sr) cnd (F.f.inn _ _ cl C fp s₀ H₀) _ hc))) hel F.nd y1 y6 (Je F.f h1 y2 y3 y4) (QU z4) pins s σ H D I ⟨_,q,fun x H1 q=>?_⟩
     cases x with
     | ref a =>
      cases q with
      | t xs hx q =>
       rw [Zh] at q
       exact ⟨a,rfl,⟨xs,hx⟩,fun acc ha=>Ud hx (ZK q fun _ _ q=>QV q) ha⟩
     | _=>exact False.elim q
    ·cases h3
   ·cases h
  ·cases h
 | .setC i (.v j),s,h=>by
  unfold ch1 at h
  split at h
  ·rw [Bool.and_eq_true] at h
   exact absurd (show false=true from h.1) Bool.false_ne_true
  ·cases h
 | .setC i (.k x),s,h=>by
  unfold ch1 at h
  split at h
  ·rw [Bool.and_eq_true] at h
   exact absurd (show false=true from h.1) Bool.false_ne_true
  ·cases h
 | .setC i (.bin op a b),s,h=>by
  unfold ch1 at h
  split at h
  ·rw [Bool.and_eq_true] at h
   exact absurd (show false=true from h.1) Bool.false_ne_true
  ·cases h
 | .setC i (.cmp op a b),s,h=>by
  unfold ch1 at h
  split at h
  ·rw [Bool.and_eq_true] at h
   exact absurd (show false=true from h.1) Bool.false_ne_true
  ·cases h
 | .setC i (.ix a b),s,h=>by
  unfold ch1 at h
  split at h
  ·rw [Bool.and_eq_true] at h
   exact absurd (show false=true from h.1) Bool.false_ne_true
  ·cases h
 | .setC i (.tup as),s,h=>by
  unfold ch1 at h
  split at h
  ·rw [Bool.and_eq_true] at h
   exact absurd (show false=true from h.1) Bool.false_ne_true
  ·cases h
 | .setC i (.lst as),s,h=>by
  unfold ch1 at h
  split at h
  ·rw [Bool.and_eq_true] at h
   exact absurd (show false=true from h.1) Bool.false_ne_true
  ·cases h
 | .setC i (.call j as),s,h=>by
  unfold ch1 at h
  split at h
  ·rw [Bool.and_eq_true] at h
   exact absurd (show false=true from h.1) Bool.false_ne_true
  ·cases h
 | .setC i (.meth j o as),s,h=>by
  unfold ch1 at h
  split at h
  ·rw [Bool.and_eq_true] at h
   exact absurd (show false=true from h.1) Bool.false_ne_true
  ·cases h
 | .setC i (.iff a b c),s,h=>by
  unfold ch1 at h
  split at h
  ·rw [Bool.and_eq_true] at h
   exact absurd (show false=true from h.1) Bool.false_ne_true
  ·cases h
 | .setC i (.nd j as),s,h=>by
  unfold ch1 at h
  split at h
  ·rw [Bool.and_eq_true] at h
   exact absurd (show false=true from h.1) Bool.false_ne_true
  ·cases h
 | .setC i (.no a),s,h=>by
  unfold ch1 at h
  split at h
  ·rw [Bool.and_eq_true] at h
   exact absurd (show false=true from h.1) Bool.false_ne_true
  ·cases h
 | .setC i (.an a b),s,h=>by
  unfold ch1 at h
  split at h
  ·rw [Bool.and_eq_true] at h
   exact absurd (show false=true from h.1) Bool.false_ne_true
  ·cases h
 | .setC i (.oo a b),s,h=>by
  unfold ch1 at h
  split at h
  ·rw [Bool.and_eq_true] at h
   exact absurd (show false=true from h.1) Bool.false_ne_true
  ·cases h
theorem snS:∀ (as:List S) (ss:List Stmt),chS T as ss=true→PSs X ss (ES (14:) as)
 | [],ss,h=>by
  unfold chS at h
  split at h
  ·exact Qs
  ·cases h
 | a :: r,ss,h=>by
  unfold chS at h
  split at h
  ·rw [Bool.and_eq_true] at h
   exact Qf (sn1 a _ h.1) (snS r _ h.2)
  ·cases h
end
end
end G3
namespace L2
open PySem
def V0 (x:Addr) (H H':Hp):Prop:=∀ b u,b≠x→H b=some u→H' b=some u
structure InsAt (H:Hp) (x:Addr):Prop where
 ex:∃ C dx fs,H x=some (.ins C dx fs)
theorem InsAt.seqT {K:PySem.W.Frag} {x:Addr} {H H':Hp} {a:Addr} {xs:List V} (i:InsAt H x) (g:V0 x H H') (h:SqT K H a xs):SqT K H' a xs:=by
 obtain ⟨C,dx,fs,hx⟩:=i.ex
 rcases h with (h | ⟨o,h⟩) | h
 ·exact .inl (.inl (g _ _ (Q4 h hx (by intro z;cases z)) h))
 ·exact .inl (.inr ⟨o,g _ _ (Q4 h hx (by intro z;cases z)) h⟩)
 ·exact .inr h
theorem JG {f g:Str} {v y:V} {r:List (Str × V)} (h:¬ g=f):Zt f v ((g,y) :: r)=(g,y) :: Zt f v r:=by
 show (if g=f then _ else _)=_
 rw [if_neg h]
theorem LL {f:Str} {v y:V} {r:List (Str × V)}:Zt f v ((f,y) :: r)=(f,v) :: r:=by
 show (if f=f then _ else _)=_
 rw [if_pos rfl]
end L2
namespace L2
open PySem PySem.Spec PyProof.Rows
section
variable {X:Cx}
end
end L2
namespace L2
open PySem PySem.Spec PyProof.Rows
section
variable {X:Cx}
end
section
variable {P:Program} {w:World} {K:PySem.W.Frag} {mg:Str→Option Value} {base:Heap}
theorem L6 {x:Str} {f c T:Addr} {oc:Value} {od:Option Addr} {fd:FuncData} {sl:Array (Option Value)} (hn:PySem.W.nsIn K mainGlobals x=some (some (.ref f))) (lk:K.lookup f=some ⟨oc,od,.func fd,sl⟩) (h:PySem.W.tabIn K x=some (c,T)):fd.code=.ref c:=by
 unfold PySem.W.tabIn at h
 rw [hn] at h
 simp only [lk] at h
 split at h
 ·rename_i c2 hc
  split at h
  ·split at h
   ·cases h;exact hc
   ·cases h
  ·cases h
 ·cases h
theorem Fun.okC {x qual:Str} {st:Stmt} {f c T:Addr} {fd:FuncData} {N ps:List Str} {k:Nat} {sp:Sp} (F:Fun K x qual st f fd) (hn:PySem.W.nsIn K mainGlobals x=some (some (.ref f))) (hT:PySem.W.tabIn K x=some (c,T)) (S:FnScope N ps (defScope st)) (len:∀ vs H Q E,sp vs H Q E→vs.length=ps.length)
 (hbody:∀ (A:Around) (outer:List Env) (s:Shared) (H:Hp) (vs:List V) (Q:VK) (E:XK),Room k (A.deeper (envOfC qual (defScope st) s.heap.objs.size f (.ref c)))→sp vs H Q E →
  ∃ t,PSs (Xu CX0 P w K mg base N qual (defScope st) f (.ref c) A outer s H E).nox (defBody st) t∧t { nx:=fun _ H'=>Q .non H',rt:=Q } (Yh N vs) H):FnOk P w K mg base CX0 (k + 1) f fd ps sp:=by
 obtain ⟨oc,od,kV,doc,pm,an,cdv,ct,osl,rfl,lk,hcd⟩:=F.ex
 have e:cdv=.ref c:=L6 hn lk hT
 subst e
 refine MK lk hcd S len fun A outer s H vs Q E hr hsp=>?_
 obtain ⟨t,h,q⟩:=hbody A outer s H vs Q E hr hsp
 exact ⟨t,h.nox,q⟩
end
end L2
namespace L2
open PySem PySem.Spec PyProof.Rows
end L2
namespace L2
open PySem PySem.Spec PyProof.Rows
section
variable {X:Cx} {pins:List (11:)} {σ:St} {H H':Hp} {s s':Shared}
end
section
variable {P:Program} {w:World} {K:PySem.W.Frag} {mg:Str→Option Value} {base:Heap} {N:List Str} {qual:Str} {scope:Scope} {f:Addr} {cd:Value} {A:Around} {outer:List Env} {s:Shared} {H:Hp} {E:XK}
end
end L2
namespace L2
open PySem PySem.Spec PyProof.Rows
section
variable {P:Program} {w:World} {K:PySem.W.Frag} {mg:Str→Option Value} {base:Heap} {N:List Str} {qual:Str} {scope:Scope} {f:Addr} {cd:Value} {A:Around} {outer:List Env} {s:Shared} {H:Hp} {E:XK}
end
end L2
namespace L2
open PySem PySem.Spec PyProof.Rows
section
variable {X:Cx}
end
section
variable {P:Program} {w:World} {K:PySem.W.Frag} {mg:Str→Option Value} {base:Heap} {N:List Str} {qual:Str} {scope:Scope} {f:Addr} {cd:Value} {A:Around} {outer:List Env} {s:Shared} {H:Hp} {E:XK}
end
section
variable {X:Cx} {pins:List (11:)} {σ:St} {H:Hp} {s:Shared} {EE:St→XK} {a:Addr}
end
end L2
namespace G3
open PySem L2
inductive TupOf (K:PySem.W.Frag) (p:Addr) (H:Hp) (Q:VK):Prop where
 | l (ys:List V) (h:SqL K H p ys) (k:∀ l H',Same H H'→SqT K H' l ys→Q (.ref l) H'):TupOf K p H Q
def rTupOf (K:PySem.W.Frag) (vs:List V) (H:Hp) (Q:VK):Prop:=match vs with
 | [.ref p]=>TupOf K p H Q
 | _=>False
section
variable {X:Cx}
theorem call_tupOf:QN X (.type "tuple") (rTupOf X.K):=by
 intro pins s σ H xs us Q I r h
 unfold rTupOf at h
 split at h
 ·cases h with
  | l ys hy k=>exact QO pins s σ H _ us Q I r ⟨_,ys,rfl,.inl ⟨hy,fun l hl=>k l _ (Qe hl _) (SqT.of Qb)⟩⟩
 ·exact h.elim
theorem CallOk.blt {x:Str} {id:String} {r:List V→Hp→VK→Prop} (hc:QN X (.builtin id) r) (hm:X.mg x=none) (hv:bootBuiltins x=some (.builtin id)) (hn:x ≠ "__name__" := by decide):CallOk X x (fun _ vs H Q=>r vs H Q) :=
 ⟨fun p pos e es t ha hg hd he hp=>Qo hc hg hm hv ha hn hd he hp⟩
theorem CallOk.ty {x:Str} {T:String} {r:List V→Hp→VK→Prop} (hc:QN X (.type T) r) (hm:X.mg x=none) (hv:bootBuiltins x=some (.type T)) (hn:x ≠ "__name__" := by decide):CallOk X x (fun _ vs H Q=>r vs H Q) :=
 ⟨fun p pos e es t ha hg hd he hp=>QJ hc hg hm hv ha hn hd he hp⟩
end
end G3
namespace G3
open PySem L2
def shCmp (op:CmpOp):Expr→Option (List Expr)
 | .Compare a [o] [b] _=>if decide (o=op) && !(behindInMarks op b) then some [a,b] else none
 | _=>none
def shIx:Expr→Option (List Expr)
 | .Subscript a b _=>if ord b then some [a,b] else none
 | _=>none
def shBin (op:Operator):Expr→Option (List Expr)
 | .BinOp a o b _=>if o=op then some [a,b] else none
 | _=>none
def on2 (r:R2):List V→Hp→VK→Prop:=fun vs H Q=>match vs with
 | [x,y]=>r x y H Q
 | _=>False
section
variable {X:Cx}
theorem PEs.two {a b:Expr} {ts:List TE} (h:PEs X [a,b] ts):∃ t u,ts=[t,u]∧PE X a t∧PE X b u:=by
 cases h with
 | cons h1 h=>cases h with
  | cons h2 h=>cases h with
   | nil=>exact ⟨_,_,rfl,h1,h2⟩
theorem NodeOk.plain {sh:Expr→Option (List Expr)} {r:List V→Hp→VK→Prop} (h:∀ (e:Expr) (es:List Expr) (ts:List TE),sh e=some es→PEs X es ts→PE X e (fun σ H Q=>XY ts σ H fun vs H1=>r vs H1 Q)∧tst e=true):NodeOk X sh r :=
 ⟨fun e es ts hs hp=>(h e es ts hs hp).1,fun e es ts hs hp=>(pvT (h e es ts hs hp).1 (h e es ts hs hp).2).2⟩
theorem NodeOk.cmp {op:CmpOp} {r:R2} (ho:OpR X (compareOp op) r):NodeOk X (shCmp op) (on2 r):=by
 have inv:∀ (e:Expr) (es:List Expr),shCmp op e=some es→∃ a b p,e=.Compare a [op] [b] p∧es=[a,b]∧behindInMarks op b=false:=fun e es hs=>by
  unfold shCmp at hs
  split at hs
  ·split at hs
   ·rename_i hc
    cases hs
    rw [Bool.and_eq_true] at hc
    rw [of_decide_eq_true hc.1]
    exact ⟨_,_,_,rfl,rfl,by simpa using hc.2⟩
   ·cases hs
  ·cases hs
 refine ⟨fun e es ts hs h=>?_,fun e es ts hs h=>?_⟩
 ·obtain ⟨a,b,p,rfl,rfl,hm⟩:=inv e es hs
  obtain ⟨t,u,rfl,h1,h2⟩:=h.two
  exact Zz ho h1 h2 hm
 ·obtain ⟨a,b,p,rfl,rfl,hm⟩:=inv e es hs
  obtain ⟨t,u,rfl,h1,h2⟩:=h.two
  exact ZA (Qr (GS ho) (pe_up h1) (pe_up h2) hm) fun σ H Q q=>⟨_,q,fun x H1 q=>⟨_,q,fun y H2 q=>⟨_,q,fun z H3 q=>ZX q⟩⟩⟩
theorem NodeOk.bin {op:Operator} {r:R2} (ho:OpR X (binaryOp op) r):NodeOk X (shBin op) (on2 r):=.plain fun e es ts hs h=>by
 unfold shBin at hs
 split at hs
 ·split at hs
  ·rename_i hc
   cases hs
   obtain ⟨t,u,rfl,h1,h2⟩:=h.two
   rw [hc]
   exact ⟨Qm ho h1 h2,rfl⟩
  ·cases hs
 ·cases hs
end
end G3
namespace G3
open PySem L2
structure Cxt (X:Cx) (P:Program) (w:World) (K:PySem.W.Frag) (mg:Str→Option Value) (base:Heap) (k:Nat):Prop where
 p:X.prog=P
 w:X.w=w
 K:X.K=K
 m:X.mg=mg
 b:X.base=base
 r:Room k X.A
 c:X.calm=true
inductive Calls (X:Cx):List Str→List Rel→Prop where
 | nil:Calls X [] []
 | cons {x:Str} {r:Rel} {xs:List Str} {rs:List Rel}:CallOk X x r→Calls X xs rs→Calls X (x :: xs) (r :: rs)
inductive Meths (X:Cx):List Str→List Mr→Prop where
 | nil:Meths X [] []
 | cons {x:Str} {r:Mr} {xs:List Str} {rs:List Mr}:MethOk X x r→Meths X xs rs→Meths X (x :: xs) (r :: rs)
inductive Nodes (X:Cx):List (Expr→Option (List Expr))→List (List V→Hp→VK→Prop)→Prop where
 | nil:Nodes X [] []
 | cons {x:Expr→Option (List Expr)} {r:List V→Hp→VK→Prop} {xs:List (Expr→Option (List Expr))} {rs:List (List V→Hp→VK→Prop)}:NodeOk X x r→Nodes X xs rs→Nodes X (x :: xs) (r :: rs)
theorem Calls.at {X:Cx}:∀ {xs:List Str} {rs:List Rel},Calls X xs rs→∀ (i:Nat) y,xs[i]?=some y→∃ r,rs[i]?=some r∧CallOk X y r
 | _,_,.nil,i,y,e=>by simp at e
 | _,_,.cons h _,0,y,e=>by cases e;exact ⟨_,rfl,h⟩
 | _,_,.cons _ h,i + 1,y,e=>h.at i y e
theorem Meths.at {X:Cx}:∀ {xs:List Str} {rs:List Mr},Meths X xs rs→∀ (i:Nat) y,xs[i]?=some y→∃ r,rs[i]?=some r∧MethOk X y r
 | _,_,.nil,i,y,e=>by simp at e
 | _,_,.cons h _,0,y,e=>by cases e;exact ⟨_,rfl,h⟩
 | _,_,.cons _ h,i + 1,y,e=>h.at i y e
theorem Nodes.at {X:Cx}:∀ {xs:List (Expr→Option (List Expr))} {rs:List (List V→Hp→VK→Prop)},Nodes X xs rs→∀ (i:Nat) y,xs[i]?=some y→∃ r,rs[i]?=some r∧NodeOk X y r
 | _,_,.nil,i,y,e=>by simp at e
 | _,_,.cons h _,0,y,e=>by cases e;exact ⟨_,rfl,h⟩
 | _,_,.cons _ h,i + 1,y,e=>h.at i y e
section
variable {X:Cx} {P:Program} {w:World} {K:PySem.W.Frag} {mg:Str→Option Value} {base:Heap} {k:Nat}
theorem Cxt.fn (c:Cxt X P w K mg base k) {j:Nat} {x:Str} {ps:List Str} {sp:Sp} (F:Fn P w K mg base j x ps sp) (hk:j≤k:=by decide):CallOk X x (fun _ vs H Q=>sp vs H Q E0):=by
 obtain ⟨rfl,rfl,rfl,rfl,rfl,hr,hcm⟩:=c
 exact .fn F hr hk
theorem Cxt.ty (c:Cxt X P w K mg base k) {x:Str} {T:String} {r:PySem.W.Frag→List V→Hp→VK→Prop} (hc:∀ X:Cx,QN X (.type T) (r X.K)) (hm:mg x=none) (hv:bootBuiltins x=some (.type T)) (hn:x ≠ "__name__" := by decide):CallOk X x (fun _ vs H Q=>r K vs H Q):=by
 obtain ⟨rfl,rfl,rfl,rfl,rfl,hr,hcm⟩:=c
 exact .ty (hc X) hm hv hn
theorem Cxt.blt (c:Cxt X P w K mg base k) {x:Str} {id:String} {r:PySem.W.Frag→List V→Hp→VK→Prop} (hc:∀ X:Cx,QN X (.builtin id) (r X.K)) (hm:mg x=none) (hv:bootBuiltins x=some (.builtin id)) (hn:x ≠ "__name__" := by decide):CallOk X x (fun _ vs H Q=>r K vs H Q):=by
 obtain ⟨rfl,rfl,rfl,rfl,rfl,hr,hcm⟩:=c
 exact .blt (hc X) hm hv hn
theorem Cxt.node (c:Cxt X P w K mg base k) {sh:Expr→Option (List Expr)} {r:PySem.W.Frag→List V→Hp→VK→Prop} (h:∀ X:Cx,NodeOk X sh (r X.K)):NodeOk X sh (r K):=by
 obtain ⟨rfl,rfl,rfl,rfl,rfl,hr,hcm⟩:=c
 exact h X
end
section
variable {X:Cx} {P:Program} {w:World} {K:PySem.W.Frag} {mg:Str→Option Value} {base:Heap} {k:Nat}
theorem Cxt.nodeR (c:Cxt X P w K mg base k) {sh:Expr→Option (List Expr)} {r:PySem.W.Frag→List V→Hp→VK→Prop} (h:∀ X:Cx,Room k X.A→NodeOk X sh (r X.K)):NodeOk X sh (r K):=by
 obtain ⟨rfl,rfl,rfl,rfl,rfl,hr,hcm⟩:=c
 exact h X hr
end
theorem Fun.okC {P:Program} {w:World} {K:PySem.W.Frag} {mg:Str→Option Value} {base:Heap} {x qual:Str} {st:Stmt} {f:Addr} {fd:FuncData} {N ps fn mt:List Str} {nk:List (Expr→Option (List Expr))} {k:Nat} {sp:Sp} (F:Fun K x qual st f fd) (S:FnScope N ps (defScope st)) (n:En) (c:List G3.S)
 (hcx:∀ X:Cx,Cxt X P w K mg base k→Calls X fn n.fs∧Meths X mt n.ms∧Nodes X nk n.nr)
 (len:∀ vs H Q E,sp vs H Q E→vs.length=ps.length)
 (hb:∀ (H:Hp) (vs:List V) (Q:VK) (E:XK),sp vs H Q E→ES n c { nx:=fun _ H'=>Q .non H',rt:=Q } (Yh N vs) H)
 (hm:mg "range" = none) (hc:chS ⟨N,defScope st,fn,mt,nk,[]⟩ c (defBody st)=true:=by decide +kernel) (hn:n.K=K:=by rfl):FnOk P w K mg base CX0 (k + 1) f fd ps sp:=by
 obtain ⟨K',fs,ms,nr,sr⟩:=n
 have hn:K'=K:=hn
 subst hn
 exact F.ok S len fun cdv A outer s H vs Q E hr h=>⟨_,snS (X:=(Xu CX0 P w K' mg base N qual (defScope st) f cdv A outer s H E).nox) (fs:=fs) (ms:=ms) (nr:=nr) (sr:=sr) ⟨⟨rfl,rfl,fun X f i y e=>(hcx X ⟨f.p,f.w,f.K,f.m,f.b,by rw [f.A];exact hr,f.c⟩).1.at i y e,fun X f i y e=>(hcx X ⟨f.p,f.w,f.K,f.m,f.b,by rw [f.A];exact hr,f.c⟩).2.1.at i y e,fun X f i y e=>(hcx X ⟨f.p,f.w,f.K,f.m,f.b,by rw [f.A];exact hr,f.c⟩).2.2.at i y e,rfl,hm⟩,S.nd,fun _=>rfl,PassesOwn.never,fun i y e=>by simp at e⟩ c _ hc,hb H vs Q E h⟩
inductive EqD (K:PySem.W.Frag) (neg:Bool) (x y:V) (H:Hp) (Q:VK):Prop where
 | e (d e:PyData) (h1:RdV K H x d) (h2:RdV K H y e) (c1:d.canLay0=true) (c2:e.canLay0=true) (hu:min d.depth e.depth≤190) (q:Q (.bl (if neg then !PyData.eqv d e else PyData.eqv d e)) H):EqD K neg x y H Q
theorem Cxt.eqD {X:Cx} {P:Program} {w:World} {K:PySem.W.Frag} {mg:Str→Option Value} {base:Heap} {k:Nat} (c:Cxt X P w K mg base k):NodeOk X (shCmp .Eq) (on2 (EqD K false)):=by
 obtain ⟨rfl,rfl,rfl,rfl,rfl,hr,hcm⟩:=c
 refine .cmp fun pins s σ H x y v u Q I rx ry h=>?_
 cases h with
 | e d e h1 h2 c1 c2 hu q=>exact JK pins s σ H x y v u Q I rx ry ⟨d,e,h1,h2,c1,c2,by have:=hr.un;lia,q⟩
theorem Cxt.neD {X:Cx} {P:Program} {w:World} {K:PySem.W.Frag} {mg:Str→Option Value} {base:Heap} {k:Nat} (c:Cxt X P w K mg base k):NodeOk X (shCmp .NotEq) (on2 (EqD K true)):=by
 obtain ⟨rfl,rfl,rfl,rfl,rfl,hr,hcm⟩:=c
 refine .cmp fun pins s σ H x y v u Q I rx ry h=>?_
 cases h with
 | e d e h1 h2 c1 c2 hu q=>exact Ws pins s σ H x y v u Q I rx ry ⟨d,e,h1,h2,c1,c2,by have:=hr.un;lia,q⟩
inductive Len (K:PySem.W.Frag) (p:Addr) (H:Hp) (Q:VK):Prop where
 | l (ys:List V) (h:SqL K H p ys) (k:Q (.int ys.length) H):Len K p H Q
 | t (ys:List V) (h:SqT K H p ys) (k:Q (.int ys.length) H):Len K p H Q
def rLen (K:PySem.W.Frag) (vs:List V) (H:Hp) (Q:VK):Prop:=match vs with
 | [.ref p]=>Len K p H Q
 | _=>False
theorem call_len (X:Cx):QN X (.builtin "len") (rLen X.K):=by
 intro pins s σ H xs us Q I r h
 unfold rLen at h
 split at h
 ·cases h with
  | l ys hy k=>exact Qn pins s σ H _ us Q I r ⟨_,ys,rfl,.inl hy,k⟩
  | t ys hy k=>exact Qn pins s σ H _ us Q I r ⟨_,ys,rfl,.inr hy,k⟩
 ·exact h.elim
end G3
namespace G3
open PySem L2
def rInt (_:PySem.W.Frag) (vs:List V) (H:Hp) (Q:VK):Prop:=match vs with
 | [.int i]=>Q (.int i) H
 | [.bl b]=>Q (.int (if b then 1 else 0)) H
 | _=>False
theorem call_int (X:Cx):QN X (.type "int") (rInt X.K):=by
 intro pins s σ H xs us Q I r h
 unfold rInt at h
 split at h
 ·exact Jf pins s σ H _ us Q I r (.inl ⟨_,rfl,h⟩)
 ·exact Jf pins s σ H _ us Q I r (.inr ⟨_,rfl,h⟩)
 ·exact h.elim
end G3
namespace G3
open PySem L2
end G3
namespace K71
open PySem L2 TM TT ST K9 K11
def nam:Tree Str→Str
 | .node n _ _=>n
def mrk:Tree Str→Int
 | .node _ m _=>m
mutual
def MM (ks:List KdT) (ms:List MdT):Nat→Int→Tree Str→Tree Str→Prop
 | 0,_,_,_=>False
 | n + 1,m,T,u=>∃ (md:MdT) (kd:KdT) (j:Nat) (r:PNx) (t:Tm),0≤m∧ms[m.toNat]?=some md∧kd ∈ ks∧kd.2.1=md.2.1∧md.2.2.2.2.length=kd.2.2.2.length∧kd.2.2.2[j]?=some r∧r.2.1=nam T∧md.2.2.2.2[j]?=some t∧MB ks ms n t T u
def MB (ks:List KdT) (ms:List MdT):Nat→Tm→Tree Str→Tree Str→Prop
 | 0,_,_,_=>False
 | n + 1,t,T,u=>match lab t with
  | .call m b=>∃ c,0≤b∧T.bs[b.toNat]?=some c∧MM ks ms n m c u
  | .put nm k a=>∃ us:List (Tree Str),u=.node nm (if k=true then a + mrk T else a) us∧us.length=t.bs.length∧∀ (i:Nat) p q,t.bs[i]?=some p→us[i]?=some q→MB ks ms n p T q
end
theorem UJ {ks:List KdT} {ms:List MdT} (hO:WoodOk ks):∀ (n n':Nat),(∀ m T u u',MM ks ms n m T u→MM ks ms n' m T u'→u=u')∧∀ t T u u',MB ks ms n t T u→MB ks ms n' t T u'→u=u'
 | 0,_=>⟨fun m T u u' h=>by rw [MM] at h;exact h.elim,fun t T u u' h=>by rw [MB] at h;exact h.elim⟩
 | n + 1,0=>⟨fun m T u u' _ h=>by rw [MM] at h;exact h.elim,fun t T u u' _ h=>by rw [MB] at h;exact h.elim⟩
 | n + 1,n' + 1=>by
  obtain ⟨h1,h2⟩:=UJ (ms:=ms) hO n n'
  constructor
  ·intro m T u u' h h'
   rw [MM] at h h'
   obtain ⟨md,kd,j,r,t,a1,a2,a3,a4,a5,a6,a7,a8,a9⟩:=h
   obtain ⟨md',kd',j',r',t',b1,b2,b3,b4,b5,b6,b7,b8,b9⟩:=h'
   rw [a2] at b2
   cases b2
   have ek:kd=kd':=by
    obtain ⟨i,hi,e1⟩:=List.getElem_of_mem a3
    obtain ⟨i',hi',e2⟩:=List.getElem_of_mem b3
    have hn:=hO.nd
    rw [List.Nodup,List.pairwise_iff_getElem] at hn
    have:i=i':=by
     rcases Nat.lt_trichotomy i i' with z | z | z
     ·have:=hn i i' (by simpa using hi) (by simpa using hi') z
      simp only [List.getElem_map,e1,e2] at this
      exact absurd (a4.trans b4.symm) this
     ·exact z
     ·have:=hn i' i (by simpa using hi') (by simpa using hi) z
      simp only [List.getElem_map,e1,e2] at this
      exact absurd (b4.trans a4.symm) this
    subst this
    exact e1.symm.trans e2
   subst ek
   have ej:j=j':=Zs (hO.rows kd a3).nd a6 b6 (a7.trans b7.symm)
   subst ej
   rw [a8] at b8
   cases b8
   exact h2 _ _ _ _ a9 b9
  ·intro t T u u' h h'
   rw [MB] at h h'
   split at h
   ·rename_i m b e
    rw [e] at h'
    obtain ⟨c,a1,a2,a3⟩:=h
    obtain ⟨c',b1,b2,b3⟩:=h'
    rw [a2] at b2
    cases b2
    exact h1 _ _ _ _ a3 b3
   ·rename_i nm k a e
    rw [e] at h'
    obtain ⟨us,rfl,a2,a3⟩:=h
    obtain ⟨us',rfl,b2,b3⟩:=h'
    congr 1
    refine List.ext_getElem (a2.trans b2.symm) fun i hi hi'=>?_
    have hp:=List.getElem?_eq_getElem (show i < t.bs.length by lia)
    exact h2 _ _ _ _ (a3 i _ _ hp (List.getElem?_eq_getElem hi)) (b3 i _ _ hp (List.getElem?_eq_getElem hi'))
structure GT (l:Nat) (u:Tree Str):Prop where
 lv:lv u≤l
 ok:(td u).canLay0=true
 dp:(td u).depth≤2 * l
theorem GT.mono {l l':Nat} {u:Tree Str} (h:GT l u) (e:l≤l'):GT l' u:=⟨Nat.le_trans h.lv e,h.ok,Nat.le_trans h.dp (4:)⟩
theorem GT.put {l:Nat} {n:Str} {m:Int} {us:List (Tree Str)} (hn:PyData.strOk n=true) (h:∀ u ∈ us,GT l u):GT (l + 1) (.node n m us):=by
 have hd:∀ us:List (Tree Str),(∀ u ∈ us,GT l u)→PyData.canLayAll0 (tds us)=true∧PyData.depthAll (tds us)≤2 * l∧lvs us≤l:=fun us=>by
  induction us with
  | nil=>intro _;simp [tds,PyData.canLayAll0,PyData.depthAll,lvs]
  | cons a r ih =>
   intro h
   obtain ⟨i1,i2,i3⟩:=ih fun u hu=>h u (List.mem_cons_of_mem _ hu)
   have ha:=h a List.mem_cons_self
   have:=ha.lv
   have:=ha.dp
   simp only [tds,PyData.canLayAll0,PyData.depthAll,lvs,ha.ok,i1,Bool.and_self,true_and]
   lia
 obtain ⟨i1,i2,i3⟩:=hd us h
 refine ⟨by rw [Zm];show 1 + lvs us≤_;lia,?_,?_⟩
 ·simp only [td,PyData.canLay0,PyData.canLayAll0,hn,i1,Bool.and_self]
 ·simp only [td,PyData.depth,PyData.depthAll]
  lia
theorem WH {α β:Type} {R:α→β→Prop}:∀ {l:List α},(∀ a ∈ l,∃ b,R a b)→∃ bs:List β,bs.length=l.length∧∀ (i:Nat) a b,l[i]?=some a→bs[i]?=some b→R a b
 | [],_=>⟨[],rfl,fun i a b h=>(nomatch h)⟩
 | x :: l,h=>by
  obtain ⟨b,hb⟩:=h x List.mem_cons_self
  obtain ⟨bs,e,hr⟩:=WH fun a ha=>h a (List.mem_cons_of_mem _ ha)
  refine ⟨b :: bs,by simp [e],fun i a c ha hc=>?_⟩
  cases i with
  | zero=>cases ha;cases hc;exact hb
  | succ i=>exact hr i a c (by simpa using ha) (by simpa using hc)
section
variable {ks:List KdT} {ms:List MdT} {st:Tm} {c:Int}
theorem Lh {M L:Nat} (hL:1≤L) {T:Tree Str} {cs:List (Int × Int)} (hP:∀ x ∈ cs,∃ (k j:Nat) (b:Tree Str),x=((k:Int),(j:Int))∧T.bs[j]?=some b∧∀ n,M≤n→∃ u,MM ks ms n (k:Int) b u∧GT L u) :
 ∀ (q:Nat) (t:Tm),lv t≤q→TDr cs t→∀ n,q + M≤n→∃ u,MB ks ms n t T u∧GT (q - 1 + L) u
 | 0,t,h,_,_,_=>by rw [Zm] at h;lia
 | q + 1,t,h,hd,n,hn=>by
  obtain ⟨n',rfl⟩ : ∃ n',n=n' + 1:=⟨n - 1,by lia⟩
  match t,h,hd with
  | .node (.call m b) mk bs,h,hd =>
   rw [TDr] at hd
   obtain ⟨k,j,br,e,hb,hM⟩:=hP _ hd
   obtain ⟨e1,e2⟩:=Prod.mk.inj e
   obtain ⟨u,hu,hg⟩:=hM n' (4:)
   refine ⟨u,?_,hg.mono (4:)⟩
   rw [MB]
   exact ⟨br,by lia,by rw [e2,Int.toNat_natCast];exact hb,by rw [e1];exact hu⟩
  | .node (.put nm k a) mk bs,h,hd =>
   rw [TDr] at hd
   obtain ⟨h1,h2,h3⟩:=hd
   rw [Zx] at h3
   rw [Zm] at h
   have hlb:∀ b ∈ bs,lv b≤q:=fun b hb=>by
    have:=YB hb
    have:lvs (Tree.bs (.node (Lab.put nm k a) mk bs))=lvs bs:=rfl
    lia
   obtain ⟨us,ul,hu⟩:=WH (R:=fun p u=>MB ks ms n' p T u∧GT (q - 1 + L) u∧1≤q) (l:=bs) fun p hp=>by
    obtain ⟨u,a1,a2⟩:=Lh hL hP q p (hlb p hp) (h3 p hp) n' (4:)
    have:=hlb p hp
    rw [Zm] at this
    exact ⟨u,a1,a2,by lia⟩
   refine ⟨.node nm (if k=true then a + mrk T else a) us,?_,?_⟩
   ·rw [MB]
    exact ⟨us,rfl,ul,fun i p q' hp hq=>(hu i p q' hp hq).1⟩
   ·refine (GT.put (l:=q + L - 1) h1 fun u hm=>?_).mono (4:)
    obtain ⟨i,hi,rfl⟩:=List.getElem_of_mem hm
    obtain ⟨_,a2,a3⟩:=hu i _ _ (List.getElem?_eq_getElem (show i < bs.length by lia)) (List.getElem?_eq_getElem hi)
    exact a2.mono (4:)
end
end K71
namespace K71
open PySem L2 TM TT ST K9 K11
def ZQ (K:PySem.W.Frag) (n:Nat):Sp:=fun vs H Q _=>∃ (tu wd lm:Addr) (sv:V) (ks:List KdT) (st:Tm) (ms:List MdT) (m:Int) (v:V) (T u:Tree Str),vs=[.ref tu,.int m,v]∧TurnD K H tu wd lm sv ks st ms∧WoodOk ks∧TrV K H v T∧MM ks ms n m T u∧∀ (v':V) (H':Hp),Same H H'→TrV K H' v' u→Q v' H'
def JS (K:PySem.W.Frag) (n:Nat):Sp:=fun vs H Q _=>∃ (tu wd lm:Addr) (sv:V) (ks:List KdT) (st:Tm) (ms:List MdT) (tv v:V) (t:Tm) (T u:Tree Str),vs=[.ref tu,tv,v]∧TurnD K H tu wd lm sv ks st ms∧WoodOk ks∧TmV K H tv t∧TrV K H v T∧MB ks ms n t T u∧∀ (v':V) (H':Hp),Same H H'→TrV K H' v' u→Q v' H'
def OT:List G3.S:=[.ret (.call 0 [.v 0,.call 1 [.v 0,.v 1,.ix (.v 2) (.k (.int 0))],.v 2])]
def OH (K:PySem.W.Frag) (n:Nat):G3.En:=⟨K,[fun _ vs H Q=>JS K n vs H Q E0,fun _ vs H Q=>Xv K vs H Q E0],[],[],[]⟩
def cMB:List G3.S:=[.ite (.cmp .Eq (.ix (.v 1) (.k (.int 0))) (.k (.str "call"))) [.ret (.call 0 [.v 0,.ix (.v 1) (.k (.int 1)),.ix (.ix (.v 2) (.k (.int 2))) (.ix (.v 1) (.k (.int 2)))])] [],.setC 3 (.comp 2 (.ix (.v 1) (.k (.int 4))) [2,0] (.call 1 [.v 2,.v 0,.v 1])),.ret (.tup [.ix (.v 1) (.k (.int 1)),.bin .Add (.ix (.v 1) (.k (.int 3))) (.bin .Mult (.ix (.v 2) (.k (.int 1))) (.call 2 [.ix (.v 1) (.k (.int 2))])),.call 3 [.v 3]])]
def nMB (K:PySem.W.Frag) (n:Nat):G3.En:=⟨K,[fun _ vs H Q=>ZQ K n vs H Q E0,fun _ vs H Q=>JS K n vs H Q E0,fun _ vs H Q=>G3.rInt K vs H Q,fun _ vs H Q=>G3.rTupOf K vs H Q],[],[],[]⟩
theorem tmS {K:PySem.W.Frag} {H H':Hp} {v:V} {t:Tm} (g:Same H H') (h:TmV K H v t):TmV K H' v t:=h.mono fun _ _=>g.seqT
theorem trS {K:PySem.W.Frag} {H H':Hp} {v:V} {t:Tree Str} (g:Same H H') (h:TrV K H v t):TrV K H' v t:=h.mono fun _ _=>g.seqT
theorem ZR {K:PySem.W.Frag} {H:Hp} {v:V} {T:Tree Str} (h:TrV K H v T):∃ a b vs,v=.ref a∧SqT K H a [.str (nam T),.int (mrk T),.ref b]∧SqT K H b vs∧TrAll K H vs T.bs∧vs.length≤1000:=by
 cases h with
 | mk h1 h2 h3 h4=>exact ⟨_,_,_,rfl,h1,h2,h3,h4⟩
section
variable {P:Program} {w:World} {K:PySem.W.Frag} {mg:Str→Option Value} {base:Heap} {f:Addr} {fd:FuncData}
theorem NV:FnScope ["_law_turning_here", "_law_mode", "_law_tree_here"] ["_law_turning_here", "_law_mode", "_law_tree_here"] (defScope Ja):=(1:)
theorem LG {n:Nat} (F:Fun K "_law_made" "_law_made" Ja f fd) (G:Gm mg) (RB:Fn P w K mg base (n + 3) "_law_made_by" ["_law_turning_here", "_law_term_here", "_law_tree_here"] (JS K n)) (RO:Fn P w K mg base 2 "_law_rule_of" ["_law_turning_here", "_law_mode", "_law_name_here"] (Xv K)):FnOk P w K mg base CX0 (n + 4) f fd ["_law_turning_here", "_law_mode", "_law_tree_here"] (ZQ K (n + 1)):=by
 refine G3.Fun.okC F NV (OH K n) OT (fun X c=>⟨.cons (c.fn RB (7:)) (.cons (c.fn RO (4:)) .nil),.nil,.nil⟩) (9:) (fun H vs Q E h=>?_) G.rng
 ·obtain ⟨tu,wd,lm,sv,ks,st,ms,m,v,T,u,rfl,_⟩:=h
  rfl
 obtain ⟨tu,wd,lm,sv,ks,st,ms,m,v,T,u,rfl,hT,hO,hv,hM,q⟩:=h
 obtain ⟨a,b,vs,rfl,h1,h2,h3,h4⟩:=ZR hv
 rw [MM] at hM
 obtain ⟨md,kd,j,r,t,a1,a2,a3,a4,a5,a6,a7,a8,a9⟩:=hM
 refine .t _ _ h1 rfl ⟨tu,wd,lm,sv,ks,st,ms,m.toNat,md,kd,j,r,t,?_,hT,hO,a2,a3,a4,a5,a6,a8,fun tv H1 g1 htv=>?_⟩
 ·rw [Int.toNat_of_nonneg a1,a7]
 exact ⟨tu,wd,lm,sv,ks,st,ms,tv,.ref a,t,T,u,rfl,hT.same g1,hO,htv,trS g1 hv,a9,fun v' H' g hv'=>q v' H' (g1.trans g) hv'⟩
theorem PJ:FnScope ["_law_turning_here", "_law_term_here", "_law_tree_here", "_law_parts"] ["_law_turning_here", "_law_term_here", "_law_tree_here"] (defScope sMB):=(1:)
theorem Ow {n:Nat} (F:Fun K "_law_made_by" "_law_made_by" sMB f fd) (G:Gm mg) (RM:Fn P w K mg base (n + 3) "_law_made" ["_law_turning_here", "_law_mode", "_law_tree_here"] (ZQ K n)) (RB:Fn P w K mg base (n + 3) "_law_made_by" ["_law_turning_here", "_law_term_here", "_law_tree_here"] (JS K n)):FnOk P w K mg base CX0 (n + 4) f fd ["_law_turning_here", "_law_term_here", "_law_tree_here"] (JS K (n + 1)):=by
 refine G3.Fun.okC F PJ (nMB K n) cMB (fun X c=>⟨.cons (c.fn RM (7:)) (.cons (c.fn RB (7:)) (.cons (c.ty G3.call_int G.int PyProof.Rows.boot_int) (.cons (c.ty (fun _=>G3.call_tupOf) G.tup PyProof.Rows.boot_tuple) .nil))),.nil,.nil⟩) (9:) (fun H vs Q E h=>?_) G.rng
 ·obtain ⟨tu,wd,lm,sv,ks,st,ms,tv,v,t,T,u,rfl,_⟩:=h
  rfl
 obtain ⟨tu,wd,lm,sv,ks,st,ms,tv,v,t,T,u,rfl,hT,hO,htv,hv,hM,q⟩:=h
 obtain ⟨a,b,vs,rfl,r1,r2,r3,r4⟩:=ZR hv
 rw [MB] at hM
 rcases JR htv with ⟨ta,m,br,rfl,rfl,h1⟩ | ⟨ta,tb,tbs,tn,tk,tad,rfl,ett,h1,h2,h3,h4⟩
 ·obtain ⟨c,a1,a2,a3⟩:=hM
  obtain ⟨cv,hcv,hct⟩:=r3.get a2
  exact .t _ _ h1 rfl <| .t _ _ h1 rfl <| .t _ _ r1 rfl <| .t _ _ h1 rfl <| .t _ cv r2 (by rw [← Int.toNat_of_nonneg a1];exact QI hcv) ⟨tu,wd,lm,sv,ks,st,ms,m,cv,c,u,rfl,hT,hO,hct,a3,q⟩
 have elt:lab t=.put tn tk tad:=by rw [ett];rfl
 rw [elt] at hM
 obtain ⟨us,rfl,hul,hM⟩:=hM
 have hlen:=h3.length
 refine .t _ _ h1 rfl <| .t _ _ h1 rfl <| .t tbs h2 <| .s (fun i ys H'=>ys.length=i∧TrAll K H' ys (us.take i)) (fun H1 g=>⟨rfl,.nil⟩) (fun acc i ys l H1 H2 h _ _ _ k=>⟨h.1,h.2.mono k⟩) (4:) (fun i ys H1 hi _ g h=>?_) fun p ys H1 g hp h=>?_
 ·obtain ⟨c,hc⟩ : ∃ c,t.bs[i]?=some c:=⟨_,List.getElem?_eq_getElem (4:)⟩
  have ho:=List.getElem?_eq_getElem (show i < us.length by lia)
  obtain ⟨cv,hcv,hct⟩:=h3.get hc
  have ex:(tbs[i]?).getD .non=cv:=by rw [hcv];rfl
  rw [ex]
  refine ⟨tu,wd,lm,sv,ks,st,ms,cv,.ref a,c,T,us[i],rfl,hT.same g,hO,tmS g hct,trS g hv,hM i c _ hc ho,fun v' H4 g4 hv4=>⟨g4,by simp [h.1],?_⟩⟩
  rw [List.take_add_one,ho]
  exact TrAll.append (h.2.mono fun _ _=>g4.seqT) (.cons hv4 .nil)
 obtain ⟨hl,hys⟩:=h
 rw [List.take_of_length_le (4:)] at hys
 have h1':=g.seqT h1
 have r1':=g.seqT r1
 have fin:∀ z:Int,z=(if tk=true then tad + mrk T else tad)→∀ (pt pr:Addr) (H2 H3:Hp),Same H1 H2→SqT K H2 pt ys→Same H2 H3→SqT K H3 pr [.str tn,.int z,.ref pt]→Q (.ref pr) H3:=fun z ez pt pr H2 H3 g2 d2 g3 d3=>by
  refine q _ H3 (g.trans (g2.trans g3)) ?_
  rw [← ez]
  exact .mk d3 (g3.seqT d2) (hys.mono fun _ _=>(g2.trans g3).seqT) (4:)
 refine .t _ _ h1' rfl <| .t _ _ h1' rfl <| .t _ _ r1' rfl <| .t _ _ h1' rfl ⟨.inr ?_,.l ys (SqL.of hp) fun pt H2 g2 d2=>⟨fun pr H3 g3 d3 _=>fin _ ?_ pt pr H2 H3 g2 d2 g3 d3⟩⟩
 ·cases tk <;> exact ⟨by decide,by decide⟩
 ·cases tk with
  | true=>simp
  | false=>simp
theorem Ur {fM fB:Addr} {fdM fdB:FuncData} (FM:Fun K "_law_made" "_law_made" Ja fM fdM) (FB:Fun K "_law_made_by" "_law_made_by" sMB fB fdB) (G:Gm mg) (RO:Fn P w K mg base 2 "_law_rule_of" ["_law_turning_here", "_law_mode", "_law_name_here"] (Xv K)) (bM:Binds K fdM ["_law_turning_here", "_law_mode", "_law_tree_here"] []) (bB:Binds K fdB ["_law_turning_here", "_law_term_here", "_law_tree_here"] []) (hM:mg "_law_made" = some (.ref fM)) (hB:mg "_law_made_by" = some (.ref fB)):∀ n:Nat,FnOk P w K mg base CX0 (n + 3) fM fdM ["_law_turning_here", "_law_mode", "_law_tree_here"] (ZQ K n)∧FnOk P w K mg base CX0 (n + 3) fB fdB ["_law_turning_here", "_law_term_here", "_law_tree_here"] (JS K n)
 | 0=>⟨⟨fun vs H Q E h=>by obtain ⟨tu,wd,lm,sv,ks,st,ms,m,v,T,u,rfl,_⟩:=h;rfl,fun A outer s H args us vs Q E _ _ _ _ h=>by obtain ⟨tu,wd,lm,sv,ks,st,ms,m,v,T,u,_,_,_,_,hM,_⟩:=h;rw [MM] at hM;exact hM.elim⟩,⟨fun vs H Q E h=>by obtain ⟨tu,wd,lm,sv,ks,st,ms,tv,v,t,T,u,rfl,_⟩:=h;rfl,fun A outer s H args us vs Q E _ _ _ _ h=>by obtain ⟨tu,wd,lm,sv,ks,st,ms,tv,v,t,T,u,_,_,_,_,_,hM,_⟩:=h;rw [MB] at hM;exact hM.elim⟩⟩
 | n + 1=>by
  obtain ⟨h1,h2⟩:=Ur FM FB G RO bM bB hM hB n
  exact ⟨LG FM G ⟨fB,fdB,h2,bB,FB.kp,hB⟩ RO,Ow FB G ⟨fM,fdM,h1,bM,FM.kp,hM⟩ ⟨fB,fdB,h2,bB,FB.kp,hB⟩⟩
end
end K71
namespace L2
open PySem PySem.Spec PyProof.Rows
def Sub (g h:Heap):Prop:=∀ b o,g.get? b=some o→h.get? b=some o
section
variable {X:Cx} {pins:List (11:)} {σ:St} {H:Hp} {s:Shared}
end
section
variable {X:Cx}
end
end L2
namespace L2
open PySem PySem.Spec PyProof.Rows
section
variable {X:Cx}
end
end L2
namespace K3
def LX:List Nat:=[97,98,99,100,101,102,103,104,105,106,107,108,109,110,111,112,113,114,115,116,117,118,119,120,121,122]
def run (L:List Nat) (t:List Nat):List Nat:=t.takeWhile fun c=>decide (c ∈ L)
def D (n:Nat):List Nat:=(Nat.toDigits 10 n).map Char.toNat
end K3
namespace K3
end K3
namespace L2
open PySem PySem.Spec PyProof.Rows
structure Mt (P:Program) (w:World) (K:PySem.W.Frag) (mg:Str→Option Value) (base:Heap) (C:Addr) (k:Nat) (m:Str) (ps:List Str) (sp:Sp):Prop where
 ex:∃ f fd,Meth K C m f∧FnOk P w K mg base CX0 k f fd ps sp∧Binds K fd ps []
section
variable {X:Cx} {C:Addr} {k k':Nat} {m:Str} {ps:List Str} {sp:Sp} {o e:Expr} {es:List Expr} {ta:TE} {t:TA} {apos pos:Pos}
theorem V4 {pl:Sem Bool} (M:Mt X.prog X.w X.K X.mg X.base C k m ps sp) (c:Cls X.K C) (hr:Room k' X.A) (he:PE X o ta) (hk:k≤k':=by decide)
 (ht:eval (.Call (.Attribute o m apos) [] [] pos) X.env=(do
  let ov ← eval o X.env
  standAt apos.atName
  let (f,first) ← holding [ov] (getMethod ov m pl)
  callWith pos f first (backTo pos (starEach [] X.env)) (backToKw pos (keywordEach [] X.env))):=by rfl) :
 PE X (.Call (.Attribute o m apos) [] [] pos) (XI C m sp [] E0 ta Y3):=by
 obtain ⟨f,fd,h1,h2,h3⟩:=M.ex
 exact Gz (pl:=pl) he c h1 h2 (hr.mono hk) h3 .nil XJ ht
theorem Ww {pl:Sem Bool} (M:Mt X.prog X.w X.K X.mg X.base C k m ps sp) (c:Cls X.K C) (hr:Room k' X.A) (he:PE X o ta) (ha:PA X (e :: es) t) (hk:k≤k':=by decide)
 (hst:starEach (e :: es) X.env=(false,eval e X.env) :: starEach es X.env:=by rfl) (hpl:(backTo pos (starEach es X.env)).any (·.1)=false:=by rfl)
 (ht:eval (.Call (.Attribute o m apos) (e :: es) [] pos) X.env=(do
  let ov ← eval o X.env
  standAt apos.atName
  let (f,first) ← holding [ov] (getMethod ov m pl)
  callWith pos f first (backTo pos (starEach (e :: es) X.env)) (backToKw pos (keywordEach [] X.env))):=by rfl) :
 PE X (.Call (.Attribute o m apos) (e :: es) [] pos) (XI C m sp [] E0 ta t):=by
 obtain ⟨f,fd,h1,h2,h3⟩:=M.ex
 exact LC (pl:=pl) he c h1 h2 (hr.mono hk) h3 .nil XJ ha hst hpl ht
end
end L2
namespace K3
open PySem L2
def sh (m:Int):List Nat:=if m < 0 then 45 :: D m.natAbs else D m.natAbs
end K3
namespace L2
open PySem PySem.Spec PyProof.Rows
section
variable {prog:Program} {w:World} {K:Type} [DecidableEq K] {knd:KeyKind prog w K} {A:Around} {E:Value→Shared→Prop} {s:Shared}
theorem W7 {d:Addr} {kvs:List (K × Value)} {k:K} {key dflt:Value} {Q:Value→Shared→Prop} (hkey:knd.is k key=true) (hm:s.heap.DictOf knd d kvs)
 (hthere:∀ v,valueAt kvs k=some v→Q v { s with toks:=s.toks + 1 })
 (hnew:k ∉ kvs.map (·.1)→∀ h':Heap,h'.DictOf knd d (kvs ++ [(k,dflt)])→Heap.SameBut d s.heap h'→Q dflt { s with heap:=h',toks:=s.toks + 1 })
 (hsz:kvs.length≤sizeLine):wpAny (15:) A (dictSetDefault d key dflt) Q E s:=by
 have hmap:=hm.mapOf
 obtain ⟨o,es,ep,ho,hc,hd,hk,hp,hn⟩:=hm
 have hes:es.size≤sizeLine:=by
  have e1:=hp.length
  have e2:es.toList.length=es.size:=by simp
  lia
 have hidx:(es.findIdx? fun e=>knd.is k e.key)=kvs.findIdx? fun kv=>decide (kv.1=k):=by
  rw [← hp.findIdx k];obtain ⟨l⟩:=es;simp
 unfold dictSetDefault
 try with_reducible refine wpAny_holding ?_
 refine wpAny_bind (knd.pyHash hkey ?_)
 refine wpAny_bind (wpAny_dictFind_of (s:={ s with toks:=s.toks + 1 }) hkey ho hd hk ?_)
 cases hi:es.findIdx? fun e=>knd.is k e.key with
 | some i =>
  have hlt:i < es.size:=(Array.findIdx?_eq_some_iff_findIdx_eq.mp hi).1
  refine wpAny_bind (wpAny_dictEntries (s:={ s with toks:=s.toks + 1 }) ho hd ?_)
  have hfk:valueAt kvs k=some es[i].val:=by
   rw [← hp.find k]
   have h1:(es.toList.findIdx? fun e=>knd.is k e.key)=some i:=by rw [← hi];obtain ⟨l⟩:=es;simp
   have h2:=List.findIdx?_eq_some_iff_findIdx_eq.mp h1
   have h3:es.toList.find? (fun e=>knd.is k e.key)=some es.toList[i]:=by
    rw [List.find?_eq_some_iff_getElem]
    obtain ⟨a,b,c⟩:=List.findIdx?_eq_some_iff_getElem.mp h1
    exact ⟨b,i,a,rfl,fun j hj=>by simpa using c j hj⟩
   rw [h3]
   simp
  rw [Array.getElem?_eq_getElem hlt]
  exact wpAny_bind (wpAny_rule (wpAny_pure (hthere _ hfk)))
 | none =>
  have hnot:k ∉ kvs.map (·.1):=not_mem_of_findIdx_none (hidx ▸ hi)
  refine wpAny_bind (wpAny_rule (wpAny_bind (wpAny_updateDictKeys (hz:=hes) (s:={ s with toks:=s.toks + 1 }) ho hd (wpAny_pure (hnew hnot _ ⟨_,_,ep + 1,Heap.get?_update_self _ ho (Obj.isFreed_of_dict (Obj.data_mapDictKeys hd _)),hc.mapDictKeys _,Obj.data_mapDictKeys hd _,hk.push hkey _,?_,?_⟩ (Heap.SameBut.update ..))))))
  ·have:=hp.append hkey (knd.hash k) dflt
   obtain ⟨l⟩:=es
   simpa using this
  ·rw [List.map_append,List.nodup_append]
   refine ⟨hn,by simp,?_⟩
   intro a ha b hb
   simp only [List.map_cons,List.map_nil,List.mem_singleton] at hb
   subst hb
   exact fun e=>hnot (e ▸ ha)
theorem W0 {k:K} {key:Value} {d:Addr} (hkey:knd.is k key=true) (hd:(d == sysModules)=false) (dflt:Value) (kvs:List (K × Value)) (hsz:kvs.length≤sizeLine) :
 MeetsIn prog w (Builtin.«dict.setdefault» ⟨[.ref d,key,dflt],[]⟩) (fun _ R s=>s.heap.DictOf knd d kvs ∧
  (∀ v,valueAt kvs k=some v→R (.ok (.ret v)) { s with toks:=s.toks + 1 }) ∧
  (k ∉ kvs.map (·.1)→∀ h':Heap,h'.DictOf knd d (kvs ++ [(k,dflt)])→Heap.SameBut d s.heap h'→R (.ok (.ret dflt)) { s with heap:=h',toks:=s.toks + 1 })) :=
 .of_wp fun A R s ⟨hm,h1,h2⟩=>by
  unfold Builtin.«dict.setdefault»
  refine wpAny_bind ?_
  unfold Builtin.Dict.keyAndDefault
  refine wpAny_bind (wpAny_notOrdered_dict hm.mapOf.typeIs ?_)
  show wpAny _ _ (pure (d,key,some dflt)) _ _ s
  refine wpAny_pure ?_
  show wpAny _ _ (if (d == sysModules)=true then _ else (dictSetDefault d key dflt >>= _)) _ _ s
  rw [if_neg (by rw [hd];exact Bool.false_ne_true)]
  exact wpAny_bind (W7 hkey hm (fun v hv=>wpAny_pure ⟨v,rfl,h1 v hv⟩) (fun hn h' hm' hs'=>wpAny_pure ⟨dflt,rfl,h2 hn h' hm' hs'⟩) hsz)
end
section
variable {X:Cx}
theorem UW:MtR X "dict.setdefault" (fun x vs H Q=>∃ (d:Addr) (kvs:List (Key × V)) (k:Key) (v:V),x=.ref d∧vs=[kV k,v]∧H d=some (.dK kvs)∧kvs.length < sizeLine ∧
 (∀ u,Z7 kvs k=some u→Q u H)∧(k ∉ kvs.map (·.1)→Q v (upd H d (.dK (kvs ++ [(k,v)]))))):=by
 intro pins s σ H x xs v us Q I rx rv h
 obtain ⟨d,kvs,k,v',rfl,rfl,e,hl,h1,h2⟩:=h
 cases rx
 obtain ⟨u1,us',rfl,r1,rr⟩ : ∃ u1 us',us=u1 :: us'∧RelV (kV k) u1∧Vals [v'] us':=by cases rv with | cons a b=>exact ⟨_,_,rfl,a,b⟩
 obtain ⟨u2,rfl,r2⟩:=rr.one
 obtain ⟨z,hd,vs,rel,dd⟩:=MQ I.hok e
 have hz:vs.length≤sizeLine:=by rw [← rel.length];exact z
 refine call_meetsIn F.slot_dict_setdefault dd.mapOf.typeIs F.entry_dict_setdefault (F.args_dict_setdefault_3 _ _ _) (W0 (Ji r1) hd u2 vs hz) ⟨dd,fun w' hw=>?_,fun hn h' dd' hs=>?_⟩
 ·have hr:=rel.val k
  rw [hw] at hr
  cases hu:Z7 kvs k with
  | none=>rw [hu] at hr;exact hr.elim
  | some u=>rw [hu] at hr;exact ⟨u,H,I.tok _,hr,h1 u hu⟩
 ·have hn':k ∉ kvs.map (·.1):=by rw [KV.keys rel];exact hn
  have he:∃ q,h'.get? d=some q:=let ⟨q,_,_,hq,_⟩:=dd';⟨q,hq⟩
  exact ⟨v',_,Ms I (by rw [e];exact True.intro) hs he (GC (by rw [List.length_append];exact hl) hd (by have hp:=KV.put rel k r2;unfold MU stored at hp;rw [if_neg (by rw [List.any_eq_true];rintro ⟨a,ha,e⟩;exact hn' (List.mem_map.mpr ⟨a,ha,of_decide_eq_true e⟩)),if_neg (by rw [List.any_eq_true];rintro ⟨a,ha,e⟩;exact hn (List.mem_map.mpr ⟨a,ha,of_decide_eq_true e⟩))] at hp;exact hp) dd'),r2,h2 hn'⟩
end
end L2
namespace L2
open PySem PySem.Spec PyProof.Rows
section
variable {X:Cx}
end
end L2
namespace K71
open PySem L2 TM TT ST K9 K11
abbrev sFI:Stmt:=inClass (top 12) 0
abbrev sGO:Stmt:=inClass (top 12) 1
abbrev sMG:Stmt:=inClass (top 12) 2
abbrev sHd:Stmt:=inClass (top 12) 3
def ff (kv mk:V) (ln:Addr):List (Str × V):=[("kinds", kv),("mark", mk),("needed", .ref ln)]
theorem LM (kv mk mk':V) (ln:Addr):Zt "mark" mk' (ff kv mk ln)=ff kv mk' ln:=by
 unfold ff
 rw [JG (0:),LL]
structure FtT (K:PySem.W.Frag) (mg:Str→Option Value) (C:Addr):Prop where
 cl:Cls K C
 nK:NoAttr K C "kinds"
 nM:NoAttr K C "mark"
 nN:NoAttr K C "needed"
 mgC:mg "Fit" = some (.ref C)
abbrev Ent:=Int × V
def dKv (es:List Ent):List (Key × V):=es.map fun e=>((Sum.inl e.1:Key),e.2)
def EntOk (K:PySem.W.Frag) (H:Hp) (ks:List KdT) (ms:List MdT) (kb:List Str) (T:Tree Str) (i:Nat) (z:Ent):Prop:=∃ (c u:Tree Str) (n k:Nat) (md:MdT),T.bs[i]?=some c∧TrV K H z.2 u∧z.1=(k:Int)∧MM ks ms n z.1 c u∧ms[k]?=some md∧kb[i]?=some md.2.1∧GT 50 u
structure FitS (K:PySem.W.Frag) (C:Addr) (H:Hp) (ks:List KdT) (ms:List MdT) (kb:List Str) (T:Tree Str) (x dx:Addr) (kv mk:V) (ln:Addr) (ds:List Addr) (es:List (List Ent)):Prop where
 hx:H x=some (.ins C dx (ff kv mk ln))
 hm:mk=.non∨mk=.int (mrk T)
 hl:H ln=some (.lst (ds.map V.ref))
 dl:ds.length=kb.length
 el:es.length=kb.length
 hd:∀ (i:Nat) d e,ds[i]?=some d→es[i]?=some e→H d=some (.dK (dKv e))
 nd:ds.Nodup
 en:∀ (i:Nat) e z,es[i]?=some e→z ∈ e→EntOk K H ks ms kb T i z
 kn:∀ e ∈ es,(e.map (·.1)).Nodup
def SameF (x:Addr) (ds:List Addr) (H H':Hp):Prop:=∀ b u,b≠x→b ∉ ds→H b=some u→H' b=some u
theorem SameF.refl (x:Addr) (ds:List Addr) (H:Hp):SameF x ds H H:=fun _ _ _ _ e=>e
theorem SameF.trans {x:Addr} {ds:List Addr} {H H1 H2:Hp} (a:SameF x ds H H1) (b:SameF x ds H1 H2):SameF x ds H H2:=fun c u n1 n2 e=>b c u n1 n2 (a c u n1 n2 e)
theorem SameF.of {x:Addr} {ds:List Addr} {H H':Hp} (h:Same H H'):SameF x ds H H':=fun b u _ _ e=>h b u e
theorem EntOk.mono {K:PySem.W.Frag} {H H':Hp} {ks:List KdT} {ms:List MdT} {kb:List Str} {T:Tree Str} {i:Nat} {z:Ent} (k:∀ a xs,SqT K H a xs→SqT K H' a xs) (h:EntOk K H ks ms kb T i z):EntOk K H' ks ms kb T i z:=by
 obtain ⟨c,u,n,kk,md,a,b,r⟩:=h
 exact ⟨c,u,n,kk,md,a,b.mono k,r⟩
section
variable {K:PySem.W.Frag} {C:Addr} {H H':Hp} {ks:List KdT} {ms:List MdT} {kb:List Str} {T:Tree Str} {x dx:Addr} {kv mk:V} {ln:Addr} {ds:List Addr} {es:List (List Ent)}
theorem FitS.dic (F:FitS K C H ks ms kb T x dx kv mk ln ds es) {d:Addr} (h:d ∈ ds):∃ kvs,H d=some (.dK kvs):=by
 obtain ⟨i,hi,rfl⟩:=List.getElem_of_mem h
 exact ⟨_,F.hd i _ _ (List.getElem?_eq_getElem hi) (List.getElem?_eq_getElem (show i < es.length by rw [F.el,← F.dl];exact hi))⟩
theorem FitS.seqT (F:FitS K C H ks ms kb T x dx kv mk ln ds es) (g:SameF x ds H H') {a:Addr} {xs:List V} (h:SqT K H a xs):SqT K H' a xs:=by
 have n1:∀ {o:HO},H a=some o→(∀ f,o≠.ins C dx f)→a≠x:=fun e no z=>by
  rw [z,F.hx] at e
  exact no _ (Option.some.inj e).symm
 have n2:∀ {o:HO},H a=some o→(∀ f,o≠.dK f)→a ∉ ds:=fun e no z=>by
  obtain ⟨kvs,e'⟩:=F.dic z
  rw [e'] at e
  exact no _ (Option.some.inj e).symm
 rcases h with (q | ⟨o,q⟩) | q
 ·exact .inl (.inl (g _ _ (n1 q (fun f z=>by cases z)) (n2 q (fun f z=>by cases z)) q))
 ·exact .inl (.inr ⟨o,g _ _ (n1 q (fun f z=>by cases z)) (n2 q (fun f z=>by cases z)) q⟩)
 ·exact .inr q
theorem FitS.raw (F:FitS K C H ks ms kb T x dx kv mk ln ds es) (g:SameF x ds H H') {a:Addr} {xs:List V} (h:H a=some (.lst xs)):H' a=some (.lst xs):=by
 refine g _ _ (Q4 h F.hx (by intro z;cases z)) (fun q=>?_) h
 obtain ⟨kvs,e'⟩:=F.dic q
 rw [e'] at h
 cases h
theorem FitS.upL (F:FitS K C H ks ms kb T x dx kv mk ln ds es) {acc:Addr} {ys:List V} {o:HO} (ha:H acc=some (.lst ys)) (hn:ln≠acc):FitS K C (upd H acc o) ks ms kb T x dx kv mk ln ds es :=
 ⟨by rw [Qg (Q4 F.hx ha (by intro z;cases z))];exact F.hx,F.hm,by rw [Qg hn];exact F.hl,F.dl,F.el,fun i d e a b=>by
  have:=F.hd i d e a b
  rw [Qg (Q4 this ha (by intro z;cases z))];exact this,F.nd,fun i e z a b=>(F.en i e z a b).mono fun _ _ h=>SqT.put h ha,F.kn⟩
theorem FitS.same (F:FitS K C H ks ms kb T x dx kv mk ln ds es) (g:Same H H'):FitS K C H' ks ms kb T x dx kv mk ln ds es :=
 ⟨g _ _ F.hx,F.hm,g _ _ F.hl,F.dl,F.el,fun i d e a b=>g _ _ (F.hd i d e a b),F.nd,fun i e z a b=>(F.en i e z a b).mono fun _ _=>g.seqT,F.kn⟩
theorem FitS.mark (F:FitS K C H ks ms kb T x dx kv mk ln ds es):FitS K C (upd H x (.ins C dx (ff kv (.int (mrk T)) ln))) ks ms kb T x dx kv (.int (mrk T)) ln ds es∧SameF x ds H (upd H x (.ins C dx (ff kv (.int (mrk T)) ln))):=by
 have g:SameF x ds H (upd H x (.ins C dx (ff kv (.int (mrk T)) ln))):=fun b u n _ e=>by rw [Qg n];exact e
 refine ⟨⟨Qb,.inr rfl,?_,F.dl,F.el,fun i d e a b=>?_,F.nd,fun i e z a b=>(F.en i e z a b).mono fun _ _ h=>F.seqT g h,F.kn⟩,g⟩
 ·rw [Qg (Q4 F.hl F.hx (by intro z;cases z))];exact F.hl
 ·have:=F.hd i d e a b
  rw [Qg (Q4 this F.hx (by intro z;cases z))];exact this
theorem FitS.add (F:FitS K C H ks ms kb T x dx kv mk ln ds es) {i:Nat} {d:Addr} {e:List Ent} {z:Ent} (hd:ds[i]?=some d) (he:es[i]?=some e) (hz:EntOk K H ks ms kb T i z) (hk:z.1 ∉ e.map (·.1)):FitS K C (upd H d (.dK (dKv (e ++ [z])))) ks ms kb T x dx kv mk ln ds (es.set i (e ++ [z]))∧SameF x ds H (upd H d (.dK (dKv (e ++ [z])))):=by
 have hdm:=List.mem_of_getElem? hd
 have g:SameF x ds H (upd H d (.dK (dKv (e ++ [z])))):=fun b u _ n eb=>by
  have nb:b≠d:=fun q=>n (by rw [q];exact hdm)
  rw [Qg nb];exact eb
 have hde:=F.hd i d e hd he
 have hi:=(List.getElem?_eq_some_iff.mp he).1
 refine ⟨⟨?_,F.hm,?_,F.dl,by rw [List.length_set];exact F.el,fun j d' e' a b=>?_,F.nd,fun j e' z' a b=>?_,fun e' he'=>?_⟩,g⟩
 ·rw [Qg (Q4 F.hx hde (by intro q;cases q))];exact F.hx
 ·rw [Qg (Q4 F.hl hde (by intro q;cases q))];exact F.hl
 ·by_cases hj:j=i
  ·subst hj
   rw [hd] at a
   cases a
   rw [List.getElem?_set_self hi] at b
   cases b
   exact Qb
  ·rw [List.getElem?_set_ne (fun q=>hj q.symm)] at b
   have hdd:d'≠d:=fun q=>hj ((List.getElem?_inj (List.getElem?_eq_some_iff.mp a).1 F.nd).mp (by rw [a,hd,q]))
   rw [Qg hdd]
   exact F.hd j d' e' a b
 ·by_cases hj:j=i
  ·subst hj
   rw [List.getElem?_set_self hi] at a
   cases a
   rcases List.mem_append.mp b with q | q
   ·exact (F.en j e z' he q).mono fun _ _ h=>F.seqT g h
   ·rw [List.mem_singleton.mp q];exact hz.mono fun _ _ h=>F.seqT g h
  ·rw [List.getElem?_set_ne (fun q=>hj q.symm)] at a
   exact (F.en j e' z' a b).mono fun _ _ h=>F.seqT g h
 ·obtain ⟨j,hj,rfl⟩:=List.getElem_of_mem he'
  rw [List.length_set] at hj
  by_cases hji:i=j
  ·subst hji
   rw [List.getElem_set_self,List.map_append,List.nodup_append]
   exact ⟨F.kn e (List.mem_of_getElem? he),by simp,fun p hp q hq z'=>hk (by
    have:q=z.1:=by simpa using hq
    rw [← this,← z'];exact hp)⟩
  ·rw [List.getElem_set_ne hji]
   exact F.kn _ (List.getElem_mem hj)
end
def Mz (K:PySem.W.Frag):Sp:=fun vs H Q _=>∃ (v mv:V) (n:Str) (k:Bool) (ad m:Int) (ts:List Tm),vs=[v,mv]∧TmV K H v (.node (.put n k ad) 0 ts)∧(k=true→mv=.int m)∧Q (.int (if k=true then ad + m else ad)) H
def cMP:List G3.S:=[.ret (.iff (.ix (.v 0) (.k (.int 2))) (.bin .Add (.ix (.v 0) (.k (.int 3))) (.v 1)) (.ix (.v 0) (.k (.int 3))))]
def nMP (K:PySem.W.Frag):G3.En:=⟨K,[],[],[],[]⟩
def Nl (K:PySem.W.Frag) (C:Addr):Sp:=fun vs H Q _=>∃ (ks:List KdT) (ms:List MdT) (kb:List Str) (T:Tree Str) (x dx:Addr) (kv mk:V) (ln:Addr) (ds:List Addr) (es:List (List Ent)) (tv:V) (n:Str) (k:Bool) (ad:Int) (ts:List Tm),vs=[.ref x,tv,.int (if k=true then ad + mrk T else ad)]∧FitS K C H ks ms kb T x dx kv mk ln ds es∧TmV K H tv (.node (.put n k ad) 0 ts) ∧
 ∀ (mk':V) (H':Hp),SameF x ds H H'→FitS K C H' ks ms kb T x dx kv mk' ln ds es→Q (.bl true) H'
section
variable {P:Program} {w:World} {K:PySem.W.Frag} {mg:Str→Option Value} {base:Heap} {f:Addr} {fd:FuncData} {C:Addr}
theorem Pc:FnScope ["term", "mark"] ["term", "mark"] (defScope sMP):=(1:)
theorem Od (F:Fun K "mark_put" "mark_put" sMP f fd) (G:Gm mg):FnOk P w K mg base CX0 1 f fd ["term", "mark"] (Mz K):=by
 refine G3.Fun.okC F Pc (nMP K) cMP (fun X c=>⟨.nil,.nil,.nil⟩) (9:) (fun H vs Q E h=>?_) G.rng
 ·obtain ⟨v,mv,n,k,ad,m,ts,rfl,_⟩:=h
  rfl
 obtain ⟨v,mv,n,k,ad,m,ts,rfl,hv,hm,q⟩:=h
 cases hv with
 | put h1 h2 h3 h4 =>
  cases k with
  | true =>
   cases hm rfl
   exact .t _ _ h1 rfl <| .t _ _ h1 rfl q
  | false=>exact .t _ _ h1 rfl <| .t _ _ h1 rfl q
theorem O3:FnScope ["self", "term", "mark"] ["self", "term", "mark"] (defScope sMG):=(1:)
theorem N9 (F:Fun K "mark_goes" "Fit.mark_goes" sMG f fd) (T0:FtT K mg C) (RP:Fn P w K mg base 1 "mark_put" ["term", "mark"] (Mz K)):FnOk P w K mg base CX0 2 f fd ["self", "term", "mark"] (Nl K C):=by
 refine F.ok O3 (9:) (3:)
 ·obtain ⟨ks,ms,kb,T,x,dx,kv,mk,ln,ds,es,tv,n,k,ad,ts,rfl,_⟩:=h
  rfl
 obtain ⟨ks,ms,kb,T,x,dx,kv,mk,ln,ds,es,tv,n,k,ad,ts,rfl,FS,hv,q⟩:=h
 refine ⟨_,(Qf (Uo (QG (PW.pt (pw_and (QM (Qk Qj (pv 1) Qd (5:))) (pw_and1 (Wn (Wi (UN (pv 0) rfl)))))) (Qi (J5 (pv 0) (Qm YL (pv 2) (Qk Qj (pv 1) Qd (5:))) rfl)) Qs))
  (Qi (Ql (Zz Zd (Qp RP hr (Qa (pv 1) (Qa (UN (pv 0) rfl) Qc))) (pv 2) (Qu _))))),?_⟩
 cases hv with
 | @put ta tb tvs tts _ _ _ h1 h2 h3 h4 =>
 refine ⟨fun σ' H'=>σ'=[some (.ref x),some (.ref ta),some (.int (if k=true then ad + mrk T else ad))]∧SameF x ds H H'∧∃ mk',FitS K C H' ks ms kb T x dx kv mk' ln ds es∧(k=true→mk'=.int (mrk T)),?_,?_⟩
 ·refine ⟨_,rfl,ta,_,2,_,rfl,rfl,h1,rfl,k,rfl,?_⟩
  cases k with
  | false=>exact Zb (Zb ⟨rfl,SameF.refl _ _ _,mk,FS,fun z=>nomatch z⟩)
  | true =>
   refine Zn ⟨_,rfl,x,C,dx,_,_,rfl,FS.hx,T0.cl,T0.nM,rfl,_,rfl,?_⟩
   rcases id FS.hm with e | e
   ·refine NH e ⟨_,rfl,_,rfl,ta,_,3,_,rfl,rfl,h1,rfl,_,_,rfl,rfl,_,rfl,x,C,dx,_,rfl,FS.hx,T0.cl,T0.nM,(by show 3 < 1000;decide),?_⟩
    rw [LM]
    obtain ⟨n1,n2⟩:=FS.mark
    have ez:ad + mrk T - ad=mrk T:=by lia
    show _∧_
    rw [if_pos rfl]
    dsimp only
    rw [ez]
    exact ⟨rfl,n2,_,n1,fun _=>rfl⟩
   ·exact Gs (fun z=>by rw [e] at z;cases z) ⟨rfl,SameF.refl _ _ _,mk,FS,fun _=>e⟩
 ·rintro σ' H1 ⟨rfl,g1,mk',FS1,hmk⟩
  refine ⟨_,rfl,_,rfl,x,C,dx,_,_,rfl,FS1.hx,T0.cl,T0.nM,rfl,.ref ta,mk',n,k,ad,mrk T,ts,rfl,.put (FS.seqT g1 h1) (FS.seqT g1 h2) (h3.mono fun _ _ h=>FS.seqT g1 h) h4,hmk,_,rfl,rfl,?_⟩
  show Q (.bl (decide _)) H1
  rw [decide_eq_true rfl]
  exact q mk' H1 g1 FS1
end
theorem pig {α:Type} [DecidableEq α]:∀ {l r:List α},l.Nodup→(∀ x ∈ l,x ∈ r)→l.length≤r.length
 | [],_,_,_=>Nat.zero_le _
 | x :: l,r,hn,h=>by
  rw [List.nodup_cons] at hn
  have:=pig (l:=l) (r:=r.erase x) hn.2 fun y hy=>(List.mem_erase_of_ne (fun z=>hn.1 (by rw [← z];exact hy))).mpr (h y (List.mem_cons_of_mem _ hy))
  have hx:=h x List.mem_cons_self
  have:=List.length_erase_of_mem hx
  have:=List.length_pos_of_mem hx
  simp only [List.length_cons]
  lia
def XX (K:PySem.W.Frag) (C:Addr) (n:Nat):Sp:=fun vs H Q _=>∃ (ks:List KdT) (ms:List MdT) (kb:List Str) (T:Tree Str) (x dx:Addr) (kv mk:V) (ln:Addr) (ds:List Addr) (es:List (List Ent)) (tv uv:V) (t:Tm) (u:Tree Str) (cs:List (Int × Int)) (N:Nat),vs=[.ref x,tv,uv]∧FitS K C H ks ms kb T x dx kv mk ln ds es∧WoodOk ks∧kb.length≤10∧ms.length≤10∧TmV K H tv t∧TrV K H uv u∧MB ks ms N t T u∧GT 50 u∧lv t≤n∧TDr cs t∧(∀ c ∈ cs,∃ (k j:Nat) (md:MdT),c=((k:Int),(j:Int))∧ms[k]?=some md∧kb[j]?=some md.2.1) ∧
 ∀ (mk':V) (es':List (List Ent)) (H':Hp),SameF x ds H H'→FitS K C H' ks ms kb T x dx kv mk' ln ds es'→Q (.bl true) H'
theorem GT.bs {l:Nat} {n:Str} {m:Int} {us:List (Tree Str)} (h:GT l (.node n m us)):∀ u ∈ us,GT l u:=by
 have hd:∀ us:List (Tree Str),PyData.canLayAll0 (tds us)=true→∀ u ∈ us,(td u).canLay0=true∧(td u).depth≤PyData.depthAll (tds us):=fun us=>by
  induction us with
  | nil=>intro _ u hu;cases hu
  | cons a r ih =>
   intro h u hu
   simp only [tds,PyData.canLayAll0,Bool.and_eq_true] at h
   simp only [tds,PyData.depthAll]
   rcases List.mem_cons.mp hu with z | z
   ·rw [z];exact ⟨h.1,by lia⟩
   ·obtain ⟨a,b⟩:=ih h.2 u z
    exact ⟨a,by lia⟩
 have h1:=h.ok
 have h2:=h.dp
 have h3:=h.lv
 simp only [td,PyData.canLay0,PyData.canLayAll0,Bool.and_eq_true] at h1
 simp only [td,PyData.depth,PyData.depthAll] at h2
 rw [Zm] at h3
 intro u hu
 obtain ⟨a,b⟩:=hd us h1.2.2.1 u hu
 have:=YB hu
 have e:lvs (Tree.bs (.node n m us))=lvs us:=rfl
 exact ⟨by lia,a,by lia⟩
section
variable {P:Program} {w:World} {K:PySem.W.Frag} {mg:Str→Option Value} {base:Heap} {f:Addr} {fd:FuncData} {C:Addr}
theorem PH:FnScope ["self", "term", "tree"] ["self", "term", "tree"] (defScope sGO):=(1:)
theorem N7 {n:Nat} (F:Fun K "goes_onto" "Fit.goes_onto" sGO f fd) (G:Gm mg) (T0:FtT K mg C) (RC:Fn P w K mg base 1 "is_call" ["term"] (Xs K)) (MG:Mt P w K mg base C 2 "mark_goes" ["self", "term", "mark"] (Nl K C)) (R:Mt P w K mg base C (n + 3) "goes_onto" ["self", "term", "tree"] (XX K C n)):FnOk P w K mg base CX0 (n + 4) f fd ["self", "term", "tree"] (XX K C (n + 1)):=by
 refine F.ok PH (9:) (3:)
 ·obtain ⟨ks,ms,kb,T,x,dx,kv,mk,ln,ds,es,tv,uv,t,u,cs,N,rfl,_⟩:=h
  rfl
 obtain ⟨ks,ms,kb,T,x,dx,kv,mk,ln,ds,es,tv,uv,t,u,cs,N,rfl,FS,hO,hkb,hms,hv,hu,hM,hG,hlv,hTD,hcs,q⟩:=h
 have hr1:Room 1 _:=hr.mono (4:)
 have hr2:Room 2 _:=hr.mono (4:)
 refine ⟨_,(Qf (QG (QM (Qp RC hr1 (Qa (pv 1) Qc))) (Qi (Ql (Zz JK (Yz PySem.F.plainAttrs_dict PySem.F.slot_dict_setdefault PySem.F.type_dict_setdefault UW (Qk QF (UN (pv 0) rfl) (Qk Qj (pv 1) Qd (5:)) (5:)) (Qa (Qk Qj (pv 1) Qd (5:)) (Qa (pv 2) Qc))) (pv 2) (Qu _)))) Qs)
  (Qf (QG (PW.pt (pw_or (Qr YC (Qk Qj (pv 1) Qd (5:)) (Qk Qj (pv 2) Qd (5:)) (Qu _)) (pw_or (Qr YC (Qo Qn rfl G.len PySem.boot_len (Qa (Qk Qj (pv 1) Qd (5:)) Qc)) (Qo Qn rfl G.len PySem.boot_len (Qa (Qk Qj (pv 2) Qd (5:)) Qc)) (Qu _)) (pw_or1 (Q3 (QM (Ww MG T0.cl hr2 (pv 0) (Qa (pv 1) (Qa (Qk Qj (pv 2) Qd (5:)) Qc))))))))) (Qi (Ql Zv)) Qs)
  (Qi (Ql (Qo (Vj rfl) rfl G.all PyProof.Rows.boot_all (Qa (Qy (CompG.many (xs:=["part", "branch"]) (caps:=["self"]) (cap:=[0]) (cs:=[_]) rfl rfl (0:) (0:) (0:) (0:) (0:) (0:) rfl rfl rfl) rfl (LQ rfl G.zip (Qa (Qk Qj (pv 1) Qd (5:)) (Qa (Qk Qj (pv 2) Qd (5:)) Qc))) (UG (CompG.many (xs:=["part", "branch"]) (caps:=["self"]) (cap:=[0]) (cs:=[_]) rfl rfl (0:) (0:) (0:) (0:) (0:) (0:) rfl rfl rfl) rfl) (fun _ _ _ _=>QT) (fun _ _ _ _=>Ww R T0.cl hr (pv 2) (Qa (pv 0) (Qa (pv 1) Qc)) (7:))) Qc)))))),?_⟩
 obtain ⟨N,rfl⟩ : ∃ N',N=N' + 1:=by
  cases N with
  | zero=>rw [MB] at hM;exact hM.elim
  | succ N=>exact ⟨N,rfl⟩
 rw [MB] at hM
 rcases JR hv with ⟨ta,m,br,rfl,rfl,h1⟩ | ⟨ta,tb,tbs,tn,tk,tad,rfl,ett,h1,h2,h3,h4⟩
 ·have hmem:(m,br) ∈ cs:=hTD
  obtain ⟨k,j,md,e,hmk,hkj⟩:=hcs _ hmem
  obtain ⟨e1,e2⟩:=Prod.mk.inj e
  obtain ⟨c,b0,hc,hMM⟩:=hM
  have hj:j < kb.length:=(List.getElem?_eq_some_iff.mp hkj).1
  obtain ⟨d,hd⟩ : ∃ d,ds[j]?=some d:=⟨_,List.getElem?_eq_getElem (by rw [FS.dl];exact hj)⟩
  obtain ⟨e',he'⟩ : ∃ e,es[j]?=some e:=⟨_,List.getElem?_eq_getElem (by rw [FS.el];exact hj)⟩
  have hde:=FS.hd j d e' hd he'
  rw [e2,Int.toNat_natCast] at hc
  have hlen:e'.length≤10:=by
   have:(e'.map (·.1)).length≤(List.range ms.length).length:=by
    refine Nat.le_trans (pig (r:=(List.range ms.length).map fun k:Nat=>(k:Int)) (FS.kn e' (List.mem_of_getElem? he')) fun y hy=>?_) (by simp)
    obtain ⟨z,hz,rfl⟩:=List.mem_map.mp hy
    obtain ⟨c',u',n',k',md',_,_,ez,_,hk',_⟩:=FS.en j e' z he' hz
    exact List.mem_map.mpr ⟨k',List.mem_range.mpr (List.getElem?_eq_some_iff.mp hk').1,ez.symm⟩
   rw [List.length_map,List.length_range] at this
   lia
  refine ⟨_,rfl,.ref ta,_,rfl,hv,true,rfl,Zn ?_⟩
  refine ⟨_,rfl,x,C,dx,_,_,rfl,FS.hx,T0.cl,T0.nN,rfl,_,rfl,ta,_,2,_,rfl,rfl,h1,rfl,ln,_,br,.ref d,rfl,rfl,SqL.of FS.hl,by rw [e2];exact QI (by rw [List.getElem?_map,hd];rfl),.inr (.inr (.inl ⟨rfl,.inl ⟨_,hde⟩⟩)),_,rfl,ta,_,1,_,rfl,rfl,h1,rfl,_,rfl,d,dKv e',Sum.inl m,uv,rfl,rfl,hde,by unfold dKv;rw [List.length_map,QK];lia,fun u' hval=>?_,fun hno=>?_⟩
  ·have hval:((dKv e').find? fun kv=>decide (kv.1=Sum.inl m)).map (·.2)=some u':=hval
   cases ef:(dKv e').find? fun kv=>decide (kv.1=Sum.inl m) with
   | none=>rw [ef] at hval;cases hval
   | some p =>
    rw [ef] at hval
    have hp2:p.2=u':=by simpa using hval
    have hp1:p.1=Sum.inl m:=by simpa using List.find?_some ef
    obtain ⟨z,hz,rfl⟩:=List.mem_map.mp (List.mem_of_find?_eq_some ef)
    have hz1:z.1=m:=by simpa using hp1
    have hz2:z.2=u':=hp2
    obtain ⟨c',u0,n',k',md',a1,a2,_,a4,_,_,a7⟩:=FS.en j e' z he' hz
    rw [hc] at a1
    cases a1
    rw [hz1] at a4
    have eu:=(UJ hO n' N).1 m c u0 u a4 hMM
    rw [hz2,eu] at a2
    refine ⟨_,rfl,td u,td u,TrV.rd a2,TrV.rd hu,hG.ok,hG.ok,?_,?_⟩
    ·have:=hG.dp
     have:=Nat.min_le_right (td u).depth (td u).depth
     have h0:=hr.un
     show (A.deeper _).units + _ < cLine
     lia
    ·show Q (.bl (PyData.eqv (td u) (td u))) H
     rw [ZJ _ hG.ok]
     exact q mk es H (SameF.refl _ _ _) FS
  ·have hno':m ∉ e'.map (·.1):=fun z=>by
    obtain ⟨y,hy,e⟩:=List.mem_map.mp z
    refine hno (List.mem_map.mpr ⟨(Sum.inl y.1,y.2),List.mem_map.mpr ⟨y,hy,rfl⟩,?_⟩)
    rw [← e]
   obtain ⟨F1,g1⟩:=FS.add (z:=(m,uv)) hd he' ⟨c,u,N,k,md,hc,hu,e1,hMM,hmk,hkj,hG⟩ hno'
   have ed:dKv e' ++ [((Sum.inl m:Key),uv)]=dKv (e' ++ [(m,uv)]):=by unfold dKv;rw [List.map_append];rfl
   rw [ed]
   have hu1:=hu.mono fun _ _ h=>FS.seqT g1 h
   refine ⟨_,rfl,td u,td u,TrV.rd hu1,TrV.rd hu1,hG.ok,hG.ok,?_,?_⟩
   ·have:=hG.dp
    have:=Nat.min_le_right (td u).depth (td u).depth
    have h0:=hr.un
    show (A.deeper _).units + _ < cLine
    lia
   ·show Q (.bl (PyData.eqv (td u) (td u))) _
    rw [ZJ _ hG.ok]
    exact q mk _ _ g1 F1
 have elt:lab t=.put tn tk tad:=by rw [ett];rfl
 rw [elt] at hM
 obtain ⟨us,rfl,hul,hM⟩:=hM
 obtain ⟨ua,ub,uvs,rfl,r1,r2,r3,r4⟩:=ZR hu
 have hlen:=h3.length
 have hlen2:=r3.length
 refine ⟨_,rfl,.ref ta,t,rfl,hv,isC (lab t),rfl,?_⟩
 rw [elt]
 refine Zb ?_
 refine ⟨_,rfl,ta,_,1,_,rfl,rfl,h1,rfl,_,rfl,ua,_,0,_,rfl,rfl,r1,rfl,rfl,_,rfl,UF rfl ?_⟩
 refine ⟨_,rfl,ta,_,4,_,rfl,rfl,h1,rfl,tb,_,rfl,.inr h2,_,rfl,ua,_,2,_,rfl,rfl,r1,rfl,ub,_,rfl,.inr r2,rfl,_,rfl,UF (by rw [hlen,hlen2];exact congrArg (fun n:Nat=>V.int (n:Int)) hul.symm) ?_⟩
 refine ⟨_,rfl,x,dx,_,rfl,FS.hx,rfl,_,rfl,_,rfl,ua,_,1,_,rfl,rfl,r1,rfl,ks,ms,kb,T,x,dx,kv,mk,ln,ds,es,.ref ta,tn,tk,tad,t.bs,rfl,FS,by rw [← ett];exact hv,fun mk1 H1 g1 F1=>⟨true,rfl,Zb ?_⟩⟩
 have h1':=FS.seqT g1 h1
 have h2':=FS.seqT g1 h2
 have r1':=FS.seqT g1 r1
 have r2':=FS.seqT g1 r2
 have hTbs:∀ p ∈ t.bs,TDr cs p:=fun p hp=>by
  rw [ett,TDr] at hTD
  exact (Zx cs t.bs).mp hTD.2.2 p hp
 rw [Zm] at hlv
 refine ⟨_,rfl,ta,_,4,_,rfl,rfl,h1',rfl,_,rfl,ua,_,2,_,rfl,rfl,r1',rfl,tb,ub,tbs,uvs,rfl,h2',r2',fun acc hacc=>?_⟩
 have hzl:tbs.length=uvs.length:=by rw [hlen,hlen2];exact hul.symm
 refine Mj (K:=K) (xs:=tbs) (zs:=uvs) (cs:=[some (.ref x)]) (tt:=fun _ H Q=>Q true H) (te:=XI C "goes_onto" (XX K C n) [] E0 (Zu 2) (Ze (Zu 0) (Ze (Zu 1) Y3))) hzl (fun i ys H'=>H' acc=some (.lst ys)∧SameF x ds H1 H'∧(∃ mk' es',FitS K C H' ks ms kb T x dx kv mk' ln ds es')∧ys=List.replicate i (V.bl true))
  ⟨Qb,SameF.of (Qe hacc _),⟨mk1,es,F1.same (Qe hacc _)⟩,rfl⟩ ?_ ?_ ?_
 ·rintro i ys H' _ ⟨_,g,_⟩
  exact ⟨F1.seqT g h2',F1.seqT g r2'⟩
 ·rintro i u' v' p ys H' hi hu' hv' hp ⟨hya,g,⟨mk2,es2,F2⟩,rfl⟩
  have gp:=Qe hp (.tup [u',v'])
  obtain ⟨c,hc⟩ : ∃ c,t.bs[i]?=some c:=⟨_,List.getElem?_eq_getElem (4:)⟩
  obtain ⟨z,hz⟩ : ∃ z,us[i]?=some z:=⟨_,List.getElem?_eq_getElem (by rw [hul];lia)⟩
  obtain ⟨cv,hcv,hct⟩:=h3.get hc
  obtain rfl:cv=u':=Option.some.inj (hcv.symm.trans hu')
  obtain ⟨zv,hzv,hzt⟩:=r3.get hz
  obtain rfl:zv=v':=Option.some.inj (hzv.symm.trans hv')
  have km:∀ a xs,SqT K H a xs→SqT K (upd H' p (.tup [cv,zv])) a xs:=fun _ _ h=>gp.seqT (F1.seqT g (FS.seqT g1 h))
  have hcm:=List.mem_of_getElem? hc
  have:=YB hcm
  have nal:ln≠acc:=fun q=>by rw [← q,F1.hl] at hacc;cases hacc
  refine Zn ⟨_,rfl,x,dx,_,rfl,gp _ _ F2.hx,rfl,_,rfl,_,rfl,ks,ms,kb,T,x,dx,kv,mk2,ln,ds,es2,cv,zv,c,z,cs,N,rfl,F2.same gp,hO,hkb,hms,hct.mono km,hzt.mono km,hM i c z hc hz,hG.bs z (List.mem_of_getElem? hz),by lia,hTbs c hcm,hcs,fun mk3 es3 H3 g3 F3=>?_⟩
  have ha3:=(F2.same gp).raw g3 (gp _ _ hya)
  refine Qx hi ha3 (by rw [List.length_replicate];lia) ⟨Qb,fun b o n1 n2 e=>?_,⟨mk3,es3,F3.upL ha3 nal⟩,by rw [List.replicate_succ']⟩
  rw [Qg (Qh e hacc)]
  exact g3 _ _ n1 n2 (gp _ _ (g _ _ n1 n2 e))
 rintro ys H2 ⟨hya,g2,⟨mk2,es2,F2⟩,rfl⟩
 refine ⟨acc,List.replicate tbs.length true,rfl,SqL.of (by rw [List.map_replicate];exact hya),?_⟩
 show Q (.bl ((List.replicate tbs.length true).all id)) H2
 rw [show (List.replicate tbs.length true).all id=true by simp]
 exact q mk2 es2 H2 (g1.trans g2) F2
theorem Lq {k:Nat}:FnOk P w K mg base CX0 k f fd ["self", "term", "tree"] (XX K C 0):=by
 have no:∀ vs H Q E,¬ XX K C 0 vs H Q E:=fun vs H Q E h=>by
  obtain ⟨ks,ms,kb,T,x,dx,kv,mk,ln,ds,es,tv,uv,t,u,cs,N,_,_,_,_,_,_,_,_,_,h0,_⟩:=h
  rw [Zm] at h0;lia
 exact ⟨fun vs H Q E h=>absurd h (no vs H Q E),fun A outer s H args us vs Q E _ _ _ _ h=>absurd h (no vs H Q E)⟩
theorem G0 (F:Fun K "goes_onto" "Fit.goes_onto" sGO f fd) (G:Gm mg) (T0:FtT K mg C) (RC:Fn P w K mg base 1 "is_call" ["term"] (Xs K)) (MG:Mt P w K mg base C 2 "mark_goes" ["self", "term", "mark"] (Nl K C)) (hM:Meth K C "goes_onto" f) (hb:Binds K fd ["self", "term", "tree"] []):∀ n:Nat,FnOk P w K mg base CX0 (n + 3) f fd ["self", "term", "tree"] (XX K C n)
 | 0=>Lq
 | n + 1=>N7 F G T0 RC MG ⟨f,fd,hM,G0 F G T0 RC MG hM hb n,hb⟩
end
end K71
namespace L2
open PySem PySem.Spec PyProof.Rows
theorem Ln {K:PySem.W.Frag} {a b acc:Addr} {xs zs:List V} {tt:TT} {te:TE} {cs:St} {H1:Hp} {Q:Hp→Prop} (hlen:xs.length=zs.length) (Pv:Nat→List V→Hp→Prop) (h0:Pv 0 [] (upd H1 acc (.lst []))) (hl:∀ i ys H,i≤xs.length→Pv i ys H→SqT K H a xs∧SqL K H b zs)
 (hs:∀ i u v p ys H,i < xs.length→xs[i]?=some u→zs[i]?=some v→H p=none→Pv i ys H→tt (some u :: some v :: cs) (upd H p (.tup [u,v])) (JY xs.length Pv acc i te (some u :: some v :: cs))) (hd:∀ ys H,Pv xs.length ys H→Q H):Yf (MY K a b xs zs) 2 cs (W6 K 2 (ZV (QX 0) (ZV (QX 1) X7))) tt te H1 acc Q:=by
 refine QS (N:=xs.length) Pv h0 (fun ys H p=>?_) fun i ys H hi p=>?_
 ·obtain ⟨qa,qb⟩:=hl _ _ _ (7:) p
  exact ⟨⟨qa,Nat.le_refl _⟩,hd ys H p⟩
 ·obtain ⟨qa,qb⟩:=hl _ _ _ (Nat.le_of_lt hi) p
  refine ⟨⟨qa,qb,hi,by lia⟩,?_⟩
  rintro x H3 ⟨q,u,v,hq,rfl,rfl,hu,hv⟩ as has
  obtain ⟨a0,a1,rfl⟩:=Um has
  exact ⟨q,[u,v],rfl,SqT.of Qb,rfl,u,[v],rfl,v,[],rfl,rfl,⟨[some u,some v],rfl,rfl⟩,hs i u v q ys _ hi hu hv hq p⟩
end L2
namespace K71
open PySem L2 TM TT ST K9 K11
def Oa (K:PySem.W.Frag) (C:Addr):Sp:=fun vs H Q _=>∃ (x dx kt:Addr) (kb:List Str),vs=[.ref x,.ref kt]∧H x=some (.ins C dx [])∧SqT K H kt (kb.map V.str)∧kb.length≤10 ∧
 ∀ (ln:Addr) (ds:List Addr) (H':Hp),V0 x H H'→(∀ d ∈ ds,H d=none)→(∀ ks ms T,FitS K C H' ks ms kb T x dx (.ref kt) .non ln ds (List.replicate kb.length []))→Q .non H'
def Y8 (K:PySem.W.Frag):Sp:=fun vs H Q _=>∃ (d:Addr) (e:List Ent),vs=[.ref d]∧H d=some (.dK (dKv e))∧(e.map (·.1)).Nodup∧e.length≤10 ∧
 ∀ (l:Addr) (ps:List (Addr × Ent)) (H':Hp),Same H H'→H' l=some (.lst (ps.map fun p=>V.ref p.1))→H l=none→(∀ p ∈ ps,SqT K H' p.1 [.int p.2.1,p.2.2]∧p.2 ∈ e)→ps.length≤10→Q (.ref l) H'
def k1 (kv:V):List (Str × V):=[("kinds", kv)]
def k2 (kv mk:V):List (Str × V):=[("kinds", kv),("mark", mk)]
theorem f1 (kv:V):Zt "kinds" kv []=k1 kv:=rfl
theorem f2 (kv mk:V):Zt "mark" mk (k1 kv)=k2 kv mk:=by
 unfold k1 k2
 rw [JG (0:)];rfl
theorem f3 (kv mk:V) (ln:Addr):Zt "needed" (.ref ln) (k2 kv mk)=ff kv mk ln:=by
 unfold k2 ff
 rw [JG (0:),JG (0:)];rfl
section
variable {P:Program} {w:World} {K:PySem.W.Frag} {mg:Str→Option Value} {base:Heap} {f:Addr} {fd:FuncData} {C:Addr}
theorem O0:FnScope ["self", "kinds"] ["self", "kinds"] (defScope sFI):=(1:)
theorem OQ (F:Fun K "__init__" "Fit.__init__" sFI f fd) (T0:FtT K mg C):FnOk P w K mg base CX0 1 f fd ["self", "kinds"] (Oa K C):=by
 refine F.ok O0 (9:) (3:)
 ·obtain ⟨x,dx,kt,kb,rfl,_⟩:=h
  rfl
 obtain ⟨x,dx,kt,kb,rfl,hx,hk,hl,q⟩:=h
 refine ⟨_,(Qf (J5 (pv 0) (pv 1) rfl)
  (Qf (J5 (pv 0) Yj rfl)
  (Qi (J5 (pv 0) (Qy (CompG.many (xs:=["kind"]) (caps:=[]) (cap:=[]) (cs:=[]) rfl rfl (0:) (0:) (0:) (0:) (0:) (0:) rfl rfl rfl) rfl (ZI (pv 1)) (Q7 (CompG.many (xs:=["kind"]) (caps:=[]) (cap:=[]) (cs:=[]) rfl rfl (0:) (0:) (0:) (0:) (0:) (0:) rfl rfl rfl)) (fun _ _ _ _=>QT) (fun _ _ _ _=>VY)) rfl)))),?_⟩
 refine ⟨_,rfl,_,rfl,x,C,dx,_,rfl,hx,T0.cl,T0.nK,(by show 0 < 1000;decide),?_⟩
 rw [f1]
 refine ⟨_,rfl,x,C,dx,_,rfl,Qb,T0.cl,T0.nM,(by show 1 < 1000;decide),?_⟩
 rw [f2]
 have g1:V0 x H (upd (upd H x (.ins C dx (k1 (.ref kt)))) x (.ins C dx (k2 (.ref kt) .non))):=fun b u n e=>by rw [Qg n,Qg n];exact e
 have hx1:upd (upd H x (.ins C dx (k1 (.ref kt)))) x (.ins C dx (k2 (.ref kt) .non)) x=some (.ins C dx (k2 (.ref kt) .non)):=Qb
 generalize upd (upd H x (.ins C dx (k1 (.ref kt)))) x (.ins C dx (k2 (.ref kt) .non))=H1 at g1 hx1
 have hk1:SqT K H1 kt (kb.map V.str):=InsAt.seqT ⟨C,dx,_,hx⟩ g1 hk
 refine ⟨_,rfl,kt,rfl,⟨_,hk1⟩,fun acc hacc=>?_⟩
 refine Yo (K:=K) (xs:=kb.map V.str) (cs:=[]) (tt:=fun _ H Q=>Q true H) (te:=VG) (fun i ys H'=>H' acc=some (.lst ys)∧Same H1 H'∧∃ ds:List Addr,ys=ds.map V.ref∧ds.length=i∧ds.Nodup∧(∀ d ∈ ds,H' d=some (.dK []))∧∀ d ∈ ds,H1 d=none) ⟨Qb,Qe hacc _,[],rfl,rfl,List.nodup_nil,fun d hd=>(nomatch hd),fun d hd=>(nomatch hd)⟩ ?_ ?_ ?_
 ·rintro i ys H' _ ⟨_,g,_⟩
  exact g.seqT hk1
 ·rintro i y ys H' hi hy ⟨hya,g,ds,rfl,hdl,hnd,hds,hdn⟩
  refine Zn fun d hd=>?_
  have gd:=Qe hd (.dK [])
  have hya':=gd _ _ hya
  refine Qx hi hya' (by rw [List.length_map] at hi;rw [List.length_map];lia) ⟨Qb,fun b u e=>?_,ds ++ [d],by rw [List.map_append];rfl,by simp [hdl],?_,fun d' hd'=>?_,fun d' hd'=>?_⟩
  ·rw [Qg (Qh e hacc)];exact gd _ _ (g _ _ e)
  ·rw [List.nodup_append]
   refine ⟨hnd,by simp,fun a ha b hb z=>?_⟩
   have hb':b=d:=by simpa using hb
   have:=hds a ha
   rw [z,hb',hd] at this
   cases this
  ·rcases List.mem_append.mp hd' with z | z
   ·have:=gd _ _ (hds d' z)
    rw [Qg (Q4 this hya' (by intro z;cases z))];exact this
   ·have hz:d'=d:=by simpa using z
    rw [hz]
    have:upd H' d (.dK []) d=some (.dK []):=Qb
    rw [Qg (Q4 this hya' (by intro z;cases z))];exact this
  ·rcases List.mem_append.mp hd' with z | z
   ·exact hdn d' z
   ·have hz:d'=d:=by simpa using z
    rw [hz]
    cases e:H1 d with
    | none=>rfl
    | some o=>rw [g _ _ e] at hd;cases hd
 rintro ys H2 ⟨hya,g2,ds,rfl,hdl,hnd,hds,hdn⟩
 rw [List.length_map] at hdl
 refine ⟨_,rfl,x,C,dx,_,rfl,g2 _ _ hx1,T0.cl,T0.nN,(by show 2 < 1000;decide),?_⟩
 rw [f3]
 refine q acc ds _ (fun b u n e=>?_) (fun d hd=>?_) fun ks ms T=>⟨Qb,.inl rfl,?_,hdl,by rw [List.length_replicate],fun i d e a b=>?_,hnd,fun i e z a b=>?_,fun e he=>?_⟩
 ·rw [Qg n];exact g2 _ _ (g1 _ _ n e)
 ·have h1:=hdn d hd
  cases e:H d with
  | none=>rfl
  | some o =>
   have hne:d≠x:=fun z=>by rw [z,hx1] at h1;cases h1
   rw [g1 _ _ hne e] at h1
   cases h1
 ·rw [Qg (Q4 hya (g2 _ _ hx1) (by intro z;cases z))];exact hya
 ·have hb:e=[]:=by
   have:=List.mem_of_getElem? b
   exact (List.mem_replicate.mp this).2
  have:=hds d (List.mem_of_getElem? a)
  rw [hb,Qg (Q4 this (g2 _ _ hx1) (by intro z;cases z))]
  exact this
 ·rw [(List.mem_replicate.mp (List.mem_of_getElem? a)).2] at b
  cases b
 ·rw [(List.mem_replicate.mp he).2];exact List.nodup_nil
end
theorem Lr {e:List Ent} (hn:(e.map (·.1)).Nodup) {z:Ent} (hz:z ∈ e):Z7 (dKv e) (Sum.inl z.1)=some z.2:=by
 induction e with
 | nil=>cases hz
 | cons a r ih =>
  rw [List.map_cons,List.nodup_cons] at hn
  show Z7 (((Sum.inl a.1:Key),a.2) :: dKv r) _=_
  rcases List.mem_cons.mp hz with q | q
  ·rw [Yu (p:=((Sum.inl a.1:Key),a.2)) (by rw [q]),q]
  ·rw [YH (p:=((Sum.inl a.1:Key),a.2)) (fun y=>hn.1 (by
    have:a.1=z.1:=by injection y
    rw [this];exact List.mem_map_of_mem (f:=fun x:Ent=>x.1) q))]
   exact ih hn.2 q
inductive SortD (d:Addr) (H:Hp) (Q:VK):Prop where
 | s (e:List Ent) (h:H d=some (.dK (dKv e))) (hl:e.length < 64) (k:∀ (out:List Int) p H',out.Perm (e.map (·.1))→Same H H'→H' p=some (.lst (out.map V.int))→Q (.ref p) H'):SortD d H Q
def Wj (_:PySem.W.Frag) (vs:List V) (H:Hp) (Q:VK):Prop:=match vs with
 | [.ref d]=>SortD d H Q
 | _=>False
theorem XU (X:Cx) (hc:X.calm=true):QN X (.builtin "sorted") (Wj X.K):=by
 intro pins s σ H xs us Q I r h
 unfold Wj at h
 split at h
 ·cases h with
  | s e h hl k=>exact UX hc pins s σ H _ us Q I r ⟨_,_,e.map (·.1),rfl,h,by unfold dKv;rw [List.map_map,List.map_map];rfl,by rw [List.length_map];exact hl,fun out p hp _ hn=>k out p _ hp (Qe hn _) Qb⟩
 ·exact h.elim
theorem OO {X:Cx} {P:Program} {w:World} {K:PySem.W.Frag} {mg:Str→Option Value} {base:Heap} {k:Nat} (c:G3.Cxt X P w K mg base k) {x:Str} {id:String} {r:PySem.W.Frag→List V→Hp→VK→Prop} (hc:∀ X:Cx,X.calm=true→QN X (.builtin id) (r X.K)) (hm:mg x=none) (hv:bootBuiltins x=some (.builtin id)) (hn:x ≠ "__name__" := by decide):G3.CallOk X x (fun _ vs H Q=>r K vs H Q):=by
 obtain ⟨rfl,rfl,rfl,rfl,rfl,hr,hcm⟩:=c
 exact .blt (hc X hcm) hm hv hn
inductive GetD (d:Addr) (m:Int) (H:Hp) (Q:VK):Prop where
 | g (e:List Ent) (z:Ent) (h:H d=some (.dK (dKv e))) (hn:(e.map (·.1)).Nodup) (hz:z ∈ e) (em:z.1=m) (q:Q z.2 H):GetD d m H Q
def ML (_:PySem.W.Frag):List V→Hp→VK→Prop:=G3.on2 fun x y H Q=>match x,y with
 | .ref d,.int m=>GetD d m H Q
 | _,_=>False
theorem Va {k:Nat} (X:Cx) (hr:Room k X.A):G3.NodeOk X G3.shIx (ML X.K):=.plain fun e es ts hs h=>by
 unfold G3.shIx at hs
 split at hs
 ·split at hs
  ·rename_i hc
   cases hs
   obtain ⟨t,u,rfl,h1,h2⟩:=h.two
   refine ⟨G3.pe_mono (Mu (V7 hr) (G3.pe_up h1) (G3.pe_up h2) (G3.ord_ix hc)) fun σ H Q q=>⟨_,q,fun x H1 q=>⟨_,q,fun y H2 q=>?_⟩⟩,rfl⟩
   cases x with
   | ref d =>
    cases y with
    | int m =>
     cases q with
     | g e z h hn hz em q=>exact ⟨d,_,rfl,by rw [← em];exact (Lr hn hz) ▸ DGet.k (k:=Sum.inl z.1) h,q⟩
    | _=>exact False.elim q
   | _=>cases y <;> exact False.elim q
  ·cases hs
 ·cases hs
def Nk:List G3.S:=[.ret (.comp 1 (.call 0 [.v 0]) [0] (.tup [.v 0,.nd 0 [.v 1,.v 0]]))]
def M6 (K:PySem.W.Frag):G3.En:=⟨K,[fun _ vs H Q=>Wj K vs H Q],[],[ML K],[]⟩
section
variable {P:Program} {w:World} {K:PySem.W.Frag} {mg:Str→Option Value} {base:Heap} {f:Addr} {fd:FuncData} {C:Addr}
theorem Lo:FnScope ["trees"] ["trees"] (defScope Wo):=(1:)
theorem GX (F:Fun K "pairs_of" "pairs_of" Wo f fd) (G:Gm mg):FnOk P w K mg base CX0 1 f fd ["trees"] (Y8 K):=by
 refine G3.Fun.okC F Lo (M6 K) Nk (nk:=[G3.shIx]) (fun X c=>⟨.cons (OO c XU G.srt PyProof.Rows.boot_sorted) .nil,.nil,.cons (c.nodeR Va) .nil⟩) (9:) (fun H vs Q E h=>?_) G.rng
 ·obtain ⟨d,e,rfl,_⟩:=h
  rfl
 obtain ⟨d,e,rfl,hd,hn,hl,q⟩:=h
 refine .s e hd (4:) fun out p H1 hp g1 ep=>.l (out.map V.int) (SqL.of ep) <| .m (fun acc i ys H'=>Same H1 H'∧H' acc=some (.lst ys)∧∃ ps:List (Addr × Ent),ys=ps.map (fun p=>V.ref p.1)∧(∀ p ∈ ps,SqT K H' p.1 [.int p.2.1,p.2.2]∧p.2 ∈ e)∧ps.length=i) ?_ (fun acc H2 ha g ea=>⟨g,ea,[],rfl,fun p hp=>(nomatch hp),rfl⟩) (fun acc i ys H2 ⟨g,_⟩=>SqL.of (g _ _ ep)) (fun acc i ys H2 hi _ ha ⟨g,ea,ps,e1,h1,h2⟩=>?_) fun acc ys H2 ha ⟨g,ea,ps,e1,h1,h2⟩=>?_
 ·rw [List.length_map,hp.length_eq,List.length_map];lia
 ·rw [List.length_map] at hi
  have ex:((out.map V.int)[i]?).getD .non=.int out[i]:=by rw [List.getElem?_map,List.getElem?_eq_getElem hi];rfl
  rw [ex]
  obtain ⟨z,hz,ez⟩:=List.mem_map.mp (hp.mem_iff.mp (List.getElem_mem hi))
  refine .g e z ((g1.trans g) _ _ hd) hn hz ez ⟨fun pt X k d _=>⟨k _ _ ea,fun b u eb=>?_,Qb,ps ++ [(pt,z)],by rw [e1,List.map_append];rfl,fun p hp=>?_,by simp [h2]⟩⟩
  ·rw [Qg (Qh eb ha)];exact k _ _ (g _ _ eb)
  rcases List.mem_append.mp hp with y | y
  ·exact ⟨SqT.put (k.seqT (h1 p y).1) (k _ _ ea),(h1 p y).2⟩
  ·rw [List.mem_singleton.mp y]
   exact ⟨by show SqT K _ pt [.int z.1,z.2];rw [ez];exact SqT.put d (k _ _ ea),hz⟩
 ·rw [List.length_map,hp.length_eq,List.length_map] at h2
  subst e1
  refine q acc ps H2 (g1.trans g) ea ?_ h1 (4:)
  cases e:H acc with
  | none=>rfl
  | some o=>rw [g1 _ _ e] at ha;cases ha
end
end K71
namespace K71
open PySem L2 TM TT ST K9 K11
abbrev Wt:=Addr × Addr × List (Addr × Ent)
structure WantAt (K:PySem.W.Frag) (H:Hp) (ks:List KdT) (ms:List MdT) (kb:List Str) (T:Tree Str) (i:Nat) (kind:Str) (w:Wt):Prop where
 t:SqT K H w.1 [.str kind,.ref w.2.1]
 l:H w.2.1=some (.lst (w.2.2.map fun p=>V.ref p.1))
 p:∀ p ∈ w.2.2,SqT K H p.1 [.int p.2.1,p.2.2]∧EntOk K H ks ms kb T i p.2
 z:w.2.2.length≤10
theorem WantAt.same {K:PySem.W.Frag} {H H':Hp} {ks:List KdT} {ms:List MdT} {kb:List Str} {T:Tree Str} {i:Nat} {kind:Str} {w:Wt} (g:Same H H') (h:WantAt K H ks ms kb T i kind w):WantAt K H' ks ms kb T i kind w :=
 ⟨g.seqT h.t,g _ _ h.l,fun p hp=>⟨g.seqT (h.p p hp).1,(h.p p hp).2.mono fun _ _=>g.seqT⟩,h.z⟩
def OG (K:PySem.W.Frag) (C:Addr):Sp:=fun vs H Q _=>∃ (ks:List KdT) (ms:List MdT) (kb:List Str) (T:Tree Str) (x dx kt:Addr) (mk:V) (ln:Addr) (ds:List Addr) (es:List (List Ent)),vs=[.ref x]∧FitS K C H ks ms kb T x dx (.ref kt) mk ln ds es∧SqT K H kt (kb.map V.str)∧kb.length≤10∧ms.length≤10 ∧
 ∀ (l:Addr) (ws:List Wt) (H':Hp),Same H H'→H' l=some (.lst (ws.map fun w=>V.ref w.1))→ws.length=kb.length→(∀ (i:Nat) w kind,ws[i]?=some w→kb[i]?=some kind→WantAt K H' ks ms kb T i kind w)→Q (.ref l) H'
theorem FitS.elen {K:PySem.W.Frag} {C:Addr} {H:Hp} {ks:List KdT} {ms:List MdT} {kb:List Str} {T:Tree Str} {x dx:Addr} {kv mk:V} {ln:Addr} {ds:List Addr} {es:List (List Ent)} (FS:FitS K C H ks ms kb T x dx kv mk ln ds es) {j:Nat} {e':List Ent} (he':es[j]?=some e'):e'.length≤ms.length:=by
 have:(e'.map (·.1)).length≤(List.range ms.length).length:=by
  refine Nat.le_trans (pig (r:=(List.range ms.length).map fun k:Nat=>(k:Int)) (FS.kn e' (List.mem_of_getElem? he')) fun y hy=>?_) (by simp)
  obtain ⟨z,hz,rfl⟩:=List.mem_map.mp hy
  obtain ⟨c',u',n',k',md',_,_,ez,_,hk',_⟩:=FS.en j e' z he' hz
  exact List.mem_map.mpr ⟨k',List.mem_range.mpr (List.getElem?_eq_some_iff.mp hk').1,ez.symm⟩
 rw [List.length_map,List.length_range] at this
 exact this
section
variable {P:Program} {w:World} {K:PySem.W.Frag} {mg:Str→Option Value} {base:Heap} {f:Addr} {fd:FuncData} {C:Addr}
theorem O7:FnScope ["self"] ["self"] (defScope sHd):=(1:)
theorem Oz (F:Fun K "handed" "Fit.handed" sHd f fd) (G:Gm mg) (T0:FtT K mg C) (RP:Fn P w K mg base 1 "pairs_of" ["trees"] (Y8 K)):FnOk P w K mg base CX0 2 f fd ["self"] (OG K C):=by
 refine F.ok O7 (9:) (3:)
 ·obtain ⟨ks,ms,kb,T,x,dx,kt,mk,ln,ds,es,rfl,_⟩:=h
  rfl
 obtain ⟨ks,ms,kb,T,x,dx,kt,mk,ln,ds,es,rfl,FS,hk,hkb,hms,q⟩:=h
 refine ⟨_,(Qi (Ql (Qy (CompG.many (xs:=["kind", "trees"]) (caps:=[]) (cap:=[]) (cs:=[]) rfl rfl (0:) (0:) (0:) (0:) (0:) (0:) rfl rfl rfl) rfl (Mc rfl G.zip (Qa (UN (pv 0) rfl) (Qa (UN (pv 0) rfl) Qc))) (UG (CompG.many (xs:=["kind", "trees"]) (caps:=[]) (cap:=[]) (cs:=[]) rfl rfl (0:) (0:) (0:) (0:) (0:) (0:) rfl rfl rfl) rfl) (fun _ _ _ _=>QT) (fun _ _ _ _=>(QE (Qa (pv 0) (Qa (Qp RP hr (Qa (pv 1) Qc)) Qc))))))),?_⟩
 refine ⟨_,rfl,x,C,dx,_,_,rfl,FS.hx,T0.cl,T0.nK,rfl,_,rfl,x,C,dx,_,_,rfl,FS.hx,T0.cl,T0.nN,rfl,kt,ln,_,_,rfl,hk,SqL.of FS.hl,fun acc hacc=>?_⟩
 refine Ln (K:=K) (xs:=kb.map V.str) (zs:=ds.map V.ref) (cs:=[]) (tt:=fun _ H Q=>Q true H) (by rw [List.length_map,List.length_map,FS.dl]) (fun i ys H'=>H' acc=some (.lst ys)∧Same H H'∧∃ ws:List Wt,ys=ws.map (fun w=>V.ref w.1)∧ws.length=i∧(∀ w ∈ ws,w.2.1≠acc)∧∀ (i:Nat) w kind,ws[i]?=some w→kb[i]?=some kind→WantAt K H' ks ms kb T i kind w) ⟨Qb,Qe hacc _,[],rfl,rfl,fun w hw=>(nomatch hw),fun i w kind h=>(nomatch h)⟩ ?_ ?_ ?_
 ·rintro i ys H' _ ⟨_,g,_⟩
  exact ⟨g.seqT hk,SqL.of (g _ _ FS.hl)⟩
 ·rintro i u v p ys H' hi hu hv hp ⟨hya,g,ws,rfl,hwl,hwa,hws⟩
  rw [List.length_map] at hi
  have gp:=Qe hp (.tup [u,v])
  obtain ⟨kind,hkd⟩ : ∃ k,kb[i]?=some k:=⟨_,List.getElem?_eq_getElem hi⟩
  obtain ⟨d,hd⟩ : ∃ d,ds[i]?=some d:=⟨_,List.getElem?_eq_getElem (by rw [FS.dl];exact hi)⟩
  obtain ⟨e,he⟩ : ∃ d,es[i]?=some d:=⟨_,List.getElem?_eq_getElem (by rw [FS.el];exact hi)⟩
  obtain rfl:u=.str kind:=by rw [List.getElem?_map,hkd] at hu;exact (Option.some.inj hu).symm
  obtain rfl:v=.ref d:=by rw [List.getElem?_map,hd] at hv;exact (Option.some.inj hv).symm
  have gg:=g.trans gp
  have hel:=FS.elen he
  refine Zn ⟨_,rfl,_,rfl,d,e,rfl,gg _ _ (FS.hd i d e hd he),FS.kn e (List.mem_of_getElem? he),by lia,fun l ps H2 g2 el nl hps hpz=>⟨(by show 2≤sizeLine;decide),fun pt hpt=>?_⟩⟩
  have gt:=Qe hpt (.tup [.str kind,.ref l])
  have g2t:=g2.trans gt
  have ha:=g2t _ _ (gp _ _ hya)
  have nla:l≠acc:=fun z=>by rw [z,gp _ _ hya] at nl;cases nl
  have gF:=gg.trans g2t
  refine Qx (by rw [List.length_map];exact hi) ha (by rw [List.length_map];lia) ⟨Qb,fun b o eb=>?_,ws ++ [(pt,l,ps)],by rw [List.map_append];rfl,by simp [hwl],fun w hw=>?_,fun j w kd hw hkd'=>?_⟩
  ·rw [Qg (Qh eb hacc)];exact gF _ _ eb
  ·rcases List.mem_append.mp hw with z | z
   ·exact hwa w z
   ·rw [List.mem_singleton.mp z];exact nla
  ·by_cases hj:j < ws.length
   ·rw [List.getElem?_append_left hj] at hw
    have h:=(hws j w kd hw hkd').same (gp.trans g2t)
    exact ⟨SqT.put h.t ha,by rw [Qg (hwa w (List.mem_of_getElem? hw))];exact h.l,fun p hp=>⟨SqT.put (h.p p hp).1 ha,(h.p p hp).2.mono fun _ _ q=>SqT.put q ha⟩,h.z⟩
   ·rw [List.getElem?_append_right (4:)] at hw
    have ej:j - ws.length=0:=by
     cases hq:j - ws.length with
     | zero=>rfl
     | succ q=>rw [hq] at hw;cases hw
    rw [ej] at hw
    cases hw
    have:j=i:=by lia
    subst this
    rw [hkd] at hkd'
    cases hkd'
    exact ⟨SqT.put (SqT.of Qb) ha,by rw [Qg nla];exact gt _ _ el,fun p hp=>⟨SqT.put (gt.seqT (hps p hp).1) ha,(FS.en j e p.2 he (hps p hp).2).mono fun _ _ q=>SqT.put (gF.seqT q) ha⟩,hpz⟩
 rintro ys H2 ⟨hya,g,ws,rfl,hwl,hwa,hws⟩
 rw [List.length_map] at hwl
 exact q acc ws H2 g hya hwl hws
end
end K71
namespace K71
open PySem L2 TM TT ST K9 K11
structure FtM (P:Program) (w:World) (K:PySem.W.Frag) (mg:Str→Option Value) (base:Heap) (C:Addr):Prop where
 t:FtT K mg C
 mi:∃ f fd,Mk K C f∧FnOk P w K mg base CX0 1 f fd ["self", "kinds"] (Oa K C)∧Binds K fd ["self", "kinds"] []
 go:Mt P w K mg base C 6 "goes_onto" ["self", "term", "tree"] (XX K C 3)
 hd:Mt P w K mg base C 2 "handed" ["self"] (OG K C)
def PairOk (K:PySem.W.Frag) (H:Hp) (ks:List KdT) (ms:List MdT) (T:Tree Str) (kind:Str) (z:Ent):Prop:=∃ (u:Tree Str) (n k:Nat) (md:MdT),TrV K H z.2 u∧z.1=(k:Int)∧MM ks ms n z.1 T u∧ms[k]?=some md∧md.2.1=kind∧GT 50 u
theorem PairOk.mono {K:PySem.W.Frag} {H H':Hp} {ks:List KdT} {ms:List MdT} {T:Tree Str} {kind:Str} {z:Ent} (k:∀ a xs,SqT K H a xs→SqT K H' a xs) (h:PairOk K H ks ms T kind z):PairOk K H' ks ms T kind z:=by
 obtain ⟨u,n,kk,md,a,r⟩:=h
 exact ⟨u,n,kk,md,a.mono k,r⟩
structure GivenAt (K:PySem.W.Frag) (H:Hp) (ks:List KdT) (ms:List MdT) (T:Tree Str) (kind:Str) (wa wl:Addr) (ps:List (Addr × Ent)):Prop where
 t:SqT K H wa [.str kind,.ref wl]
 l:SqL K H wl (ps.map fun p=>V.ref p.1)
 p:∀ p ∈ ps,SqT K H p.1 [.int p.2.1,p.2.2]∧PairOk K H ks ms T kind p.2
theorem GivenAt.same {K:PySem.W.Frag} {H H':Hp} {ks:List KdT} {ms:List MdT} {T:Tree Str} {kind:Str} {wa wl:Addr} {ps:List (Addr × Ent)} (g:Same H H') (h:GivenAt K H ks ms T kind wa wl ps):GivenAt K H' ks ms T kind wa wl ps :=
 ⟨g.seqT h.t,g.seq h.l,fun p hp=>⟨g.seqT (h.p p hp).1,(h.p p hp).2.mono fun _ _=>g.seqT⟩⟩
theorem ME {ks:List KdT} (hn:(ks.map fun k=>k.2.1).Nodup) {a b:KdT} (ha:a ∈ ks) (hb:b ∈ ks) (e:a.2.1=b.2.1):a=b:=by
 obtain ⟨i,hi,rfl⟩:=List.getElem_of_mem ha
 obtain ⟨j,hj,rfl⟩:=List.getElem_of_mem hb
 have:i=j:=(List.getElem?_inj (by simpa using hi) hn).mp (by rw [List.getElem?_map,List.getElem?_map,List.getElem?_eq_getElem hi,List.getElem?_eq_getElem hj];exact congrArg some e)
 subst this
 rfl
theorem LZ {ks:List KdT} (hO:WoodOk ks) {kd:KdT} (hk:kd ∈ ks) {j:Nat} {r:PNx} (hr:kd.2.2.2[j]?=some r):Me ks kd.2.1 r.2.1=some r.2.2.2:=by
 unfold Me
 rw [ZL hO.nd hk,Ua (i:=j) hr (decide_eq_true rfl) fun i y hi hy=>decide_eq_false fun z=>Nat.ne_of_lt hi (Zs (hO.rows kd hk).nd hy hr z)]
 rfl
theorem GI {ks:List KdT} (hO:WoodOk ks) {kd:KdT} (hk:kd ∈ ks) {md:MdT} (em:kd.2.1=md.2.1) {j:Nat} {r:PNx} {t:Tm} (hr:kd.2.2.2[j]?=some r) (ht:md.2.2.2.2[j]?=some t):XH ks md.md r.2.1=some t:=by
 unfold XH
 show ((((Qz ks md.2.1).zip md.2.2.2.2).find? fun x=>decide (x.1.2.1=r.2.1)).map (·.2))=some t
 rw [← em,ZL hO.nd hk]
 have hz:(kd.2.2.2.zip md.2.2.2.2)[j]?=some (r,t):=List.getElem?_zip_eq_some.mpr ⟨hr,ht⟩
 rw [Ua (i:=j) hz (decide_eq_true rfl) fun i y hi hy=>decide_eq_false fun z=>Nat.ne_of_lt hi (Zs (hO.rows kd hk).nd (List.getElem?_zip_eq_some.mp hy).1 hr z)]
 rfl
theorem JZ {ms:List MdT} {kb:List Str} {t:Tm} (h:Xl (ms.map fun m=>m.2.1) kb t):∃ cs:List (Int × Int),TDr cs t∧∀ c ∈ cs,∃ (k j:Nat) (md:MdT),c=((k:Int),(j:Int))∧ms[k]?=some md∧kb[j]?=some md.2.1:=by
 obtain ⟨cs,h1,h2⟩:=h
 refine ⟨cs,h2,fun c hc=>?_⟩
 obtain ⟨k,j,z,e,a,b⟩:=h1 c hc
 rw [List.getElem?_map] at a
 cases hm:ms[k]? with
 | none=>rw [hm] at a;cases a
 | some md =>
  rw [hm] at a
  have:md.2.1=z:=by simpa using a
  exact ⟨k,j,md,e,hm,by rw [this];exact b⟩
def JW (K:PySem.W.Frag) (C:Addr):Sp:=fun vs H Q _=>∃ (tu wd lm wa wl:Addr) (sv:V) (ks:List KdT) (st:Tm) (ms:List MdT) (c:Int) (ps:List (Addr × Ent)) (T:Tree Str) (kd:KdT) (j:Nat) (r:PNx),vs=[.ref tu,.ref wa,.str r.2.1]∧TurnD K H tu wd lm sv ks st ms∧DWood c ks∧DTurn ks st ms∧GivenAt K H ks ms T kd.2.1 wa wl ps∧kd ∈ ks∧kd.2.2.2[j]?=some r∧r.2.1=nam T∧ps.length≤10 ∧
 ∀ (x dx kt:Addr) (mk:V) (ln:Addr) (ds:List Addr) (es:List (List Ent)) (H':Hp),Same H H'→FitS K C H' ks ms r.2.2.2 T x dx (.ref kt) mk ln ds es→SqT K H' kt (r.2.2.2.map V.str)→Q (.ref x) H'
section
variable {P:Program} {w:World} {K:PySem.W.Frag} {mg:Str→Option Value} {base:Heap} {f:Addr} {fd:FuncData} {C:Addr}
theorem Yt:FnScope ["turning", "want", "name", "kinds", "fit", "mode", "tree"] ["turning", "want", "name"] (defScope Wg):=(1:)
theorem GJ (F:Fun K "fit_of" "fit_of" Wg f fd) (M:FtM P w K mg base C) (RR:Fn P w K mg base 2 "row_of" ["wood", "kind", "name"] (JM K)) (RU:Fn P w K mg base 2 "rule_of" ["turning", "mode", "name"] (GD K)):FnOk P w K mg base CX0 7 f fd ["turning", "want", "name"] (JW K C):=by
 obtain ⟨fI,fdI,mkI,FI,bI⟩:=M.mi
 have T0:=M.t
 refine F.ok Yt (9:) (3:)
 ·obtain ⟨tu,wd,lm,wa,wl,sv,ks,st,ms,c,ps,T,kd,j,r,rfl,_⟩:=h
  rfl
 obtain ⟨tu,wd,lm,wa,wl,sv,ks,st,ms,c,ps,T,kd,j,r,rfl,hT,hW,hD,hG,hkd,hr0,hrn,hpz,q⟩:=h
 have hr2:Room 2 _:=hr.mono (4:)
 refine ⟨_,(Qf (Qq (i:=3) Yt.nd rfl (Or.inl rfl) (Qp RR hr (Qa (Qk Qj (pv 0) Qd (5:)) (Qa (Qk Qj (pv 1) Qd (5:)) (Qa (pv 2) Qc)))))
  (Qf (QG (Wn (Wi (pv 3))) (Qi (Ql Yj)) Qs)
  (Qf (Qq (i:=4) Yt.nd rfl (Or.inl rfl) (WR mkI FI hr2 rfl T0.mgC bI .nil XJ (Qa (pv 3) Qc)))
  (Qf (QR PassesOwn.never rfl (QH (Qk Qj (pv 1) Qd (5:))) (ZS rfl (QB (Qw (i:=5) Yt.nd rfl (Or.inl rfl)) (QB (Qw (i:=6) Yt.nd rfl (Or.inl rfl)) ZB))) (Qi (QG (Q3 (QM (Ww M.go T0.cl hr (pv 4) (Qa (Qp RU hr (Qa (pv 0) (Qa (pv 5) (Qa (pv 2) Qc)))) (Qa (pv 6) Qc))))) (Qi (Ql Yj)) Qs)))
  (Qi (Ql (pv 4))))))),?_⟩
 refine ⟨_,rfl,tu,_,0,_,rfl,rfl,hT.tu,rfl,_,rfl,wa,_,0,_,rfl,rfl,hG.t,rfl,_,rfl,wd,kd.2.1,r.2.1,ks,rfl,hT.w,hW.ok,fun v H1 g1 hv=>?_⟩
 rw [LZ hW.ok hkd hr0] at hv
 obtain ⟨kt,rfl,hkt⟩:=hv
 refine ⟨_,rfl,_,rfl,Gs (fun z=>nomatch z) ?_⟩
 have hkb:=(hW.ok.rows kd hkd).kl r (List.mem_of_getElem? hr0)
 refine ⟨_,rfl,fun x dx nx ndx ne=>⟨x,dx,kt,r.2.2.2,rfl,Qb,?_,by lia,fun ln ds H2 g2 hdn hF=>?_⟩⟩
 ·exact (Qe (p:=x) (by rw [Qg (fun z=>ne z.symm)];exact nx) _).seqT ((Qe ndx _).seqT hkt)
 have F0:=hF ks ms T
 have s2:Same H1 H2:=fun b o e=>g2 _ _ (Qh e nx) (by rw [Qg (Qh e nx),Qg (Qh e ndx)];exact e)
 have g12:=g1.trans s2
 have nxH:H x=none:=by
  cases e:H x with
  | none=>rfl
  | some o=>rw [g1 _ _ e] at nx;cases nx
 have ndH:∀ d ∈ ds,H d=none:=fun d hd=>by
  have h1:=hdn d hd
  cases e:H d with
  | none=>rfl
  | some o =>
   have e1:=g1 _ _ e
   rw [Qg (Qh e1 nx),Qg (Qh e1 ndx),e1] at h1
   cases h1
 refine ⟨rfl,_,rfl,wa,_,1,_,rfl,rfl,g12.seqT hG.t,rfl,wl,rfl,⟨_,g12.seq hG.l⟩,?_⟩
 refine ZM (K:=K) (xs:=ps.map fun p=>V.ref p.1) (fun i σ H'=>∃ (c5 c6:Option V) (mk:V) (es:List (List Ent)),σ=[some (.ref tu),some (.ref wa),some (.str r.2.1),some (.ref kt),some (.ref x),c5,c6]∧Same H H'∧SqT K H' kt (r.2.2.2.map V.str)∧FitS K C H' ks ms r.2.2.2 T x dx (.ref kt) mk ln ds es) ⟨none,none,.non,_,rfl,g12,s2.seqT hkt,F0⟩ ?_ ?_ ?_
 ·rintro i σ H' _ ⟨_,_,_,_,_,g,_⟩
  exact g.seq hG.l
 ·rintro i y σ H3 hy ⟨c5,c6,mk,es,rfl,g3,hkt3,F3⟩
  have hi:=(List.getElem?_eq_some_iff.mp hy).1
  rw [List.length_map] at hi
  rw [List.getElem?_map,List.getElem?_eq_getElem hi] at hy
  obtain ⟨hp1,u,n,k,md,a1,a2,a3,a4,a5,a6⟩:=(hG.same g3).p ps[i] (List.getElem_mem hi)
  generalize ps[i]=p at hy hp1 a1 a2 a3
  cases hy
  rw [MM.eq_def] at a3
  cases n with
  | zero=>exact a3.elim
  | succ n =>
  obtain ⟨md',kd',j',r',t,b1,b2,b3,b4,b5,b6,b7,b8,b9⟩:=a3
  rw [a2,Int.toNat_natCast,a4] at b2
  cases b2
  obtain rfl:kd'=kd:=ME hW.ok.nd b3 hkd (b4.trans a5)
  obtain rfl:j'=j:=Zs (hW.ok.rows kd' hkd).nd b6 hr0 (b7.trans hrn.symm)
  rw [b6] at hr0
  cases hr0
  obtain ⟨kd2,c1,c2,c3,c4⟩:=(hD.md md (List.mem_of_getElem? a4)).ex
  obtain rfl:kd2=kd':=ME hW.ok.nd c1 hkd (c2.trans b4.symm)
  obtain ⟨hfit,hlv⟩:=c4 j' r t b6 b8
  obtain ⟨cs,hTD,hcs⟩:=JZ hfit
  have hrl:=GI hW.ok hkd b4 b6 b8
  have hT3:=hT.same g3
  have hlen:md.2.2.2.2.length=(Qz ks md.2.1).length:=by rw [← b4,ZL hW.ok.nd hkd];exact b5
  refine ⟨p.1,_,rfl,hp1,rfl,_,_,rfl,_,_,rfl,rfl,?_⟩
  refine ⟨_,rfl,x,dx,_,rfl,F3.hx,rfl,_,rfl,_,rfl,_,rfl,tu,wd,lm,sv,k,r.2.1,ks,ms,md,by rw [a2];rfl,hT3.tu,hT3.w,hW.ok,hT3.m,a4,hlen,fun tv H4 g4 htv=>?_⟩
  rw [hrl] at htv
  refine ⟨_,rfl,ks,ms,r.2.2.2,T,x,dx,.ref kt,mk,ln,ds,es,tv,p.2.2,t,u,cs,n,rfl,F3.same g4,hW.ok,by lia,by have:=hD.four;lia,htv,trS g4 a1,b9,a6,hlv,hTD,hcs,fun mk' es' H5 g5 F5=>⟨true,rfl,Zb ?_⟩⟩
  have s5:Same H H5:=fun b o e=>g5 _ _ (Qh e nxH) (fun z=>by rw [ndH b z] at e;cases e) (g4 _ _ (g3 _ _ e))
  exact ⟨_,_,mk',es',rfl,s5,(F3.same g4).seqT g5 (g4.seqT hkt3),F5⟩
 ·rintro σ H3 ⟨c5,c6,mk,es,rfl,g3,hkt3,F3⟩
  exact ⟨_,rfl,q x dx kt mk ln ds es H3 g3 F3 hkt3⟩
end
end K71
namespace K71
open PySem L2 TM TT ST K9 K11
def ND (K:PySem.W.Frag):Sp:=fun vs H Q _=>∃ (tu wd lm wa wl:Addr) (sv:V) (ks:List KdT) (st:Tm) (ms:List MdT) (c:Int) (ps:List (Addr × Ent)) (T:Tree Str) (kd:KdT) (j:Nat) (r:PNx),vs=[.ref tu,.ref wa,.str r.2.1]∧TurnD K H tu wd lm sv ks st ms∧DWood c ks∧DTurn ks st ms∧GivenAt K H ks ms T kd.2.1 wa wl ps∧kd ∈ ks∧kd.2.2.2[j]?=some r∧r.2.1=nam T∧ps.length≤10 ∧
 ∀ (l:Addr) (ws:List Wt) (H':Hp),Same H H'→H' l=some (.lst (ws.map fun w=>V.ref w.1))→ws.length=r.2.2.2.length→(∀ (i:Nat) w kind,ws[i]?=some w→r.2.2.2[i]?=some kind→WantAt K H' ks ms r.2.2.2 T i kind w)→Q (.ref l) H'
def abv (T:Tree Str):Tree Str:=.node (Str.ofString "") 0 [T]
def Yy (K:PySem.W.Frag):Sp:=fun vs H Q _=>∃ (tu wd lm:Addr) (sv v:V) (ks:List KdT) (st:Tm) (ms:List MdT) (c:Int) (k0:KdT) (T u:Tree Str) (N:Nat),vs=[.ref tu,v]∧TurnD K H tu wd lm sv ks st ms∧DWood c ks∧DTurn ks st ms∧ks[0]?=some k0∧TrV K H v u∧MB ks ms N st (abv T) u∧GT 50 u ∧
 ∀ (w:Wt) (H':Hp),Same H H'→WantAt K H' ks ms [k0.2.1] (abv T) 0 k0.2.1 w→Q (.ref w.1) H'
section
variable {P:Program} {w:World} {K:PySem.W.Frag} {mg:Str→Option Value} {base:Heap} {f:Addr} {fd:FuncData} {C:Addr}
theorem NY:FnScope ["turning", "want", "name", "fit"] ["turning", "want", "name"] (defScope sHO):=(1:)
theorem Oq (F:Fun K "handed_on" "handed_on" sHO f fd) (M:FtM P w K mg base C) (RF:Fn P w K mg base 7 "fit_of" ["turning", "want", "name"] (JW K C)):FnOk P w K mg base CX0 8 f fd ["turning", "want", "name"] (ND K):=by
 have T0:=M.t
 refine F.ok NY (9:) (3:)
 ·obtain ⟨tu,wd,lm,wa,wl,sv,ks,st,ms,c,ps,T,kd,j,r,rfl,_⟩:=h
  rfl
 obtain ⟨tu,wd,lm,wa,wl,sv,ks,st,ms,c,ps,T,kd,j,r,rfl,hT,hW,hD,hG,hkd,hr0,hrn,hpz,q⟩:=h
 have hr2:Room 2 _:=hr.mono (4:)
 refine ⟨_,(Qf (Qq (i:=3) NY.nd rfl (Or.inl rfl) (Qp RF hr (Qa (pv 0) (Qa (pv 1) (Qa (pv 2) Qc)))))
  (Qi (Ql (UV (Wn (Wi (pv 3))) Yj (V4 M.hd T0.cl hr2 (pv 3)))))),?_⟩
 refine ⟨_,rfl,_,rfl,_,rfl,tu,wd,lm,wa,wl,sv,ks,st,ms,c,ps,T,kd,j,r,rfl,hT,hW,hD,hG,hkd,hr0,hrn,hpz,fun x dx kt mk ln ds es H1 g1 FS hkt=>?_⟩
 have hkb:=(hW.ok.rows kd hkd).kl r (List.mem_of_getElem? hr0)
 refine ⟨_,rfl,_,rfl,Gs (fun z=>nomatch z) ⟨_,rfl,x,dx,_,rfl,FS.hx,rfl,ks,ms,r.2.2.2,T,x,dx,kt,mk,ln,ds,es,rfl,FS,hkt,by lia,by have:=hD.four;lia,fun l ws H2 g2 el hl hws=>q l ws H2 (g1.trans g2) el hl hws⟩⟩
theorem Xm:FnScope ["turning", "tree", "fit"] ["turning", "tree"] (defScope Jy):=(1:)
theorem W8 (F:Fun K "wanted" "wanted" Jy f fd) (M:FtM P w K mg base C):FnOk P w K mg base CX0 7 f fd ["turning", "tree"] (Yy K):=by
 obtain ⟨fI,fdI,mkI,FI,bI⟩:=M.mi
 have T0:=M.t
 refine F.ok Xm (9:) (3:)
 ·obtain ⟨tu,wd,lm,sv,v,ks,st,ms,c,k0,T,u,N,rfl,_⟩:=h
  rfl
 obtain ⟨tu,wd,lm,sv,v,ks,st,ms,c,k0,T,u,N,rfl,hT,hW,hD,hk0,hv,hM,hG,q⟩:=h
 have hr2:Room 2 _:=hr.mono (4:)
 refine ⟨_,(Qf (Qq (i:=2) Xm.nd rfl (Or.inl rfl) (WR mkI FI hr2 rfl T0.mgC bI .nil XJ (Qa ((QE (Qa (Qk Qj (Qk QF (Qk Qj (pv 0) Qd (5:)) Qd (5:)) Qd (5:)) Qc))) Qc)))
  (Qi (Ql (UV (QM (Ww M.go T0.cl hr (pv 2) (Qa (Qk Qj (pv 0) Qd (5:)) (Qa (pv 1) Qc)))) (Qk QF (V4 M.hd T0.cl hr2 (pv 2)) Qd (5:)) Yj)))),?_⟩
 have hk0m:=List.mem_of_getElem? hk0
 have hat:atI (ks.map fun k=>V.ref k.1) (0:Int)=some (.ref k0.1):=QI (j:=0) (by rw [List.getElem?_map,hk0];rfl)
 refine ⟨_,rfl,tu,_,0,_,rfl,rfl,hT.tu,rfl,wd,_,0,_,rfl,rfl,hT.w.1,hat,k0.1,_,0,_,rfl,rfl,(hT.w.2 k0 hk0m).1,rfl,(by show 1≤sizeLine;decide),fun kt hkt=>?_⟩
 have gk:=Qe hkt (.tup [.str k0.2.1])
 have hkt1:SqT K (upd H kt (.tup [.str k0.2.1])) kt ([k0.2.1].map V.str):=SqT.of Qb
 show ∀ x dx,_
 generalize upd H kt (.tup [.str k0.2.1])=H1 at gk hkt1
 refine fun x dx nx ndx ne=>⟨x,dx,kt,[k0.2.1],rfl,Qb,?_,by show 1≤10;decide,fun ln ds H2 g2 hdn hF=>?_⟩
 ·exact (Qe (p:=x) (by rw [Qg (fun z=>ne z.symm)];exact nx) _).seqT ((Qe ndx _).seqT hkt1)
 have F0:=hF ks ms (abv T)
 have s2:Same H1 H2:=fun b o e=>g2 _ _ (Qh e nx) (by rw [Qg (Qh e nx),Qg (Qh e ndx)];exact e)
 have g12:=gk.trans s2
 obtain ⟨hfit,hlv⟩:=hD.st k0 hk0
 obtain ⟨cs,hTD,hcs⟩:=JZ hfit
 have hfour:=hD.four
 refine ⟨rfl,_,rfl,x,dx,_,rfl,F0.hx,rfl,_,rfl,tu,_,1,_,rfl,rfl,g12.seqT hT.tu,rfl,_,rfl,ks,ms,[k0.2.1],abv T,x,dx,.ref kt,.non,ln,ds,_,sv,v,st,u,cs,N,rfl,F0,hW.ok,by show 1≤10;decide,by lia,tmS g12 hT.s,trS g12 hv,hM,hG,by lia,hTD,hcs,fun mk' es' H3 g3 F3=>⟨true,rfl,Zn ?_⟩⟩
 have hkt3:=F0.seqT g3 (s2.seqT hkt1)
 refine ⟨_,rfl,x,dx,_,rfl,F3.hx,rfl,ks,ms,[k0.2.1],abv T,x,dx,kt,mk',ln,ds,es',rfl,F3,hkt3,by show 1≤10;decide,by lia,fun l ws H4 g4 el hl hws=>?_⟩
 obtain ⟨w0,rfl⟩ : ∃ w0,ws=[w0]:=by
  match ws,hl with
  | [w0],_=>exact ⟨w0,rfl⟩
 have hw:=hws 0 w0 k0.2.1 rfl rfl
 refine ⟨l,_,0,_,rfl,rfl,SqL.of el,rfl,q w0 H4 (fun b o e=>?_) hw⟩
 have e1:=gk _ _ e
 refine g4 _ _ (g3 _ _ (Qh e1 nx) (fun z=>?_) (s2 _ _ e1))
 have h1:=hdn b z
 rw [Qg (Qh e1 nx),Qg (Qh e1 ndx),e1] at h1
 cases h1
end
end K71
namespace ST
open PySem TM TT L2 K11 K9
theorem Ue {K:PySem.W.Frag} {d a:Addr} {H H':Hp} {xs:List V} (g:SameD d H H') (hd:Dk H d) (hx:∃ b,V.ref b ∈ xs) (h:SqL K H a xs):SqL K H' a xs:=by
 obtain ⟨ys,e⟩:=hd
 obtain ⟨b,hb⟩:=hx
 rcases h with (h | ⟨ob,h⟩) | h
 ·refine .inl (.inl (g _ _ (fun z=>?_) h))
  rw [z,e] at h
  injection h with h
  injection h with h
  rw [← h] at hb
  obtain ⟨_,_,z⟩:=List.mem_map.mp hb
  cases z
 ·refine .inl (.inr ⟨ob,g _ _ (fun z=>?_) h⟩)
  rw [z,e] at h
  injection h with h
  cases h
 ·exact .inr h
theorem TurnD.sameD {K:PySem.W.Frag} {H H':Hp} {d tu wd lm:Addr} {sv:V} {ks:List KdT} {st:Tm} {ms:List MdT} (g:SameD d H H') (hd:Dk H d) (hk:0 < ks.length) (hr:∀ k ∈ ks,∃ r,r ∈ k.2.2.2) (hm:0 < ms.length) (ht:∀ m ∈ ms,0 < m.2.2.2.2.length) (h:TurnD K H tu wd lm sv ks st ms):TurnD K H' tu wd lm sv ks st ms:=by
 have kT:∀ a xs,SqT K H a xs→SqT K H' a xs:=fun _ _=>g.seqT hd
 refine ⟨kT _ _ h.tu,⟨Ue g hd ⟨ks[0].1,List.mem_map.mpr ⟨_,List.getElem_mem hk,rfl⟩⟩ h.w.1,fun k hk'=>?_⟩,h.s.mono kT,⟨Ue g hd ⟨ms[0].1,List.mem_map.mpr ⟨_,List.getElem_mem hm,rfl⟩⟩ h.m.1,fun m hm'=>?_⟩⟩
 ·obtain ⟨a1,a2,a3⟩:=h.w.2 k hk'
  obtain ⟨r,hr'⟩:=hr k hk'
  exact ⟨kT _ _ a1,Ue g hd ⟨r.1,List.mem_map.mpr ⟨r,hr',rfl⟩⟩ a2,fun t ht=>⟨kT _ _ (a3 t ht).1,kT _ _ (a3 t ht).2⟩⟩
 ·obtain ⟨a1,a2,a3⟩:=h.m.2 m hm'
  obtain ⟨v,hv,hvt⟩:=a3.get (List.getElem?_eq_getElem (ht m hm'))
  obtain ⟨b,rfl⟩ : ∃ b,v=.ref b:=by
   generalize m.2.2.2.2[0]'(ht m hm')=t at hvt
   cases hvt <;> exact ⟨_,rfl⟩
  exact ⟨kT _ _ a1,Ue g hd ⟨b,List.mem_of_getElem? hv⟩ a2,a3.mono kT⟩
end ST
namespace K71
open PySem L2 TM TT ST K9 K11
theorem JQ {ks hs:List KdT} (e:hs.map Zg=ks.map Zg) {i:Nat} {k:KdT} (h:ks[i]?=some k):∃ k',hs[i]?=some k'∧k'.2.1=k.2.1∧k'.2.2.2=k.2.2.2:=by
 have:=congrArg (fun l:List (Str × List PNx)=>l[i]?) e
 simp only [List.getElem?_map,h] at this
 cases h2:hs[i]? with
 | none=>rw [h2] at this;cases this
 | some k' =>
  rw [h2] at this
  have this:(k'.2.1,k'.2.2.2)=(k.2.1,k.2.2.2):=Option.some.inj this
  exact ⟨k',rfl,(Prod.mk.inj this).1,(Prod.mk.inj this).2⟩
theorem Yw {ks hs:List KdT} (e:hs.map Zg=ks.map Zg) {k:KdT} (h:k ∈ ks):∃ k' ∈ hs,k'.2.1=k.2.1∧k'.2.2.2=k.2.2.2:=by
 obtain ⟨i,hi,rfl⟩:=List.getElem_of_mem h
 obtain ⟨k',a,b,c⟩:=JQ e (List.getElem?_eq_getElem hi)
 exact ⟨k',List.mem_of_getElem? a,b,c⟩
theorem JI {ms ns:List MdT} (e:ns.map MdT.md=ms.map MdT.md) {i:Nat} {m:MdT} (h:ms[i]?=some m):∃ m',ns[i]?=some m'∧m'.2.1=m.2.1∧m'.2.2.2.2=m.2.2.2.2:=by
 have:=congrArg (fun l:List Md=>l[i]?) e
 simp only [List.getElem?_map,h] at this
 cases h2:ns[i]? with
 | none=>rw [h2] at this;cases this
 | some m' =>
  rw [h2] at this
  have this:(m'.2.1,m'.2.2.2.2)=(m.2.1,m.2.2.2.2):=Option.some.inj this
  exact ⟨m',rfl,(Prod.mk.inj this).1,(Prod.mk.inj this).2⟩
theorem Ub {ks hs:List KdT} {ms ns:List MdT} (ek:hs.map Zg=ks.map Zg) (em:ns.map MdT.md=ms.map MdT.md):∀ n:Nat,(∀ m T u,MM ks ms n m T u→MM hs ns n m T u)∧∀ t T u,MB ks ms n t T u→MB hs ns n t T u
 | 0=>⟨fun m T u h=>by rw [MM] at h;exact h.elim,fun t T u h=>by rw [MB] at h;exact h.elim⟩
 | n + 1=>by
  obtain ⟨h1,h2⟩:=Ub ek em n
  constructor
  ·intro m T u h
   rw [MM] at h ⊢
   obtain ⟨md,kd,j,r,t,a1,a2,a3,a4,a5,a6,a7,a8,a9⟩:=h
   obtain ⟨md',b1,b2,b3⟩:=JI em a2
   obtain ⟨kd',c1,c2,c3⟩:=Yw ek a3
   exact ⟨md',kd',j,r,t,a1,b1,c1,by rw [c2,b2];exact a4,by rw [b3,c3];exact a5,by rw [c3];exact a6,a7,by rw [b3];exact a8,h2 _ _ _ a9⟩
  ·intro t T u h
   rw [MB] at h ⊢
   split at h
   ·rename_i m b e
    obtain ⟨c,a1,a2,a3⟩:=h
    exact ⟨c,a1,a2,h1 _ _ _ a3⟩
   ·rename_i nm k a e
    obtain ⟨us,a1,a2,a3⟩:=h
    exact ⟨us,a1,a2,fun i p q hp hq=>h2 _ _ _ (a3 i p q hp hq)⟩
theorem Xi {ks hs:List KdT} (e:hs.map Zg=ks.map Zg):(hs.map fun k=>k.2.1)=ks.map fun k=>k.2.1:=by
 have:=congrArg (List.map Prod.fst) e
 rw [List.map_map,List.map_map] at this
 exact this
theorem U8 {ms ns:List MdT} (e:ns.map MdT.md=ms.map MdT.md):(ns.map fun m=>m.2.1)=ms.map fun m=>m.2.1:=by
 have:=congrArg (List.map Prod.fst) e
 rw [List.map_map,List.map_map] at this
 exact this
theorem WoodOk.key {ks hs:List KdT} (e:hs.map Zg=ks.map Zg) (h:WoodOk ks):WoodOk hs:=by
 have hl:hs.length=ks.length:=by have:=congrArg List.length e;simpa using this
 refine ⟨by rw [Xi e];exact h.nd,by rw [hl];exact h.len,fun k hk=>?_⟩
 obtain ⟨k',a,_,b⟩:=Yw e.symm hk
 rw [← b];exact h.rows k' a
theorem DWood.key {c:Int} {ks hs:List KdT} (e:hs.map Zg=ks.map Zg) (h:DWood c ks):DWood c hs:=by
 have hl:hs.length=ks.length:=by have:=congrArg List.length e;simpa using this
 refine ⟨WoodOk.key e h.ok,by rw [hl];exact h.pos,by rw [hl];exact h.three,fun k hk=>?_,fun k hk=>?_,fun k hk=>?_,fun k hk=>?_⟩ <;> obtain ⟨k',a,b1,b⟩:=Yw e.symm hk
 ·rw [← b1];exact h.nm k' a
 ·rw [← b];exact h.few k' a
 ·rw [← b];exact h.bare k' a
 ·rw [← b,Xi e];exact h.kin k' a
theorem DTurn.key {ks hs:List KdT} {st:Tm} {ms ns:List MdT} (ek:hs.map Zg=ks.map Zg) (em:ns.map MdT.md=ms.map MdT.md) (h:DTurn ks st ms):DTurn hs st ns:=by
 have hl:ns.length=ms.length:=by have:=congrArg List.length em;simpa using this
 refine ⟨by rw [hl];exact h.pos,by rw [hl];exact h.four,fun m hm=>?_,fun k hk=>?_⟩
 ·obtain ⟨i,hi,rfl⟩:=List.getElem_of_mem hm
  obtain ⟨m0,a1,a2,a3⟩:=JI em.symm (List.getElem?_eq_getElem hi)
  obtain ⟨kd,b1,b2,b3,b4⟩:=(h.md m0 (List.mem_of_getElem? a1)).ex
  obtain ⟨kd',c1,c2,c3⟩:=Yw ek b1
  exact ⟨kd',c1,by rw [c2,b2,a2],by rw [← a3,c3];exact b3,fun j r t hr ht=>by rw [U8 em];exact b4 j r t (by rw [← c3];exact hr) (by rw [a3];exact ht)⟩
 ·obtain ⟨k0,a1,a2,_⟩:=JQ ek.symm hk
  rw [U8 em,← a2]
  exact h.st k0 a1
section
variable {ks:List KdT} {ms:List MdT} {st:Tm} {c:Int}
theorem XM (hW:DWood c ks) (hD:DTurn ks st ms):∀ (l:Nat) (T:Tree Str) (kind:Str),lv T≤l→OfK (Qz ks) T kind→∀ (k:Nat) (md:MdT),ms[k]?=some md→md.2.1=kind→∀ n,4 * l≤n→∃ u,MM ks ms n (k:Int) T u∧GT (2 * l + 1) u
 | 0,T,_,h,_,_,_,_,_,_,_=>by rw [Zm] at h;lia
 | l + 1,.node nm mkk bs,kind,h,hO,k,md,hk,ek,n,hn=>by
  obtain ⟨n',rfl⟩ : ∃ n',n=n' + 1:=⟨n - 1,by lia⟩
  simp only [OfK] at hO
  obtain ⟨r,hr,hrn,hbs⟩:=hO
  obtain ⟨kd,b1,b2,b3,b4⟩:=(hD.md md (List.mem_of_getElem? hk)).ex
  rw [← ek,← b2,ZL hW.ok.nd b1] at hr
  obtain ⟨j,hj,rfl⟩:=List.getElem_of_mem hr
  have er:=List.getElem?_eq_getElem hj
  obtain ⟨t,et⟩ : ∃ t,md.2.2.2.2[j]?=some t:=⟨_,List.getElem?_eq_getElem (4:)⟩
  obtain ⟨hfit,hlv⟩:=b4 j _ t er et
  obtain ⟨cs,hTD,hcs⟩:=JZ hfit
  rw [Zm] at h
  obtain ⟨u,hu,hg⟩:=Lh (ks:=ks) (ms:=ms) (M:=4 * l) (L:=2 * l + 1) (4:) (T:=.node nm mkk bs) (cs:=cs) (fun x hx=>by
   obtain ⟨k',j',md',e,hk',hj'⟩:=hcs x hx
   obtain ⟨b,hb,hOb⟩:=hbs.get hj'
   have:=YB (List.mem_of_getElem? hb)
   have e2:lvs (Tree.bs (.node nm mkk bs))=lvs bs:=rfl
   exact ⟨k',j',b,e,hb,fun n hn=>XM hW hD l b md'.2.1 (4:) hOb k' md' hk' rfl n hn⟩) 3 t hlv hTD n' (4:)
  refine ⟨u,?_,hg.mono (4:)⟩
  rw [MM]
  exact ⟨md,kd,j,_,t,by lia,by rw [Int.toNat_natCast];exact hk,b1,b2,b3,er,hrn,et,hu⟩
theorem Go (hW:DWood c ks) (hD:DTurn ks st ms) {k0:KdT} (hk0:ks[0]?=some k0) {l:Nat} {T:Tree Str} (hl:lv T≤l) (hO:OfK (Qz ks) T k0.2.1) {n:Nat} (hn:4 * l + 2≤n):∃ u,MB ks ms n st (abv T) u∧GT (2 * l + 2) u:=by
 obtain ⟨hfit,hlv⟩:=hD.st k0 hk0
 obtain ⟨cs,hTD,hcs⟩:=JZ hfit
 obtain ⟨u,hu,hg⟩:=Lh (ks:=ks) (ms:=ms) (M:=4 * l) (L:=2 * l + 1) (4:) (T:=abv T) (cs:=cs) (fun x hx=>by
  obtain ⟨k',j',md',e,hk',hj'⟩:=hcs x hx
  cases j' with
  | zero =>
   have hj':k0.2.1=md'.2.1:=by simpa using hj'
   exact ⟨k',0,T,e,rfl,fun n hn=>XM hW hD l T md'.2.1 hl (by rw [← hj'];exact hO) k' md' hk' rfl n hn⟩
  | succ j'=>cases hj') 2 st hlv hTD n (by lia)
 exact ⟨u,hu,hg.mono (4:)⟩
end
end K71
namespace K71
open PySem L2 TM TT ST K9 K11
def YR (K:PySem.W.Frag) (n:Nat):Sp:=fun vs H Q _=>∃ (tu wd lm:Addr) (sv v:V) (ks:List KdT) (st:Tm) (ms:List MdT) (T u:Tree Str),vs=[.ref tu,v]∧TurnD K H tu wd lm sv ks st ms∧WoodOk ks∧TrV K H v T∧MB ks ms n st (abv T) u∧∀ (v':V) (H':Hp),Same H H'→TrV K H' v' u→Q v' H'
def OF:List G3.S:=[.ret (.call 0 [.v 0,.ix (.v 0) (.k (.int 1)),.tup [.k (.str ""),.k (.int 0),.tup [.v 1]]])]
def NZ (K:PySem.W.Frag) (n:Nat):G3.En:=⟨K,[fun _ vs H Q=>JS K n vs H Q E0],[],[],[]⟩
def US (K:PySem.W.Frag) (n:Nat):Sp:=fun vs H Q _=>∃ (v:V) (T:Tree Str),vs=[v]∧TrV K H v T∧lv T≤n∧∀ (z:Int) (H':Hp),Same H H'→Q (.int z) H'
def PK:List G3.S:=[.ret (.bin .Add (.k (.int 1)) (.call 0 [.comp 2 (.ix (.v 0) (.k (.int 2))) [] (.call 1 [.v 0])]))]
inductive SumL (K:PySem.W.Frag) (l:Addr) (H:Hp) (Q:VK):Prop where
 | s (ns:List Int) (h:SqL K H l (ns.map V.int)) (k:Q (.int ns.sum) H):SumL K l H Q
def Nt (K:PySem.W.Frag) (vs:List V) (H:Hp) (Q:VK):Prop:=match vs with
 | [.ref l]=>SumL K l H Q
 | _=>False
theorem Vt (X:Cx) (hc:X.calm=true):QN X (.builtin "sum") (Nt X.K):=by
 intro pins s σ H xs us Q I r h
 unfold Nt at h
 split at h
 ·cases h with
  | s ns h k=>exact Jt hc pins s σ H _ us Q I r ⟨_,ns,rfl,h,k⟩
 ·exact h.elim
def Pu (K:PySem.W.Frag) (n:Nat):G3.En:=⟨K,[fun _ vs H Q=>Nt K vs H Q,fun _ vs H Q=>US K n vs H Q E0],[],[],[]⟩
section
variable {P:Program} {w:World} {K:PySem.W.Frag} {mg:Str→Option Value} {base:Heap} {f:Addr} {fd:FuncData}
theorem No:FnScope ["_law_turning_here", "_law_tree_here"] ["_law_turning_here", "_law_tree_here"] (defScope VN):=(1:)
theorem Mw {n:Nat} (F:Fun K "_law_outcome" "_law_outcome" VN f fd) (G:Gm mg) (RB:Fn P w K mg base (n + 3) "_law_made_by" ["_law_turning_here", "_law_term_here", "_law_tree_here"] (JS K n)):FnOk P w K mg base CX0 (n + 4) f fd ["_law_turning_here", "_law_tree_here"] (YR K n):=by
 refine G3.Fun.okC F No (NZ K n) OF (fun X c=>⟨.cons (c.fn RB (7:)) .nil,.nil,.nil⟩) (9:) (fun H vs Q E h=>?_) G.rng
 ·obtain ⟨tu,wd,lm,sv,v,ks,st,ms,T,u,rfl,_⟩:=h
  rfl
 obtain ⟨tu,wd,lm,sv,v,ks,st,ms,T,u,rfl,hT,hO,hv,hM,q⟩:=h
 refine .t _ _ hT.tu rfl ⟨fun p1 X1 k1 d1 _=>⟨fun p2 X2 k2 d2 _=>?_⟩⟩
 have k12:=k1.trans k2
 exact ⟨tu,wd,lm,sv,ks,st,ms,sv,.ref p2,st,abv T,u,rfl,hT.same k12,hO,tmS k12 hT.s,.mk d2 (k2.seqT d1) (.cons (trS k12 hv) .nil) (by show 1≤1000;decide),hM,fun v' H' g h=>q v' H' (k12.trans g) h⟩
theorem N1:FnScope ["_law_tree_here"] ["_law_tree_here"] (defScope GG):=(1:)
theorem Np {n:Nat} (F:Fun K "_law_names_in" "_law_names_in" GG f fd) (G:Gm mg) (R:Fn P w K mg base (n + 1) "_law_names_in" ["_law_tree_here"] (US K n)):FnOk P w K mg base CX0 (n + 2) f fd ["_law_tree_here"] (US K (n + 1)):=by
 refine G3.Fun.okC F N1 (Pu K n) PK (fun X c=>⟨.cons (OO c Vt G.sum PyProof.Rows.boot_sum) (.cons (c.fn R (7:)) .nil),.nil,.nil⟩) (9:) (fun H vs Q E h=>?_) G.rng
 ·obtain ⟨v,T,rfl,_⟩:=h
  rfl
 obtain ⟨v,T,rfl,hv,hl,q⟩:=h
 obtain ⟨a,b,vs,rfl,h1,h2,h3,h4⟩:=ZR hv
 have hlen:=h3.length
 rw [Zm] at hl
 refine .t _ _ h1 rfl <| .t vs h2 <| .s (fun i ys H'=>∃ ns:List Int,ys=ns.map V.int) (fun H1 g=>⟨[],rfl⟩) (fun acc i ys l H1 H2 h _ _ _ k=>h) (4:) (fun i ys H1 hi _ g ⟨ns,e⟩=>?_) fun p ys H1 g hp ⟨ns,e⟩=>?_
 ·obtain ⟨c,hc⟩ : ∃ c,T.bs[i]?=some c:=⟨_,List.getElem?_eq_getElem (4:)⟩
  obtain ⟨cv,hcv,hct⟩:=h3.get hc
  have ex:(vs[i]?).getD .non=cv:=by rw [hcv];rfl
  rw [ex]
  have:=YB (List.mem_of_getElem? hc)
  exact ⟨cv,c,rfl,trS g hct,by lia,fun z H2 g2=>⟨g2,ns ++ [z],by rw [e,List.map_append];rfl⟩⟩
 ·exact .s ns (SqL.of (by rw [← e];exact hp)) (q _ H1 g)
theorem WU (F:Fun K "_law_names_in" "_law_names_in" GG f fd) (G:Gm mg) (hb:Binds K fd ["_law_tree_here"] []) (hm:mg "_law_names_in" = some (.ref f)):∀ n:Nat,FnOk P w K mg base CX0 (n + 1) f fd ["_law_tree_here"] (US K n)
 | 0=>⟨fun vs H Q E h=>by obtain ⟨v,T,rfl,_⟩:=h;rfl,fun A outer s H args us vs Q E _ _ _ _ h=>by obtain ⟨v,T,_,_,hl,_⟩:=h;rw [Zm] at hl;lia⟩
 | n + 1=>Np F G ⟨f,fd,WU F G hb hm n,hb,F.kp,hm⟩
end
end K71
namespace L2
open PySem PySem.Spec PyProof.Rows
section
variable {X:Cx}
theorem Jo:QN X (.builtin "isinstance") (fun xs H Q=>∃ (a:Addr) (ys:List V),(xs=[.ref a,.ty "list"]∧SqL X.K H a ys∨xs=[.ref a,.ty "tuple"]∧SqT X.K H a ys)∧Q (.bl true) H):=by
 intro pins s σ H xs us Q I r h
 obtain ⟨a,ys,h,q⟩:=h
 rcases h with ⟨rfl,hq⟩ | ⟨rfl,hq⟩
 ·obtain ⟨u,c,rfl,rx,rc⟩:=WJ r
  cases (show u=Value.ref a from rx)
  cases (show c=Value.type "list" from rc)
  obtain ⟨its,_,pl,_⟩:=I.list hq
  obtain ⟨o,h1,h2,_⟩:=pl.isList
  exact PySem.W.kia_one (b:=true) PySem.W.kitx_list I.kIn ⟨o,h1,h2⟩ rfl (fun z=>nomatch z) fun tk=>⟨.bl true,H,I.tok tk,rfl,q⟩
 ·obtain ⟨u,c,rfl,rx,rc⟩:=WJ r
  cases (show u=Value.ref a from rx)
  cases (show c=Value.type "tuple" from rc)
  obtain ⟨its,_,pl,_⟩:=I.tuple hq
  obtain ⟨o,h1,h2,_⟩:=pl
  exact PySem.W.kia_one (b:=true) PySem.W.kitx_tuple I.kIn ⟨o,h1,h2⟩ rfl (fun z=>nomatch z) fun tk=>⟨.bl true,H,I.tok tk,rfl,q⟩
end
end L2
namespace K71
open PySem L2 TM TT ST K9 K11
def Z9 (K:PySem.W.Frag) (n:Nat):Sp:=fun vs H Q _=>∃ (v:V) (T:Tree Str),vs=[v]∧TrV K H v T∧lv T≤n∧∀ H',Same H H'→Q (.bl true) H'
def J7 (K:PySem.W.Frag) (n:Nat):Sp:=fun vs H Q _=>∃ (a l:Addr) (kind:Str) (ps:List (Addr × Ent)),vs=[.ref a]∧SqT K H a [.str kind,.ref l]∧SqL K H l (ps.map fun p=>V.ref p.1)∧(∀ p ∈ ps,SqT K H p.1 [.int p.2.1,p.2.2]∧∃ u,TrV K H p.2.2 u∧lv u≤n)∧∀ H',Same H H'→Q (.bl true) H'
theorem XB:∀ n:Nat,inV (.bl false) (List.replicate n (V.bl true))=false∧(List.replicate n (V.bl true)).all Yg=true
 | 0=>⟨rfl,rfl⟩
 | n + 1=>by
  obtain ⟨a,b⟩:=XB n
  rw [List.replicate_succ]
  have e:eqV (V.bl true) (V.bl false)=false:=rfl
  exact ⟨by simp [inV,e],by simpa [Yg] using b⟩
section
variable {P:Program} {w:World} {K:PySem.W.Frag} {mg:Str→Option Value} {base:Heap} {f:Addr} {fd:FuncData}
theorem Mx:FnScope ["_law_found"] ["_law_found"] (defScope UP):=(1:)
theorem Gw {n:Nat} (F:Fun K "_law_plain_tree" "_law_plain_tree" UP f fd) (G:Gm mg) (RH:Fn P w K mg base 1 "_law_whole" ["_law_found"] YF) (R:Fn P w K mg base (n + 1) "_law_plain_tree" ["_law_found"] (Z9 K n)):FnOk P w K mg base CX0 (n + 2) f fd ["_law_found"] (Z9 K (n + 1)):=by
 refine F.ok Mx (9:) (3:)
 ·obtain ⟨v,t,rfl,_⟩:=h
  rfl
 obtain ⟨v,T,rfl,ht,hlv,q⟩:=h
 refine ⟨_,(Qf (QG (PW.pt (pw_or (Q3 (QM (Qo Zp rfl G.isi PyProof.Rows.boot_isinstance (Qa (pv 0) (Qa (Zk (v:=.ty "tuple") rfl G.tup PyProof.Rows.boot_tuple rfl) Qc))))) (pw_or (Qr YC (Qo Qn rfl G.len PySem.boot_len (Qa (pv 0) Qc)) Qd (Qu _)) (pw_or1 (Q3 (QM (Qo ZD rfl G.isi PyProof.Rows.boot_isinstance (Qa (Qk Qj (pv 0) Qd (5:)) (Qa (Zk (v:=.ty "str") rfl G.str PyProof.Rows.boot_str rfl) Qc))))))))) (Qi (Ql Zv)) Qs)
  (Qf (QG (PW.pt (pw_or (Q3 (QM (Qp RH hr (Qa (Qk Qj (pv 0) Qd (5:)) Qc) (Nat.le_add_left 1 n)))) (pw_or1 (Q3 (QM (Qo Zp rfl G.isi PyProof.Rows.boot_isinstance (Qa (Qk Qj (pv 0) Qd (5:)) (Qa (Zk (v:=.ty "tuple") rfl G.tup PyProof.Rows.boot_tuple rfl) Qc)))))))) (Qi (Ql Zv)) Qs)
  (Qi (Ql (Zz J1 Zv (Qy (CompG.many (xs:=["_law_branch"]) (caps:=[]) (cap:=[]) (cs:=[]) rfl rfl (0:) (0:) (0:) (0:) (0:) (0:) rfl rfl rfl) rfl (ZI (Qk Qj (pv 0) Qd (5:))) (Q7 (CompG.many (xs:=["_law_branch"]) (caps:=[]) (cap:=[]) (cs:=[]) rfl rfl (0:) (0:) (0:) (0:) (0:) (0:) rfl rfl rfl)) (fun _ _ _ _=>QT) (fun _ _ _ _=>Qp R hr (Qa (pv 0) Qc) (7:))) rfl))))),?_⟩
 obtain ⟨a,b,bs,rfl,h1,h2,h3,h4⟩:=ZR ht
 have hlen:=h3.length
 rw [Zm] at hlv
 refine ⟨_,rfl,a,_, "tuple", true,rfl,h1,rfl,_,rfl,Zb ⟨_,rfl,a,_,rfl,.inr h1,rfl,_,rfl,UF rfl ⟨_,rfl,a,_,0,_,rfl,rfl,h1,rfl,_, "str", _,true,rfl,.str _,rfl,_,rfl,Zb ?_⟩⟩⟩
 refine ⟨_,rfl,a,_,1,_,rfl,rfl,h1,rfl,mrk T,rfl,_,rfl,Zb ⟨_,rfl,a,_,2,_,rfl,rfl,h1,rfl,b,_, "tuple", true,rfl,h2,rfl,_,rfl,Zb ?_⟩⟩
 refine ⟨_,rfl,a,_,2,_,rfl,rfl,h1,rfl,b,rfl,⟨_,h2⟩,fun acc hacc=>?_⟩
 refine Yo (K:=K) (xs:=bs) (cs:=[]) (tt:=fun _ H Q=>Q true H) (te:=Jn (Z9 K n) [] E0 (Ze (Zu 0) Y3)) (fun i ys H'=>H' acc=some (.lst ys)∧Same H H'∧ys=List.replicate i (V.bl true)) ⟨Qb,Qe hacc _,rfl⟩ ?_ ?_ ?_
 ·rintro i ys H' _ ⟨_,g,_⟩
  exact g.seqT h2
 ·rintro i x ys H' hi hx ⟨hya,g,rfl⟩
  obtain ⟨c,hc⟩ : ∃ c,T.bs[i]?=some c:=⟨_,List.getElem?_eq_getElem (4:)⟩
  obtain ⟨cv,hcv,hct⟩:=h3.get hc
  rw [hcv] at hx
  obtain rfl:cv=x:=by simpa using hx
  have:=YB (List.mem_of_getElem? hc)
  refine Zn ⟨_,rfl,cv,c,rfl,trS g hct,by lia,fun H4 g4=>?_⟩
  refine Qx hi (g4 _ _ hya) (by rw [List.length_replicate];lia) ⟨Qb,fun b u e=>?_,by rw [List.replicate_succ']⟩
  rw [Qg (Qh e hacc)];exact g4 _ _ (g _ _ e)
 rintro ys H2 ⟨hya,g,rfl⟩
 obtain ⟨n1,n2⟩:=XB bs.length
 refine ⟨acc,_,rfl,.inl (SqL.of hya),rfl,n2,?_⟩
 show Q (.bl (!inV (.bl false) (List.replicate bs.length (V.bl true)))) H2
 rw [n1]
 exact q H2 g
theorem Jj (F:Fun K "_law_plain_tree" "_law_plain_tree" UP f fd) (G:Gm mg) (RH:Fn P w K mg base 1 "_law_whole" ["_law_found"] YF) (hb:Binds K fd ["_law_found"] []) (hm:mg "_law_plain_tree" = some (.ref f)):∀ n:Nat,FnOk P w K mg base CX0 (n + 1) f fd ["_law_found"] (Z9 K n)
 | 0=>⟨fun vs H Q E h=>by obtain ⟨v,T,rfl,_⟩:=h;rfl,fun A outer s H args us vs Q E _ _ _ _ h=>by obtain ⟨v,T,_,_,hl,_⟩:=h;rw [Zm] at hl;lia⟩
 | n + 1=>Gw F G RH ⟨f,fd,Jj F G RH hb hm n,hb,F.kp,hm⟩
theorem MH:FnScope ["_law_found", "_law_pair"] ["_law_found"] (defScope Nq):=(1:)
theorem NQ {n:Nat} (F:Fun K "_law_is_want" "_law_is_want" Nq f fd) (G:Gm mg) (RH:Fn P w K mg base 1 "_law_whole" ["_law_found"] YF) (RP:Fn P w K mg base (n + 1) "_law_plain_tree" ["_law_found"] (Z9 K n)):FnOk P w K mg base CX0 (n + 2) f fd ["_law_found"] (J7 K n):=by
 refine F.ok MH (9:) (3:)
 ·obtain ⟨a,l,kind,ps,rfl,_⟩:=h
  rfl
 obtain ⟨a,l,kind,ps,rfl,h1,h2,h3,q⟩:=h
 refine ⟨_,(Qf (QG (PW.pt (pw_or (Q3 (QM (Qo Zp rfl G.isi PyProof.Rows.boot_isinstance (Qa (pv 0) (Qa (Zk (v:=.ty "tuple") rfl G.tup PyProof.Rows.boot_tuple rfl) Qc))))) (pw_or (Qr YC (Qo Qn rfl G.len PySem.boot_len (Qa (pv 0) Qc)) Qd (Qu _)) (pw_or1 (Q3 (QM (Qo ZD rfl G.isi PyProof.Rows.boot_isinstance (Qa (Qk Qj (pv 0) Qd (5:)) (Qa (Zk (v:=.ty "str") rfl G.str PyProof.Rows.boot_str rfl) Qc))))))))) (Qi (Ql Zv)) Qs)
  (Qf (QG (Q3 (QM (Qo Jo rfl G.isi PyProof.Rows.boot_isinstance (Qa (Qk Qj (pv 0) Qd (5:)) (Qa (Zk (v:=.ty "list") rfl G.lst PyProof.Rows.boot_list rfl) Qc))))) (Qi (Ql Zv)) Qs)
  (Qf (QR PassesOwn.never rfl (QH (Qk Qj (pv 0) Qd (5:))) (Qw (i:=1) MH.nd rfl (Or.inl rfl)) (Qf (QG (PW.pt (pw_or (Q3 (QM (Qo Zp rfl G.isi PyProof.Rows.boot_isinstance (Qa (pv 1) (Qa (Zk (v:=.ty "tuple") rfl G.tup PyProof.Rows.boot_tuple rfl) Qc))))) (pw_or (Qr YC (Qo Qn rfl G.len PySem.boot_len (Qa (pv 1) Qc)) Qd (Qu _)) (pw_or1 (Q3 (QM (Qp RH hr (Qa (Qk Qj (pv 1) Qd (5:)) Qc) (Nat.le_add_left 1 n)))))))) (Qi (Ql Zv)) Qs)
  (Qi (QG (Q3 (QM (Qp RP hr (Qa (Qk Qj (pv 1) Qd (5:)) Qc) (7:)))) (Qi (Ql Zv)) Qs))))
  (Qi (Ql Zv))))),?_⟩
 refine ⟨_,rfl,a,_, "tuple", true,rfl,h1,rfl,_,rfl,Zb ⟨_,rfl,a,_,rfl,.inr h1,rfl,_,rfl,UF rfl ⟨_,rfl,a,_,0,_,rfl,rfl,h1,rfl,_, "str", _,true,rfl,.str _,rfl,_,rfl,Zb ?_⟩⟩⟩
 refine ⟨_,rfl,a,_,1,_,rfl,rfl,h1,rfl,l,_,.inl ⟨rfl,h2⟩,true,rfl,Zb ?_⟩
 refine ⟨_,rfl,a,_,1,_,rfl,rfl,h1,rfl,l,rfl,⟨_,h2⟩,?_⟩
 refine ZM (K:=K) (xs:=ps.map fun p=>V.ref p.1) (fun i σ H'=>∃ c1:Option V,σ=[some (.ref a),c1]∧Same H H') ⟨none,rfl,fun _ _ e=>e⟩ ?_ ?_ ?_
 ·rintro i σ H' _ ⟨c1,_,g⟩
  exact g.seq h2
 ·rintro i x σ H' hx ⟨c1,rfl,g⟩
  have hi:=(List.getElem?_eq_some_iff.mp hx).1
  rw [List.length_map] at hi
  rw [List.getElem?_map,List.getElem?_eq_getElem hi] at hx
  obtain ⟨hp,u,hu,hlu⟩:=h3 ps[i] (List.getElem_mem hi)
  generalize ps[i]=p at hx hp hu
  cases hx
  have hp':=g.seqT hp
  refine ⟨_,rfl,p.1,_, "tuple", true,rfl,hp',rfl,_,rfl,Zb ⟨_,rfl,p.1,_,rfl,.inr hp',rfl,_,rfl,UF rfl ⟨_,rfl,p.1,_,0,_,rfl,rfl,hp',rfl,p.2.1,rfl,_,rfl,Zb ?_⟩⟩⟩
  exact ⟨_,rfl,p.1,_,1,_,rfl,rfl,hp',rfl,p.2.2,u,rfl,trS g hu,hlu,fun H4 g4=>⟨_,rfl,Zb ⟨_,rfl,g.trans g4⟩⟩⟩
 ·rintro σ H' ⟨c1,rfl,g⟩
  exact q H' g
end
end K71
namespace L2
open PySem PySem.Spec PyProof.Rows
abbrev QA (h:Heap) (T:Addr) (a b c:Value):Prop:=h.get? T=some { cls:=.type "tuple", data:=.seq #[a,b,c] }
structure Zip3 (z TI TO i1 i2 i3 l1 l2 l3:Addr):Prop where
 TIz:TI≠z
 TOz:TO≠z
 i1z:i1≠z
 i2z:i2≠z
 i3z:i3≠z
 TITO:TI≠TO
 TIi1:TI≠i1
 TIi2:TI≠i2
 TIi3:TI≠i3
 TOi1:TO≠i1
 TOi2:TO≠i2
 TOi3:TO≠i3
 i12:i1≠i2
 i13:i1≠i3
 i23:i2≠i3
 l1z:l1≠z
 l2z:l2≠z
 l2TO:l2≠TO
 l2i1:l2≠i1
 l3z:l3≠z
 l3TO:l3≠TO
 l3i1:l3≠i1
 l3i2:l3≠i2
section
variable {prog:Program} {w:World} {A:Around} {E:Value→Shared→Prop} {s:Shared}
theorem Uw {T:Addr} {a b c x:Value} {k:Nat} {Q:Unit→Shared→Prop} (g:QA s.heap T a b c)
 (h:∀ h':Heap,h'.get? T=some { cls:=Value.type "tuple", data:=Data.seq (#[a,b,c].setIfInBounds k x) }→Heap.SameBut T s.heap h'→Q () { s with heap:=h' }) :
 wpAny (15:) A (updateSeq T fun y=>y.setIfInBounds k x) Q E s:=by
 refine wpAny_updateSeq g rfl (h _ ?_ (Heap.SameBut.update s.heap T _)) ?_ ?_
 ·rw [Heap.get?_update_self _ g rfl];simp [Obj.mapSeq]
 ·simp [sizeLine_eq]
 ·simp [sizeLine_eq]
theorem JT (a b c:Value):checkBuiltinCall "zip.__new__" { pos:=[Value.type "zip", a,b,c] }=pure ():=by kernel_rfl
theorem U2 (a b c:Value):checkTypeCall "zip" { pos:=[a,b,c] }=pure ():=rfl
theorem Wf (a b c d:Value):argsOk "object.__init__" { pos:=[a,b,c,d] }:=rfl
theorem Ve {zp ti tu j1 j2 j3 t1 t2 t3:Addr} {n1 n2 n3:Nat} {us vs ws:Array Value} {p q r c d e:Value} {Q:Value→Shared→Prop} (Ap:Zip3 zp ti tu j1 j2 j3 t1 t2 t3)
 (gz:IsZip s.heap zp ti tu .none) (gi:QA s.heap ti (.ref j1) (.ref j2) (.ref j3)) (gu:QA s.heap tu c d e)
 (w1:s.heap.IsListIter j1 t1 n1) (w2:s.heap.IsTupleIter j2 t2 n2) (w3:s.heap.IsTupleIter j3 t3 n3) (l1:s.heap.IsList t1 us) (l2:s.heap.IsTuple t2 vs) (l3:s.heap.IsTuple t3 ws) (ep:us[n1]?=some p) (eq:vs[n2]?=some q) (er:ws[n3]?=some r)
 (k:∀ h',IsZip h' zp ti tu (rawInt s.heap.objs.size)→QA h' tu p q r→h'.IsListIter j1 t1 (n1 + 1)→h'.IsTupleIter j2 t2 (n2 + 1)→h'.IsTupleIter j3 t3 (n3 + 1)→QA h' s.heap.objs.size p q r →
  (∀ b o,b≠zp→b≠tu→b≠j1→b≠j2→b≠j3→s.heap.get? b=some o→h'.get? b=some o)→Q (.ref s.heap.objs.size) { s with heap:=h' }) :
 wpAny (15:) A (Builtin.«zip.__next__» ⟨[.ref zp],[]⟩) (fun fin s'=>∃ v,fin=.done (.ret v)∧Q v s') E s:=by
 show wpAny _ _ (field (.ref zp) 2 >>= _) _ _ _
 refine wpAny_bind (wpAny_field gz rfl (x:=.bool false) rfl ?_)
 show wpAny _ _ (field (.ref zp) 3 >>= _) _ _ _
 refine wpAny_bind (wpAny_field gz rfl (x:=.ref ti) rfl ?_)
 refine wpAny_bind (wpAny_seqItems gi rfl ?_)
 show wpAny _ _ (Builtin.SmallTypes.ownedTupleIsFree (.ref zp) >>= _) _ _ _
 refine wpAny_bind ?_;(unfold Builtin.SmallTypes.ownedTupleIsFree);refine wpAny_bind (wpAny_field gz rfl (x:=.none) rfl (wpAny_pure ?_))
 simp only [if_true]
 refine wpAny_bind (wpAny_rule (wpAny_bind (wpAny_field gz rfl (x:=.ref tu) rfl ?_)))
 refine wpAny_bind (wpAny_setField_rec gz (by simp) fun ha gza sa=>?_)
 replace gza:IsZip ha zp ti tu .ellipsis:=gza
 refine wpAny_bind ?_
 simp only [List.forIn_cons,List.forIn_nil,List.zipIdx_cons,List.zipIdx_nil]
 refine wpAny_bind (wpAny_bind (wpAny_onRaise ?_))
 show wpAny _ _ (Builtin.SmallTypes.nextOf (.ref j1) >>= _) _ _ _
 refine wpAny_bind (wpAny_nextOf_list_item (w1.extBut sa.extBut Ap.i1z) (l1.extBut sa.extBut Ap.l1z) ep fun hb w1b sb=>wpAny_pure ?_)
 have gub:QA hb tu c d e:=sb.extBut _ _ Ap.TOi1 (sa.extBut _ _ Ap.TOz gu)
 refine wpAny_bind (wpAny_seqItems gub rfl (wpAny_bind (Uw gub fun hc guc sc=>?_)))
 replace guc:QA hc tu p d e:=guc
 refine wpAny_bind (wpAny_letGo (wpAny_pure (wpAny_bind (wpAny_bind (wpAny_onRaise ?_)))))
 show wpAny _ _ (Builtin.SmallTypes.nextOf (.ref j2) >>= _) _ _ _
 refine wpAny_bind (Za (((w2.extBut sa.extBut Ap.i2z).extBut sb.extBut Ap.i12.symm).extBut sc.extBut Ap.TOi2.symm) (((l2.extBut sa.extBut Ap.l2z).extBut sb.extBut Ap.l2i1).extBut sc.extBut Ap.l2TO) eq fun hd w2d sd=>wpAny_pure ?_)
 have gud:QA hd tu p d e:=sd.extBut _ _ Ap.TOi2 guc
 refine wpAny_bind (wpAny_seqItems gud rfl (wpAny_bind (Uw gud fun he gue se=>?_)))
 replace gue:QA he tu p q e:=gue
 refine wpAny_bind (wpAny_letGo (wpAny_pure (wpAny_bind (wpAny_bind (wpAny_onRaise ?_)))))
 show wpAny _ _ (Builtin.SmallTypes.nextOf (.ref j3) >>= _) _ _ _
 refine wpAny_bind (Za (((((w3.extBut sa.extBut Ap.i3z).extBut sb.extBut Ap.i13.symm).extBut sc.extBut Ap.TOi3.symm).extBut sd.extBut Ap.i23.symm).extBut se.extBut Ap.TOi3.symm) (((((l3.extBut sa.extBut Ap.l3z).extBut sb.extBut Ap.l3i1).extBut sc.extBut Ap.l3TO).extBut sd.extBut Ap.l3i2).extBut se.extBut Ap.l3TO) er fun hf w3f sf=>wpAny_pure ?_)
 have guf:QA hf tu p q e:=sf.extBut _ _ Ap.TOi3 gue
 refine wpAny_bind (wpAny_seqItems guf rfl (wpAny_bind (Uw guf fun hg gug sg=>?_)))
 replace gug:QA hg tu p q r:=gug
 refine wpAny_bind (wpAny_letGo (wpAny_pure (wpAny_pure (wpAny_bind (wpAny_seqItems gug rfl (wpAny_bind (wpAny_newTuple ?_)))))))
 have size5:hg.objs.size=s.heap.objs.size:=by rw [sg.1,sf.1,se.1,sd.1,sc.1,sb.1,sa.1]
 have gzg:IsZip hg zp ti tu .ellipsis:=sg.extBut _ _ Ap.TOz.symm (sf.extBut _ _ Ap.i3z.symm (se.extBut _ _ Ap.TOz.symm (sd.extBut _ _ Ap.i2z.symm (sc.extBut _ _ Ap.TOz.symm (sb.extBut _ _ Ap.i1z.symm gza)))))
 have kept5:∀ b o,b≠zp→b≠tu→b≠j1→b≠j2→b≠j3→s.heap.get? b=some o→hg.get? b=some o:=fun b o b1 b2 b3 b4 b5 e=>sg.extBut _ _ b2 (sf.extBut _ _ b5 (se.extBut _ _ b2 (sd.extBut _ _ b4 (sc.extBut _ _ b2 (sb.extBut _ _ b3 (sa.extBut _ _ b1 e))))))
 have w1e:hg.IsListIter j1 t1 (n1 + 1):=((((w1b.extBut sc.extBut Ap.TOi1.symm).extBut sd.extBut Ap.i12).extBut se.extBut Ap.TOi1.symm).extBut sf.extBut Ap.i13).extBut sg.extBut Ap.TOi1.symm
 have w2e:hg.IsTupleIter j2 t2 (n2 + 1):=((w2d.extBut se.extBut Ap.TOi2.symm).extBut sf.extBut Ap.i23).extBut sg.extBut Ap.TOi2.symm
 have w3e:hg.IsTupleIter j3 t3 (n3 + 1):=w3f.extBut sg.extBut Ap.TOi3.symm
 have lz:zp < hg.objs.size:=Heap.lt_size gzg
 show wpAny _ _ (Builtin.SmallTypes.ownedTupleHandOut (.ref zp) (.ref hg.objs.size) >>= _) _ _ _
 refine wpAny_bind ?_;(unfold Builtin.SmallTypes.ownedTupleHandOut)
 have gzf:IsZip (hg.push { cls:=.type "tuple", data:=.seq #[p,q,r] }) zp ti tu .ellipsis:=Heap.get?_push_of_some _ gzg
 refine wpAny_bind (wpAny_setField_rec gzf (by simp) fun hi gzi si=>?_)
 replace gzi:IsZip hi zp ti tu (rawInt hg.objs.size):=gzi
 refine wpAny_setField_rec gzi (by simp) fun hh gzh sh=>?_
 replace gzh:IsZip hh zp ti tu (rawInt hg.objs.size):=gzh
 have upw:∀ b o,b≠zp→hg.get? b=some o→hh.get? b=some o:=fun b o b1 e=>sh.extBut _ _ b1 (si.extBut _ _ b1 (Heap.get?_push_of_some _ e))
 have gnew:QA hh hg.objs.size p q r:=sh.extBut _ _ (Nat.ne_of_gt lz) (si.extBut _ _ (Nat.ne_of_gt lz) (Heap.get?_push_size _ rfl))
 rw [size5] at gzh gnew
 refine wpAny_pure ⟨_,rfl,?_⟩
 show Q (.ref hg.objs.size) _
 rw [size5]
 exact k hh gzh (upw _ _ Ap.TOz gug) (w1e.at fun o e=>upw _ o Ap.i1z e) (w2e.at fun o e=>upw _ o Ap.i2z e) (w3e.at fun o e=>upw _ o Ap.i3z e) gnew fun b o b1 b2 b3 b4 b5 e=>upw b o b1 (kept5 b o b1 b2 b3 b4 b5 e)
theorem Gp {zp ti tu j1 j2 j3 t1 t2 t3:Addr} {n1:Nat} {us:Array Value} {c d e0:Value} {Q:Fin→Shared→Prop} (hh:A.handled=none) (Ap:Zip3 zp ti tu j1 j2 j3 t1 t2 t3)
 (gz:IsZip s.heap zp ti tu .none) (gi:QA s.heap ti (.ref j1) (.ref j2) (.ref j3)) (gu:QA s.heap tu c d e0)
 (w1:s.heap.IsListIter j1 t1 n1) (l1:s.heap.IsList t1 us) (ep:us[n1]?=none)
 (k:∀ h' e,(∀ b o,b≠zp→b≠tu→b≠j1→b≠j2→b≠j3→s.heap.get? b=some o→h'.get? b=some o)→(∃ o,h'.get? e=some o∧o.cls=.type "StopIteration")→E (.ref e) { s with heap:=h' }) :
 wpAny (15:) A (Builtin.«zip.__next__» ⟨[.ref zp],[]⟩) Q E s:=by
 show wpAny _ _ (field (.ref zp) 2 >>= _) _ _ _
 refine wpAny_bind (wpAny_field gz rfl (x:=.bool false) rfl ?_)
 show wpAny _ _ (field (.ref zp) 3 >>= _) _ _ _
 refine wpAny_bind (wpAny_field gz rfl (x:=.ref ti) rfl ?_)
 refine wpAny_bind (wpAny_seqItems gi rfl ?_)
 show wpAny _ _ (Builtin.SmallTypes.ownedTupleIsFree (.ref zp) >>= _) _ _ _
 refine wpAny_bind ?_;(unfold Builtin.SmallTypes.ownedTupleIsFree);refine wpAny_bind (wpAny_field gz rfl (x:=.none) rfl (wpAny_pure ?_))
 simp only [if_true]
 refine wpAny_bind (wpAny_rule (wpAny_bind (wpAny_field gz rfl (x:=.ref tu) rfl ?_)))
 refine wpAny_bind (wpAny_setField_rec gz (by simp) fun ha gza sa=>?_)
 replace gza:IsZip ha zp ti tu .ellipsis:=gza
 refine wpAny_bind ?_
 simp only [List.forIn_cons,List.forIn_nil,List.zipIdx_cons,List.zipIdx_nil]
 refine wpAny_bind (wpAny_bind (wpAny_onRaise ?_))
 show wpAny _ _ (Builtin.SmallTypes.nextOf (.ref j1) >>= _) _ _ _
 refine wpAny_bind (wpAny_nextOf_list_end hh (w1.extBut sa.extBut Ap.i1z) (l1.extBut sa.extBut Ap.l1z) ep fun hb e sb ge=>?_)
 obtain ⟨oe,hoe,hce⟩:=ge
 have gzb:IsZip hb zp ti tu .ellipsis:=sb _ _ Ap.i1z.symm gza
 have nez:e≠zp:=fun x=>by subst x;rw [gzb] at hoe;cases hoe;simp at hce
 refine wpAny_setField_rec gzb (by simp) fun hc _ sc=>k hc e (fun b o b1 _ b3 _ _ x=>sc.extBut _ _ b1 (sb _ _ b3 (sa.extBut _ _ b1 x))) ⟨oe,sc.extBut _ _ nez hoe,hce⟩
theorem YS {zp ti tu j1 j2 j3 t1 t2 t3:Addr} {n1 n2 n3:Nat} {us vs ws:Array Value} {p q r c d e:Value} {Q:Option Value→Shared→Prop} (Ap:Zip3 zp ti tu j1 j2 j3 t1 t2 t3)
 (gz:IsZip s.heap zp ti tu .none) (gi:QA s.heap ti (.ref j1) (.ref j2) (.ref j3)) (gu:QA s.heap tu c d e)
 (w1:s.heap.IsListIter j1 t1 n1) (w2:s.heap.IsTupleIter j2 t2 n2) (w3:s.heap.IsTupleIter j3 t3 n3) (l1:s.heap.IsList t1 us) (l2:s.heap.IsTuple t2 vs) (l3:s.heap.IsTuple t3 ws) (ep:us[n1]?=some p) (eq:vs[n2]?=some q) (er:ws[n3]?=some r)
 (k:∀ h',IsZip h' zp ti tu (rawInt s.heap.objs.size)→QA h' tu p q r→h'.IsListIter j1 t1 (n1 + 1)→h'.IsTupleIter j2 t2 (n2 + 1)→h'.IsTupleIter j3 t3 (n3 + 1)→QA h' s.heap.objs.size p q r →
  (∀ b o,b≠zp→b≠tu→b≠j1→b≠j2→b≠j3→s.heap.get? b=some o→h'.get? b=some o)→Q (some (.ref s.heap.objs.size)) { s with heap:=h' }) :
 wpAny (15:) A (pyNext (.ref zp)) Q E s:=by
 have tz:s.TypeIs (.ref zp) "zip" := ⟨_,gz,rfl⟩
 unfold pyNext
 exact wpAny_bind (wpAny_attempt (wpAny_callSpecial?_slot (name:=Str.ofString "__next__") tz F.slot_zip_next (wpAny_call_entry F.slot_zip_next tz F.entry_zip_next (Ve Ap gz gi gu w1 w2 w3 l1 l2 l3 ep eq er fun h' a1 a2 a3 a4 a5 a6 a7=>wpAny_pure (k h' a1 a2 a3 a4 a5 a6 a7)) (F.args_zip_next_1 _))))
theorem Y0 {zp ti tu j1 j2 j3 t1 t2 t3:Addr} {n1:Nat} {us:Array Value} {c d e0:Value} {Q:Option Value→Shared→Prop} (hh:A.handled=none) (Ap:Zip3 zp ti tu j1 j2 j3 t1 t2 t3)
 (gz:IsZip s.heap zp ti tu .none) (gi:QA s.heap ti (.ref j1) (.ref j2) (.ref j3)) (gu:QA s.heap tu c d e0) (w1:s.heap.IsListIter j1 t1 n1) (l1:s.heap.IsList t1 us) (ep:us[n1]?=none)
 (k:∀ h',(∀ b o,b≠zp→b≠tu→b≠j1→b≠j2→b≠j3→s.heap.get? b=some o→h'.get? b=some o)→Q none { s with heap:=h' }):wpAny (15:) A (pyNext (.ref zp)) Q E s:=by
 have tz:s.TypeIs (.ref zp) "zip" := ⟨_,gz,rfl⟩
 unfold pyNext
 refine wpAny_bind (wpAny_attempt (wpAny_callSpecial?_slot (name:=Str.ofString "__next__") tz F.slot_zip_next (wpAny_call_entry F.slot_zip_next tz F.entry_zip_next (Gp hh Ap gz gi gu w1 l1 ep fun h' e hk ge=>?_) (F.args_zip_next_1 _))))
 obtain ⟨o,ho,hc⟩:=ge
 exact wpAny_bind (wpAny_isInstance (T:="StopIteration") (b:=true) ⟨o,ho,hc⟩ isSubtype_stop (wpAny_pure (k _ hk)))
abbrev z31 (h:Heap) (t1:Addr):Heap:=h.push { cls:=.type "list_iterator", data:=.fields #[.ref t1,.int 0 0] }
abbrev z32 (h:Heap) (t1 t2:Addr):Heap:=(z31 h t1).push { cls:=.type "tuple_iterator", data:=.fields #[.ref t2,.int 0 0] }
abbrev z33 (h:Heap) (t1 t2 t3:Addr):Heap:=(z32 h t1 t2).push { cls:=.type "tuple_iterator", data:=.fields #[.ref t3,.int 0 0] }
abbrev z34 (h:Heap) (t1 t2 t3:Addr):Heap:=(z33 h t1 t2 t3).push { cls:=.type "tuple", data:=.seq #[.ref h.objs.size,.ref (z31 h t1).objs.size,.ref (z32 h t1 t2).objs.size] }
abbrev z35 (h:Heap) (t1 t2 t3:Addr):Heap:=(z34 h t1 t2 t3).push { cls:=.type "tuple", data:=.seq #[.none,.none,.none] }
abbrev z36 (h:Heap) (t1 t2 t3:Addr):Heap:=(z35 h t1 t2 t3).push { cls:=.type "zip", data:=.fields #[.none,.bool false,.bool false,.ref (z33 h t1 t2 t3).objs.size,.ref (z34 h t1 t2 t3).objs.size] }
theorem VO (t1 t2 t3:Addr) (us vs ws:Array Value) :
 Meets (Builtin.«zip.__new__» ⟨[.type "zip", .ref t1,.ref t2,.ref t3],[]⟩) (fun _ R s=>s.heap.IsList t1 us∧s.heap.IsTuple t2 vs∧s.heap.IsTuple t3 ws ∧
  R (.ok (.ret (.ref (z35 s.heap t1 t2 t3).objs.size))) { s with heap:=z36 s.heap t1 t2 t3 }) :=
 .of_wp fun prog w A R s h=>by
  obtain ⟨hp,g,d,tk,os⟩:=s;obtain ⟨l1,l2,l3,h⟩:=h
  have hsub:=sub_zip
  have L1:Heap.IsList (Shared.heap ⟨hp,g,d,tk,os⟩) t1 us:=l1
  have L2:Heap.IsTuple (Shared.heap ⟨hp.push { cls:=.type "list_iterator", data:=.fields #[.ref t1,.int 0 0] },g,d,tk,os⟩) t2 vs:=let ⟨o,e,r⟩:=l2;⟨o,Heap.get?_push_of_some _ e,r⟩
  have L3:Heap.IsTuple (Shared.heap ⟨(hp.push { cls:=.type "list_iterator", data:=.fields #[.ref t1,.int 0 0] }).push { cls:=.type "tuple_iterator", data:=.fields #[.ref t2,.int 0 0] },g,d,tk,os⟩) t3 ws:=let ⟨o,e,r⟩:=l3;⟨o,Heap.get?_push_of_some _ (Heap.get?_push_of_some _ e),r⟩
  wp_walk using wpAny_pyIter_list L1,wpAny_pyIter_tuple L2,wpAny_pyIter_tuple L3
  exact ⟨_,rfl,h⟩
theorem Vv {t1 t2 t3:Addr} {us vs ws:Array Value} {Q:Value→Shared→Prop} (l1:s.heap.IsList t1 us) (l2:s.heap.IsTuple t2 vs) (l3:s.heap.IsTuple t3 ws)
 (h:∀ h',IsZip h' (s.heap.objs.size + 5) (s.heap.objs.size + 3) (s.heap.objs.size + 4) .none→QA h' (s.heap.objs.size + 3) (.ref s.heap.objs.size) (.ref (17:)) (.ref (s.heap.objs.size + 2)) →
  QA h' (s.heap.objs.size + 4) .none .none .none→h'.IsListIter s.heap.objs.size t1 0→h'.IsTupleIter (17:) t2 0→h'.IsTupleIter (s.heap.objs.size + 2) t3 0 →
  (∀ c o,s.heap.get? c=some o→h'.get? c=some o)→Q (.ref (s.heap.objs.size + 5)) { s with heap:=h' }) :
 wpAny (15:) A (call (.type "zip") [.ref t1,.ref t2,.ref t3]) Q E s:=by
 refine callType_new F.called_zip (by decide) (U2 _ _ _) (JT _ _ _) (fun obj=>Wf obj _ _ _) F.entry_zip_new (VO t1 t2 t3 us vs ws) ⟨l1,l2,l3,?_⟩
 have q1:(z31 s.heap t1).objs.size=s.heap.objs.size + 1:=Heap.size_push ..
 have q2:(z32 s.heap t1 t2).objs.size=s.heap.objs.size + 2:=by rw [Heap.size_push,q1]
 have q3:(z33 s.heap t1 t2 t3).objs.size=s.heap.objs.size + 3:=by rw [Heap.size_push,q2]
 have q4:(z34 s.heap t1 t2 t3).objs.size=s.heap.objs.size + 4:=by rw [Heap.size_push,q3]
 have q5:(z35 s.heap t1 t2 t3).objs.size=s.heap.objs.size + 5:=by rw [Heap.size_push,q4]
 have r6:(z36 s.heap t1 t2 t3).get? (z35 s.heap t1 t2 t3).objs.size=some _:=Heap.get?_push_size _ rfl
 have r5:(z36 s.heap t1 t2 t3).get? (z34 s.heap t1 t2 t3).objs.size=some _:=Heap.get?_push_of_some _ (Heap.get?_push_size _ rfl)
 have r4:(z36 s.heap t1 t2 t3).get? (z33 s.heap t1 t2 t3).objs.size=some _:=Heap.get?_push_of_some _ (Heap.get?_push_of_some _ (Heap.get?_push_size _ rfl))
 have r3:(z36 s.heap t1 t2 t3).get? (z32 s.heap t1 t2).objs.size=some _:=Heap.get?_push_of_some _ (16:)
 have r2:(z36 s.heap t1 t2 t3).get? (z31 s.heap t1).objs.size=some _:=Heap.get?_push_of_some _ (Heap.get?_push_of_some _ (16:))
 have r1:(z36 s.heap t1 t2 t3).get? s.heap.objs.size=some _:=Heap.get?_push_of_some _ (Heap.get?_push_of_some _ (Heap.get?_push_of_some _ (16:)))
 show _∧_
 rw [q3,q4,q5] at r6
 rw [q1,q2,q3] at r4
 rw [q4] at r5
 rw [q2] at r3
 rw [q1] at r2
 rw [q5]
 exact ⟨⟨_,r6,rfl⟩,h _ r6 r4 r5 ⟨_,r1,rfl,rfl⟩ ⟨_,r2,rfl,rfl⟩ ⟨_,r3,rfl,rfl⟩ fun b o x=>Heap.get?_push_of_some _ (Heap.get?_push_of_some _ (Heap.get?_push_of_some _ (Heap.get?_push_of_some _ (Heap.get?_push_of_some _ (Heap.get?_push_of_some _ x)))))⟩
end
def G8 (K:PySem.W.Frag) (a b c:Addr) (xs ys zs:List V):It :=
 ⟨fun i H=>SqL K H a xs∧SqT K H b ys∧SqT K H c zs∧i < xs.length∧i < ys.length∧i < zs.length,fun i H x H'=>∃ p u v t,H p=none∧x=.ref p∧H'=upd H p (.tup [u,v,t])∧xs[i]?=some u∧ys[i]?=some v∧zs[i]?=some t,fun i H=>SqL K H a xs∧xs.length≤i⟩
theorem Vc {P:Program} {w:World} {K:PySem.W.Frag} {elts:List Expr} {k1:Nat} {pos:Pos} (a b c z:Addr) (xs ys zs:List V) (TI TO i1 i2 i3:Addr) (Ap:Zip3 z TI TO i1 i2 i3 a b c) :
 Turn P w K (.Tuple elts k1 pos) (G8 K a b c xs ys zs) [z,TI,TO,i1,i2,i3] z (fun i h=>IsZip h z TI TO .none∧QA h TI (.ref i1) (.ref i2) (.ref i3)∧(∃ u v t,QA h TO u v t)∧h.IsListIter i1 a i∧h.IsTupleIter i2 b i∧h.IsTupleIter i3 c i) where
 mem:=by simp
 obj:=fun i h st c hc=>by
  obtain ⟨hz,hTI,⟨u,v,t,hTO⟩,h1,h2,h3⟩:=st
  simp only [List.mem_cons,List.mem_nil_iff,or_false] at hc
  rcases hc with rfl | rfl | rfl | rfl | rfl | rfl
  ·exact ⟨_,hz,fun v z=>by have z':Data.fields _=Data.cell v:=z;cases z'⟩
  ·exact ⟨_,hTI,fun v z=>by have z':Data.seq _ _=Data.cell v:=z;cases z'⟩
  ·exact ⟨_,hTO,fun v z=>by have z':Data.seq _ _=Data.cell v:=z;cases z'⟩
  ·obtain ⟨o,e,c,d⟩:=h1;exact ⟨o,e,fun v z=>by rw [d] at z;cases z⟩
  ·obtain ⟨o,e,c,d⟩:=h2;exact ⟨o,e,fun v z=>by rw [d] at z;cases z⟩
  ·obtain ⟨o,e,c,d⟩:=h3;exact ⟨o,e,fun v z=>by rw [d] at z;cases z⟩
 keep:=fun i h h' st k=>by
  obtain ⟨hz,hTI,⟨u,v,t,hTO⟩,h1,h2,h3⟩:=st
  exact ⟨k z (by simp) _ hz,k TI (by simp) _ hTI,⟨u,v,t,k TO (by simp) _ hTO⟩,h1.at fun o e=>k i1 (by simp) o e,h2.at fun o e=>k i2 (by simp) o e,h3.at fun o e=>k i3 (by simp) o e⟩
 item:=by
  intro X hP hw hK hc i pins s σ H E I hf st hg
  subst hP hw hK
  obtain ⟨hz,hTI,⟨u0,v0,t0,hTO⟩,h1,h2,h3⟩:=st
  obtain ⟨qa,qb,qc,lx,ly,lz⟩:=hg
  obtain ⟨its,rv,p,_⟩:=I.list qa
  obtain ⟨its2,rv2,p2,_⟩:=I.tuple qb
  obtain ⟨its3,rv3,p3,_⟩:=I.tuple qc
  have ex:xs[i]?=some xs[i]:=List.getElem?_eq_getElem lx
  have ey:ys[i]?=some ys[i]:=List.getElem?_eq_getElem ly
  have ez:zs[i]?=some zs[i]:=List.getElem?_eq_getElem lz
  obtain ⟨u,hu,ru⟩:=rv.get ex
  obtain ⟨v,hv,rv'⟩:=rv2.get ey
  obtain ⟨t,ht,rt'⟩:=rv3.get ez
  refine YS Ap hz hTI hTO h1 h2 h3 p.isList p2 p3 (p:=u) (q:=v) (r:=t) (by simpa using hu) (by simpa using hv) (by simpa using ht) fun h' a1 a2 a3 a4 a4' a5 hk=>?_
  refine ⟨.ref s.heap.objs.size,rfl,wpAny_letOwnedTupleGo_zip (s:={ s with heap:=h' }) a1 fun h'' hz' hs'=>?_⟩
  have lt:∀ {c o},s.heap.get? c=some o→c≠s.heap.objs.size:=fun e=>Nat.ne_of_lt (Heap.lt_size e)
  have e5:QA h'' s.heap.objs.size u v t:=(hs'.2 _ (Ne.symm (lt hz))).trans a5
  have hch:∀ c ∈ [z,TO,i1,i2,i3],Z3 X pins H c:=fun c hc=>hf c (by
   simp only [List.mem_cons,List.mem_nil_iff,or_false] at hc ⊢
   rcases hc with rfl | rfl | rfl | rfl | rfl <;> simp)
  have I2:Inv X pins σ (upd H s.heap.objs.size (.tup [xs[i],ys[i],zs[i]])) { s with heap:=h'',toks:=s.toks }:=by
   refine I.turnedNew (ch:=[z,TO,i1,i2,i3]) (fun c o hc e=>?_) hch (7:) ⟨by show 3≤sizeLine;decide,[u,v,t],.cons ru (.cons rv' (.cons rt' .nil)),⟨_,e5,rfl,_,rfl⟩⟩
   simp only [List.mem_cons,List.mem_nil_iff,or_false,not_or] at hc
   exact (hs'.2 c hc.1).trans (hk c o hc.1 hc.2.1 hc.2.2.1 hc.2.2.2.1 hc.2.2.2.2 e)
  have hfr:∀ c ∈ [z,TI,TO,i1,i2,i3],upd H s.heap.objs.size (.tup [xs[i],ys[i],zs[i]]) c=none:=fun c hc=>by
   have hc2:=hf c hc
   have:c≠s.heap.objs.size:=by
    simp only [List.mem_cons,List.mem_nil_iff,or_false] at hc
    rcases hc with rfl | rfl | rfl | rfl | rfl | rfl
    ·exact lt hz
    ·exact lt hTI
    ·exact lt hTO
    ·obtain ⟨o,e,_⟩:=h1;exact lt e
    ·obtain ⟨o,e,_⟩:=h2;exact lt e
    ·obtain ⟨o,e,_⟩:=h3;exact lt e
   rw [Qg this];exact hc2.1
  exact ⟨.ref s.heap.objs.size,_,I2,rfl,⟨s.heap.objs.size,_,_,_,I.fresh,rfl,rfl,ex,ey,ez⟩,⟨hz',hs'.extBut _ _ Ap.TIz (hk _ _ Ap.TIz Ap.TITO Ap.TIi1 Ap.TIi2 Ap.TIi3 hTI),⟨_,_,_,hs'.extBut _ _ Ap.TOz a2⟩,a3.extBut hs'.extBut Ap.i1z,a4.extBut hs'.extBut Ap.i2z,a4'.extBut hs'.extBut Ap.i3z⟩,hfr⟩
 done:=by
  intro X hP hw hK hc i pins s σ H E I hf st hg
  subst hP hw hK
  obtain ⟨hz,hTI,⟨u0,v0,t0,hTO⟩,h1,h2,h3⟩:=st
  obtain ⟨qa,hl⟩:=hg
  obtain ⟨its,rv,p,_⟩:=I.list qa
  have l1:=rv.length
  have hch:∀ c ∈ [z,TO,i1,i2,i3],Z3 X pins H c:=fun c hc=>hf c (by
   simp only [List.mem_cons,List.mem_nil_iff,or_false] at hc ⊢
   rcases hc with rfl | rfl | rfl | rfl | rfl <;> simp)
  refine Y0 (I.ok.hd hc) Ap hz hTI hTO h1 p.isList (by simp;lia) fun h' hk=>⟨rfl,I.turnedL (t':=s.toks) (ch:=[z,TO,i1,i2,i3]) (fun c o hc e=>?_) hch⟩
  simp only [List.mem_cons,List.mem_nil_iff,or_false,not_or] at hc
  exact hk c o hc.1 hc.2.1 hc.2.2.1 hc.2.2.2.1 hc.2.2.2.2 e
 self:=fun _ _ _ _ _ st h=>wpAny_pyIter_zip st.1 h
section
variable {X:Cx} {elts:List Expr} {k1:Nat} {tpos:Pos}
def Oy (K:PySem.W.Frag) (ta:TA):TI:=fun σ H R=>ta σ H fun vs H1=>∃ a b c xs ys zs,vs=[.ref a,.ref b,.ref c]∧SqL K H1 a xs∧SqT K H1 b ys∧SqT K H1 c zs∧R (G8 K a b c xs ys zs) H1
theorem LO {e1 e2 e3:Expr} {ta:TA} {p pos:Pos} (hg:Gl X "zip") (hm:X.mg "zip" = none) (ha:PA X [e1,e2,e3] ta) (hs:starEach [e1,e2,e3] X.env=[(false,eval e1 X.env),(false,eval e2 X.env),(false,eval e3 X.env)]:=by rfl) (hs2:starEach [e2,e3] X.env=[(false,eval e2 X.env),(false,eval e3 X.env)]:=by rfl) :
 PI X (.Tuple elts k1 tpos) (.Call (.Name "zip" p) [e1,e2,e3] [] pos) (Oy X.K ta):=by
 intro pins s σ H R I h
 refine Call_ (ZE I hg hm PyProof.Rows.boot_zip (PyProof.Rows.callWith_type1 (thn (ha pos pins s σ H _ I h) fun us s1 ⟨vs,H1,I1,r1,q1⟩=>?_) (by rw [hs,hs2]) (by rw [hs2];rfl)))
 obtain ⟨a,b,c,xs,ys,zs,e,qa,qb,qc,q⟩:=q1
 subst e
 obtain ⟨u1,us',rfl,r3,rr⟩ : ∃ u1 us',us=u1 :: us'∧RelV (.ref a) u1∧Vals [.ref b,.ref c] us':=by cases r1 with | cons a b=>exact ⟨_,_,rfl,a,b⟩
 obtain ⟨u2,u3,e3,r4,r5⟩:=rr.two
 subst e3
 cases (show u1=Value.ref a from r3)
 cases (show u2=Value.ref b from r4)
 cases (show u3=Value.ref c from r5)
 obtain ⟨its,rv,pl,_⟩:=I1.list qa
 obtain ⟨its2,rv2,pl2,_⟩:=I1.tuple qb
 obtain ⟨its3,rv3,pl3,_⟩:=I1.tuple qc
 have la:@LT.lt Nat _ a s1.heap.objs.size:=by obtain ⟨o,_,e,_⟩:=pl;exact Heap.lt_size e
 have lb:@LT.lt Nat _ b s1.heap.objs.size:=by obtain ⟨o,e,_⟩:=pl2;exact Heap.lt_size e
 have lc:@LT.lt Nat _ c s1.heap.objs.size:=by obtain ⟨o,e,_⟩:=pl3;exact Heap.lt_size e
 refine Vv pl.isList pl2 pl3 fun h' hz hTI hTO h1 h2 h3 hk=>?_
 refine wpAny_pyIter_zip hz ?_
 have I2:Inv X pins σ H1 { s1 with heap:=h' }:=I1.kept (t':=s1.toks) hk
 refine ⟨s1.heap.objs.size + 5,[s1.heap.objs.size + 5,s1.heap.objs.size + 3,s1.heap.objs.size + 4,s1.heap.objs.size,s1.heap.objs.size + 1,s1.heap.objs.size + 2],_,_,H1,rfl,I2,Vc a b c (s1.heap.objs.size + 5) xs ys zs (s1.heap.objs.size + 3) (s1.heap.objs.size + 4) s1.heap.objs.size (s1.heap.objs.size + 1) (s1.heap.objs.size + 2) ?_,⟨hz,hTI,⟨_,_,_,hTO⟩,h1,h2,h3⟩,fun c hc=>?_,q⟩
 ·constructor <;> (refine nne ?_;lia)
 ·have hle:@LE.le Nat _ s1.heap.objs.size c:=by
   simp only [List.mem_cons,List.mem_nil_iff,or_false] at hc
   rcases hc with rfl | rfl | rfl | rfl | rfl | rfl <;> lia
  exact I1.fpOk hle (I1.hok.fresh hle)
end
theorem GP {K:PySem.W.Frag} {a b c:Addr} {xs ys zs:List V} {g:TG} {tb:TS} {D:Ends} {σ:St} {H:Hp} (hlen:xs.length=ys.length) (hlen2:xs.length=zs.length) (Pv:Nat→St→Hp→Prop) (h0:Pv 0 σ H) (hl:∀ i σ H,i≤xs.length→Pv i σ H→SqL K H a xs∧SqT K H b ys∧SqT K H c zs)
 (hs:∀ i u v t p σ H,xs[i]?=some u→ys[i]?=some v→zs[i]?=some t→H p=none→Pv i σ H→g (.ref p) σ (upd H p (.tup [u,v,t])) fun σ2 H2=>tb { D with nx:=Pv (i + 1),ct:=Pv (i + 1),bk:=D.nx } σ2 H2) (hd:∀ σ H,Pv xs.length σ H→D.nx σ H) :
 ∃ W:Nat→Nat→St→Hp→Prop,(∃ m,W 0 m σ H)∧∀ i m σ H,W i m σ H →
  ((G8 K a b c xs ys zs).stop i H∧D.nx σ H)∨((G8 K a b c xs ys zs).go i H∧∃ N:St→Hp→Prop,(∀ σ' H',N σ' H'→∃ m',m' < m∧W (i + 1) m' σ' H')∧∀ x H',(G8 K a b c xs ys zs).yld i H x H'→g x σ H' fun σ2 H2=>tb { D with nx:=N,ct:=N,bk:=D.nx } σ2 H2):=by
 refine ⟨fun i m σ H=>m=xs.length - i∧i≤xs.length∧Pv i σ H,⟨xs.length - 0,rfl,Nat.zero_le _,h0⟩,?_⟩
 rintro i m σ H ⟨rfl,hi,p⟩
 obtain ⟨qa,qb,qc⟩:=hl i σ H hi p
 by_cases h:i < xs.length
 ·refine .inr ⟨⟨qa,qb,qc,h,by lia,by lia⟩,Pv (i + 1),fun σ' H' p'=>⟨xs.length - (i + 1),by lia,rfl,h,p'⟩,?_⟩
  rintro x H' ⟨p',u,v,t,hp,rfl,rfl,hu,hv,ht⟩
  exact hs i u v t p' σ H hu hv ht hp p
 ·have e:i=xs.length:=by lia
  subst e
  exact .inl ⟨⟨qa,Nat.le_refl _⟩,hd σ H p⟩
end L2
namespace K71
open PySem L2 TM TT ST K9 K11
mutual
theorem G5:∀ a b:Tree Str,PyData.eqv (td a) (td b)=true→a=b
 | .node n m bs,.node n' m' bs',h=>by
  simp only [td,PyData.eqv,PyData.eqvAll,Bool.and_eq_true,decide_eq_true_eq,beq_iff_eq] at h
  obtain ⟨h1,h2,h3,_⟩:=h
  rw [h1,h2,WN bs bs' h3]
theorem WN:∀ as bs:List (Tree Str),PyData.eqvAll (tds as) (tds bs)=true→as=bs
 | [],[],_=>rfl
 | [],_ :: _,h=>by simp [tds,PyData.eqvAll] at h
 | _ :: _,[],h=>by simp [tds,PyData.eqvAll] at h
 | a :: as,b :: bs,h=>by
  simp only [tds,PyData.eqvAll,Bool.and_eq_true] at h
  rw [G5 a b h.1,WN as bs h.2]
end
theorem VB {c:Int} {ks:List KdT} {st:Tm} {ms:List MdT} (hW:DWood c ks) (hD:DTurn ks st ms):∀ m ∈ ms,0 < m.2.2.2.2.length:=fun m hm=>by
 obtain ⟨kd,b1,b2,b3,b4⟩:=(hD.md m hm).ex
 obtain ⟨r,hr,_⟩:=hW.bare kd b1
 rw [b3]
 exact List.length_pos_of_mem hr
theorem ZC {K:PySem.W.Frag} {H H':Hp} {d tu wd lm:Addr} {sv:V} {c:Int} {ks:List KdT} {st:Tm} {ms:List MdT} (hW:DWood c ks) (hD:DTurn ks st ms) (g:SameD d H H') (hd:Dk H d) (h:TurnD K H tu wd lm sv ks st ms):TurnD K H' tu wd lm sv ks st ms :=
 TurnD.sameD g hd hW.pos (fun k hk=>by obtain ⟨r,hr,_⟩:=hW.bare k hk;exact ⟨r,hr⟩) hD.pos (VB hW hD) h
def Uk (K:PySem.W.Frag):Sp:=fun vs H Q _=>∃ (d tu wd lm:Addr) (sv:V) (c:Int) (ks:List KdT) (st:Tm) (ms:List MdT) (k0:KdT),vs=[.ref d,.ref tu]∧Dk H d∧TurnD K H tu wd lm sv ks st ms∧WoodD K H d wd ks∧DWood c ks∧DTurn ks st ms∧ks[0]?=some k0 ∧
 ∀ (v:V) (H':Hp) (T:Tree Str),SameD d H H'→Dk H' d→TrV K H' v T→OfK (Qz ks) T k0.2.1→lv T≤3→Q v H'
def M9:List G3.S:=[.forL 2 (.lst [.k (.int 3),.k (.int 2),.k (.int 1)]) [.set 3 (.call 0 [.v 0,.ix (.v 1) (.k (.int 0)),.ix (.ix (.ix (.v 1) (.k (.int 0))) (.k (.int 0))) (.k (.int 0)),.v 2]),.ite (.cmp .Lt (.call 1 [.call 2 [.v 1,.v 3]]) (.k (.int 60))) [.ret (.v 3)] []],.ret (.call 0 [.v 0,.ix (.v 1) (.k (.int 0)),.ix (.ix (.ix (.v 1) (.k (.int 0))) (.k (.int 0))) (.k (.int 0)),.k (.int 1)])]
def Ni (K:PySem.W.Frag):G3.En:=⟨K,[fun _ vs H Q=>Zw K 3 vs H Q E0,fun _ vs H Q=>US K 8 vs H Q E0,fun _ vs H Q=>YR K 14 vs H Q E0],[],[],[]⟩
abbrev Tri:=Addr × Ent × Tree Str × Tree Str
def YI (K:PySem.W.Frag) (n:Nat):Sp:=fun vs H Q _=>∃ (tu wd lm wa wl:Addr) (sv tv:V) (ks:List KdT) (st:Tm) (ms:List MdT) (kind:Str) (T:Tree Str) (ps:List Tri),vs=[.ref tu,.ref wa,tv]∧TurnD K H tu wd lm sv ks st ms∧WoodOk ks∧SqT K H wa [.str kind,.ref wl]∧SqL K H wl (ps.map fun p=>V.ref p.1)∧TrV K H tv T ∧
 (∀ p ∈ ps,SqT K H p.1 [.int p.2.1.1,p.2.1.2]∧TrV K H p.2.1.2 p.2.2.1∧GT 50 p.2.2.1∧GT 50 p.2.2.2∧(∃ (k:Nat) (md:MdT),p.2.1.1=(k:Int)∧ms[k]?=some md∧md.2.1=kind)∧MM ks ms n p.2.1.1 T p.2.2.2) ∧
 ∀ (b:Bool) (H':Hp),Same H H'→(b=true ↔ ∀ p ∈ ps,p.2.2.1=p.2.2.2)→Q (.bl b) H'
def Nd:List G3.S:=[.forU [3,4] (.ix (.v 1) (.k (.int 1))) [.ite (.oo (.cmp .NotEq (.ix (.ix (.ix (.v 0) (.k (.int 2))) (.v 3)) (.k (.int 0))) (.ix (.v 1) (.k (.int 0)))) (.nd 0 [.call 0 [.v 0,.v 3,.v 2],.v 4])) [.ret (.k (.bl false))] []],.ret (.k (.bl true))]
def M7 (K:PySem.W.Frag) (n:Nat):G3.En:=⟨K,[fun _ vs H Q=>ZQ K n vs H Q E0],[],[G3.on2 (G3.EqD K true)],[]⟩
section
variable {P:Program} {w:World} {K:PySem.W.Frag} {mg:Str→Option Value} {base:Heap} {f:Addr} {fd:FuncData}
theorem L0:FnScope ["_law_deck", "_law_turning_here", "_law_deep", "_law_tree_here"] ["_law_deck", "_law_turning_here"] (defScope Wa):=(1:)
theorem GM (F:Fun K "_law_small" "_law_small" Wa f fd) (G:Gm mg) (RT:Fn P w K mg base 5 "_law_tree" ["_law_deck", "_law_wood_here", "_law_kind", "_law_deep"] (Zw K 3)) (RN:Fn P w K mg base 9 "_law_names_in" ["_law_tree_here"] (US K 8)) (RO:Fn P w K mg base 18 "_law_outcome" ["_law_turning_here", "_law_tree_here"] (YR K 14)):FnOk P w K mg base CX0 19 f fd ["_law_deck", "_law_turning_here"] (Uk K):=by
 refine G3.Fun.okC F L0 (Ni K) M9 (fun X c=>⟨.cons (c.fn RT) (.cons (c.fn RN) (.cons (c.fn RO) .nil)),.nil,.nil⟩) (9:) (fun H vs Q E h=>?_) G.rng
 ·obtain ⟨d,tu,wd,lm,sv,c,ks,st,ms,k0,rfl,_⟩:=h
  rfl
 obtain ⟨d,tu,wd,lm,sv,c,ks,st,ms,k0,rfl,hd,hT,hWD,hW,hD,hk0,q⟩:=h
 have hk0m:=List.mem_of_getElem? hk0
 have hat:atI (ks.map fun k=>V.ref k.1) (0:Int)=some (.ref k0.1):=QI (j:=0) (by rw [List.getElem?_map,hk0];rfl)
 refine ⟨fun l H0 g0 e0 n0=>?_⟩
 have hld:l≠d:=fun z=>by obtain ⟨xs,e⟩:=hd;rw [z,e] at n0;cases n0
 have hd0:=hd.same g0
 have hT0:=hT.same g0
 have hWD0:WoodD K H0 d wd ks:=⟨hWD.1.same g0,hWD.2⟩
 refine .f [.int 3,.int 2,.int 1] (fun j σ H'=>∃ c2 c3,σ=[some (.ref d),some (.ref tu),c2,c3]∧SameD d H0 H'∧Dk H' d) ⟨none,none,rfl,SameD.refl _ _,hd0⟩ ?_ ?_ ?_
 ·rintro j _ H' _ ⟨c2,c3,rfl,g,_⟩
  exact SqL.of (g _ _ hld e0)
 ·rintro j x _ H1 hx ⟨c2,c3,rfl,g,hd1⟩
  obtain ⟨dp,rfl,h1,h3⟩ : ∃ dp:Nat,x=.int (dp:Int)∧1≤dp∧dp≤3:=by
   match j,hx with
   | 0,hx=>cases hx;exact ⟨3,rfl,by decide,by decide⟩
   | 1,hx=>cases hx;exact ⟨2,rfl,by decide,by decide⟩
   | 2,hx=>cases hx;exact ⟨1,rfl,by decide,by decide⟩
   | j + 3,hx=>cases hx
  have hT1:=ZC hW hD g hd0 hT0
  refine .t _ _ hT1.tu rfl <| .t _ _ hT1.tu rfl <| .l _ _ hT1.w.1 hat <| .t _ _ (hT1.w.2 k0 hk0m).1 rfl ⟨d,wd,c,ks,k0,dp,rfl,hd1,hWD0.sameD g hd0,hW,hk0m,h1,h3,fun v H2 T g2 hd2 hv hO hl=>?_⟩
  obtain ⟨u,hu,hg⟩:=Go hW hD hk0 (l:=3) (4:) hO (n:=14) (by decide)
  refine ⟨tu,wd,lm,sv,v,ks,st,ms,T,u,rfl,ZC hW hD g2 hd1 hT1,hW.ok,hv,hu,fun v' H3 g3 hv'=>⟨v',u,rfl,hv',hg.lv,fun z H4 g4=>G3.iteI (fun _=>?_) fun _=>?_⟩⟩
  ·exact q v H4 T ((SameD.of g0).trans (g.trans (g2.trans (SameD.of (g3.trans g4))))) (hd2.same (g3.trans g4)) (trS (g3.trans g4) hv) hO (4:)
  ·exact ⟨_,_,rfl,g.trans (g2.trans (SameD.of (g3.trans g4))),hd2.same (g3.trans g4)⟩
 ·rintro _ H1 ⟨c2,c3,rfl,g,hd1⟩
  have hT1:=ZC hW hD g hd0 hT0
  refine .t _ _ hT1.tu rfl <| .t _ _ hT1.tu rfl <| .l _ _ hT1.w.1 hat <| .t _ _ (hT1.w.2 k0 hk0m).1 rfl ⟨d,wd,c,ks,k0,1,rfl,hd1,hWD0.sameD g hd0,hW,hk0m,by decide,by decide,fun v H2 T g2 hd2 hv hO hl=>?_⟩
  exact q v H2 T ((SameD.of g0).trans (g.trans g2)) hd2 hv hO (4:)
theorem Mf:FnScope ["_law_turning_here", "_law_want", "_law_tree_here", "_law_mode", "_law_part"] ["_law_turning_here", "_law_want", "_law_tree_here"] (defScope X9):=(1:)
theorem Gc {n:Nat} (F:Fun K "_law_meets" "_law_meets" X9 f fd) (G:Gm mg) (RM:Fn P w K mg base (n + 3) "_law_made" ["_law_turning_here", "_law_mode", "_law_tree_here"] (ZQ K n)):FnOk P w K mg base CX0 (n + 4) f fd ["_law_turning_here", "_law_want", "_law_tree_here"] (YI K n):=by
 refine G3.Fun.okC F Mf (M7 K n) Nd (nk:=[G3.shCmp .NotEq]) (fun X c=>⟨.cons (c.fn RM (7:)) .nil,.nil,.cons c.neD .nil⟩) (9:) (fun H vs Q E h=>?_) G.rng
 ·obtain ⟨tu,wd,lm,wa,wl,sv,tv,ks,st,ms,kind,T,ps,rfl,_⟩:=h
  rfl
 obtain ⟨tu,wd,lm,wa,wl,sv,tv,ks,st,ms,kind,T,ps,rfl,hT,hO,hwa,hwl,htv,hps,q⟩:=h
 refine .t _ _ hwa rfl <| .f (ps.map fun p=>V.ref p.1) (fun j σ H'=>∃ c3 c4,σ=[some (.ref tu),some (.ref wa),some tv,c3,c4]∧Same H H'∧∀ p ∈ ps.take j,p.2.2.1=p.2.2.2) ⟨none,none,rfl,fun _ _ e=>e,fun p hp=>by simp at hp⟩ ?_ ?_ ?_
 ·rintro j _ H' _ ⟨c3,c4,rfl,g,_⟩
  exact g.seq hwl
 ·rintro j x _ H1 hx ⟨c3,c4,rfl,g,hall⟩
  have hj:=(List.getElem?_eq_some_iff.mp hx).1
  rw [List.length_map] at hj
  have ep:=List.getElem?_eq_getElem hj
  have hpm:=List.getElem_mem hj
  rw [List.getElem?_map,ep] at hx
  generalize ps[j]=p at hx ep hpm
  cases hx
  obtain ⟨a1,a2,a3,a4,⟨k,md,b1,b2,b3⟩,a6⟩:=hps p hpm
  have hT1:=hT.same g
  have hmd:=hT1.m.2 md (List.mem_of_getElem? b2)
  refine ⟨p.1,_,rfl,g.seqT a1,?_⟩
  refine .t _ _ hT1.tu rfl <| .l _ (.ref md.1) hT1.m.1 (by rw [b1];exact QI (by rw [List.getElem?_map,b2];rfl)) <| .t _ _ hmd.1 rfl <| .t _ _ (g.seqT hwa) rfl ?_
  show cond (!decide (md.2.1=kind)) _ _
  rw [decide_eq_true b3]
  refine ⟨tu,wd,lm,sv,ks,st,ms,p.2.1.1,tv,T,p.2.2.2,rfl,hT1,hO,trS g htv,a6,fun v' H2 g2 hv'=>.e (td p.2.2.2) (td p.2.2.1) (TrV.rd hv') (TrV.rd (trS (g.trans g2) a2)) a4.ok a3.ok (Nat.le_trans (Nat.min_le_right _ _) (Nat.le_trans a3.dp (by decide))) ?_⟩
  show cond (!PyData.eqv (td p.2.2.2) (td p.2.2.1)) _ _
  cases he:PyData.eqv (td p.2.2.2) (td p.2.2.1) with
  | true =>
   have e:=G5 _ _ he
   refine ⟨_,_,rfl,g.trans g2,fun p' hp'=>?_⟩
   rw [List.take_add_one,ep] at hp'
   rcases List.mem_append.mp hp' with z | z
   ·exact hall p' z
   ·have:p'=p:=by simpa using z
    rw [this,e]
  | false =>
   refine q false H2 (g.trans g2) ⟨fun z=>(by cases z),fun z=>?_⟩
   rw [z p hpm,ZJ _ a4.ok] at he
   cases he
 ·rintro _ H1 ⟨c3,c4,rfl,g,hall⟩
  refine q true H1 g ⟨fun _ p hp=>hall p ?_,fun _=>rfl⟩
  rw [List.length_map,List.take_length];exact hp
end
end K71
namespace K71
open PySem L2 TM TT ST K9 K11
def Yv (K:PySem.W.Frag):Sp:=fun vs H Q _=>∃ (tu wd lm tu' wd' lm' wa wl:Addr) (sv v:V) (c:Int) (ks hs:List KdT) (st:Tm) (ms ns:List MdT) (ps:List (Addr × Ent)) (T:Tree Str) (kd:KdT),vs=[.ref tu,.ref tu',.ref wa,v]∧TurnD K H tu wd lm sv ks st ms∧TurnD K H tu' wd' lm' sv hs st ns∧hs.map Zg=ks.map Zg∧ns.map MdT.md=ms.map MdT.md∧DWood c ks∧DTurn ks st ms∧GivenAt K H ks ms T kd.2.1 wa wl ps∧ps.length≤10∧kd ∈ ks∧TrV K H v T∧OfK (Qz ks) T kd.2.1∧lv T≤3 ∧
 ∀ H':Hp,Same H H'→Q (.bl true) H'
theorem OfKs.at {rw:Str→List PNx} {bs:List (Tree Str)} {kb:List Str} (h:OfKs rw bs kb) {i:Nat} {b:Tree Str} (hb:bs[i]?=some b):∃ k,kb[i]?=some k∧OfK rw b k:=by
 have hl:=h.len
 obtain ⟨k,hk⟩ : ∃ k,kb[i]?=some k:=⟨_,List.getElem?_eq_getElem (by rw [← hl];exact (List.getElem?_eq_some_iff.mp hb).1)⟩
 obtain ⟨b',e,ho⟩:=h.get hk
 rw [hb] at e
 cases e
 exact ⟨k,hk,ho⟩
theorem V9 {K:PySem.W.Frag} {H:Hp} {c:Int} {ks hs:List KdT} {st:Tm} {ms ns:List MdT} (ek:hs.map Zg=ks.map Zg) (em:ns.map MdT.md=ms.map MdT.md) (hW:DWood c ks) (hD:DTurn ks st ms) {kb:List Str} {T:Tree Str} {i:Nat} {b:Tree Str} (hb:T.bs[i]?=some b) {kind:Str} (hkb:kb[i]?=some kind) (hO:OfK (Qz ks) b kind) (hl:lv b≤3) {w:Wt} (h:WantAt K H hs ns kb T i kind w):∃ ts:List Tri,(ts.map fun p=>V.ref p.1)=w.2.2.map (fun p=>V.ref p.1)∧(∀ p ∈ ts,SqT K H p.1 [.int p.2.1.1,p.2.1.2]∧TrV K H p.2.1.2 p.2.2.1∧GT 50 p.2.2.1∧GT 50 p.2.2.2∧(∃ (k:Nat) (md:MdT),p.2.1.1=(k:Int)∧ms[k]?=some md∧md.2.1=kind)∧MM ks ms 12 p.2.1.1 b p.2.2.2)∧∀ p ∈ ts,p.2.2.1=p.2.2.2:=by
 have hp:=h.p
 generalize w.2.2=ps at hp
 induction ps with
 | nil=>exact ⟨[],rfl,fun p hp=>(nomatch hp),fun p hp=>(nomatch hp)⟩
 | cons p ps ih =>
  obtain ⟨ts,e,a,a'⟩:=ih fun x hx=>hp x (List.mem_cons_of_mem _ hx)
  obtain ⟨b1,cc,u,n,k,md,c1,c2,c3,c4,c5,c6,c7⟩:=hp p List.mem_cons_self
  rw [hb] at c1
  cases c1
  obtain ⟨md',d1,d2,_⟩:=JI em.symm c5
  have hmk:md'.2.1=kind:=by
   rw [hkb] at c6
   have:kind=md.2.1:=by simpa using c6
   rw [d2,this]
  obtain ⟨u',hu',hg'⟩:=XM hW hD 3 b kind hl hO k md' d1 hmk 12 (by decide)
  have c4':=(Ub ek.symm em.symm n).1 _ _ _ c4
  rw [c3] at c4'
  have eu:=(UJ hW.ok n 12).1 _ _ _ _ c4' hu'
  refine ⟨(p.1,p.2,u,u') :: ts,by simp [e],fun x hx=>?_,fun x hx=>?_⟩
  ·rcases List.mem_cons.mp hx with z | z
   ·rw [z];exact ⟨b1,c2,c7,hg'.mono (by decide),⟨k,md',c3,d1,hmk⟩,by show MM ks ms 12 p.2.1 b u';rw [c3];exact hu'⟩
   ·exact a x z
  ·rcases List.mem_cons.mp hx with z | z
   ·rw [z];exact eu
   ·exact a' x z
section
variable {P:Program} {w:World} {K:PySem.W.Frag} {mg:Str→Option Value} {base:Heap} {f:Addr} {fd:FuncData}
abbrev goN:List Str:=["_law_turning_here", "_law_handed", "_law_want", "_law_tree_here", "_law_found", "_law_kinds", "_law_one", "_law_kind", "_law_branch"]
theorem ZN:FnScope goN ["_law_turning_here", "_law_handed", "_law_want", "_law_tree_here"] (defScope JF):=(1:)
theorem Vn (F:Fun K "_law_goes_on" "_law_goes_on" JF f fd) (G:Gm mg) (RH:Fn P w K mg base 8 "handed_on" ["turning", "want", "name"] (ND K)) (RR:Fn P w K mg base 1 "_law_rows" ["_law_wood_here", "_law_kind"] (Yi K)) (RW:Fn P w K mg base 52 "_law_is_want" ["_law_found"] (J7 K 50)) (RM:Fn P w K mg base 16 "_law_meets" ["_law_turning_here", "_law_want", "_law_tree_here"] (YI K 12)):FnOk P w K mg base CX0 53 f fd ["_law_turning_here", "_law_handed", "_law_want", "_law_tree_here"] (Yv K):=by
 refine F.ok ZN (9:) (3:)
 ·obtain ⟨tu,wd,lm,tu',wd',lm',wa,wl,sv,v,c,ks,hs,st,ms,ns,ps,T,kd,rfl,_⟩:=h
  rfl
 obtain ⟨tu,wd,lm,tu',wd',lm',wa,wl,sv,v,c,ks,hs,st,ms,ns,ps,T,kd,rfl,hT,hT',ek,em,hW,hD,hG,hpz,hkd,hv,hO,hl3,q⟩:=h
 refine ⟨_,(Qf (Qq (i:=4) ZN.nd rfl (Or.inl rfl) (Qp RH hr (Qa (pv 1) (Qa ((QE (Qa (Qk Qj (pv 2) Qd (5:)) (Qa (QJ ZT rfl G.lst PyProof.Rows.boot_list (Qa (Qk Qj (pv 2) Qd (5:)) Qc)) Qc)))) (Qa (Qk Qj (pv 3) Qd (5:)) Qc)))))
  (Qf (Qq (i:=5) ZN.nd rfl (Or.inl rfl) (Qk QF (Qy (CompG.many (xs:=["_law_name_here", "_law_branches"]) (caps:=["_law_tree_here"]) (cap:=[3]) (cs:=[_]) rfl rfl (0:) (0:) (0:) (0:) (0:) (0:) rfl rfl rfl) rfl (QH (Qp RR hr (Qa (Qk Qj (pv 0) Qd (5:)) (Qa (Qk Qj (pv 2) Qd (5:)) Qc)))) (UG (CompG.many (xs:=["_law_name_here", "_law_branches"]) (caps:=["_law_tree_here"]) (cap:=[3]) (cs:=[_]) rfl rfl (0:) (0:) (0:) (0:) (0:) (0:) rfl rfl rfl) rfl) (fun _ _ _ _=>ZF (Qr Zd (pv 0) (Qk (r:=Gk K) Qj (pv 2) Qd (5:)) (Qu _))) (fun _ _ _ _=>pv 1)) Qd (5:)))
  (Qf (QG (PW.pt (pw_or (Q3 (QM (Qo Jo rfl G.isi PyProof.Rows.boot_isinstance (Qa (pv 4) (Qa (Zk (v:=.ty "list") rfl G.lst PyProof.Rows.boot_list rfl) Qc))))) (pw_or1 (Qr YC (Qo Qn rfl G.len PySem.boot_len (Qa (pv 4) Qc)) (Qo Qn rfl G.len PySem.boot_len (Qa (pv 5) Qc)) (Qu _))))) (Qi (Ql Zv)) Qs)
  (Qf (QR PassesOwn.never rfl (LO rfl G.zip (Qa (pv 4) (Qa (pv 5) (Qa (Qk Qj (pv 3) Qd (5:)) Qc)))) (ZS rfl (QB (Qw (i:=6) ZN.nd rfl (Or.inl rfl)) (QB (Qw (i:=7) ZN.nd rfl (Or.inl rfl)) (QB (Qw (i:=8) ZN.nd rfl (Or.inl rfl)) ZB)))) (Qi (QG (PW.pt (pw_or (Q3 (QM (Qp RW hr (Qa (pv 6) Qc)))) (pw_or (Qr YC (Qk Qj (pv 6) Qd (5:)) (pv 7) (Qu _)) (pw_or1 (Q3 (QM (Qp RM hr (Qa (pv 0) (Qa (pv 6) (Qa (pv 8) Qc)))))))))) (Qi (Ql Zv)) Qs)))
  (Qi (Ql Zv)))))),?_⟩
 obtain ⟨a,b,vs,rfl,r1,r2,r3,r4⟩:=ZR hv
 have hTn:OfK (Qz ks) T kd.2.1:=hO
 obtain ⟨r,hr0,hrn,hbs⟩ : ∃ r ∈ kd.2.2.2,r.2.1=nam T∧OfKs (Qz ks) T.bs r.2.2.2:=by
  cases T with
  | node n m bs =>
   simp only [OfK] at hO
   rw [ZL hW.ok.nd hkd] at hO
   exact hO
 obtain ⟨j,hj,ej⟩:=List.getElem_of_mem hr0
 have er:kd.2.2.2[j]?=some r:=by rw [← ej];exact List.getElem?_eq_getElem hj
 obtain ⟨kd',hkd',e1,e2⟩:=Yw ek hkd
 have hrow:=(hT.w.2 kd hkd).2
 have hlen:=r3.length
 have hbl:=hbs.len
 have hk10:=(hW.ok.rows kd hkd).len
 refine ⟨_,rfl,_,rfl,wa,_,0,_,rfl,rfl,hG.t,rfl,_,rfl,wa,_,1,_,rfl,rfl,hG.t,rfl,wl,_,rfl,.inl hG.l,fun l2 hl2=>⟨(by show 2≤sizeLine;decide),fun p2 hp2=>?_⟩⟩
 have g1:=Qe hl2 (.lst (ps.map fun p=>V.ref p.1))
 have g2:=Qe hp2 (.tup [.str kd.2.1,.ref l2])
 have g12:=g1.trans g2
 have hG2:GivenAt K (upd (upd H l2 (.lst (ps.map fun p=>V.ref p.1))) p2 (.tup [.str kd.2.1,.ref l2])) hs ns T kd'.2.1 p2 l2 ps:=⟨by rw [e1];exact SqT.of Qb,SqL.of (g2 _ _ Qb),fun p hp=>⟨g12.seqT (hG.p p hp).1,by
  obtain ⟨u,n,k,md,a1,a2,a3,a4,a5,a6⟩:=(hG.p p hp).2
  obtain ⟨md',b1,b2,_⟩:=JI em a4
  exact ⟨u,n,k,md',trS g12 a1,a2,(Ub ek em n).1 _ _ _ a3,b1,by rw [b2,a5,e1],a6⟩⟩⟩
 generalize upd (upd H l2 (.lst (ps.map fun p=>V.ref p.1))) p2 (.tup [.str kd.2.1,.ref l2])=H2 at g12 hG2
 refine ⟨_,rfl,a,_,0,_,rfl,rfl,g12.seqT r1,rfl,tu',wd',lm',p2,l2,sv,hs,st,ns,c,ps,T,kd',j,r,by rw [hrn];rfl,hT'.same g12,DWood.key ek hW,DTurn.key ek em hD,hG2,hkd',by rw [e2];exact er,hrn,hpz,fun lf ws H3 g3 elf hwl hws=>?_⟩
 have g13:=g12.trans g3
 refine ⟨_,rfl,tu,_,0,_,rfl,rfl,g13.seqT hT.tu,rfl,_,rfl,wa,_,0,_,rfl,rfl,g13.seqT hG.t,rfl,wd,ks,kd,rfl,hT.w.same g13,hW.ok.nd,hW.ok.len,hkd,fun H4 g4=>⟨kd.2.2.1,rfl,⟨_,(g13.trans g4).seq hrow.1⟩,fun acc hacc=>?_⟩⟩
 have g14:=g13.trans g4
 refine Y9 (K:=K) (xs:=kd.2.2.2.map fun t=>V.ref t.1) (cs:=[some (.ref a)]) (te:=Zu 1) (fun i ys H'=>H' acc=some (.lst ys)∧Same H4 H'∧ys=if i≤j then [] else [.ref r.2.2.1]) ⟨Qb,Qe hacc _,by rw [if_pos (Nat.zero_le _)]⟩ ?_ ?_ ?_
 ·rintro i ys H' _ ⟨_,g,_⟩
  exact (g14.trans g).seq hrow.1
 ·rintro i x ys H' hi hx ⟨hya,g,hys⟩
  have hir:i < kd.2.2.2.length:=by simpa using hi
  obtain rfl:x=.ref kd.2.2.2[i].1:=by
   rw [List.getElem?_map,List.getElem?_eq_getElem hir] at hx
   exact (Option.some.inj hx).symm
  have hra:=hrow.2 _ (List.getElem_mem hir)
  refine ⟨kd.2.2.2[i].1,_,_,rfl,(g14.trans g).seqT hra.1,⟨_,rfl,_,rfl,a,_,0,_,rfl,rfl,(g14.trans g).seqT r1,rfl,rfl,_,rfl,?_⟩⟩
  by_cases hc:kd.2.2.2[i].2.1=nam T
  ·have hij:=Zs (hW.ok.rows kd hkd).nd (List.getElem?_eq_getElem hir) er (hc.trans hrn.symm)
   have hy0:ys=[]:=by rw [hys,if_pos (4:)]
   have e:decide (V.str kd.2.2.2[i].2.1=V.str (nam T))=true:=decide_eq_true (by rw [hc])
   rw [e]
   have hri:kd.2.2.2[i]=r:=by
    subst hij
    rw [List.getElem?_eq_getElem hir] at er
    exact Option.some.inj er
   refine Zn ⟨_,rfl,Qx (ys:=ys) hi hya (by rw [hy0];decide) ⟨Qb,fun b u e=>?_,by rw [hy0,if_neg (4:),hri];rfl⟩⟩
   rw [Qg (Qh e hacc)];exact g _ _ e
  ·have hij:i≠j:=fun z=>hc (by
    subst z
    rw [List.getElem?_eq_getElem hir] at er
    rw [Option.some.inj er,hrn])
   have e:decide (V.str kd.2.2.2[i].2.1=V.str (nam T))=false:=decide_eq_false fun z=>hc (V.str.inj z)
   rw [e]
   refine Zb (Zr hi (ys:=ys) ⟨hya,g,?_⟩)
   rw [hys]
   by_cases h2:i < j
   ·rw [if_pos (4:),if_pos (4:)]
   ·rw [if_neg (4:),if_neg (4:)]
 rintro ys H5 ⟨hya,g5,hys⟩
 rw [List.length_map,if_neg (4:)] at hys
 subst hys
 have g45:=g4.trans g5
 have g15:=g13.trans g45
 have hbr:SqT K H5 r.2.2.1 (r.2.2.2.map V.str):=g15.seqT (hrow.2 r hr0).2
 have elf5:=g45 _ _ elf
 refine ⟨acc,_,0,.ref r.2.2.1,rfl,rfl,SqL.of hya,rfl,?_⟩
 refine ⟨_,rfl,lf,_,.inl ⟨rfl,SqL.of elf5⟩,true,rfl,Zb ⟨_,rfl,lf,_,rfl,.inl (SqL.of elf5),_,rfl,r.2.2.1,_,rfl,.inr hbr,rfl,_,rfl,UF (by rw [List.length_map,List.length_map,hwl]) ?_⟩⟩
 refine ⟨_,rfl,_,rfl,_,rfl,a,_,2,_,rfl,rfl,g15.seqT r1,rfl,lf,r.2.2.1,b,_,_,vs,rfl,SqL.of elf5,hbr,g15.seqT r2,?_⟩
 refine GP (K:=K) (by rw [List.length_map,List.length_map,hwl]) (by rw [List.length_map,hwl,hlen,hbl]) (fun i σ H'=>∃ c6 c7 c8:Option V,σ=[some (.ref tu),some (.ref tu'),some (.ref wa),some (.ref a),some (.ref lf),some (.ref r.2.2.1),c6,c7,c8]∧Same H5 H') ⟨none,none,none,rfl,fun _ _ e=>e⟩ ?_ ?_ ?_
 ·rintro i σ H' _ ⟨_,_,_,_,g⟩
  exact ⟨SqL.of (g _ _ elf5),g.seqT hbr,(g15.trans g).seqT r2⟩
 ·rintro i x y z p σ H6 hx hy hz hp ⟨c6,c7,c8,rfl,g6⟩
  have hi:=(List.getElem?_eq_some_iff.mp hx).1
  rw [List.length_map] at hi
  obtain ⟨w0,hw0⟩ : ∃ w0,ws[i]?=some w0:=⟨_,List.getElem?_eq_getElem hi⟩
  obtain ⟨bT,hbT⟩ : ∃ bT,T.bs[i]?=some bT:=⟨_,List.getElem?_eq_getElem (4:)⟩
  obtain ⟨kind,hkind,hOb⟩:=OfKs.at hbs hbT
  obtain ⟨bv,hbv,hbt⟩:=r3.get hbT
  obtain rfl:x=.ref w0.1:=by rw [List.getElem?_map,hw0] at hx;exact (Option.some.inj hx).symm
  obtain rfl:y=.str kind:=by rw [List.getElem?_map,hkind] at hy;exact (Option.some.inj hy).symm
  obtain rfl:bv=z:=Option.some.inj (hbv.symm.trans hz)
  have gp:=Qe hp (.tup [.ref w0.1,.str kind,bv])
  have g6p:=g6.trans gp
  have hw:=(hws i w0 kind hw0 hkind).same (g45.trans g6p)
  rw [Zm] at hl3
  have hlb:=YB (List.mem_of_getElem? hbT)
  refine ⟨p,_,rfl,SqT.of Qb,rfl,_,_,rfl,_,_,rfl,_,_,rfl,rfl,?_⟩
  refine ⟨_,rfl,w0.1,w0.2.1,kind,w0.2.2,rfl,hw.t,SqL.of hw.l,fun x hx=>⟨(hw.p x hx).1,?_⟩,fun H7 g7=>⟨true,rfl,Zb ?_⟩⟩
  ·obtain ⟨_,u,_,_,_,_,c2,_,_,_,_,c7⟩:=(hw.p x hx).2
   exact ⟨u,c2,c7.lv⟩
  have hw7:=hw.same g7
  have gH7:=g15.trans (g6p.trans g7)
  obtain ⟨ts,te1,te2,te3⟩:=V9 ek em hW hD hbT hkind hOb (4:) hw7
  refine ⟨_,rfl,w0.1,_,0,_,rfl,rfl,hw7.t,rfl,_,rfl,rfl,_,rfl,UF rfl ?_⟩
  refine ⟨_,rfl,_,rfl,_,rfl,tu,wd,lm,w0.1,w0.2.1,sv,bv,ks,st,ms,kind,bT,ts,rfl,hT.same gH7,hW.ok,hw7.t,by rw [te1];exact SqL.of hw7.l,trS gH7 hbt,te2,fun bb H8 g8 hb8=>?_⟩
  have:bb=true:=hb8.mpr te3
  subst this
  exact ⟨true,rfl,Zb ⟨_,_,_,rfl,g6p.trans (g7.trans g8)⟩⟩
 ·rintro σ H6 ⟨c6,c7,c8,rfl,g6⟩
  exact q H6 (g15.trans g6)
end
end K71
namespace K71
open PySem L2 TM TT ST K9 K11
def WW (K:PySem.W.Frag):Sp:=fun vs H Q _=>∃ (a:Addr) (ns:List Int),vs=[.ref a]∧SqL K H a (ns.map V.int)∧ns.length≤63∧∀ H',Q (.bl true) H'
abbrev O9:List Str:=["_law_script", "_law_deck", "_law_code", "_law_turning_here", "_law_handed", "_law_kind", "_law_rows_here", "_law_some", "_law_tree_here", "_law_want", "_law_other", "_law_found"]
def L4:R2:=fun x y H Q=>match x,y with
 | .int i,.int j=>G3.Cnd (OM i j) (Q (.int (i ^ j.toNat)) H)
 | _,_=>False
theorem VU (X:Cx):G3.NodeOk X (G3.shBin .Pow) (G3.on2 L4):=.bin fun pins s σ H x y v u Q I rx ry h=>by
 unfold L4 at h
 split at h
 ·exact UC pins s σ H _ _ v u Q I rx ry ⟨_,_,rfl,rfl,h.h,h.k⟩
 ·exact h.elim
def Pg:List G3.S:=[.set 1 (.call 0 [.v 0,.k (.int 1000)]),.set 2 (.call 1 [.v 1,.nd 0 [.k (.int 10),.k (.int 6)]]),.set 3 (.call 2 [.v 1,.v 2,.call 3 [.v 1,.v 2]]),.set 4 (.call 4 [.v 3]),.forU [5,6] (.ix (.v 3) (.k (.int 0))) [
 .setC 7 (.compI 0 (.call 5 [.ix (.v 3) (.k (.int 2))]) [5,3] (.cmp .Eq (.ix (.ix (.ix (.v 2) (.k (.int 2))) (.v 0)) (.k (.int 0))) (.v 1)) (.v 0)),
 .set 8 (.call 6 [.v 1,.ix (.v 3) (.k (.int 0)),.v 5,.k (.int 2)]),
 .set 9 (.tup [.v 5,.comp 1 (.v 7) [8,3] (.tup [.v 0,.call 7 [.v 2,.v 0,.v 1]])]),
 .ite (.no (.call 8 [.v 3,.v 4,.v 9,.v 8])) [.ret (.k (.bl false))] [],
 .set 10 (.call 6 [.v 1,.ix (.v 3) (.k (.int 0)),.v 5,.k (.int 2)]),
 .ite (.an (.call 9 [.v 3,.v 9,.v 10]) (.no (.call 8 [.v 3,.v 4,.v 9,.v 10]))) [.ret (.k (.bl false))] []],
 .set 8 (.call 10 [.v 1,.v 3]),
 .set 11 (.call 11 [.v 4,.call 12 [.v 3,.v 8]]),
 .ite (.oo (.no (.call 13 [.v 11])) (.cmp .NotEq (.ix (.v 11) (.k (.int 0))) (.ix (.ix (.ix (.v 3) (.k (.int 0))) (.k (.int 0))) (.k (.int 0))))) [.ret (.k (.bl false))] [],
 .ret (.an (.call 9 [.v 3,.v 11,.v 8]) (.nd 1 [.v 4,.v 3]))]
def PD (K:PySem.W.Frag):G3.En:=⟨K,[fun _ vs H Q=>WO K vs H Q E0,fun _ vs H Q=>Q9 vs H Q E0,fun _ vs H Q=>JJ K vs H Q E0,fun _ vs H Q=>J6 K vs H Q E0,fun _ vs H Q=>JD K vs H Q E0,fun _ vs H Q=>G3.rLen K vs H Q,fun _ vs H Q=>Zw K 3 vs H Q E0,fun _ vs H Q=>ZQ K 12 vs H Q E0,fun _ vs H Q=>Yv K vs H Q E0,fun _ vs H Q=>YI K 12 vs H Q E0,fun _ vs H Q=>Uk K vs H Q E0,fun _ vs H Q=>Yy K vs H Q E0,fun _ vs H Q=>YR K 14 vs H Q E0,fun _ vs H Q=>J7 K 50 vs H Q E0],[],[G3.on2 L4,G3.on2 (G3.EqD K false)],[]⟩
theorem Mp {K:PySem.W.Frag} {H:Hp} {c:Int} {ks:List KdT} {st:Tm} {ms:List MdT} (hW:DWood c ks) (hD:DTurn ks st ms) {T T2:Tree Str} {kind:Str} (hO:OfK (Qz ks) T2 kind) (hl:lv T2≤3) {ps:List (Addr × Ent)} (hp:∀ p ∈ ps,SqT K H p.1 [.int p.2.1,p.2.2]∧PairOk K H ks ms T kind p.2):∃ ts:List Tri,(ts.map fun p=>V.ref p.1)=ps.map (fun p=>V.ref p.1)∧(∀ p ∈ ts,SqT K H p.1 [.int p.2.1.1,p.2.1.2]∧TrV K H p.2.1.2 p.2.2.1∧GT 50 p.2.2.1∧GT 50 p.2.2.2∧(∃ (k:Nat) (md:MdT),p.2.1.1=(k:Int)∧ms[k]?=some md∧md.2.1=kind)∧MM ks ms 12 p.2.1.1 T2 p.2.2.2)∧((∀ p ∈ ts,p.2.2.1=p.2.2.2)→∀ p ∈ ps,PairOk K H ks ms T2 kind p.2):=by
 induction ps with
 | nil=>exact ⟨[],rfl,fun p hp=>(nomatch hp),fun _ p hp=>(nomatch hp)⟩
 | cons p ps ih =>
  obtain ⟨ts,e,a,a'⟩:=ih fun x hx=>hp x (List.mem_cons_of_mem _ hx)
  obtain ⟨b1,u,n,k,md,c1,c2,c3,c4,c5,c6⟩:=hp p List.mem_cons_self
  obtain ⟨u',hu',hg'⟩:=XM hW hD 3 T2 kind hl hO k md c4 c5 12 (by decide)
  refine ⟨(p.1,p.2,u,u') :: ts,by simp [e],fun x hx=>?_,fun hall x hx=>?_⟩
  ·rcases List.mem_cons.mp hx with z | z
   ·rw [z];exact ⟨b1,c1,c6,hg'.mono (by decide),⟨k,md,c2,c4,c5⟩,by show MM ks ms 12 p.2.1 T2 u';rw [c2];exact hu'⟩
   ·exact a x z
  ·rcases List.mem_cons.mp hx with z | z
   ·rw [z]
    have eu:u=u':=hall _ List.mem_cons_self
    exact ⟨u,12,k,md,c1,c2,by rw [c2,eu];exact hu',c4,c5,c6⟩
   ·exact a' (fun y hy=>hall y (List.mem_cons_of_mem _ hy)) x z
theorem Le {c:Int} {ks:List KdT} {st:Tm} {ms:List MdT} (hW:DWood c ks) (hD:DTurn ks st ms):(Q5 ks st ms).canLay0=true∧(Q5 ks st ms).depth≤20:=by
 obtain ⟨k0,hk0⟩ : ∃ k0,ks[0]?=some k0:=⟨_,List.getElem?_eq_getElem hW.pos⟩
 obtain ⟨⟨cs,_,h2⟩,hlv⟩:=hD.st k0 hk0
 refine Lj hW.nm hW.ok.rows (h2.mok.mono (4:)) fun m hm=>?_
 obtain ⟨kd,b1,b2,b3,b4⟩:=(hD.md m hm).ex
 refine ⟨by rw [← b2];exact hW.nm kd b1,fun t ht=>?_⟩
 obtain ⟨j,hj,rfl⟩:=List.getElem_of_mem ht
 obtain ⟨⟨cs,_,h2⟩,hlv⟩:=b4 j _ _ (List.getElem?_eq_getElem (show j < kd.2.2.2.length by lia)) (List.getElem?_eq_getElem hj)
 exact h2.mok.mono (4:)
section
variable {P:Program} {w:World} {K:PySem.W.Frag} {mg:Str→Option Value} {base:Heap} {f:Addr} {fd:FuncData}
theorem OI:FnScope O9 ["_law_script"] (defScope X5):=(1:)
theorem NM (F:Fun K "law" "law" X5 f fd) (G:Gm mg) (RU:Fn P w K mg base 1 "_law_numbers" ["_law_script", "_law_most"] (WO K)) (RD:Fn P w K mg base 1 "_law_draw" ["_law_deck", "_law_most"] Q9) (RT:Fn P w K mg base 7 "_law_turning" ["_law_deck", "_law_code", "_law_wood_here"] (JJ K)) (RW:Fn P w K mg base 2 "_law_wood" ["_law_deck", "_law_code"] (J6 K)) (RC:Fn P w K mg base 1 "_law_copy" ["_law_turning_here"] (JD K)) (RR:Fn P w K mg base 5 "_law_tree" ["_law_deck", "_law_wood_here", "_law_kind", "_law_deep"] (Zw K 3)) (RM:Fn P w K mg base 15 "_law_made" ["_law_turning_here", "_law_mode", "_law_tree_here"] (ZQ K 12)) (RG:Fn P w K mg base 53 "_law_goes_on" ["_law_turning_here", "_law_handed", "_law_want", "_law_tree_here"] (Yv K)) (RE:Fn P w K mg base 16 "_law_meets" ["_law_turning_here", "_law_want", "_law_tree_here"] (YI K 12)) (RS:Fn P w K mg base 19 "_law_small" ["_law_deck", "_law_turning_here"] (Uk K)) (RA:Fn P w K mg base 7 "wanted" ["turning", "tree"] (Yy K)) (RO:Fn P w K mg base 18 "_law_outcome" ["_law_turning_here", "_law_tree_here"] (YR K 14)) (RI:Fn P w K mg base 52 "_law_is_want" ["_law_found"] (J7 K 50)):FnOk P w K mg base CX0 54 f fd ["_law_script"] (WW K):=by
 refine G3.Fun.okC F OI (PD K) Pg (nk:=[G3.shBin .Pow,G3.shCmp .Eq]) (fun X c=>⟨.cons (c.fn RU) (.cons (c.fn RD) (.cons (c.fn RT) (.cons (c.fn RW) (.cons (c.fn RC) (.cons (c.blt G3.call_len G.len PySem.boot_len) (.cons (c.fn RR) (.cons (c.fn RM) (.cons (c.fn RG) (.cons (c.fn RE) (.cons (c.fn RS) (.cons (c.fn RA) (.cons (c.fn RO) (.cons (c.fn RI) .nil))))))))))))),.nil,.cons (c.node (r:=fun _=>G3.on2 L4) VU) (.cons c.eqD .nil)⟩) (9:) (fun H vs Q E h=>?_) G.rng
 ·obtain ⟨a,ns,rfl,_⟩:=h
  rfl
 obtain ⟨a,ns,rfl,hS,h63,q⟩:=h
 refine ⟨a,ns,rfl,hS,h63,fun d H1 g1 nd hd1=>⟨⟨by decide,by decide,by decide⟩,d,_,rfl,hd1,by decide,fun code H2 g2 hd2 c0 c1=>⟨d,code,rfl,hd2,fun wd H3 ks g3 hd3 hWD hW=>⟨d,code,wd,ks,rfl,hd3,hWD,hW,fun tu lm sv st ms H4 g4 hd4 hT hD hlm hmm=>⟨tu,wd,lm,sv,ks,st,ms,rfl,hT,hW.ok,by have:=hD.four;lia,fun tu' wd' lm' hs ns' H5 g5 hT' ek em=>?_⟩⟩⟩⟩⟩
 have hWD5:WoodD K H5 d wd ks:=by
  have:=hWD.sameD g4 hd3
  exact ⟨this.1.same g5,this.2⟩
 have hd5:=hd4.same g5
 have hT5:=hT.same g5
 have hW':=DWood.key ek hW
 have hD':=DTurn.key ek em hD
 have hml:=hD.four
 obtain ⟨k0,hk0⟩ : ∃ k0,ks[0]?=some k0:=⟨_,List.getElem?_eq_getElem hW.pos⟩
 refine .t _ _ hT5.tu rfl <| .f (ks.map fun k=>V.ref k.1) (fun j σ H'=>∃ c5 c6 c7 c8 c9 c10,σ=[some (.ref a),some (.ref d),some (.int code),some (.ref tu),some (.ref tu'),c5,c6,c7,c8,c9,c10,none]∧SameD d H5 H'∧Dk H' d) ⟨none,none,none,none,none,none,rfl,SameD.refl _ _,hd5⟩ ?_ ?_ ?_
 ·rintro j _ H' _ ⟨c5,c6,c7,c8,c9,c10,rfl,g,_⟩
  exact (ZC hW hD g hd5 hT5).w.1
 ·rintro j x _ H6 hx ⟨c5,c6,c7,c8,c9,c10,rfl,g6,hd6⟩
  have hj:=(List.getElem?_eq_some_iff.mp hx).1
  rw [List.length_map] at hj
  rw [List.getElem?_map,List.getElem?_eq_getElem hj] at hx
  have hkd:=List.getElem_mem hj
  generalize ks[j]=kd at hx hkd
  cases hx
  have hT6:=ZC hW hD g6 hd5 hT5
  have hT6':=ZC hW' hD' g6 hd5 hT'
  have hWD6:=hWD5.sameD g6 hd5
  refine ⟨kd.1,_,rfl,(hT6.w.2 kd hkd).1,?_⟩
  refine .t _ _ hT6.tu rfl <| .l _ hT6.m.1 ⟨⟨by rw [List.length_map];lia,by rw [List.length_map];lia⟩,.m (fun acc i ys H'=>Same H6 H'∧H' acc=some (.lst ys)∧∃ sm:List Nat,ys=sm.map (fun k:Nat=>V.int (k:Int))∧(∀ k ∈ sm,∃ md,ms[k]?=some md∧md.2.1=kd.2.1)∧sm.length≤i) (by rw [List.length_map];lia) (fun acc H' ha g e=>⟨g,e,[],rfl,fun k hk=>(nomatch hk),Nat.le_refl _⟩) (fun _ _ _ _ _=>trivial) (fun acc i ys H' hi _ ha ⟨g,e,sm,ey,h1,h2⟩=>?_) fun l7 ys H7 hl7 ⟨g7,e7,sm,ey,hsm,hsl⟩=>?_⟩
  ·rw [List.length_map,Int.toNat_natCast] at hi
   obtain ⟨md,emd⟩ : ∃ md,ms[i]?=some md:=⟨_,List.getElem?_eq_getElem hi⟩
   have hTg:=hT6.same g
   refine .t _ _ hTg.tu rfl <| .l _ (.ref md.1) hTg.m.1 (QI (by rw [List.getElem?_map,emd];rfl)) <| .t _ _ (hTg.m.2 md (List.mem_of_getElem? emd)).1 rfl <| G3.iteI (fun z=>⟨e,fun b u eb=>?_,Qb,sm ++ [i],by rw [ey,List.map_append];rfl,fun k hk=>?_,by simp;lia⟩) fun z=>⟨g,e,sm,ey,h1,by lia⟩
   ·rw [Qg (Qh eb ha)];exact g _ _ eb
   ·rcases List.mem_append.mp hk with y | y
    ·exact h1 k y
    ·rw [List.mem_singleton.mp y];exact ⟨md,emd,z⟩
  subst ey
  rw [List.length_map,Int.toNat_natCast] at hsl
  have nl7:l7≠d:=fun z=>by obtain ⟨xs,e⟩:=hd6;rw [z,e] at hl7;cases hl7
  have hd7:=hd6.same g7
  have hT7:=hT6.same g7
  have hT7':=hT6'.same g7
  have hWD7:WoodD K H7 d wd ks:=⟨hWD6.1.same g7,hWD6.2⟩
  refine .t _ _ hT7.tu rfl ⟨d,wd,code,ks,kd,2,rfl,hd7,hWD7,hW,hkd,by decide,by decide,fun v8 H8 T g8 hd8 hv8 hO8 hl8=>?_⟩
  have hT8:=ZC hW hD g8 hd7 hT7
  have hT8':=ZC hW' hD' g8 hd7 hT7'
  have hWD8:=hWD7.sameD g8 hd7
  have e7':=g8 _ _ nl7 e7
  refine .l _ (SqL.of e7') <| .m (fun acc i ys H'=>Same H8 H'∧H' acc=some (.lst ys)∧∃ ps:List (Addr × Ent),ys=ps.map (fun p=>V.ref p.1)∧(∀ p ∈ ps,SqT K H' p.1 [.int p.2.1,p.2.2]∧PairOk K H' ks ms T kd.2.1 p.2)∧ps.length=i) (by rw [List.length_map];lia) (fun acc H' ha g e=>⟨g,e,[],rfl,fun k hk=>(nomatch hk),rfl⟩) (fun acc i ys H' ⟨g,_⟩=>SqL.of (g _ _ e7')) (fun acc i ys H' hi _ ha ⟨g,e,ps,ey,h1,h2⟩=>?_) fun lw ys H9 hlw ⟨g9,e9,ps,ey,hps,hpl⟩=>?_
  ·rw [List.length_map] at hi
   have ex:((sm.map fun k:Nat=>V.int (k:Int))[i]?).getD .non=.int (sm[i]:Int):=by rw [List.getElem?_map,List.getElem?_eq_getElem hi];rfl
   rw [ex]
   obtain ⟨md,emd,ekd⟩:=hsm sm[i] (List.getElem_mem hi)
   generalize sm[i]=k at emd
   obtain ⟨u,hu,hgu⟩:=XM hW hD 3 T kd.2.1 (4:) hO8 k md emd ekd 12 (by decide)
   refine ⟨tu,wd,lm,sv,ks,st,ms,(k:Int),v8,T,u,rfl,hT8.same g,hW.ok,trS g hv8,hu,fun v' H' g' hv'=>⟨fun pt X kk dd _=>?_⟩⟩
   have gk:=g'.trans kk
   have ea:=gk _ _ e
   refine ⟨ea,fun b o eb=>?_,Qb,ps ++ [(pt,(k:Int),v')],by rw [ey,List.map_append];rfl,fun p hp=>?_,by simp [h2]⟩
   ·rw [Qg (Qh eb ha)];exact gk _ _ (g _ _ eb)
   ·rcases List.mem_append.mp hp with y | y
    ·exact ⟨SqT.put (gk.seqT (h1 p y).1) ea,(h1 p y).2.mono fun _ _ h=>SqT.put (gk.seqT h) ea⟩
    ·rw [List.mem_singleton.mp y]
     exact ⟨SqT.put dd ea,u,12,k,md,hv'.mono fun _ _ h=>SqT.put (kk.seqT h) ea,rfl,hu,emd,ekd,hgu.mono (by decide)⟩
  subst ey
  rw [List.length_map] at hpl
  have nlw:lw≠d:=fun z=>by obtain ⟨xs,e⟩:=hd8;rw [z,e] at hlw;cases hlw
  refine ⟨fun wa Xa ka da _=>?_⟩
  have g9a:=g9.trans ka
  have hG:GivenAt K Xa ks ms T kd.2.1 wa lw ps:=⟨da,SqL.of (ka _ _ e9),fun p hp=>⟨ka.seqT (hps p hp).1,(hps p hp).2.mono fun _ _=>ka.seqT⟩⟩
  refine ⟨tu,wd,lm,tu',wd',lm',wa,lw,sv,v8,code,ks,hs,st,ms,ns',ps,T,kd,rfl,hT8.same g9a,hT8'.same g9a,ek,em,hW,hD,hG,by lia,hkd,trS g9a hv8,hO8,by lia,fun Hb gb=>?_⟩
  have g9b:=g9a.trans gb
  have hdb:=hd8.same g9b
  have hTb:=hT8.same g9b
  have hTb':=hT8'.same g9b
  have hWDb:WoodD K Hb d wd ks:=⟨hWD8.1.same g9b,hWD8.2⟩
  refine .t _ _ hTb.tu rfl ⟨d,wd,code,ks,kd,2,rfl,hdb,hWDb,hW,hkd,by decide,by decide,fun v10 Hc T2 gc hdc hv10 hO10 hl10=>?_⟩
  have hTc:=ZC hW hD gc hdb hTb
  have hTc':=ZC hW' hD' gc hdb hTb'
  have kT:∀ a xs,SqT K Xa a xs→SqT K Hc a xs:=fun _ _ h=>gc.seqT hdb (gb.seqT h)
  have elw:Hc lw=some (.lst (ps.map fun p=>V.ref p.1)):=gc _ _ nlw (gb _ _ (ka _ _ e9))
  have hpc:∀ p ∈ ps,SqT K Hc p.1 [.int p.2.1,p.2.2]∧PairOk K Hc ks ms T kd.2.1 p.2:=fun p hp=>⟨kT _ _ (hG.p p hp).1,(hG.p p hp).2.mono kT⟩
  obtain ⟨ts,t1,t2,t3⟩:=Mp hW hD hO10 (4:) hpc
  have fin:∀ Hd,Same Hc Hd→SameD d H5 Hd∧Dk Hd d:=fun Hd gd=>⟨g6.trans ((SameD.of g7).trans (g8.trans ((SameD.of g9b).trans (gc.trans (SameD.of gd))))),hdc.same gd⟩
  refine ⟨tu,wd,lm,wa,lw,sv,v10,ks,st,ms,kd.2.1,T2,ts,rfl,hTc,hW.ok,kT _ _ hG.t,by rw [t1];exact SqL.of elw,hv10,t2,fun b Hd gd hb=>?_⟩
  cases b with
  | false=>exact ⟨_,_,_,_,_,_,rfl,(fin Hd gd).1,(fin Hd gd).2⟩
  | true =>
   have hp2:=t3 (hb.mp rfl)
   refine ⟨tu,wd,lm,tu',wd',lm',wa,lw,sv,v10,code,ks,hs,st,ms,ns',ps,T2,kd,rfl,hTc.same gd,hTc'.same gd,ek,em,hW,hD,⟨gd.seqT (kT _ _ hG.t),SqL.of (gd _ _ elw),fun p hp=>⟨gd.seqT (hpc p hp).1,(hp2 p hp).mono fun _ _=>gd.seqT⟩⟩,by lia,hkd,trS gd hv10,hO10,by lia,fun He ge=>?_⟩
   exact ⟨_,_,_,_,_,_,rfl,(fin He (gd.trans ge)).1,(fin He (gd.trans ge)).2⟩
 ·rintro _ H6 ⟨c5,c6,c7,c8,c9,c10,rfl,g6,hd6⟩
  have hT6:=ZC hW hD g6 hd5 hT5
  have hT6':=ZC hW' hD' g6 hd5 hT'
  have hWD6:=hWD5.sameD g6 hd5
  obtain ⟨k0',hk0',ek0,_⟩:=JQ ek hk0
  refine ⟨d,tu,wd,lm,sv,code,ks,st,ms,k0,rfl,hd6,hT6,hWD6,hW,hD,hk0,fun v H7 T g7 hd7 hv hO hl=>?_⟩
  have hT7:=ZC hW hD g7 hd6 hT6
  have hT7':=ZC hW' hD' g7 hd6 hT6'
  obtain ⟨u,hu,hgu⟩:=Go hW hD hk0 (l:=3) hl hO (n:=14) (by decide)
  refine ⟨tu,wd,lm,sv,v,ks,st,ms,T,u,rfl,hT7,hW.ok,hv,hu,fun v' H8 g8 hv'=>⟨tu',wd',lm',sv,v',hs,st,ns',code,k0',T,u,14,rfl,hT7'.same g8,hW',hD',hk0',hv',(Ub ek em 14).2 _ _ _ hu,hgu.mono (by decide),fun w0 H9 g9 hw=>?_⟩⟩
  rw [ek0] at hw
  refine ⟨w0.1,w0.2.1,k0.2.1,w0.2.2,rfl,hw.t,SqL.of hw.l,fun p hp=>⟨(hw.p p hp).1,?_⟩,fun Ha ga=>?_⟩
  ·obtain ⟨_,u',_,_,_,_,c2,_,_,_,_,c7⟩:=(hw.p p hp).2
   exact ⟨u',c2,c7.lv⟩
  have g89:=g8.trans (g9.trans ga)
  have hTa:=hT7.same g89
  have hTa':=hT7'.same g89
  have hwa:=hw.same ga
  have hk0m:=List.mem_of_getElem? hk0
  have hat:atI (ks.map fun k=>V.ref k.1) (0:Int)=some (.ref k0.1):=QI (j:=0) (by rw [List.getElem?_map,hk0];rfl)
  refine .t _ _ hwa.t rfl <| .t _ _ hTa.tu rfl <| .l _ _ hTa.w.1 hat <| .t _ _ (hTa.w.2 k0 hk0m).1 rfl ?_
  show cond (!decide (k0.2.1=k0.2.1)) _ _
  rw [decide_eq_true rfl]
  obtain ⟨ts,t1,t2,t3⟩:=V9 ek em hW hD (T:=abv T) (i:=0) (b:=T) rfl (kind:=k0.2.1) (kb:=[k0.2.1]) rfl hO hl hwa
  refine ⟨tu,wd,lm,w0.1,w0.2.1,sv,v,ks,st,ms,k0.2.1,T,ts,rfl,hTa,hW.ok,hwa.t,by rw [t1];exact SqL.of hwa.l,trS g89 hv,t2,fun b Hb gb hb=>?_⟩
  have:b=true:=hb.mpr t3
  subst this
  obtain ⟨cT,dT⟩:=Le hW hD
  have ed:Q5 hs st ns'=Q5 ks st ms:=by unfold Q5;rw [ek,em]
  refine .e (Q5 hs st ns') (Q5 ks st ms) (WD (hTa'.same gb)) (WD (hTa.same gb)) (by rw [ed];exact cT) cT (Nat.le_trans (Nat.min_le_right _ _) (Nat.le_trans dT (by decide))) ?_
  show Q (.bl (PyData.eqv (Q5 hs st ns') (Q5 ks st ms))) Hb
  rw [ed,ZJ _ cT]
  exact q Hb
end
end K71
namespace L2
theorem ln1 {α:Type} {us:List α} (h:us.length=1):∃ a,us=[a]:=List.length_eq_one_iff.mp h
theorem ln2 {α:Type} {us:List α} (h:us.length=2):∃ a b,us=[a,b]:=by
 match us,h with
 | [a,b],_=>exact ⟨a,b,rfl⟩
theorem ln3 {α:Type} {us:List α} (h:us.length=3):∃ a b c,us=[a,b,c]:=by
 match us,h with
 | [a,b,c],_=>exact ⟨a,b,c,rfl⟩
theorem ln4 {α:Type} {us:List α} (h:us.length=4):∃ a b c d,us=[a,b,c,d]:=by
 match us,h with
 | [a,b,c,d],_=>exact ⟨a,b,c,d,rfl⟩
end L2
namespace L2
open PySem
structure MethAt (K:PySem.W.Frag) (C:Addr) (m qual:Str) (st:Stmt):Prop where
 ex:∃ (f:Addr) (oc:Value) (od:Option Addr) (kV doc pm:Value) (an:Option Addr) (cdv ct:Value) (osl:Array (Option Value)),
  PySem.W.findIn K (.ref C) m=some (some (.ref f))∧PySem.W.isFn K (.ref f)=true∧K.lookup f=some ⟨oc,od,.func (PySem.W.fnOf m qual (defArgs st) (defBody st) (defScope st) .none kV doc pm an cdv ct),osl⟩∧PySem.W.codeIn K cdv qual=true∧PySem.W.keepIn K (.ref f)=true
theorem MethAt.mk' {K:PySem.W.Frag} {C:Addr} {m qual:Str} {st:Stmt} {f:Addr} {oc:Value} {od:Option Addr} {kV doc pm:Value} {an:Option Addr} {cdv ct:Value} {osl:Array (Option Value)}
 (a:PySem.W.findIn K (.ref C) m=some (some (.ref f))) (i:PySem.W.isFn K (.ref f)=true) (l:K.lookup f=some ⟨oc,od,.func (PySem.W.fnOf m qual (defArgs st) (defBody st) (defScope st) .none kV doc pm an cdv ct),osl⟩) (c:PySem.W.codeIn K cdv qual=true) (k:PySem.W.keepIn K (.ref f)=true):MethAt K C m qual st :=
 ⟨f,oc,od,kV,doc,pm,an,cdv,ct,osl,a,i,l,c,k⟩
end L2
namespace K71
open PySem L2
structure FtK (K:PySem.W.Frag):Prop where
 ex:∃ C:Addr,PySem.W.nsIn K mainGlobals "Fit" = some (some (.ref C))∧Cls K C∧NoAttr K C "kinds" ∧ NoAttr K C "mark" ∧ NoAttr K C "needed" ∧ PySem.W.makesIn K C=true∧PySem.W.keepIn K (.ref C)=true ∧
  MethAt K C "__init__" "Fit.__init__" sFI∧MethAt K C "goes_onto" "Fit.goes_onto" sGO∧MethAt K C "mark_goes" "Fit.mark_goes" sMG∧MethAt K C "handed" "Fit.handed" sHd
theorem FtK.mk' {K:PySem.W.Frag} {C:Addr} (aC:PySem.W.nsIn K mainGlobals "Fit" = some (some (.ref C))) (pg:PySem.W.plainGet K C Str.empty=true) (hd:PySem.W.hasDictIn K C=true) (po:PySem.W.plainOver K C=true)
 (sa:PySem.W.findIn K (.ref C) "__setattr__" = some (some (.builtin "object.__setattr__"))) (n1:PySem.W.findIn K (.ref C) "kinds" = some none) (n2:PySem.W.findIn K (.ref C) "mark" = some none) (n3:PySem.W.findIn K (.ref C) "needed" = some none)
 (mk:PySem.W.makesIn K C=true) (kc:PySem.W.keepIn K (.ref C)=true) (m1:MethAt K C "__init__" "Fit.__init__" sFI) (m2:MethAt K C "goes_onto" "Fit.goes_onto" sGO) (m3:MethAt K C "mark_goes" "Fit.mark_goes" sMG) (m4:MethAt K C "handed" "Fit.handed" sHd):FtK K :=
 ⟨C,aC,⟨pg,hd,po,sa⟩,n1,n2,n3,mk,kc,m1,m2,m3,m4⟩
theorem FtK.m {P:Program} {w:World} {K:PySem.W.Frag} {mg:Str→Option Value} {base h:Heap} (S:FtK K) (X:K.In h) (N:h.Ns mainGlobals mg) (G:Gm mg) (RC:Fn P w K mg base 1 "is_call" ["term"] (Xs K)) (RP:Fn P w K mg base 1 "mark_put" ["term", "mark"] (Mz K)) (RA:Fn P w K mg base 1 "pairs_of" ["trees"] (Y8 K)):∃ C,FtM P w K mg base C:=by
 obtain ⟨C,aC,cl,n1,n2,n3,mk,kc,m1,m2,m3,m4⟩:=S.ex
 have T:FtT K mg C:=⟨cl,n1,n2,n3,PySem.W.mg_of X N aC⟩
 obtain ⟨f1,oc1,od1,kV1,doc1,pm1,an1,cdv1,ct1,osl1,a1,i1,l1,c1,k1⟩:=m1.ex
 obtain ⟨f2,oc2,od2,kV2,doc2,pm2,an2,cdv2,ct2,osl2,a2,i2,l2,c2,k2⟩:=m2.ex
 obtain ⟨f3,oc3,od3,kV3,doc3,pm3,an3,cdv3,ct3,osl3,a3,i3,l3,c3,k3⟩:=m3.ex
 obtain ⟨f4,oc4,od4,kV4,doc4,pm4,an4,cdv4,ct4,osl4,a4,i4,l4,c4,k4⟩:=m4.ex
 have F1:=QY (st:=sFI) l1 c1 k1
 have F2:=QY (st:=sGO) l2 c2 k2
 have F3:=QY (st:=sMG) l3 c3 k3
 have F4:=QY (st:=sHd) l4 c4 k4
 have b1:Binds K _ ["self", "kinds"] []:=F1.binds fun _ _ _ _ _ _ us hl=>by obtain ⟨a1,a2,rfl⟩:=ln2 hl;rfl
 have b2:Binds K _ ["self", "term", "tree"] []:=F2.binds fun _ _ _ _ _ _ us hl=>by obtain ⟨a1,a2,a3,rfl⟩:=ln3 hl;rfl
 have b3:Binds K _ ["self", "term", "mark"] []:=F3.binds fun _ _ _ _ _ _ us hl=>by obtain ⟨a1,a2,a3,rfl⟩:=ln3 hl;rfl
 have b4:Binds K _ ["self"] []:=F4.binds fun _ _ _ _ _ _ us hl=>by obtain ⟨a1,rfl⟩:=ln1 hl;rfl
 exact ⟨C,T,⟨f1,_,⟨mk,a1,i1,kc⟩,OQ F1 T,b1⟩,⟨f2,_,⟨a2,i2,k2⟩,G0 F2 G T RC ⟨f3,_,⟨a3,i3,k3⟩,N9 F3 T RP,b3⟩ ⟨a2,i2,k2⟩ b2 3,b2⟩,⟨f4,_,⟨a4,i4,k4⟩,Oz F4 G T RA,b4⟩⟩
end K71
namespace K71
open PySem L2
theorem all_mk {l:PySem.W.OpenLaw} {w:World} {K:PySem.W.Frag} {h:Heap} {mg:Str→Option Value} {fa:Addr} (X:K.In h) (N:h.Ns mainGlobals mg) (hfa:mg "law" = some (.ref fa))
 (d1:DefAt K "is_call" MZ) (d2:DefAt K "mark_put" sMP) (d3:DefAt K "rows_of" JA) (d4:DefAt K "row_of" X8) (d5:DefAt K "rule_of" NW) (d6:DefAt K "wanted" Jy) (d7:DefAt K "handed_on" sHO) (d8:DefAt K "fit_of" Wg) (d9:DefAt K "pairs_of" Wo) (d10:DefAt K "_law_numbers" NT) (d11:DefAt K "_law_draw" VS) (d12:DefAt K "_law_mark" VR) (d13:DefAt K "_law_name" Ga) (d14:DefAt K "_law_wood" Gy) (d15:DefAt K "_law_rows" Gd) (d16:DefAt K "_law_term" Xf) (d17:DefAt K "_law_changed" Li) (d18:DefAt K "_law_calls" Wp) (d19:DefAt K "_law_rule" GW) (d20:DefAt K "_law_turning" G1) (d21:DefAt K "_law_bare" XE) (d22:DefAt K "_law_copy" GA) (d23:DefAt K "_law_whole" X6) (d24:DefAt K "_law_rule_of" sRO) (d25:DefAt K "_law_made" Ja) (d26:DefAt K "_law_made_by" sMB) (d27:DefAt K "_law_tree" Jg) (d28:DefAt K "_law_outcome" VN) (d29:DefAt K "_law_names_in" GG) (d30:DefAt K "_law_plain_tree" UP) (d31:DefAt K "_law_is_want" Nq) (d32:DefAt K "_law_small" Wa) (d33:DefAt K "_law_meets" X9) (d34:DefAt K "_law_goes_on" JF) (d35:DefAt K "law" X5)
 (z1:PySem.W.nsIn K mainGlobals "len" = some none) (z2:PySem.W.nsIn K mainGlobals "isinstance" = some none) (z3:PySem.W.nsIn K mainGlobals "int" = some none) (z4:PySem.W.nsIn K mainGlobals "bool" = some none) (z5:PySem.W.nsIn K mainGlobals "str" = some none) (z6:PySem.W.nsIn K mainGlobals "tuple" = some none) (z7:PySem.W.nsIn K mainGlobals "list" = some none) (z8:PySem.W.nsIn K mainGlobals "range" = some none) (z9:PySem.W.nsIn K mainGlobals "sum" = some none) (z10:PySem.W.nsIn K mainGlobals "reversed" = some none) (z11:PySem.W.nsIn K mainGlobals "zip" = some none) (z12:PySem.W.nsIn K mainGlobals "all" = some none) (z13:PySem.W.nsIn K mainGlobals "enumerate" = some none) (z14:PySem.W.nsIn K mainGlobals "sorted" = some none) (z15:PySem.W.nsIn K mainGlobals "dict" = some none)  (s1:FtK K) :
 ∃ fd:FuncData,(∀ (s:Shared) (v:Value),BindsTo s fd ⟨[v],[]⟩ [("_law_script", v)])∧∀ base:Heap,K.In base→base.Ns mainGlobals mg→FnOk l.prog w K mg base CX0 54 fa fd ["_law_script"] (WW K):=by
 have G:Gm mg:=⟨PySem.W.mg_none_of X N z1,PySem.W.mg_none_of X N z2,PySem.W.mg_none_of X N z3,PySem.W.mg_none_of X N z4,PySem.W.mg_none_of X N z5,PySem.W.mg_none_of X N z6,PySem.W.mg_none_of X N z7,PySem.W.mg_none_of X N z8,PySem.W.mg_none_of X N z9,PySem.W.mg_none_of X N z10,PySem.W.mg_none_of X N z11,PySem.W.mg_none_of X N z12,PySem.W.mg_none_of X N z13,PySem.W.mg_none_of X N z14,PySem.W.mg_none_of X N z15⟩
 obtain ⟨f,oc,od,kV,doc,pm,an,cdv,ct,osl,a,lk,c,kp⟩:=d35.ex
 have e:=hfa.symm.trans (PySem.W.mg_of X N a)
 cases e
 have F:=QY (st:=X5) lk c kp
 refine ⟨PySem.W.fnOf "law" "law" (defArgs X5) (defBody X5) (defScope X5) .none kV doc pm an cdv ct,fun s v=>.of_eq rfl,fun base _ _=>?_⟩
 have rIC:Fn l.prog w K mg base 1 "is_call" ["term"] (Xs K):=d1.fn X N (fun f fd F=>MT F) fun _ _ _ _ _ _ us hl=>by obtain ⟨a1,rfl⟩:=ln1 hl;rfl
 have rMP:Fn l.prog w K mg base 1 "mark_put" ["term", "mark"] (Mz K):=d2.fn X N (fun f fd F=>Od F G) fun _ _ _ _ _ _ us hl=>by obtain ⟨a1,a2,rfl⟩:=ln2 hl;rfl
 have rRo:Fn l.prog w K mg base 1 "rows_of" ["wood", "kind"] (Yx K):=d3.fn X N (fun f fd F=>W9 F G) fun _ _ _ _ _ _ us hl=>by obtain ⟨a1,a2,rfl⟩:=ln2 hl;rfl
 have rRw:Fn l.prog w K mg base 2 "row_of" ["wood", "kind", "name"] (JM K):=d4.fn X N (fun f fd F=>VP F G rRo) fun _ _ _ _ _ _ us hl=>by obtain ⟨a1,a2,a3,rfl⟩:=ln3 hl;rfl
 have rRu:Fn l.prog w K mg base 2 "rule_of" ["turning", "mode", "name"] (GD K):=d5.fn X N (fun f fd F=>Nj F G rRo) fun _ _ _ _ _ _ us hl=>by obtain ⟨a1,a2,a3,rfl⟩:=ln3 hl;rfl
 have rPr:Fn l.prog w K mg base 1 "pairs_of" ["trees"] (Y8 K):=d9.fn X N (fun f fd F=>GX F G) fun _ _ _ _ _ _ us hl=>by obtain ⟨a1,rfl⟩:=ln1 hl;rfl
 obtain ⟨C,M⟩:=s1.m (P:=l.prog) (w:=w) (base:=base) X N G rIC rMP rPr
 have rFO:Fn l.prog w K mg base 7 "fit_of" ["turning", "want", "name"] (JW K C):=d8.fn X N (fun f fd F=>GJ F M rRw rRu) fun _ _ _ _ _ _ us hl=>by obtain ⟨a1,a2,a3,rfl⟩:=ln3 hl;rfl
 have rHO:Fn l.prog w K mg base 8 "handed_on" ["turning", "want", "name"] (ND K):=d7.fn X N (fun f fd F=>Oq F M rFO) fun _ _ _ _ _ _ us hl=>by obtain ⟨a1,a2,a3,rfl⟩:=ln3 hl;rfl
 have rWa:Fn l.prog w K mg base 7 "wanted" ["turning", "tree"] (Yy K):=d6.fn X N (fun f fd F=>W8 F M) fun _ _ _ _ _ _ us hl=>by obtain ⟨a1,a2,rfl⟩:=ln2 hl;rfl
 have rU:Fn l.prog w K mg base 1 "_law_numbers" ["_law_script", "_law_most"] (WO K):=d10.fn X N (fun f fd F=>Nz F G) fun _ _ _ _ _ _ us hl=>by obtain ⟨a1,a2,rfl⟩:=ln2 hl;rfl
 have rD:Fn l.prog w K mg base 1 "_law_draw" ["_law_deck", "_law_most"] Q9:=d11.fn X N (fun f fd F=>LN F) fun _ _ _ _ _ _ us hl=>by obtain ⟨a1,a2,rfl⟩:=ln2 hl;rfl
 have rK:Fn l.prog w K mg base 2 "_law_mark" ["_law_deck"] Z0:=d12.fn X N (fun f fd F=>Lw F rD) fun _ _ _ _ _ _ us hl=>by obtain ⟨a1,rfl⟩:=ln1 hl;rfl
 have rN:Fn l.prog w K mg base 1 "_law_name" ["_law_code", "_law_k"] Yp:=d13.fn X N (fun f fd F=>Mv F G) fun _ _ _ _ _ _ us hl=>by obtain ⟨a1,a2,rfl⟩:=ln2 hl;rfl
 have rW:Fn l.prog w K mg base 2 "_law_wood" ["_law_deck", "_law_code"] (J6 K):=d14.fn X N (fun f fd F=>LJ F G rD rN) fun _ _ _ _ _ _ us hl=>by obtain ⟨a1,a2,rfl⟩:=ln2 hl;rfl
 have rR:Fn l.prog w K mg base 1 "_law_rows" ["_law_wood_here", "_law_kind"] (Yi K):=d15.fn X N (fun f fd F=>Mo F) fun _ _ _ _ _ _ us hl=>by obtain ⟨a1,a2,rfl⟩:=ln2 hl;rfl
 have rT:Fn l.prog w K mg base 5 "_law_term" ["_law_deck", "_law_code", "_law_calls_here", "_law_deep"] (Z6 K 3):=by
  obtain ⟨f,oc,od,kV,doc,pm,an,cdv,ct,osl,a,lk,c,kp⟩:=d16.ex
  have F:=QY (st:=Xf) lk c kp
  have hb:Binds K _ ["_law_deck", "_law_code", "_law_calls_here", "_law_deep"] []:=F.binds fun _ _ _ _ _ _ us hl=>by obtain ⟨a1,a2,a3,a4,rfl⟩:=ln4 hl;rfl
  exact ⟨f,_,Xj F G rD rK rN hb (PySem.W.mg_of X N a) 3,hb,kp,PySem.W.mg_of X N a⟩
 have rC:Fn l.prog w K mg base 5 "_law_changed" ["_law_deck", "_law_code", "_law_term_here", "_law_calls_here"] (YW K 3):=by
  obtain ⟨f,oc,od,kV,doc,pm,an,cdv,ct,osl,a,lk,c,kp⟩:=d17.ex
  have F:=QY (st:=Li) lk c kp
  have hb:Binds K _ ["_law_deck", "_law_code", "_law_term_here", "_law_calls_here"] []:=F.binds fun _ _ _ _ _ _ us hl=>by obtain ⟨a1,a2,a3,a4,rfl⟩:=ln4 hl;rfl
  exact ⟨f,_,WC F G rD rK rN hb (PySem.W.mg_of X N a) 3,hb,kp,PySem.W.mg_of X N a⟩
 have rL:Fn l.prog w K mg base 6 "_law_rule" ["_law_deck", "_law_code", "_law_base", "_law_calls_here"] (X0 K):=d19.fn X N (fun f fd F=>LD F rD rC rT) fun _ _ _ _ _ _ us hl=>by obtain ⟨a1,a2,a3,a4,rfl⟩:=ln4 hl;rfl
 have rA:Fn l.prog w K mg base 1 "_law_calls" ["_law_kinds", "_law_branches"] (JP K):=d18.fn X N (fun f fd F=>Gv F G) fun _ _ _ _ _ _ us hl=>by obtain ⟨a1,a2,rfl⟩:=ln2 hl;rfl
 have rB:Fn l.prog w K mg base 3 "_law_bare" ["_law_term_here"] (Z2 K 3):=by
  obtain ⟨f,oc,od,kV,doc,pm,an,cdv,ct,osl,a,lk,c,kp⟩:=d21.ex
  have F:=QY (st:=XE) lk c kp
  have hb:Binds K _ ["_law_term_here"] []:=F.binds fun _ _ _ _ _ _ us hl=>by obtain ⟨a1,rfl⟩:=ln1 hl;rfl
  exact ⟨f,_,Xz F G hb (PySem.W.mg_of X N a) 3,hb,kp,PySem.W.mg_of X N a⟩
 have rTu:Fn l.prog w K mg base 7 "_law_turning" ["_law_deck", "_law_code", "_law_wood_here"] (JJ K):=d20.fn X N (fun f fd F=>Mm F G rD rT rL rA rR rB) fun _ _ _ _ _ _ us hl=>by obtain ⟨a1,a2,a3,rfl⟩:=ln3 hl;rfl
 have rCp:Fn l.prog w K mg base 1 "_law_copy" ["_law_turning_here"] (JD K):=d22.fn X N (fun f fd F=>Mi F G) fun _ _ _ _ _ _ us hl=>by obtain ⟨a1,rfl⟩:=ln1 hl;rfl
 have rWh:Fn l.prog w K mg base 1 "_law_whole" ["_law_found"] YF:=d23.fn X N (fun f fd F=>Gu F G) fun _ _ _ _ _ _ us hl=>by obtain ⟨a1,rfl⟩:=ln1 hl;rfl
 have rLR:Fn l.prog w K mg base 2 "_law_rule_of" ["_law_turning_here", "_law_mode", "_law_name_here"] (Xv K):=d24.fn X N (fun f fd F=>NS F G rR) fun _ _ _ _ _ _ us hl=>by obtain ⟨a1,a2,a3,rfl⟩:=ln3 hl;rfl
 have rMd:Fn l.prog w K mg base 15 "_law_made" ["_law_turning_here", "_law_mode", "_law_tree_here"] (ZQ K 12):=by
  obtain ⟨f,oc,od,kV,doc,pm,an,cdv,ct,osl,a,lk,c,kp⟩:=d25.ex
  have F:=QY (st:=Ja) lk c kp
  have hb:Binds K _ ["_law_turning_here", "_law_mode", "_law_tree_here"] []:=F.binds fun _ _ _ _ _ _ us hl=>by obtain ⟨a1,a2,a3,rfl⟩:=ln3 hl;rfl
  obtain ⟨f2,oc2,od2,kV2,doc2,pm2,an2,cdv2,ct2,osl2,a2,lk2,c2,kp2⟩:=d26.ex
  have F2:=QY (st:=sMB) lk2 c2 kp2
  have hb2:Binds K _ ["_law_turning_here", "_law_term_here", "_law_tree_here"] []:=F2.binds fun _ _ _ _ _ _ us hl=>by obtain ⟨a1,a2,a3,rfl⟩:=ln3 hl;rfl
  exact ⟨f,_,(Ur F F2 G rLR hb hb2 (PySem.W.mg_of X N a) (PySem.W.mg_of X N a2) 12).1,hb,kp,PySem.W.mg_of X N a⟩
 have rMB:Fn l.prog w K mg base 17 "_law_made_by" ["_law_turning_here", "_law_term_here", "_law_tree_here"] (JS K 14):=by
  obtain ⟨f,oc,od,kV,doc,pm,an,cdv,ct,osl,a,lk,c,kp⟩:=d26.ex
  have F:=QY (st:=sMB) lk c kp
  have hb:Binds K _ ["_law_turning_here", "_law_term_here", "_law_tree_here"] []:=F.binds fun _ _ _ _ _ _ us hl=>by obtain ⟨a1,a2,a3,rfl⟩:=ln3 hl;rfl
  obtain ⟨f2,oc2,od2,kV2,doc2,pm2,an2,cdv2,ct2,osl2,a2,lk2,c2,kp2⟩:=d25.ex
  have F2:=QY (st:=Ja) lk2 c2 kp2
  have hb2:Binds K _ ["_law_turning_here", "_law_mode", "_law_tree_here"] []:=F2.binds fun _ _ _ _ _ _ us hl=>by obtain ⟨a1,a2,a3,rfl⟩:=ln3 hl;rfl
  exact ⟨f,_,(Ur F2 F G rLR hb2 hb (PySem.W.mg_of X N a2) (PySem.W.mg_of X N a) 14).2,hb,kp,PySem.W.mg_of X N a⟩
 have rTr:Fn l.prog w K mg base 5 "_law_tree" ["_law_deck", "_law_wood_here", "_law_kind", "_law_deep"] (Zw K 3):=by
  obtain ⟨f,oc,od,kV,doc,pm,an,cdv,ct,osl,a,lk,c,kp⟩:=d27.ex
  have F:=QY (st:=Jg) lk c kp
  have hb:Binds K _ ["_law_deck", "_law_wood_here", "_law_kind", "_law_deep"] []:=F.binds fun _ _ _ _ _ _ us hl=>by obtain ⟨a1,a2,a3,a4,rfl⟩:=ln4 hl;rfl
  exact ⟨f,_,Xn F G rD rK rR hb (PySem.W.mg_of X N a) 3,hb,kp,PySem.W.mg_of X N a⟩
 have rOu:Fn l.prog w K mg base 18 "_law_outcome" ["_law_turning_here", "_law_tree_here"] (YR K 14):=d28.fn X N (fun f fd F=>Mw F G rMB) fun _ _ _ _ _ _ us hl=>by obtain ⟨a1,a2,rfl⟩:=ln2 hl;rfl
 have rNI:Fn l.prog w K mg base 9 "_law_names_in" ["_law_tree_here"] (US K 8):=by
  obtain ⟨f,oc,od,kV,doc,pm,an,cdv,ct,osl,a,lk,c,kp⟩:=d29.ex
  have F:=QY (st:=GG) lk c kp
  have hb:Binds K _ ["_law_tree_here"] []:=F.binds fun _ _ _ _ _ _ us hl=>by obtain ⟨a1,rfl⟩:=ln1 hl;rfl
  exact ⟨f,_,WU F G hb (PySem.W.mg_of X N a) 8,hb,kp,PySem.W.mg_of X N a⟩
 have rPl:Fn l.prog w K mg base 51 "_law_plain_tree" ["_law_found"] (Z9 K 50):=by
  obtain ⟨f,oc,od,kV,doc,pm,an,cdv,ct,osl,a,lk,c,kp⟩:=d30.ex
  have F:=QY (st:=UP) lk c kp
  have hb:Binds K _ ["_law_found"] []:=F.binds fun _ _ _ _ _ _ us hl=>by obtain ⟨a1,rfl⟩:=ln1 hl;rfl
  exact ⟨f,_,Jj F G rWh hb (PySem.W.mg_of X N a) 50,hb,kp,PySem.W.mg_of X N a⟩
 have rIW:Fn l.prog w K mg base 52 "_law_is_want" ["_law_found"] (J7 K 50):=d31.fn X N (fun f fd F=>NQ F G rWh rPl) fun _ _ _ _ _ _ us hl=>by obtain ⟨a1,rfl⟩:=ln1 hl;rfl
 have rSm:Fn l.prog w K mg base 19 "_law_small" ["_law_deck", "_law_turning_here"] (Uk K):=d32.fn X N (fun f fd F=>GM F G rTr rNI rOu) fun _ _ _ _ _ _ us hl=>by obtain ⟨a1,a2,rfl⟩:=ln2 hl;rfl
 have rMe:Fn l.prog w K mg base 16 "_law_meets" ["_law_turning_here", "_law_want", "_law_tree_here"] (YI K 12):=d33.fn X N (fun f fd F=>Gc F G rMd) fun _ _ _ _ _ _ us hl=>by obtain ⟨a1,a2,a3,rfl⟩:=ln3 hl;rfl
 have rGo:Fn l.prog w K mg base 53 "_law_goes_on" ["_law_turning_here", "_law_handed", "_law_want", "_law_tree_here"] (Yv K):=d34.fn X N (fun f fd F=>Vn F G rHO rR rIW rMe) fun _ _ _ _ _ _ us hl=>by obtain ⟨a1,a2,a3,a4,rfl⟩:=ln4 hl;rfl
 exact NM F G rU rD rTu rW rCp rTr rMd rGo rMe rSm rWa rOu rIW
theorem walk {l:PySem.W.OpenLaw} {q:Program} {loose:List Str} {XP:(Str→Option Value)→Heap→Prop} {YP:World→Heap→Prop} {d:DefRec} {K:Params→PySem.W.Frag} (hn:l.most=some 63) (hdf:d.params.defaults=[])
 (hY:∀ (w:World) (h:Heap),YP w h→(K w.params).In h)
 (F:∀ (w:World) (mg:Str→Option Value) (fa:Addr) (h:Heap),(K w.params).In h→h.Ns mainGlobals mg→mg d.name=some (.ref fa) →
  ∃ fd:FuncData,(∀ (s:Shared) (u:Value),BindsTo s fd ⟨[u],[]⟩ [("_law_script", u)])∧∀ base:Heap,(K w.params).In base→base.Ns mainGlobals mg→FnOk l.prog w (K w.params) mg base CX0 54 fa fd ["_law_script"] (WW (K w.params))) :
 PySem.W.WalkO q loose XP YP l.row.toRowW d [] (fun f vs=>PySem.call f vs) :=
 L2.walk_of (n:=63) (k:=54) (x:="_law_script") (CX:=fun _=>CX0) (sp:=fun w=>WW (K w.params)) hn (by decide) hdf ⟨rfl,by decide,by decide⟩ hY F (fun _ _ a ns hl hO hS=>⟨a,ns,rfl,hS,hl,fun _=>rfl⟩) fun _ _ _ _ _ z=>z
end K71
section
open PySem
noncomputable def K71.vS (x:String) (n:Nat):Value:=.str (Str.ofString x) n
noncomputable def K71.vR (a:Nat):Value:=.ref a
noncomputable def K71.vI (i:Int) (n:Nat):Value:=.int i n
noncomputable def K71.hE (P:Params) (x:String) (n:Nat) (v:Value):DictEntry:=⟨PyData.keyHash P (Str.ofString x),.str (Str.ofString x) n,v⟩
noncomputable def K71.vN:Value:=.none
noncomputable def K71.vF:Value:=.type "function"
noncomputable def K71.vT:Value:=.bool true
noncomputable def K71.i0:Value:=.int 0 0
noncomputable def K71.i3:Value:=.int 3 0
noncomputable def K71.i1:Value:=.int 181 0
noncomputable def K71.cP (k:Nat):Value:=.str (Str.ofString "/claim/cut.py") k
noncomputable def K71.oT (x:Array Value):Obj:=Obj.mk (Value.type "tuple") none (Data.seq x) #[]
noncomputable def K71.oC (x:Array Value):Obj:=Obj.mk (Value.type "code") none (Data.fields x) #[]
noncomputable def K71.oF (c:Value) (x y:String) (s:Stmt) (k:Nat) (pm cd:Value):Obj:=Obj.mk c none (Data.func (FuncData.mk (Str.ofString x) (Str.ofString y) (L2.defArgs s) (.stmts (L2.defBody s)) (L2.defScope s) k [] Value.none Value.none Value.none pm none cd Value.none 0)) #[]
open K71
noncomputable def K71.oE:Obj:={ cls:=vN,data:=Data.fields #[] }
noncomputable def K71.x3 (P:Params):Obj:=Obj.mk (Value.type "dict") none (Data.dict #[hE P "__name__" 165 (2:),hE P "__doc__" 166 vN,hE P "__package__" 167 vN,hE P "__loader__" 168 (Value.builtin "__main__.__loader__#opaque"),hE P "__spec__" 169 vN,hE P "__annotations__" 170 (vR 6),hE P "__builtins__" 171 (vR 4),hE P "__file__" 173 (cP 172),hE P "__cached__" 174 vN,hE P "is_call" 195 (vR 21),hE P "mark_put" 203 (vR 28),hE P "rows_of" 213 (vR 35),hE P "row_of" 222 (vR 42),hE P "rule_of" 237 (vR 49),hE P "wanted" 248 (vR 56),hE P "handed_on" 258 (vR 63),hE P "fit_of" 271 (vR 70),hE P "Fit" 321 (vR 102),hE P "pairs_of" 327 (vR 111),hE P "_law_numbers" 335 (vR 116),hE P "_law_draw" 343 (vR 123),hE P "_law_mark" 351 (vR 130),hE P "_law_name" 366 (vR 137),hE P "_law_wood" 372 (vR 142),hE P "_law_rows" 378 (vR 147),hE P "_law_term" 393 (vR 154),hE P "_law_changed" 399 (vR 159),hE P "_law_calls" 410 (vR 166),hE P "_law_rule" 421 (vR 173),hE P "_law_turning" 439 (vR 180),hE P "_law_bare" 445 (vR 185),hE P "_law_copy" 451 (vR 190),hE P "_law_whole" 458 (vR 197),hE P "_law_rule_of" 464 (vR 202),hE P "_law_made" 473 (vR 209),hE P "_law_made_by" 479 (vR 214),hE P "_law_tree" 485 (vR 219),hE P "_law_outcome" 493 (vR 226),hE P "_law_names_in" 499 (vR 231),hE P "_law_plain_tree" 505 (vR 236),hE P "_law_is_want" 513 (vR 243),hE P "_law_told" 522 (vR 250),hE P "_law_spoiled" 534 (vR 257),hE P "_law_small" 544 (vR 264),hE P "_law_meets" 555 (vR 271),hE P "_law_goes_on" 561 (vR 276),hE P "law" 567 (vR 281)] 47) #[]
noncomputable def K71.x20 (P:Params):Obj:=oC #[vS "is_call" 189,vS "is_call" 190,cP 191,vI 2 0,vI 1 0,i0,i0,i3,vR 15,vT,i1,vR 16,vN,vR 17,vR 18,vR 19,vI 193 0,vI 2 0,cP 194]
noncomputable def K71.x21 (P:Params):Obj:=oF vF "is_call" "is_call" (top 1) 3 (vS "turnery.terms" 187) (vR 20)
noncomputable def K71.x27 (P:Params):Obj:=oC #[vS "mark_put" 196,vS "mark_put" 197,cP 198,vI 4 0,vI 2 0,i0,i0,i3,vR 22,vT,i1,vR 23,vN,vR 24,vR 25,vR 26,vI 201 0,vI 4 0,cP 202]
noncomputable def K71.x28 (P:Params):Obj:=oF vF "mark_put" "mark_put" (top 2) 3 (vS "turnery.terms" 187) (vR 27)
noncomputable def K71.x34 (P:Params):Obj:=oC #[vS "rows_of" 206,vS "rows_of" 207,cP 208,vI 7 0,vI 2 0,i0,i0,i3,vR 29,vT,i1,vR 30,vN,vR 31,vR 32,vR 33,vI 211 0,vI 7 0,cP 212]
noncomputable def K71.x35 (P:Params):Obj:=oF vF "rows_of" "rows_of" (top 4) 3 (vS "turnery.woods" 204) (vR 34)
noncomputable def K71.x38 (P:Params):Obj:=oT #[vS "wood" 217,vS "kind" 218,vS "name" 219]
noncomputable def K71.x41 (P:Params):Obj:=oC #[vS "row_of" 214,vS "row_of" 215,cP 216,vI 9 0,vI 3 0,i0,i0,i3,vR 36,vT,i1,vR 37,vN,vR 38,vR 39,vR 40,vI 220 0,vI 9 0,cP 221]
noncomputable def K71.x42 (P:Params):Obj:=oF vF "row_of" "row_of" (top 5) 3 (vS "turnery.woods" 204) (vR 41)
noncomputable def K71.x45 (P:Params):Obj:=oT #[vS "turning" 228,vS "mode" 229,vS "name" 230,vS "kind" 231,vS "rules" 232,vS "row" 233,vS "rule" 234]
noncomputable def K71.x48 (P:Params):Obj:=oC #[vS "rule_of" 225,vS "rule_of" 226,cP 227,vI 12 0,vI 3 0,i0,i0,i3,vR 43,vT,i1,vR 44,vN,vR 45,vR 46,vR 47,vI 235 0,vI 12 0,cP 236]
noncomputable def K71.x49 (P:Params):Obj:=oF vF "rule_of" "rule_of" (top 7) 3 (vS "turnery.turnings" 223) (vR 48)
noncomputable def K71.x52 (P:Params):Obj:=oT #[vS "turning" 243,vS "tree" 244,vS "fit" 245]
noncomputable def K71.x55 (P:Params):Obj:=oC #[vS "wanted" 240,vS "wanted" 241,cP 242,vI 20 0,vI 2 0,i0,i0,i3,vR 50,vT,i1,vR 51,vN,vR 52,vR 53,vR 54,vI 246 0,vI 20 0,cP 247]
noncomputable def K71.x56 (P:Params):Obj:=oF vF "wanted" "wanted" (top 9) 3 (vS "turnery.sources" 238) (vR 55)
noncomputable def K71.x59 (P:Params):Obj:=oT #[vS "turning" 252,vS "want" 253,vS "name" 254,vS "fit" 255]
noncomputable def K71.x62 (P:Params):Obj:=oC #[vS "handed_on" 249,vS "handed_on" 250,cP 251,vI 23 0,vI 3 0,i0,i0,i3,vR 57,vT,i1,vR 58,vN,vR 59,vR 60,vR 61,vI 256 0,vI 23 0,cP 257]
noncomputable def K71.x63 (P:Params):Obj:=oF vF "handed_on" "handed_on" (top 10) 3 (vS "turnery.sources" 238) (vR 62)
noncomputable def K71.x66 (P:Params):Obj:=oT #[vS "turning" 262,vS "want" 263,vS "name" 264,vS "kinds" 265,vS "fit" 266,vS "mode" 267,vS "tree" 268]
noncomputable def K71.x69 (P:Params):Obj:=oC #[vS "fit_of" 259,vS "fit_of" 260,cP 261,vI 26 0,vI 3 0,i0,i0,i3,vR 64,vT,i1,vR 65,vN,vR 66,vR 67,vR 68,vI 269 0,vI 26 0,cP 270]
noncomputable def K71.x70 (P:Params):Obj:=oF vF "fit_of" "fit_of" (top 11) 3 (vS "turnery.sources" 238) (vR 69)
noncomputable def K71.x81 (P:Params):Obj:=oC #[vS "__init__" 284,vS "Fit.__init__" 285,cP 286,vI 37 0,vI 2 0,i0,i0,i3,vR 78,vT,i1,vR 79,vN,vN,vN,vR 80,vI 287 0,vI 37 0,cP 288]
noncomputable def K71.x82 (P:Params):Obj:=oF vF "__init__" "Fit.__init__" (L2.inClass (top 12) 0) 3 (vS "turnery.sources" 238) (vR 81)
noncomputable def K71.x86 (P:Params):Obj:=oC #[vS "goes_onto" 290,vS "Fit.goes_onto" 291,cP 292,vI 42 0,vI 3 0,i0,i0,i3,vR 83,vT,i1,vR 84,vN,vN,vN,vR 85,vI 293 0,vI 42 0,cP 294]
noncomputable def K71.x87 (P:Params):Obj:=oF vF "goes_onto" "Fit.goes_onto" (L2.inClass (top 12) 1) 3 (vS "turnery.sources" 238) (vR 86)
noncomputable def K71.x90 (P:Params):Obj:=oT #[vS "self" 299,vS "term" 300,vS "mark" 301]
noncomputable def K71.x93 (P:Params):Obj:=oC #[vS "mark_goes" 296,vS "Fit.mark_goes" 297,cP 298,vI 49 0,vI 3 0,i0,i0,i3,vR 88,vT,i1,vR 89,vN,vR 90,vR 91,vR 92,vI 302 0,vI 49 0,cP 303]
noncomputable def K71.x94 (P:Params):Obj:=oF vF "mark_goes" "Fit.mark_goes" (L2.inClass (top 12) 2) 3 (vS "turnery.sources" 238) (vR 93)
noncomputable def K71.x98 (P:Params):Obj:=oC #[vS "handed" 305,vS "Fit.handed" 306,cP 307,vI 54 0,vI 1 0,i0,i0,i3,vR 95,vT,i1,vR 96,vN,vN,vN,vR 97,vI 308 0,vI 54 0,cP 309]
noncomputable def K71.x99 (P:Params):Obj:=oF vF "handed" "Fit.handed" (L2.inClass (top 12) 3) 3 (vS "turnery.sources" 238) (vR 98)
noncomputable def K71.x100 (P:Params):Obj:=oT #[vS "kinds" 311,vS "mark" 312,vS "needed" 313]
noncomputable def K71.x101 (P:Params):Obj:=Obj.mk (Value.type "dict") none (Data.dict #[hE P "__module__" 279 (vS "turnery.sources" 238),hE P "__firstlineno__" 283 (vI 35 282),hE P "__init__" 289 (vR 82),hE P "goes_onto" 295 (vR 87),hE P "mark_goes" 304 (vR 94),hE P "handed" 310 (vR 99),hE P "__static_attributes__" 314 (vR 100),hE P "__dict__" 316 (vR 103),hE P "__weakref__" 318 (vR 104),hE P "__doc__" 319 vN] 4) #[]
noncomputable def K71.x102 (P:Params):Obj:=Obj.mk (Value.type "type") none (Data.cls (ClassData.mk (Str.ofString "Fit") [Value.type "object"] [vR 102,Value.type "object"] 101 (Str.ofString "Fit") true [] [] false none false)) #[none,none,some (vS "Fit" 272),some (vS "Fit" 280),some (Value.builtin "object.__new__"),some (Value.bool true)]
noncomputable def K71.x103 (P:Params):Obj:=Obj.mk (Value.type "getset_descriptor") none (Data.fields #[vS "__dict__" 315,vR 102,Value.builtin "function.__dict__", Value.builtin "function.__dict__#set"]) #[]
noncomputable def K71.x104 (P:Params):Obj:=Obj.mk (Value.type "getset_descriptor") none (Data.fields #[vS "__weakref__" 317,vR 102,Value.builtin "ExceptionGroup.__weakref__", vN]) #[]
noncomputable def K71.x110 (P:Params):Obj:=oC #[vS "pairs_of" 322,vS "pairs_of" 323,cP 324,vI 56 0,vI 1 0,i0,i0,i3,vR 107,vT,i1,vR 108,vN,vN,vN,vR 109,vI 325 0,vI 56 0,cP 326]
noncomputable def K71.x111 (P:Params):Obj:=oF vF "pairs_of" "pairs_of" (top 13) 3 (vS "turnery.sources" 238) (vR 110)
noncomputable def K71.x115 (P:Params):Obj:=oC #[vS "_law_numbers" 330,vS "_law_numbers" 331,cP 332,vI 59 0,vI 2 0,i0,i0,i3,vR 112,vT,i1,vR 113,vN,vN,vN,vR 114,vI 333 0,vI 59 0,cP 334]
noncomputable def K71.x116 (P:Params):Obj:=oF vF "_law_numbers" "_law_numbers" (top 15) 3 (2:) (vR 115)
noncomputable def K71.x119 (P:Params):Obj:=oT #[vS "_law_deck" 339,vS "_law_most" 340]
noncomputable def K71.x122 (P:Params):Obj:=oC #[vS "_law_draw" 336,vS "_law_draw" 337,cP 338,vI 66 0,vI 2 0,i0,i0,i3,vR 117,vT,i1,vR 118,vN,vR 119,vR 120,vR 121,vI 341 0,vI 66 0,cP 342]
noncomputable def K71.x123 (P:Params):Obj:=oF vF "_law_draw" "_law_draw" (top 16) 3 (2:) (vR 122)
noncomputable def K71.x126 (P:Params):Obj:=oT #[vS "_law_deck" 347,vS "_law_number" 348]
noncomputable def K71.x129 (P:Params):Obj:=oC #[vS "_law_mark" 344,vS "_law_mark" 345,cP 346,vI 70 0,vI 1 0,i0,i0,i3,vR 124,vT,i1,vR 125,vN,vR 126,vR 127,vR 128,vI 349 0,vI 70 0,cP 350]
noncomputable def K71.x130 (P:Params):Obj:=oF vF "_law_mark" "_law_mark" (top 17) 3 (2:) (vR 129)
noncomputable def K71.x133 (P:Params):Obj:=oT #[vS "_law_code" 355,vS "_law_k" 356,vS "_law_letters" 357,vS "_law_first" 358,vS "_law_long" 359,vS "_law_told_here" 360,vS "_law_name_here" 361,vS "_law_j" 362,vS "_law_step" 363]
noncomputable def K71.x136 (P:Params):Obj:=oC #[vS "_law_name" 352,vS "_law_name" 353,cP 354,vI 75 0,vI 2 0,i0,i0,i3,vR 131,vT,i1,vR 132,vN,vR 133,vR 134,vR 135,vI 364 0,vI 75 0,cP 365]
noncomputable def K71.x137 (P:Params):Obj:=oF vF "_law_name" "_law_name" (top 18) 3 (2:) (vR 136)
noncomputable def K71.x141 (P:Params):Obj:=oC #[vS "_law_wood" 367,vS "_law_wood" 368,cP 369,vI 89 0,vI 2 0,i0,i0,i3,vR 138,vT,i1,vR 139,vN,vN,vN,vR 140,vI 370 0,vI 89 0,cP 371]
noncomputable def K71.x142 (P:Params):Obj:=oF vF "_law_wood" "_law_wood" (top 19) 3 (2:) (vR 141)
noncomputable def K71.x146 (P:Params):Obj:=oC #[vS "_law_rows" 373,vS "_law_rows" 374,cP 375,vI 100 0,vI 2 0,i0,i0,i3,vR 143,vT,i1,vR 144,vN,vN,vN,vR 145,vI 376 0,vI 100 0,cP 377]
noncomputable def K71.x147 (P:Params):Obj:=oF vF "_law_rows" "_law_rows" (top 20) 3 (2:) (vR 146)
noncomputable def K71.x150 (P:Params):Obj:=oT #[vS "_law_deck" 382,vS "_law_code" 383,vS "_law_calls_here" 384,vS "_law_deep" 385,vS "_law_pick" 386,vS "_law_parts" 387,vS "_law_count" 388,vS "_law_k" 389,vS "_law_name_here" 390]
noncomputable def K71.x153 (P:Params):Obj:=oC #[vS "_law_term" 379,vS "_law_term" 380,cP 381,vI 102 0,vI 4 0,i0,i0,i3,vR 148,vT,i1,vR 149,vN,vR 150,vR 151,vR 152,vI 391 0,vI 102 0,cP 392]
noncomputable def K71.x154 (P:Params):Obj:=oF vF "_law_term" "_law_term" (top 21) 3 (2:) (vR 153)
noncomputable def K71.x158 (P:Params):Obj:=oC #[vS "_law_changed" 394,vS "_law_changed" 395,cP 396,vI 113 0,vI 4 0,i0,i0,i3,vR 155,vT,i1,vR 156,vN,vN,vN,vR 157,vI 397 0,vI 113 0,cP 398]
noncomputable def K71.x159 (P:Params):Obj:=oF vF "_law_changed" "_law_changed" (top 22) 3 (2:) (vR 158)
noncomputable def K71.x162 (P:Params):Obj:=oT #[vS "_law_kinds" 403,vS "_law_branches" 404,vS "_law_found" 405,vS "_law_k" 406,vS "_law_j" 407]
noncomputable def K71.x165 (P:Params):Obj:=oC #[vS "_law_calls" 400,vS "_law_calls" 401,cP 402,vI 122 0,vI 2 0,i0,i0,i3,vR 160,vT,i1,vR 161,vN,vR 162,vR 163,vR 164,vI 408 0,vI 122 0,cP 409]
noncomputable def K71.x166 (P:Params):Obj:=oF vF "_law_calls" "_law_calls" (top 23) 3 (2:) (vR 165)
noncomputable def K71.x169 (P:Params):Obj:=oT #[vS "_law_deck" 414,vS "_law_code" 415,vS "_law_base" 416,vS "_law_calls_here" 417,vS "_law_way" 418]
noncomputable def K71.x172 (P:Params):Obj:=oC #[vS "_law_rule" 411,vS "_law_rule" 412,cP 413,vI 129 0,vI 4 0,i0,i0,i3,vR 167,vT,i1,vR 168,vN,vR 169,vR 170,vR 171,vI 419 0,vI 129 0,cP 420]
noncomputable def K71.x173 (P:Params):Obj:=oF vF "_law_rule" "_law_rule" (top 24) 3 (2:) (vR 172)
noncomputable def K71.x176 (P:Params):Obj:=oT #[vS "_law_deck" 425,vS "_law_code" 426,vS "_law_wood_here" 427,vS "_law_kinds" 428,vS "_law_k" 429,vS "_law_modes" 430,vS "_law_kind" 431,vS "_law_base" 432,vS "_law_rules" 433,vS "_law_name_here" 434,vS "_law_branches" 435,vS "_law_start" 436]
noncomputable def K71.x179 (P:Params):Obj:=oC #[vS "_law_turning" 422,vS "_law_turning" 423,cP 424,vI 136 0,vI 3 0,i0,i0,i3,vR 174,vT,i1,vR 175,vN,vR 176,vR 177,vR 178,vI 437 0,vI 136 0,cP 438]
noncomputable def K71.x180 (P:Params):Obj:=oF vF "_law_turning" "_law_turning" (top 25) 3 (2:) (vR 179)
noncomputable def K71.x184 (P:Params):Obj:=oC #[vS "_law_bare" 440,vS "_law_bare" 441,cP 442,vI 149 0,vI 1 0,i0,i0,i3,vR 181,vT,i1,vR 182,vN,vN,vN,vR 183,vI 443 0,vI 149 0,cP 444]
noncomputable def K71.x185 (P:Params):Obj:=oF vF "_law_bare" "_law_bare" (top 26) 3 (2:) (vR 184)
noncomputable def K71.x189 (P:Params):Obj:=oC #[vS "_law_copy" 446,vS "_law_copy" 447,cP 448,vI 153 0,vI 1 0,i0,i0,i3,vR 186,vT,i1,vR 187,vN,vN,vN,vR 188,vI 449 0,vI 153 0,cP 450]
noncomputable def K71.x190 (P:Params):Obj:=oF vF "_law_copy" "_law_copy" (top 27) 3 (2:) (vR 189)
noncomputable def K71.x196 (P:Params):Obj:=oC #[vS "_law_whole" 452,vS "_law_whole" 453,cP 454,vI 156 0,vI 1 0,i0,i0,i3,vR 191,vT,i1,vR 192,vN,vR 193,vR 194,vR 195,vI 456 0,vI 156 0,cP 457]
noncomputable def K71.x197 (P:Params):Obj:=oF vF "_law_whole" "_law_whole" (top 28) 3 (2:) (vR 196)
noncomputable def K71.x201 (P:Params):Obj:=oC #[vS "_law_rule_of" 459,vS "_law_rule_of" 460,cP 461,vI 158 0,vI 3 0,i0,i0,i3,vR 198,vT,i1,vR 199,vN,vN,vN,vR 200,vI 462 0,vI 158 0,cP 463]
noncomputable def K71.x202 (P:Params):Obj:=oF vF "_law_rule_of" "_law_rule_of" (top 29) 3 (2:) (vR 201)
noncomputable def K71.x205 (P:Params):Obj:=oT #[vS "_law_turning_here" 468,vS "_law_mode" 469,vS "_law_tree_here" 470]
noncomputable def K71.x208 (P:Params):Obj:=oC #[vS "_law_made" 465,vS "_law_made" 466,cP 467,vI 161 0,vI 3 0,i0,i0,i3,vR 203,vT,i1,vR 204,vN,vR 205,vR 206,vR 207,vI 471 0,vI 161 0,cP 472]
noncomputable def K71.x209 (P:Params):Obj:=oF vF "_law_made" "_law_made" (top 30) 3 (2:) (vR 208)
noncomputable def K71.x213 (P:Params):Obj:=oC #[vS "_law_made_by" 474,vS "_law_made_by" 475,cP 476,vI 163 0,vI 3 0,i0,i0,i3,vR 210,vT,i1,vR 211,vN,vN,vN,vR 212,vI 477 0,vI 163 0,cP 478]
noncomputable def K71.x214 (P:Params):Obj:=oF vF "_law_made_by" "_law_made_by" (top 31) 3 (2:) (vR 213)
noncomputable def K71.x218 (P:Params):Obj:=oC #[vS "_law_tree" 480,vS "_law_tree" 481,cP 482,vI 168 0,vI 4 0,i0,i0,i3,vR 215,vT,i1,vR 216,vN,vN,vN,vR 217,vI 483 0,vI 168 0,cP 484]
noncomputable def K71.x219 (P:Params):Obj:=oF vF "_law_tree" "_law_tree" (top 32) 3 (2:) (vR 218)
noncomputable def K71.x222 (P:Params):Obj:=oT #[vS "_law_turning_here" 489,vS "_law_tree_here" 490]
noncomputable def K71.x225 (P:Params):Obj:=oC #[vS "_law_outcome" 486,vS "_law_outcome" 487,cP 488,vI 175 0,vI 2 0,i0,i0,i3,vR 220,vT,i1,vR 221,vN,vR 222,vR 223,vR 224,vI 491 0,vI 175 0,cP 492]
noncomputable def K71.x226 (P:Params):Obj:=oF vF "_law_outcome" "_law_outcome" (top 33) 3 (2:) (vR 225)
noncomputable def K71.x230 (P:Params):Obj:=oC #[vS "_law_names_in" 494,vS "_law_names_in" 495,cP 496,vI 177 0,vI 1 0,i0,i0,i3,vR 227,vT,i1,vR 228,vN,vN,vN,vR 229,vI 497 0,vI 177 0,cP 498]
noncomputable def K71.x231 (P:Params):Obj:=oF vF "_law_names_in" "_law_names_in" (top 34) 3 (2:) (vR 230)
noncomputable def K71.x235 (P:Params):Obj:=oC #[vS "_law_plain_tree" 500,vS "_law_plain_tree" 501,cP 502,vI 179 0,vI 1 0,i0,i0,i3,vR 232,vT,i1,vR 233,vN,vN,vN,vR 234,vI 503 0,vI 179 0,cP 504]
noncomputable def K71.x236 (P:Params):Obj:=oF vF "_law_plain_tree" "_law_plain_tree" (top 35) 3 (2:) (vR 235)
noncomputable def K71.x239 (P:Params):Obj:=oT #[vS "_law_found" 509,vS "_law_pair" 510]
noncomputable def K71.x242 (P:Params):Obj:=oC #[vS "_law_is_want" 506,vS "_law_is_want" 507,cP 508,vI 185 0,vI 1 0,i0,i0,i3,vR 237,vT,i1,vR 238,vN,vR 239,vR 240,vR 241,vI 511 0,vI 185 0,cP 512]
noncomputable def K71.x243 (P:Params):Obj:=oF vF "_law_is_want" "_law_is_want" (top 36) 3 (2:) (vR 242)
noncomputable def K71.x260 (P:Params):Obj:=oT #[vS "_law_deck" 538,vS "_law_turning_here" 539,vS "_law_deep" 540,vS "_law_tree_here" 541]
noncomputable def K71.x263 (P:Params):Obj:=oC #[vS "_law_small" 535,vS "_law_small" 536,cP 537,vI 218 0,vI 2 0,i0,i0,i3,vR 258,vT,i1,vR 259,vN,vR 260,vR 261,vR 262,vI 542 0,vI 218 0,cP 543]
noncomputable def K71.x264 (P:Params):Obj:=oF vF "_law_small" "_law_small" (top 39) 3 (2:) (vR 263)
noncomputable def K71.x267 (P:Params):Obj:=oT #[vS "_law_turning_here" 548,vS "_law_want" 549,vS "_law_tree_here" 550,vS "_law_mode" 551,vS "_law_part" 552]
noncomputable def K71.x270 (P:Params):Obj:=oC #[vS "_law_meets" 545,vS "_law_meets" 546,cP 547,vI 224 0,vI 3 0,i0,i0,i3,vR 265,vT,i1,vR 266,vN,vR 267,vR 268,vR 269,vI 553 0,vI 224 0,cP 554]
noncomputable def K71.x271 (P:Params):Obj:=oF vF "_law_meets" "_law_meets" (top 40) 3 (2:) (vR 270)
noncomputable def K71.x275 (P:Params):Obj:=oC #[vS "_law_goes_on" 556,vS "_law_goes_on" 557,cP 558,vI 229 0,vI 4 0,i0,i0,i3,vR 272,vT,i1,vR 273,vN,vN,vN,vR 274,vI 559 0,vI 229 0,cP 560]
noncomputable def K71.x276 (P:Params):Obj:=oF vF "_law_goes_on" "_law_goes_on" (top 41) 3 (2:) (vR 275)
noncomputable def K71.x280 (P:Params):Obj:=oC #[vS "law" 562,vS "law" 563,cP 564,vI 238 0,vI 1 0,i0,i0,i3,vR 277,vT,i1,vR 278,vN,vN,vN,vR 279,vI 565 0,vI 238 0,cP 566]
noncomputable def K71.x281 (P:Params):Obj:=oF vF "law" "law" (top 42) 3 (2:) (vR 280)
noncomputable def K71.hp:Params→PySem.W.Frag:=fun P=>[(2,Obj.mk vN none (Data.dict #[]) #[]),(3,x3 P),(15,oT #[]),(17,oT #[vS "term" 192]),(18,oT #[]),(20,x20 P),(21,x21 P),(22,oT #[]),(24,oT #[vS "term" 199,vS "mark" 200]),(25,oT #[]),(27,x27 P),(28,x28 P),(29,oT #[]),(31,oT #[vS "wood" 209,vS "kind" 210]),(32,oT #[]),(34,x34 P),(35,x35 P),(36,oT #[]),(38,x38 P),(39,oT #[]),(41,x41 P),(42,x42 P),(43,oT #[]),(45,x45 P),(46,oT #[]),(48,x48 P),(49,x49 P),(50,oT #[]),(52,x52 P),(53,oT #[]),(55,x55 P),(56,x56 P),(57,oT #[]),(59,x59 P),(60,oT #[]),(62,x62 P),(63,x63 P),(64,oT #[]),(66,x66 P),(67,oT #[]),(69,x69 P),(70,x70 P),(78,oT #[]),(81,x81 P),(82,x82 P),(83,oT #[]),(86,x86 P),(87,x87 P),(88,oT #[]),(90,x90 P),(91,oT #[]),(93,x93 P),(94,x94 P),(95,oT #[]),(98,x98 P),(99,x99 P),(100,x100 P),(101,x101 P),(102,x102 P),(103,x103 P),(104,x104 P),(107,oT #[]),(110,x110 P),(111,x111 P),(112,oT #[]),(115,x115 P),(116,x116 P),(117,oT #[]),(119,x119 P),(120,oT #[]),(122,x122 P),(123,x123 P),(124,oT #[]),(126,x126 P),(127,oT #[]),(129,x129 P),(130,x130 P),(131,oT #[]),(133,x133 P),(134,oT #[]),(136,x136 P),(137,x137 P),(138,oT #[]),(141,x141 P),(142,x142 P),(143,oT #[]),(146,x146 P),(147,x147 P),(148,oT #[]),(150,x150 P),(151,oT #[]),(153,x153 P),(154,x154 P),(155,oT #[]),(158,x158 P),(159,x159 P),(160,oT #[]),(162,x162 P),(163,oT #[]),(165,x165 P),(166,x166 P),(167,oT #[]),(169,x169 P),(170,oT #[]),(172,x172 P),(173,x173 P),(174,oT #[]),(176,x176 P),(177,oT #[]),(179,x179 P),(180,x180 P),(181,oT #[]),(184,x184 P),(185,x185 P),(186,oT #[]),(189,x189 P),(190,x190 P),(191,oT #[]),(193,oT #[vS "_law_found" 455]),(194,oT #[]),(196,x196 P),(197,x197 P),(198,oT #[]),(201,x201 P),(202,x202 P),(203,oT #[]),(205,x205 P),(206,oT #[]),(208,x208 P),(209,x209 P),(210,oT #[]),(213,x213 P),(214,x214 P),(215,oT #[]),(218,x218 P),(219,x219 P),(220,oT #[]),(222,x222 P),(223,oT #[]),(225,x225 P),(226,x226 P),(227,oT #[]),(230,x230 P),(231,x231 P),(232,oT #[]),(235,x235 P),(236,x236 P),(237,oT #[]),(239,x239 P),(240,oT #[]),(242,x242 P),(243,x243 P),(258,oT #[]),(260,x260 P),(261,oT #[]),(263,x263 P),(264,x264 P),(265,oT #[]),(267,x267 P),(268,oT #[]),(270,x270 P),(271,x271 P),(272,oT #[]),(275,x275 P),(276,x276 P),(277,oT #[]),(280,x280 P),(281,x281 P)]
end
noncomputable def PySem.W.Fast.tw4892514971409104923:PySem.Params→PySem.W.Frag:=K71.hp
theorem PySem.W.Fast.te4892514971409104923:K71.hp=PySem.W.Fast.tw4892514971409104923:=rfl
namespace PySem.W.Fast
open PySem K71
noncomputable def tw6509778928416517455:Params→Obj:=fun P=>oF vF "_law_made" "_law_made" (top 30) 3 (2:) (vR 208)
theorem te6509778928416517455:tw6509778928416517455=tw6509778928416517455:=rfl
noncomputable def tw7651432338017178063:Params→Obj:=fun P=>oF vN "_law_rows" "_law_rows" (top 20) 0 vN vN
theorem te7651432338017178063:tw7651432338017178063=tw7651432338017178063:=rfl
noncomputable def tw12796980814359766179:Params→Obj:=fun P=>oF vF "goes_onto" "Fit.goes_onto" (L2.inClass (top 12) 1) 3 (vS "turnery.sources" 238) (vR 86)
theorem te12796980814359766179:tw12796980814359766179=tw12796980814359766179:=rfl
noncomputable def tw8779122878190449657:Params→Obj:=fun P=>oF vN "_law_rule_of" "_law_rule_of" (top 29) 0 vN vN
theorem te8779122878190449657:tw8779122878190449657=tw8779122878190449657:=rfl
noncomputable def tw3489113151451411459:Params→Obj:=fun P=>oF vN "_law_numbers" "_law_numbers" (top 15) 0 vN vN
theorem te3489113151451411459:tw3489113151451411459=tw3489113151451411459:=rfl
noncomputable def tw7359207011297847111:Params→Obj:=fun P=>oF vN "law" "law" (top 42) 0 vN vN
theorem te7359207011297847111:tw7359207011297847111=tw7359207011297847111:=rfl
noncomputable def tw2328388757292418397:Params→Obj:=fun P=>oF vF "handed" "Fit.handed" (L2.inClass (top 12) 3) 3 (vS "turnery.sources" 238) (vR 98)
theorem te2328388757292418397:tw2328388757292418397=tw2328388757292418397:=rfl
noncomputable def tw16937811210671303007:Params→Obj:=fun P=>oF vF "__init__" "Fit.__init__" (L2.inClass (top 12) 0) 3 (vS "turnery.sources" 238) (vR 81)
theorem te16937811210671303007:tw16937811210671303007=tw16937811210671303007:=rfl
noncomputable def tw10477881677117375820:Params→Obj:=fun P=>oF vN "_law_whole" "_law_whole" (top 28) 0 vN vN
theorem te10477881677117375820:tw10477881677117375820=tw10477881677117375820:=rfl
noncomputable def tw7361969814301163981:Params→Obj:=fun P=>oF vN "_law_told" "_law_told" (top 37) 0 vN vN
theorem te7361969814301163981:tw7361969814301163981=tw7361969814301163981:=rfl
noncomputable def tw17167774717498888441:Params→Obj:=fun P=>oF vF "_law_mark" "_law_mark" (top 17) 3 (2:) (vR 129)
theorem te17167774717498888441:tw17167774717498888441=tw17167774717498888441:=rfl
noncomputable def tw7207498816370225496:Params→Obj:=fun P=>oF vN "_law_is_want" "_law_is_want" (top 36) 0 vN vN
theorem te7207498816370225496:tw7207498816370225496=tw7207498816370225496:=rfl
noncomputable def tw11831236127706267957:Params→Obj:=fun P=>oF vF "_law_calls" "_law_calls" (top 23) 3 (2:) (vR 165)
theorem te11831236127706267957:tw11831236127706267957=tw11831236127706267957:=rfl
noncomputable def tw3898159103585172420:Params→Obj:=fun P=>oF vN "_law_copy" "_law_copy" (top 27) 0 vN vN
theorem te3898159103585172420:tw3898159103585172420=tw3898159103585172420:=rfl
noncomputable def tw2075188645047654465:Params→Obj:=fun P=>oF vN "_law_bare" "_law_bare" (top 26) 0 vN vN
theorem te2075188645047654465:tw2075188645047654465=tw2075188645047654465:=rfl
noncomputable def tw12731288531238607435:Params→Obj:=fun P=>oF vF "_law_name" "_law_name" (top 18) 3 (2:) (vR 136)
theorem te12731288531238607435:tw12731288531238607435=tw12731288531238607435:=rfl
noncomputable def tw15845201730656674150:Params→Obj:=fun P=>oF vF "_law_tree" "_law_tree" (top 32) 3 (2:) (vR 218)
theorem te15845201730656674150:tw15845201730656674150=tw15845201730656674150:=rfl
noncomputable def tw2892716380851710771:Params→Obj:=fun P=>oF vN "is_call" "is_call" (top 1) 0 vN vN
theorem te2892716380851710771:tw2892716380851710771=tw2892716380851710771:=rfl
noncomputable def tw9351507293235261108:Params→Obj:=fun P=>oF vN "_law_calls" "_law_calls" (top 23) 0 vN vN
theorem te9351507293235261108:tw9351507293235261108=tw9351507293235261108:=rfl
noncomputable def tw6314846131662172381:Params→Obj:=fun P=>oF vN "_law_term" "_law_term" (top 21) 0 vN vN
theorem te6314846131662172381:tw6314846131662172381=tw6314846131662172381:=rfl
noncomputable def tw1264902488415429123:Params→Obj:=fun P=>oF vF "pairs_of" "pairs_of" (top 13) 3 (vS "turnery.sources" 238) (vR 110)
theorem te1264902488415429123:tw1264902488415429123=tw1264902488415429123:=rfl
noncomputable def tw13792011053833285845:Params→Obj:=fun P=>oF vN "_law_small" "_law_small" (top 39) 0 vN vN
theorem te13792011053833285845:tw13792011053833285845=tw13792011053833285845:=rfl
noncomputable def tw185200822962382886:Params→Obj:=fun P=>oF vN "mark_goes" "Fit.mark_goes" (L2.inClass (top 12) 2) 0 vN vN
theorem te185200822962382886:tw185200822962382886=tw185200822962382886:=rfl
noncomputable def tw10441007732651772667:Params→Obj:=fun P=>oF vN "_law_names_in" "_law_names_in" (top 34) 0 vN vN
theorem te10441007732651772667:tw10441007732651772667=tw10441007732651772667:=rfl
noncomputable def tw8468291824071119841:Params→Obj:=fun P=>oF vN "_law_made" "_law_made" (top 30) 0 vN vN
theorem te8468291824071119841:tw8468291824071119841=tw8468291824071119841:=rfl
noncomputable def tw10518980491171833452:Params→Obj:=fun P=>oF vN "_law_meets" "_law_meets" (top 40) 0 vN vN
theorem te10518980491171833452:tw10518980491171833452=tw10518980491171833452:=rfl
noncomputable def tw8773463402392157957:Params→Obj:=fun P=>oF vN "rows_of" "rows_of" (top 4) 0 vN vN
theorem te8773463402392157957:tw8773463402392157957=tw8773463402392157957:=rfl
noncomputable def tw6394035606628754414:Params→Obj:=fun P=>oF vN "handed_on" "handed_on" (top 10) 0 vN vN
theorem te6394035606628754414:tw6394035606628754414=tw6394035606628754414:=rfl
noncomputable def tw9301357355720348097:Params→Obj:=fun P=>oF vF "_law_outcome" "_law_outcome" (top 33) 3 (2:) (vR 225)
theorem te9301357355720348097:tw9301357355720348097=tw9301357355720348097:=rfl
noncomputable def tw5101258340679687666:Params→Obj:=fun P=>oF vF "_law_rows" "_law_rows" (top 20) 3 (2:) (vR 146)
theorem te5101258340679687666:tw5101258340679687666=tw5101258340679687666:=rfl
noncomputable def tw2296991906871948707:Params→Obj:=fun P=>oF vN "pairs_of" "pairs_of" (top 13) 0 vN vN
theorem te2296991906871948707:tw2296991906871948707=tw2296991906871948707:=rfl
noncomputable def tw1668713585374014455:Params→Obj:=fun P=>oF vF "_law_spoiled" "_law_spoiled" (top 38) 3 (2:) (vR 256)
theorem te1668713585374014455:tw1668713585374014455=tw1668713585374014455:=rfl
noncomputable def tw6946123989821881412:Params→Obj:=fun P=>oF vF "_law_rule_of" "_law_rule_of" (top 29) 3 (2:) (vR 201)
theorem te6946123989821881412:tw6946123989821881412=tw6946123989821881412:=rfl
noncomputable def tw14670883548606970515:Params→Obj:=fun P=>oF vF "_law_changed" "_law_changed" (top 22) 3 (2:) (vR 158)
theorem te14670883548606970515:tw14670883548606970515=tw14670883548606970515:=rfl
noncomputable def tw2727822452405011959:Params→Obj:=fun P=>oF vF "law" "law" (top 42) 3 (2:) (vR 280)
theorem te2727822452405011959:tw2727822452405011959=tw2727822452405011959:=rfl
noncomputable def tw626342781292894086:Params→Obj:=fun P=>oF vF "rows_of" "rows_of" (top 4) 3 (vS "turnery.woods" 204) (vR 34)
theorem te626342781292894086:tw626342781292894086=tw626342781292894086:=rfl
noncomputable def tw16008039662389287053:Params→Obj:=fun P=>oF vN "rule_of" "rule_of" (top 7) 0 vN vN
theorem te16008039662389287053:tw16008039662389287053=tw16008039662389287053:=rfl
noncomputable def tw14591683445105009161:Params→Obj:=fun P=>oF vF "_law_numbers" "_law_numbers" (top 15) 3 (2:) (vR 115)
theorem te14591683445105009161:tw14591683445105009161=tw14591683445105009161:=rfl
noncomputable def tw6893361019714776004:Params→Obj:=fun P=>oF vF "_law_turning" "_law_turning" (top 25) 3 (2:) (vR 179)
theorem te6893361019714776004:tw6893361019714776004=tw6893361019714776004:=rfl
noncomputable def tw14824576885208290905:Params→Obj:=fun P=>oF vF "_law_wood" "_law_wood" (top 19) 3 (2:) (vR 141)
theorem te14824576885208290905:tw14824576885208290905=tw14824576885208290905:=rfl
noncomputable def tw6712678687697544799:Params→Obj:=fun P=>oF vF "_law_draw" "_law_draw" (top 16) 3 (2:) (vR 122)
theorem te6712678687697544799:tw6712678687697544799=tw6712678687697544799:=rfl
noncomputable def tw13223784826333496950:Params→Obj:=fun P=>oF vN "_law_turning" "_law_turning" (top 25) 0 vN vN
theorem te13223784826333496950:tw13223784826333496950=tw13223784826333496950:=rfl
noncomputable def tw758390221732764546:Params→Obj:=fun P=>oF vF "_law_whole" "_law_whole" (top 28) 3 (2:) (vR 196)
theorem te758390221732764546:tw758390221732764546=tw758390221732764546:=rfl
noncomputable def tw2219983322240043979:Params→Obj:=fun P=>oF vN "handed" "Fit.handed" (L2.inClass (top 12) 3) 0 vN vN
theorem te2219983322240043979:tw2219983322240043979=tw2219983322240043979:=rfl
noncomputable def tw2008540954923666111:Params→Obj:=fun P=>oF vF "_law_names_in" "_law_names_in" (top 34) 3 (2:) (vR 230)
theorem te2008540954923666111:tw2008540954923666111=tw2008540954923666111:=rfl
noncomputable def tw12380654825103160194:Params→Obj:=fun P=>oF vF "rule_of" "rule_of" (top 7) 3 (vS "turnery.turnings" 223) (vR 48)
theorem te12380654825103160194:tw12380654825103160194=tw12380654825103160194:=rfl
noncomputable def tw12132583990182652283:Params→Obj:=fun P=>oF vN "_law_rule" "_law_rule" (top 24) 0 vN vN
theorem te12132583990182652283:tw12132583990182652283=tw12132583990182652283:=rfl
noncomputable def tw16052348598755311096:Params→Obj:=fun P=>oF vF "_law_made_by" "_law_made_by" (top 31) 3 (2:) (vR 213)
theorem te16052348598755311096:tw16052348598755311096=tw16052348598755311096:=rfl
noncomputable def tw1791051061148093294:Params→Obj:=fun P=>oF vF "is_call" "is_call" (top 1) 3 (vS "turnery.terms" 187) (vR 20)
theorem te1791051061148093294:tw1791051061148093294=tw1791051061148093294:=rfl
noncomputable def tw5914043378431349835:Params→Obj:=fun P=>oF vF "_law_copy" "_law_copy" (top 27) 3 (2:) (vR 189)
theorem te5914043378431349835:tw5914043378431349835=tw5914043378431349835:=rfl
noncomputable def tw8201197445212096617:Params→Obj:=fun P=>oF vN "mark_put" "mark_put" (top 2) 0 vN vN
theorem te8201197445212096617:tw8201197445212096617=tw8201197445212096617:=rfl
noncomputable def tw14345048061195896568:Params→Obj:=fun P=>oF vN "_law_name" "_law_name" (top 18) 0 vN vN
theorem te14345048061195896568:tw14345048061195896568=tw14345048061195896568:=rfl
noncomputable def tw17010614115046170251:Params→Obj:=fun P=>oF vF "handed_on" "handed_on" (top 10) 3 (vS "turnery.sources" 238) (vR 62)
theorem te17010614115046170251:tw17010614115046170251=tw17010614115046170251:=rfl
noncomputable def tw239714048757789460:Params→Obj:=fun P=>oF vF "_law_rule" "_law_rule" (top 24) 3 (2:) (vR 172)
theorem te239714048757789460:tw239714048757789460=tw239714048757789460:=rfl
noncomputable def tw9984082945122455989:Params→Obj:=fun P=>oF vN "_law_outcome" "_law_outcome" (top 33) 0 vN vN
theorem te9984082945122455989:tw9984082945122455989=tw9984082945122455989:=rfl
noncomputable def tw12511264062484220211:Params→Obj:=fun P=>oF vN "__init__" "Fit.__init__" (L2.inClass (top 12) 0) 0 vN vN
theorem te12511264062484220211:tw12511264062484220211=tw12511264062484220211:=rfl
noncomputable def tw13975663237527712808:Params→Obj:=fun P=>oF vN "goes_onto" "Fit.goes_onto" (L2.inClass (top 12) 1) 0 vN vN
theorem te13975663237527712808:tw13975663237527712808=tw13975663237527712808:=rfl
noncomputable def tw17175804082674793776:Params→Obj:=fun P=>oF vF "_law_meets" "_law_meets" (top 40) 3 (2:) (vR 270)
theorem te17175804082674793776:tw17175804082674793776=tw17175804082674793776:=rfl
noncomputable def tw5660585489984818921:Params→Obj:=fun P=>oF vN "_law_tree" "_law_tree" (top 32) 0 vN vN
theorem te5660585489984818921:tw5660585489984818921=tw5660585489984818921:=rfl
noncomputable def tw3873007053470527801:Params→Obj:=fun P=>oF vN "_law_wood" "_law_wood" (top 19) 0 vN vN
theorem te3873007053470527801:tw3873007053470527801=tw3873007053470527801:=rfl
noncomputable def tw3523508453322062286:Params→Obj:=fun P=>oF vN "_law_draw" "_law_draw" (top 16) 0 vN vN
theorem te3523508453322062286:tw3523508453322062286=tw3523508453322062286:=rfl
noncomputable def tw16656634616206745724:Params→Obj:=fun P=>oF vF "_law_plain_tree" "_law_plain_tree" (top 35) 3 (2:) (vR 235)
theorem te16656634616206745724:tw16656634616206745724=tw16656634616206745724:=rfl
noncomputable def tw16499841135410155261:Params→Obj:=fun P=>oF vF "_law_goes_on" "_law_goes_on" (top 41) 3 (2:) (vR 275)
theorem te16499841135410155261:tw16499841135410155261=tw16499841135410155261:=rfl
noncomputable def tw17016561000648337219:Params→Obj:=fun P=>oF vN "_law_changed" "_law_changed" (top 22) 0 vN vN
theorem te17016561000648337219:tw17016561000648337219=tw17016561000648337219:=rfl
noncomputable def tw7830801663295218847:Params→Obj:=fun P=>oF vN "wanted" "wanted" (top 9) 0 vN vN
theorem te7830801663295218847:tw7830801663295218847=tw7830801663295218847:=rfl
noncomputable def tw2239790136470199801:Params→Obj:=fun P=>oF vN "fit_of" "fit_of" (top 11) 0 vN vN
theorem te2239790136470199801:tw2239790136470199801=tw2239790136470199801:=rfl
noncomputable def tw4128596827151265584:Params→Obj:=fun P=>oF vF "_law_told" "_law_told" (top 37) 3 (2:) (vR 249)
theorem te4128596827151265584:tw4128596827151265584=tw4128596827151265584:=rfl
noncomputable def tw15273511179107221888:Params→Obj:=fun P=>oF vN "_law_goes_on" "_law_goes_on" (top 41) 0 vN vN
theorem te15273511179107221888:tw15273511179107221888=tw15273511179107221888:=rfl
noncomputable def tw8043241192343478395:Params→Obj:=fun P=>oF vF "_law_term" "_law_term" (top 21) 3 (2:) (vR 153)
theorem te8043241192343478395:tw8043241192343478395=tw8043241192343478395:=rfl
noncomputable def tw5652251695906112465:Params→Obj:=fun P=>oF vF "_law_bare" "_law_bare" (top 26) 3 (2:) (vR 184)
theorem te5652251695906112465:tw5652251695906112465=tw5652251695906112465:=rfl
noncomputable def tw6842229406428917890:Params→Obj:=fun P=>oF vN "row_of" "row_of" (top 5) 0 vN vN
theorem te6842229406428917890:tw6842229406428917890=tw6842229406428917890:=rfl
noncomputable def tw3391195309317599211:Params→Obj:=fun P=>oF vF "fit_of" "fit_of" (top 11) 3 (vS "turnery.sources" 238) (vR 69)
theorem te3391195309317599211:tw3391195309317599211=tw3391195309317599211:=rfl
noncomputable def tw3759870254944347859:Params→Obj:=fun P=>oF vN "_law_made_by" "_law_made_by" (top 31) 0 vN vN
theorem te3759870254944347859:tw3759870254944347859=tw3759870254944347859:=rfl
noncomputable def tw14784025447395320952:Params→Obj:=fun P=>oF vF "_law_is_want" "_law_is_want" (top 36) 3 (2:) (vR 242)
theorem te14784025447395320952:tw14784025447395320952=tw14784025447395320952:=rfl
noncomputable def tw2440421697623039956:Params→Obj:=fun P=>oF vN "_law_plain_tree" "_law_plain_tree" (top 35) 0 vN vN
theorem te2440421697623039956:tw2440421697623039956=tw2440421697623039956:=rfl
noncomputable def tw1163707996920444217:Params→Obj:=fun P=>oF vN "_law_spoiled" "_law_spoiled" (top 38) 0 vN vN
theorem te1163707996920444217:tw1163707996920444217=tw1163707996920444217:=rfl
noncomputable def tw4037095007088054851:Params→Obj:=fun P=>oF vF "_law_small" "_law_small" (top 39) 3 (2:) (vR 263)
theorem te4037095007088054851:tw4037095007088054851=tw4037095007088054851:=rfl
noncomputable def tw8466833897843162011:Params→Obj:=fun P=>oF vF "row_of" "row_of" (top 5) 3 (vS "turnery.woods" 204) (vR 41)
theorem te8466833897843162011:tw8466833897843162011=tw8466833897843162011:=rfl
noncomputable def tw1018777715962223723:Params→Obj:=fun P=>oF vF "mark_goes" "Fit.mark_goes" (L2.inClass (top 12) 2) 3 (vS "turnery.sources" 238) (vR 93)
theorem te1018777715962223723:tw1018777715962223723=tw1018777715962223723:=rfl
noncomputable def tw1427205169134399293:Params→Obj:=fun P=>oF vF "wanted" "wanted" (top 9) 3 (vS "turnery.sources" 238) (vR 55)
theorem te1427205169134399293:tw1427205169134399293=tw1427205169134399293:=rfl
noncomputable def tw12372223905747334040:Params→Obj:=fun P=>oF vF "mark_put" "mark_put" (top 2) 3 (vS "turnery.terms" 187) (vR 27)
theorem te12372223905747334040:tw12372223905747334040=tw12372223905747334040:=rfl
noncomputable def tw12652854647131414746:Params→Obj:=fun P=>oF vN "_law_mark" "_law_mark" (top 17) 0 vN vN
theorem te12652854647131414746:tw12652854647131414746=tw12652854647131414746:=rfl
end PySem.W.Fast
noncomputable def PySem.W.Fast.tw9602671005661501698:PySem.Program:=PySem.Challenge.pw_turnery_k71_wants_that_are_met
theorem PySem.W.Fast.te9602671005661501698:(PySem.Challenge.pw_turnery_k71_wants_that_are_met:PySem.Program)=PySem.W.Fast.tw9602671005661501698:=rfl
noncomputable def PySem.W.Fast.tw15198073810317227062:PySem.Program:={ PySem.Challenge.pw_turnery_k71_wants_that_are_met with main:={ PySem.Challenge.pw_turnery_k71_wants_that_are_met.main with body:=[K71.top 1,K71.top 2,K71.top 4,K71.top 5,K71.top 7,K71.top 9,K71.top 10,K71.top 11,K71.top 12,K71.top 13,K71.top 15,K71.top 16,K71.top 17,K71.top 18,K71.top 19,K71.top 20,K71.top 21,K71.top 22,K71.top 23,K71.top 24,K71.top 25,K71.top 26,K71.top 27,K71.top 28,K71.top 29,K71.top 30,K71.top 31,K71.top 32,K71.top 33,K71.top 34,K71.top 35,K71.top 36,K71.top 37,K71.top 38,K71.top 39,K71.top 40,K71.top 41,K71.top 42] } }
theorem PySem.W.Fast.te15198073810317227062:({ PySem.Challenge.pw_turnery_k71_wants_that_are_met with main:={ PySem.Challenge.pw_turnery_k71_wants_that_are_met.main with body:=[K71.top 1,K71.top 2,K71.top 4,K71.top 5,K71.top 7,K71.top 9,K71.top 10,K71.top 11,K71.top 12,K71.top 13,K71.top 15,K71.top 16,K71.top 17,K71.top 18,K71.top 19,K71.top 20,K71.top 21,K71.top 22,K71.top 23,K71.top 24,K71.top 25,K71.top 26,K71.top 27,K71.top 28,K71.top 29,K71.top 30,K71.top 31,K71.top 32,K71.top 33,K71.top 34,K71.top 35,K71.top 36,K71.top 37,K71.top 38,K71.top 39,K71.top 40,K71.top 41,K71.top 42] } }:PySem.Program)=PySem.W.Fast.tw15198073810317227062:=rfl
noncomputable def PySem.W.Fast.tw13141168893610809650:List PySem.Stmt:=(PySem.Challenge.pw_turnery_k71_wants_that_are_met.main.body.drop 0).take 12
theorem PySem.W.Fast.te13141168893610809650:((PySem.Challenge.pw_turnery_k71_wants_that_are_met.main.body.drop 0).take 12:List PySem.Stmt)=PySem.W.Fast.tw13141168893610809650:=rfl
noncomputable def PySem.W.Fast.tw7179913235321951526:List PySem.Stmt:=(PySem.Challenge.pw_turnery_k71_wants_that_are_met.main.body.drop 12).take 5
theorem PySem.W.Fast.te7179913235321951526:((PySem.Challenge.pw_turnery_k71_wants_that_are_met.main.body.drop 12).take 5:List PySem.Stmt)=PySem.W.Fast.tw7179913235321951526:=rfl
noncomputable def PySem.W.Fast.tw5922758458683365439:List PySem.Stmt:=(PySem.Challenge.pw_turnery_k71_wants_that_are_met.main.body.drop 17).take 13
theorem PySem.W.Fast.te5922758458683365439:((PySem.Challenge.pw_turnery_k71_wants_that_are_met.main.body.drop 17).take 13:List PySem.Stmt)=PySem.W.Fast.tw5922758458683365439:=rfl
noncomputable def PySem.W.Fast.tw18044514800041484823:List PySem.Stmt:=(PySem.Challenge.pw_turnery_k71_wants_that_are_met.main.body.drop 30).take 13
theorem PySem.W.Fast.te18044514800041484823:((PySem.Challenge.pw_turnery_k71_wants_that_are_met.main.body.drop 30).take 13:List PySem.Stmt)=PySem.W.Fast.tw18044514800041484823:=rfl
section
open PySem
open K71
noncomputable def K71.x11 (P:Params):Obj:={ cls:=Value.type "tuple", data:=Data.seq #[] }
noncomputable def K71.x12 (P:Params):Obj:={ cls:=vN,data:=Data.fields #[vI 2 0,vI 0 0,vR 20,vI 4 0,vI 0 0,vR 27,vI 7 0,vI 0 0,vR 34,vI 9 0,vI 0 0,vR 41,vI 12 0,vI 0 0,vR 48,vI 20 0,vI 0 0,vR 55,vI 23 0,vI 0 0,vR 62,vI 26 0,vI 0 0,vR 69,vI 35 0,vI 0 0,vR 76,vI 56 0,vI 0 0,vR 110,vI 59 0,vI 0 0,vR 115,vI 66 0,vI 0 0,vR 122,vI 70 0,vI 0 0,vR 129,vI 75 0,vI 0 0,vR 136,vI 89 0,vI 0 0,vR 141,vI 100 0,vI 0 0,vR 146,vI 102 0,vI 0 0,vR 153,vI 113 0,vI 0 0,vR 158,vI 122 0,vI 0 0,vR 165,vI 129 0,vI 0 0,vR 172,vI 136 0,vI 0 0,vR 179,vI 149 0,vI 0 0,vR 184,vI 153 0,vI 0 0,vR 189,vI 156 0,vI 0 0,vR 196,vI 158 0,vI 0 0,vR 201,vI 161 0,vI 0 0,vR 208,vI 163 0,vI 0 0,vR 213,vI 168 0,vI 0 0,vR 218,vI 175 0,vI 0 0,vR 225,vI 177 0,vI 0 0,vR 230,vI 179 0,vI 0 0,vR 235,vI 185 0,vI 0 0,vR 242,vI 196 0,vI 0 0,vR 249,vI 203 0,vI 0 0,vR 256,vI 218 0,vI 0 0,vR 263,vI 224 0,vI 0 0,vR 270,vI 229 0,vI 0 0,vR 275,vI 238 0,vI 0 0,vR 280] }
noncomputable def K71.x13 (P:Params):Obj:={ cls:=Value.type "code", data:=Data.fields #[vS "<module>" 182,vS "<module>" 183,vS "/claim/cut.py" 184,vI 1 0,vI 0 0,vI 0 0,vI 0 0,vI 0 0,vR 11,Value.bool false,vI 181 0,vR 12,vN,vN,vN,vN,vI 185 0,vI 1 0,vS "/claim/cut.py" 186] }
noncomputable def K71.x14 (P:Params):Obj:={ cls:=Value.type "frame", slots:=#[some (vR 13),some (vR 3),some (vR 3),none,some (vS "__main__" 164),none,some (vR 0)] }
noncomputable def K71.x19 (P:Params):Obj:=W.Fast.tw2892716380851710771 P
noncomputable def K71.x26 (P:Params):Obj:=W.Fast.tw8201197445212096617 P
noncomputable def K71.x33 (P:Params):Obj:=W.Fast.tw8773463402392157957 P
noncomputable def K71.x40 (P:Params):Obj:=W.Fast.tw6842229406428917890 P
noncomputable def K71.x47 (P:Params):Obj:=W.Fast.tw16008039662389287053 P
noncomputable def K71.x54 (P:Params):Obj:=W.Fast.tw7830801663295218847 P
noncomputable def K71.x61 (P:Params):Obj:=W.Fast.tw6394035606628754414 P
noncomputable def K71.x68 (P:Params):Obj:=W.Fast.tw2239790136470199801 P
noncomputable def K71.x71 (P:Params):Obj:={ cls:=Value.type "tuple", data:=Data.seq #[] }
noncomputable def K71.x72 (P:Params):Obj:={ cls:=Value.type "builtin_function_or_method", data:=Data.fields #[Value.builtin "type.__prepare__", Value.type "type"] }
noncomputable def K71.x73 (P:Params):Obj:={ cls:=Value.type "dict", data:=Data.dict #[hE P "__module__" 279 (vS "turnery.sources" 238),hE P "__qualname__" 281 (vS "Fit" 280),hE P "__firstlineno__" 283 (vI 35 282),hE P "__init__" 289 (vR 82),hE P "goes_onto" 295 (vR 87),hE P "mark_goes" 304 (vR 94),hE P "handed" 310 (vR 99),hE P "__static_attributes__" 314 (vR 100)] 8 }
noncomputable def K71.x74 (P:Params):Obj:={ cls:=Value.type "tuple", data:=Data.seq #[] }
noncomputable def K71.x75 (P:Params):Obj:={ cls:=vN,data:=Data.fields #[vI 37 0,vI 4 0,vR 81,vI 42 0,vI 4 0,vR 86,vI 49 0,vI 4 0,vR 93,vI 54 0,vI 4 0,vR 98] }
noncomputable def K71.x76 (P:Params):Obj:={ cls:=Value.type "code", data:=Data.fields #[vS "Fit" 274,vS "Fit" 275,vS "/claim/cut.py" 276,vI 35 0,vI 0 0,vI 0 0,vI 0 0,vI 0 0,vR 74,Value.bool false,vI 181 0,vR 75,vN,vN,vN,vN,vI 277 0,vI 35 0,vS "/claim/cut.py" 278] }
noncomputable def K71.x77 (P:Params):Obj:={ cls:=Value.type "frame", slots:=#[some (vR 76),some (vR 3),some (vR 73),none,some (vS "turnery.sources" 238),none,some (vR 0)] }
noncomputable def K71.x80 (P:Params):Obj:=W.Fast.tw12511264062484220211 P
noncomputable def K71.x85 (P:Params):Obj:=W.Fast.tw13975663237527712808 P
noncomputable def K71.x92 (P:Params):Obj:=W.Fast.tw185200822962382886 P
noncomputable def K71.x97 (P:Params):Obj:=W.Fast.tw2219983322240043979 P
noncomputable def K71.x105 (P:Params):Obj:={ cls:=Value.type "super", data:=Data.fields #[vR 102,vR 102,vR 102] }
noncomputable def K71.x106 (P:Params):Obj:={ cls:=Value.type "builtin_function_or_method", data:=Data.fields #[Value.builtin "object.__init_subclass__", vR 102] }
noncomputable def K71.x109 (P:Params):Obj:=W.Fast.tw2296991906871948707 P
noncomputable def K71.x114 (P:Params):Obj:=W.Fast.tw3489113151451411459 P
noncomputable def K71.x121 (P:Params):Obj:=W.Fast.tw3523508453322062286 P
noncomputable def K71.x128 (P:Params):Obj:=W.Fast.tw12652854647131414746 P
noncomputable def K71.x135 (P:Params):Obj:=W.Fast.tw14345048061195896568 P
noncomputable def K71.x140 (P:Params):Obj:=W.Fast.tw3873007053470527801 P
noncomputable def K71.x145 (P:Params):Obj:=W.Fast.tw7651432338017178063 P
noncomputable def K71.x152 (P:Params):Obj:=W.Fast.tw6314846131662172381 P
noncomputable def K71.x157 (P:Params):Obj:=W.Fast.tw17016561000648337219 P
noncomputable def K71.x164 (P:Params):Obj:=W.Fast.tw9351507293235261108 P
noncomputable def K71.x171 (P:Params):Obj:=W.Fast.tw12132583990182652283 P
noncomputable def K71.x178 (P:Params):Obj:=W.Fast.tw13223784826333496950 P
noncomputable def K71.x183 (P:Params):Obj:=W.Fast.tw2075188645047654465 P
noncomputable def K71.x188 (P:Params):Obj:=W.Fast.tw3898159103585172420 P
noncomputable def K71.x195 (P:Params):Obj:=W.Fast.tw10477881677117375820 P
noncomputable def K71.x200 (P:Params):Obj:=W.Fast.tw8779122878190449657 P
noncomputable def K71.x207 (P:Params):Obj:=W.Fast.tw8468291824071119841 P
noncomputable def K71.x212 (P:Params):Obj:=W.Fast.tw3759870254944347859 P
noncomputable def K71.x217 (P:Params):Obj:=W.Fast.tw5660585489984818921 P
noncomputable def K71.x224 (P:Params):Obj:=W.Fast.tw9984082945122455989 P
noncomputable def K71.x229 (P:Params):Obj:=W.Fast.tw10441007732651772667 P
noncomputable def K71.x234 (P:Params):Obj:=W.Fast.tw2440421697623039956 P
noncomputable def K71.x241 (P:Params):Obj:=W.Fast.tw7207498816370225496 P
noncomputable def K71.x244 (P:Params):Obj:={ cls:=Value.type "tuple", data:=Data.seq #[] }
noncomputable def K71.x246 (P:Params):Obj:={ cls:=Value.type "tuple", data:=Data.seq #[vS "_law_found" 517,vS "_law_due" 518,vS "_law_want" 519] }
noncomputable def K71.x247 (P:Params):Obj:={ cls:=Value.type "tuple", data:=Data.seq #[] }
noncomputable def K71.x248 (P:Params):Obj:=W.Fast.tw7361969814301163981 P
noncomputable def K71.x249 (P:Params):Obj:={ cls:=Value.type "code", data:=Data.fields #[vS "_law_told" 514,vS "_law_told" 515,vS "/claim/cut.py" 516,vI 196 0,vI 2 0,vI 0 0,vI 0 0,vI 3 0,vR 244,Value.bool true,vI 181 0,vR 245,vN,vR 246,vR 247,vR 248,vI 520 0,vI 196 0,vS "/claim/cut.py" 521] }
noncomputable def K71.x250 (P:Params):Obj:=W.Fast.tw4128596827151265584 P
noncomputable def K71.x251 (P:Params):Obj:={ cls:=Value.type "tuple", data:=Data.seq #[] }
noncomputable def K71.x253 (P:Params):Obj:={ cls:=Value.type "tuple", data:=Data.seq #[vS "_law_deck" 526,vS "_law_code" 527,vS "_law_tree_here" 528,vS "_law_k" 529,vS "_law_inner" 530,vS "_law_way" 531] }
noncomputable def K71.x254 (P:Params):Obj:={ cls:=Value.type "tuple", data:=Data.seq #[] }
noncomputable def K71.x255 (P:Params):Obj:=W.Fast.tw1163707996920444217 P
noncomputable def K71.x256 (P:Params):Obj:={ cls:=Value.type "code", data:=Data.fields #[vS "_law_spoiled" 523,vS "_law_spoiled" 524,vS "/claim/cut.py" 525,vI 203 0,vI 3 0,vI 0 0,vI 0 0,vI 3 0,vR 251,Value.bool true,vI 181 0,vR 252,vN,vR 253,vR 254,vR 255,vI 532 0,vI 203 0,vS "/claim/cut.py" 533] }
noncomputable def K71.x257 (P:Params):Obj:=W.Fast.tw1668713585374014455 P
noncomputable def K71.x262 (P:Params):Obj:=W.Fast.tw13792011053833285845 P
noncomputable def K71.x269 (P:Params):Obj:=W.Fast.tw10518980491171833452 P
noncomputable def K71.x274 (P:Params):Obj:=W.Fast.tw15273511179107221888 P
noncomputable def K71.x279 (P:Params):Obj:=W.Fast.tw7359207011297847111 P
noncomputable def _root_.PySem.W.Fast.tw13256529638712034062:Params→Heap:=fun P=>{ objs:=⟨[W.boot_o_0 P,W.boot_o_1 P,Obj.mk vN none (Data.dict #[]) #[],x3 P,W.boot_o_4 P,W.boot_o_5 P,W.boot_o_6 P,W.boot_o_7 P,W.boot_o_8 P,W.boot_o_9 P,W.boot_o_10 P,x11 P,x12 P,x13 P,x14 P,oT #[],oE,oT #[vS "term" 192],oT #[],x19 P,x20 P,x21 P,oT #[],oE,oT #[vS "term" 199,vS "mark" 200],oT #[],x26 P,x27 P,x28 P,oT #[],oE,oT #[vS "wood" 209,vS "kind" 210],oT #[],x33 P,x34 P,x35 P,oT #[],oE,x38 P,oT #[],x40 P,x41 P,x42 P,oT #[],oE,x45 P,oT #[],x47 P,x48 P,x49 P,oT #[],oE,x52 P,oT #[],x54 P,x55 P,x56 P,oT #[],oE,x59 P,oT #[],x61 P,x62 P,x63 P,oT #[],oE,x66 P,oT #[],x68 P,x69 P,x70 P,x71 P,x72 P,x73 P,x74 P,x75 P,x76 P,x77 P,oT #[],oE,x80 P,x81 P,x82 P,oT #[],oE,x85 P,x86 P,x87 P,oT #[],oE,x90 P,oT #[],x92 P,x93 P,x94 P,oT #[],oE,x97 P,x98 P,x99 P,x100 P,x101 P,x102 P,x103 P,x104 P,x105 P,x106 P,oT #[],oE,x109 P,x110 P,x111 P,oT #[],oE,x114 P,x115 P,x116 P,oT #[],oE,x119 P,oT #[],x121 P,x122 P,x123 P,oT #[],oE,x126 P,oT #[],x128 P,x129 P,x130 P,oT #[],oE,x133 P,oT #[],x135 P,x136 P,x137 P,oT #[],oE,x140 P,x141 P,x142 P,oT #[],oE,x145 P,x146 P,x147 P,oT #[],oE,x150 P,oT #[],x152 P,x153 P,x154 P,oT #[],oE,x157 P,x158 P,x159 P,oT #[],oE,x162 P,oT #[],x164 P,x165 P,x166 P,oT #[],oE,x169 P,oT #[],x171 P,x172 P,x173 P,oT #[],oE,x176 P,oT #[],x178 P,x179 P,x180 P,oT #[],oE,x183 P,x184 P,x185 P,oT #[],oE,x188 P,x189 P,x190 P,oT #[],oE,oT #[vS "_law_found" 455],oT #[],x195 P,x196 P,x197 P,oT #[],oE,x200 P,x201 P,x202 P,oT #[],oE,x205 P,oT #[],x207 P,x208 P,x209 P,oT #[],oE,x212 P,x213 P,x214 P,oT #[],oE,x217 P,x218 P,x219 P,oT #[],oE,x222 P,oT #[],x224 P,x225 P,x226 P,oT #[],oE,x229 P,x230 P,x231 P,oT #[],oE,x234 P,x235 P,x236 P,oT #[],oE,x239 P,oT #[],x241 P,x242 P,x243 P,x244 P,oE,x246 P,x247 P,x248 P,x249 P,x250 P,x251 P,oE,x253 P,x254 P,x255 P,x256 P,x257 P,oT #[],oE,x260 P,oT #[],x262 P,x263 P,x264 P,oT #[],oE,x267 P,oT #[],x269 P,x270 P,x271 P,oT #[],oE,x274 P,x275 P,x276 P,oT #[],oE,x279 P,x280 P,x281 P]⟩ }
theorem _root_.PySem.W.Fast.te13256529638712034062:PySem.W.Fast.tw13256529638712034062=PySem.W.Fast.tw13256529638712034062:=rfl
noncomputable def K71.N:W.BT:=.nil
noncomputable def K71.B (o:Obj) (l r:W.BT):W.BT:=.node o l r
noncomputable def _root_.PySem.W.Fast.tw14181395533067621827:Params→W.BT:=fun P=>B (W.boot_o_0 P) (B (W.boot_o_1 P) (B (x3 P) (B (W.boot_o_7 P) (B (oT #[]) (B (oT #[vS "wood" 209,vS "kind" 210]) (B (x63 P) (B (oT #[]) (B (x255 P) N N) N) (8:)) (B (oT #[]) (B (x159 P) N N) (8:))) (B (x47 P) (B (oE) (B (oT #[]) (B (x271 P) N N) N) (B (x207 P) N N)) (B (x111 P) (B (oE) N N) (B (x239 P) N N)))) (B (oE) (B (oT #[]) (B (x71 P) (B (x135 P) (B (x263 P) N N) N) (B (oE) N N)) (B (x103 P) (8:) (B (x231 P) N N))) (B (x55 P) (B (x87 P) (B (oT #[]) (B (x279 P) N N) N) (8:)) (B (x119 P) (B (x183 P) N N) (B (x247 P) N N))))) (B (x11 P) (B (x19 P) (B (x35 P) (B (oT #[]) (B (oT #[]) (B (oE) N N) N) (B (x195 P) N N)) (B (x99 P) (8:) (8:))) (B (oE) (B (oT #[]) (B (x147 P) (B (x275 P) N N) N) (B (oE) N N)) (B (x115 P) (B (x179 P) N N) (B (x243 P) N N)))) (B (x27 P) (B (oT #[]) (B (x75 P) (B (oE) (B (x267 P) N N) N) (8:)) (B (oT #[]) (B (x171 P) N N) (B (x235 P) N N))) (B (x59 P) (B (oT #[]) (8:) (B (x219 P) N N)) (B (x123 P) (B (oE) N N) (B (x251 P) N N)))))) (B (W.boot_o_5 P) (B (W.boot_o_9 P) (B (oT #[vS "term" 192]) (B (x33 P) (B (oE) (B (x129 P) (B (x257 P) N N) N) (B (oT #[vS "_law_found" 455]) N N)) (B (x97 P) (B (oE) N N) (B (x225 P) N N))) (B (x49 P) (B (x81 P) (B (x145 P) (B (oE) N N) N) (B (x209 P) N N)) (B (oE) (8:) (B (x241 P) N N)))) (B (oT #[]) (B (x41 P) (B (x73 P) (B (x137 P) (8:) N) (B (x201 P) N N)) (B (x105 P) (B (x169 P) N N) (B (oE) N N))) (B (oT #[]) (B (oE) (B (x153 P) (B (x281 P) N N) N) (B (x217 P) N N)) (B (x121 P) (B (x185 P) N N) (B (x249 P) N N))))) (B (x13 P) (B (x21 P) (B (oE) (B (x69 P) (B (x133 P) (8:) N) (B (x197 P) N N)) (B (x101 P) (B (x165 P) N N) (B (x229 P) N N))) (B (oT #[]) (B (x85 P) (B (oE) (8:) N) (B (x213 P) N N)) (B (oT #[]) (8:) (B (oE) N N)))) (B (oT #[]) (B (x45 P) (B (x77 P) (B (x141 P) (B (x269 P) N N) N) (B (x205 P) N N)) (B (x109 P) (B (x173 P) N N) (8:))) (B (x61 P) (B (x93 P) (B (x157 P) N N) (B (oE) N N)) (B (oE) (B (x189 P) N N) (B (x253 P) N N))))))) (B (Obj.mk vN none (Data.dict #[]) #[]) (B (W.boot_o_4 P) (B (W.boot_o_8 P) (B (oE) (B (oT #[]) (B (oT #[]) (B (x128 P) (B (x256 P) N N) N) (B (oE) N N)) (B (oE) (8:) (B (x224 P) N N))) (B (x48 P) (B (x80 P) (B (oE) (8:) N) (B (x208 P) N N)) (B (oT #[]) (B (x176 P) N N) (8:)))) (B (oT #[vS "term" 199,vS "mark" 200]) (B (x40 P) (B (x72 P) (B (x136 P) (B (x264 P) N N) N) (B (x200 P) N N)) (B (x104 P) (B (oE) N N) (8:))) (B (x56 P) (B (oT #[]) (B (x152 P) (B (x280 P) N N) N) (B (oE) N N)) (B (oT #[]) (B (x184 P) N N) (B (x248 P) N N))))) (B (x12 P) (B (x20 P) (B (oT #[]) (B (x68 P) (B (oE) (B (x260 P) N N) N) (B (x196 P) N N)) (B (x100 P) (B (x164 P) N N) (B (oE) N N))) (B (x52 P) (B (oE) (B (oT #[]) (B (x276 P) N N) N) (B (x212 P) N N)) (B (x116 P) (B (x180 P) N N) (B (x244 P) N N)))) (B (x28 P) (B (oE) (B (x76 P) (B (x140 P) (8:) N) (B (oE) N N)) (B (oE) (B (x172 P) N N) (B (x236 P) N N))) (B (oT #[]) (B (x92 P) (B (oE) N N) (8:)) (B (oT #[]) (B (x188 P) N N) (B (oE) N N)))))) (B (W.boot_o_6 P) (B (W.boot_o_10 P) (B (oT #[]) (B (x34 P) (B (x66 P) (B (x130 P) (8:) N) (8:)) (B (x98 P) (B (x162 P) N N) (B (x226 P) N N))) (B (oT #[]) (B (x82 P) (B (x146 P) (B (x274 P) N N) N) (8:)) (B (x114 P) (B (x178 P) N N) (B (x242 P) N N)))) (B (x26 P) (B (x42 P) (B (x74 P) (B (oT #[]) (B (oE) N N) N) (B (x202 P) N N)) (B (x106 P) (8:) (B (x234 P) N N))) (B (oE) (B (x90 P) (B (x154 P) N N) (B (x218 P) N N)) (B (x122 P) (8:) (B (x250 P) N N))))) (B (x14 P) (B (oT #[]) (B (x38 P) (B (x70 P) (B (oT #[]) (B (x262 P) N N) N) (8:)) (B (x102 P) (B (x166 P) N N) (B (x230 P) N N))) (B (x54 P) (B (x86 P) (B (x150 P) (B (oE) N N) N) (B (x214 P) N N)) (B (oE) (B (oE) N N) (B (x246 P) N N)))) (B (oE) (B (oT #[]) (B (oT #[]) (B (x142 P) (B (x270 P) N N) N) (8:)) (B (x110 P) (8:) (B (oE) N N))) (B (x62 P) (B (x94 P) (B (x158 P) N N) (B (x222 P) N N)) (B (x126 P) (B (x190 P) N N) (B (x254 P) N N)))))))
theorem _root_.PySem.W.Fast.te14181395533067621827:PySem.W.Fast.tw14181395533067621827=PySem.W.Fast.tw14181395533067621827:=rfl
noncomputable def K71.y3_242 (P:Params):Obj:={ cls:=Value.type "dict", data:=Data.dict #[hE P "__name__" 165 (2:),hE P "__doc__" 166 (vN),hE P "__package__" 167 (vN),hE P "__loader__" 168 (Value.builtin "__main__.__loader__#opaque"),hE P "__spec__" 169 (vN),hE P "__annotations__" 170 (vR 6),hE P "__builtins__" 171 (vR 4),hE P "__file__" 173 (vS "/claim/cut.py" 172),hE P "__cached__" 174 (vN),hE P "is_call" 195 (vR 21),hE P "mark_put" 203 (vR 28),hE P "rows_of" 213 (vR 35),hE P "row_of" 222 (vR 42),hE P "rule_of" 237 (vR 49),hE P "wanted" 248 (vR 56),hE P "handed_on" 258 (vR 63),hE P "fit_of" 271 (vR 70),hE P "Fit" 321 (vR 102),hE P "pairs_of" 327 (vR 111),hE P "_law_numbers" 335 (vR 116),hE P "_law_draw" 343 (vR 123),hE P "_law_mark" 351 (vR 130),hE P "_law_name" 366 (vR 137),hE P "_law_wood" 372 (vR 142),hE P "_law_rows" 378 (vR 147),hE P "_law_term" 393 (vR 154),hE P "_law_changed" 399 (vR 159),hE P "_law_calls" 410 (vR 166),hE P "_law_rule" 421 (vR 173),hE P "_law_turning" 439 (vR 180),hE P "_law_bare" 445 (vR 185),hE P "_law_copy" 451 (vR 190),hE P "_law_whole" 458 (vR 197),hE P "_law_rule_of" 464 (vR 202)] 34 }
noncomputable def K71.y12_242 (P:Params):Obj:={ cls:=vN,data:=Data.fields #[vI 2 0,vI 0 0,vR 20,vI 4 0,vI 0 0,vR 27,vI 7 0,vI 0 0,vR 34,vI 9 0,vI 0 0,vR 41,vI 12 0,vI 0 0,vR 48,vI 20 0,vI 0 0,vR 55,vI 23 0,vI 0 0,vR 62,vI 26 0,vI 0 0,vR 69,vI 35 0,vI 0 0,vR 76,vI 56 0,vI 0 0,vR 110,vI 59 0,vI 0 0,vR 115,vI 66 0,vI 0 0,vR 122,vI 70 0,vI 0 0,vR 129,vI 75 0,vI 0 0,vR 136,vI 89 0,vI 0 0,vR 141,vI 100 0,vI 0 0,vR 146,vI 102 0,vI 0 0,vR 153,vI 113 0,vI 0 0,vR 158,vI 122 0,vI 0 0,vR 165,vI 129 0,vI 0 0,vR 172,vI 136 0,vI 0 0,vR 179,vI 149 0,vI 0 0,vR 184,vI 153 0,vI 0 0,vR 189,vI 156 0,vI 0 0,vR 196,vI 158 0,vI 0 0,vR 201] }
noncomputable def _root_.PySem.W.Fast.tw7679098509171589019:Params→W.BT:=fun P=>B (W.boot_o_0 P) (B (W.boot_o_1 P) (B (y3_242 P) (B (W.boot_o_7 P) (B (oT #[]) (B (oT #[vS "wood" 209,vS "kind" 210]) (B (x63 P) (8:) (8:)) (B (oT #[]) (B (x159 P) N N) N)) (B (x47 P) (B (oE) (8:) N) (B (x111 P) (B (oE) N N) N))) (B (oE) (B (oT #[]) (B (x71 P) (B (x135 P) N N) (B (oE) N N)) (B (x103 P) (8:) N)) (B (x55 P) (B (x87 P) (8:) N) (B (x119 P) (B (x183 P) N N) N)))) (B (x11 P) (B (x19 P) (B (x35 P) (B (oT #[]) (8:) (B (x195 P) N N)) (B (x99 P) (8:) N)) (B (oE) (B (oT #[]) (B (x147 P) N N) N) (B (x115 P) (B (x179 P) N N) N))) (B (x27 P) (B (oT #[]) (B (x75 P) (B (oE) N N) N) (B (oT #[]) (B (x171 P) N N) N)) (B (x59 P) (B (oT #[]) (8:) N) (B (x123 P) (B (oE) N N) N))))) (B (W.boot_o_5 P) (B (W.boot_o_9 P) (B (oT #[vS "term" 192]) (B (x33 P) (B (oE) (B (x129 P) N N) (B (oT #[vS "_law_found" 455]) N N)) (B (x97 P) (B (oE) N N) N)) (B (x49 P) (B (x81 P) (B (x145 P) N N) N) (B (oE) (8:) N))) (B (oT #[]) (B (x41 P) (B (x73 P) (B (x137 P) N N) (B (x201 P) N N)) (B (x105 P) (B (x169 P) N N) N)) (B (oT #[]) (B (oE) (B (x153 P) N N) N) (B (x121 P) (B (x185 P) N N) N)))) (B (x13 P) (B (x21 P) (B (oE) (B (x69 P) (B (x133 P) N N) (B (x197 P) N N)) (B (x101 P) (B (x165 P) N N) N)) (B (oT #[]) (B (x85 P) (B (oE) N N) N) (B (oT #[]) (8:) N))) (B (oT #[]) (B (x45 P) (B (x77 P) (B (x141 P) N N) N) (B (x109 P) (B (x173 P) N N) N)) (B (x61 P) (B (x93 P) (B (x157 P) N N) N) (B (oE) (B (x189 P) N N) N)))))) (B (Obj.mk vN none (Data.dict #[]) #[]) (B (W.boot_o_4 P) (B (W.boot_o_8 P) (B (oE) (B (oT #[]) (B (oT #[]) (B (x128 P) N N) (B (oE) N N)) (B (oE) (8:) N)) (B (x48 P) (B (x80 P) (B (oE) N N) N) (B (oT #[]) (B (x176 P) N N) N))) (B (oT #[vS "term" 199,vS "mark" 200]) (B (x40 P) (B (x72 P) (B (x136 P) N N) (B (x200 P) N N)) (B (x104 P) (B (oE) N N) N)) (B (x56 P) (B (oT #[]) (B (x152 P) N N) N) (B (oT #[]) (B (x184 P) N N) N)))) (B (y12_242 P) (B (x20 P) (B (oT #[]) (B (x68 P) (B (oE) N N) (B (x196 P) N N)) (B (x100 P) (B (x164 P) N N) N)) (B (x52 P) (B (oE) (8:) N) (B (x116 P) (B (x180 P) N N) N))) (B (x28 P) (B (oE) (B (x76 P) (B (x140 P) N N) N) (B (oE) (B (x172 P) N N) N)) (B (oT #[]) (B (x92 P) (B (oE) N N) N) (B (oT #[]) (B (x188 P) N N) N))))) (B (W.boot_o_6 P) (B (W.boot_o_10 P) (B (oT #[]) (B (x34 P) (B (x66 P) (B (x130 P) N N) (8:)) (B (x98 P) (B (x162 P) N N) N)) (B (oT #[]) (B (x82 P) (B (x146 P) N N) N) (B (x114 P) (B (x178 P) N N) N))) (B (x26 P) (B (x42 P) (B (x74 P) (8:) (B (x202 P) N N)) (B (x106 P) (8:) N)) (B (oE) (B (x90 P) (B (x154 P) N N) N) (B (x122 P) (8:) N)))) (B (x14 P) (B (oT #[]) (B (x38 P) (B (x70 P) (8:) (8:)) (B (x102 P) (B (x166 P) N N) N)) (B (x54 P) (B (x86 P) (B (x150 P) N N) N) (B (oE) (B (oE) N N) N))) (B (oE) (B (oT #[]) (B (oT #[]) (B (x142 P) N N) N) (B (x110 P) (8:) N)) (B (x62 P) (B (x94 P) (B (x158 P) N N) N) (B (x126 P) (B (x190 P) N N) N))))))
theorem _root_.PySem.W.Fast.te7679098509171589019:PySem.W.Fast.tw7679098509171589019=PySem.W.Fast.tw7679098509171589019:=rfl
noncomputable def K71.y3_161 (P:Params):Obj:={ cls:=Value.type "dict", data:=Data.dict #[hE P "__name__" 165 (2:),hE P "__doc__" 166 (vN),hE P "__package__" 167 (vN),hE P "__loader__" 168 (Value.builtin "__main__.__loader__#opaque"),hE P "__spec__" 169 (vN),hE P "__annotations__" 170 (vR 6),hE P "__builtins__" 171 (vR 4),hE P "__file__" 173 (vS "/claim/cut.py" 172),hE P "__cached__" 174 (vN),hE P "is_call" 195 (vR 21),hE P "mark_put" 203 (vR 28),hE P "rows_of" 213 (vR 35),hE P "row_of" 222 (vR 42),hE P "rule_of" 237 (vR 49),hE P "wanted" 248 (vR 56),hE P "handed_on" 258 (vR 63),hE P "fit_of" 271 (vR 70),hE P "Fit" 321 (vR 102),hE P "pairs_of" 327 (vR 111),hE P "_law_numbers" 335 (vR 116),hE P "_law_draw" 343 (vR 123)] 21 }
noncomputable def K71.y12_161 (P:Params):Obj:={ cls:=vN,data:=Data.fields #[vI 2 0,vI 0 0,vR 20,vI 4 0,vI 0 0,vR 27,vI 7 0,vI 0 0,vR 34,vI 9 0,vI 0 0,vR 41,vI 12 0,vI 0 0,vR 48,vI 20 0,vI 0 0,vR 55,vI 23 0,vI 0 0,vR 62,vI 26 0,vI 0 0,vR 69,vI 35 0,vI 0 0,vR 76,vI 56 0,vI 0 0,vR 110,vI 59 0,vI 0 0,vR 115,vI 66 0,vI 0 0,vR 122] }
noncomputable def _root_.PySem.W.Fast.tw8029273044457897882:Params→W.BT:=fun P=>B (W.boot_o_0 P) (B (W.boot_o_1 P) (B (y3_161 P) (B (W.boot_o_7 P) (B (oT #[]) (B (oT #[vS "wood" 209,vS "kind" 210]) (B (x63 P) N N) (8:)) (B (x47 P) (B (oE) N N) (B (x111 P) N N))) (B (oE) (B (oT #[]) (B (x71 P) N N) (B (x103 P) N N)) (B (x55 P) (B (x87 P) N N) (B (x119 P) N N)))) (B (x11 P) (B (x19 P) (B (x35 P) (8:) (B (x99 P) N N)) (B (oE) (8:) (B (x115 P) N N))) (B (x27 P) (B (oT #[]) (B (x75 P) N N) (8:)) (B (x59 P) (8:) (B (x123 P) N N))))) (B (W.boot_o_5 P) (B (W.boot_o_9 P) (B (oT #[vS "term" 192]) (B (x33 P) (B (oE) N N) (B (x97 P) N N)) (B (x49 P) (B (x81 P) N N) (B (oE) N N))) (B (oT #[]) (B (x41 P) (B (x73 P) N N) (B (x105 P) N N)) (B (oT #[]) (B (oE) N N) (B (x121 P) N N)))) (B (x13 P) (B (x21 P) (B (oE) (B (x69 P) N N) (B (x101 P) N N)) (B (oT #[]) (B (x85 P) N N) (8:))) (B (oT #[]) (B (x45 P) (B (x77 P) N N) (B (x109 P) N N)) (B (x61 P) (B (x93 P) N N) N))))) (B (Obj.mk vN none (Data.dict #[]) #[]) (B (W.boot_o_4 P) (B (W.boot_o_8 P) (B (oE) (B (oT #[]) (8:) (B (oE) N N)) (B (x48 P) (B (x80 P) N N) (8:))) (B (oT #[vS "term" 199,vS "mark" 200]) (B (x40 P) (B (x72 P) N N) (B (x104 P) N N)) (B (x56 P) (8:) (8:)))) (B (y12_161 P) (B (x20 P) (B (oT #[]) (B (x68 P) N N) (B (x100 P) N N)) (B (x52 P) (B (oE) N N) (B (x116 P) N N))) (B (x28 P) (B (oE) (B (x76 P) N N) (B (oE) N N)) (B (oT #[]) (B (x92 P) N N) N)))) (B (W.boot_o_6 P) (B (W.boot_o_10 P) (B (oT #[]) (B (x34 P) (B (x66 P) N N) (B (x98 P) N N)) (B (oT #[]) (B (x82 P) N N) (B (x114 P) N N))) (B (x26 P) (B (x42 P) (B (x74 P) N N) (B (x106 P) N N)) (B (oE) (B (x90 P) N N) (B (x122 P) N N)))) (B (x14 P) (B (oT #[]) (B (x38 P) (B (x70 P) N N) (B (x102 P) N N)) (B (x54 P) (B (x86 P) N N) (B (oE) N N))) (B (oE) (B (oT #[]) (8:) (B (x110 P) N N)) (B (x62 P) (B (x94 P) N N) N)))))
theorem _root_.PySem.W.Fast.te8029273044457897882:PySem.W.Fast.tw8029273044457897882=PySem.W.Fast.tw8029273044457897882:=rfl
end
open PySem PySem.W PyProof.Rows
set_option maxRecDepth 100000 in
set_option maxHeartbeats 0 in
theorem PySem.Challenge.cw_turnery_k71_wants_that_are_met_holds : PySem.Challenge.rw_turnery_k71_wants_that_are_met.Holds := by
 w_on;o_law;k_head;(case hw=>w_witness2)
 k_fill
 refine K71.walk (l:=PySem.Challenge.rw_turnery_k71_wants_that_are_met) rfl rfl (fun w h Y=>PySem.W.kIn_of Y) ?F
 case F =>
  intro w mg fa h KX G hmg
  refine' K71.all_mk KX G hmg ?d1 ?d2 ?d3 ?d4 ?d5 ?d6 ?d7 ?d8 ?d9 ?d10 ?d11 ?d12 ?d13 ?d14 ?d15 ?d16 ?d17 ?d18 ?d19 ?d20 ?d21 ?d22 ?d23 ?d24 ?d25 ?d26 ?d27 ?d28 ?d29 ?d30 ?d31 ?d32 ?d33 ?d34 ?d35 ?z1 ?z2 ?z3 ?z4 ?z5 ?z6 ?z7 ?z8 ?z9 ?z10 ?z11 ?z12 ?z13 ?z14 ?z15 ?s1
  (case d1=>refine' L2.DefAt.mk' ?a ?l ?c ?k;(case a=>k_is);(case l=>k_is);(case c=>k_is);(case k=>k_is))
  (case d2=>refine' L2.DefAt.mk' ?a ?l ?c ?k;(case a=>k_is);(case l=>k_is);(case c=>k_is);(case k=>k_is))
  (case d3=>refine' L2.DefAt.mk' ?a ?l ?c ?k;(case a=>k_is);(case l=>k_is);(case c=>k_is);(case k=>k_is))
  (case d4=>refine' L2.DefAt.mk' ?a ?l ?c ?k;(case a=>k_is);(case l=>k_is);(case c=>k_is);(case k=>k_is))
  (case d5=>refine' L2.DefAt.mk' ?a ?l ?c ?k;(case a=>k_is);(case l=>k_is);(case c=>k_is);(case k=>k_is))
  (case d6=>refine' L2.DefAt.mk' ?a ?l ?c ?k;(case a=>k_is);(case l=>k_is);(case c=>k_is);(case k=>k_is))
  (case d7=>refine' L2.DefAt.mk' ?a ?l ?c ?k;(case a=>k_is);(case l=>k_is);(case c=>k_is);(case k=>k_is))
  (case d8=>refine' L2.DefAt.mk' ?a ?l ?c ?k;(case a=>k_is);(case l=>k_is);(case c=>k_is);(case k=>k_is))
  (case d9=>refine' L2.DefAt.mk' ?a ?l ?c ?k;(case a=>k_is);(case l=>k_is);(case c=>k_is);(case k=>k_is))
  (case d10=>refine' L2.DefAt.mk' ?a ?l ?c ?k;(case a=>k_is);(case l=>k_is);(case c=>k_is);(case k=>k_is))
  (case d11=>refine' L2.DefAt.mk' ?a ?l ?c ?k;(case a=>k_is);(case l=>k_is);(case c=>k_is);(case k=>k_is))
  (case d12=>refine' L2.DefAt.mk' ?a ?l ?c ?k;(case a=>k_is);(case l=>k_is);(case c=>k_is);(case k=>k_is))
  (case d13=>refine' L2.DefAt.mk' ?a ?l ?c ?k;(case a=>k_is);(case l=>k_is);(case c=>k_is);(case k=>k_is))
  (case d14=>refine' L2.DefAt.mk' ?a ?l ?c ?k;(case a=>k_is);(case l=>k_is);(case c=>k_is);(case k=>k_is))
  (case d15=>refine' L2.DefAt.mk' ?a ?l ?c ?k;(case a=>k_is);(case l=>k_is);(case c=>k_is);(case k=>k_is))
  (case d16=>refine' L2.DefAt.mk' ?a ?l ?c ?k;(case a=>k_is);(case l=>k_is);(case c=>k_is);(case k=>k_is))
  (case d17=>refine' L2.DefAt.mk' ?a ?l ?c ?k;(case a=>k_is);(case l=>k_is);(case c=>k_is);(case k=>k_is))
  (case d18=>refine' L2.DefAt.mk' ?a ?l ?c ?k;(case a=>k_is);(case l=>k_is);(case c=>k_is);(case k=>k_is))
  (case d19=>refine' L2.DefAt.mk' ?a ?l ?c ?k;(case a=>k_is);(case l=>k_is);(case c=>k_is);(case k=>k_is))
  (case d20=>refine' L2.DefAt.mk' ?a ?l ?c ?k;(case a=>k_is);(case l=>k_is);(case c=>k_is);(case k=>k_is))
  (case d21=>refine' L2.DefAt.mk' ?a ?l ?c ?k;(case a=>k_is);(case l=>k_is);(case c=>k_is);(case k=>k_is))
  (case d22=>refine' L2.DefAt.mk' ?a ?l ?c ?k;(case a=>k_is);(case l=>k_is);(case c=>k_is);(case k=>k_is))
  (case d23=>refine' L2.DefAt.mk' ?a ?l ?c ?k;(case a=>k_is);(case l=>k_is);(case c=>k_is);(case k=>k_is))
  (case d24=>refine' L2.DefAt.mk' ?a ?l ?c ?k;(case a=>k_is);(case l=>k_is);(case c=>k_is);(case k=>k_is))
  (case d25=>refine' L2.DefAt.mk' ?a ?l ?c ?k;(case a=>k_is);(case l=>k_is);(case c=>k_is);(case k=>k_is))
  (case d26=>refine' L2.DefAt.mk' ?a ?l ?c ?k;(case a=>k_is);(case l=>k_is);(case c=>k_is);(case k=>k_is))
  (case d27=>refine' L2.DefAt.mk' ?a ?l ?c ?k;(case a=>k_is);(case l=>k_is);(case c=>k_is);(case k=>k_is))
  (case d28=>refine' L2.DefAt.mk' ?a ?l ?c ?k;(case a=>k_is);(case l=>k_is);(case c=>k_is);(case k=>k_is))
  (case d29=>refine' L2.DefAt.mk' ?a ?l ?c ?k;(case a=>k_is);(case l=>k_is);(case c=>k_is);(case k=>k_is))
  (case d30=>refine' L2.DefAt.mk' ?a ?l ?c ?k;(case a=>k_is);(case l=>k_is);(case c=>k_is);(case k=>k_is))
  (case d31=>refine' L2.DefAt.mk' ?a ?l ?c ?k;(case a=>k_is);(case l=>k_is);(case c=>k_is);(case k=>k_is))
  (case d32=>refine' L2.DefAt.mk' ?a ?l ?c ?k;(case a=>k_is);(case l=>k_is);(case c=>k_is);(case k=>k_is))
  (case d33=>refine' L2.DefAt.mk' ?a ?l ?c ?k;(case a=>k_is);(case l=>k_is);(case c=>k_is);(case k=>k_is))
  (case d34=>refine' L2.DefAt.mk' ?a ?l ?c ?k;(case a=>k_is);(case l=>k_is);(case c=>k_is);(case k=>k_is))
  (case d35=>refine' L2.DefAt.mk' ?a ?l ?c ?k;(case a=>k_is);(case l=>k_is);(case c=>k_is);(case k=>k_is))
  (case z1=>k_is);(case z2=>k_is);(case z3=>k_is);(case z4=>k_is);(case z5=>k_is);(case z6=>k_is);(case z7=>k_is);(case z8=>k_is);(case z9=>k_is);(case z10=>k_is);(case z11=>k_is);(case z12=>k_is);(case z13=>k_is);(case z14=>k_is);(case z15=>k_is)
  case s1 =>
   refine' K71.FtK.mk' ?aC ?pg ?hd ?po ?sa ?n1 ?n2 ?n3 ?mk ?kc ?m1 ?m2 ?m3 ?m4
   (case aC=>k_is);(case pg=>k_is);(case hd=>k_is);(case po=>k_is);(case sa=>k_is);(case n1=>k_is);(case n2=>k_is);(case n3=>k_is);(case mk=>k_is);(case kc=>k_is)
   (case m1=>refine' L2.MethAt.mk' ?a ?i ?l ?c ?k;(case a=>k_is);(case i=>k_is);(case l=>k_is);(case c=>k_is);(case k=>k_is))
   (case m2=>refine' L2.MethAt.mk' ?a ?i ?l ?c ?k;(case a=>k_is);(case i=>k_is);(case l=>k_is);(case c=>k_is);(case k=>k_is))
   (case m3=>refine' L2.MethAt.mk' ?a ?i ?l ?c ?k;(case a=>k_is);(case i=>k_is);(case l=>k_is);(case c=>k_is);(case k=>k_is))
   (case m4=>refine' L2.MethAt.mk' ?a ?i ?l ?c ?k;(case a=>k_is);(case i=>k_is);(case l=>k_is);(case c=>k_is);(case k=>k_is))
