import PyProof.Rows.All
import Wide.All
import OpenK.AllK
import Wide.FinOn
import Lean
import PyProof.EqAt
import PyProof.EqKinds
import PyProof.TupleCall
import KE.KSortTup
import KE.KLam
import KE.KNestM
import KE.KTryDeep
import KE.KTryOn
import OpenK.KOwn
import PyProof.FString
import PyProof.PureStr
import KE.KDictList
import PyProof.RulesAs
import PyProof.NsDelKeeps
import KE.KTryMore
import KE.KIsAll
import PySem.Challenge.RW_turnery_k68_terms_too_great
set_option hygiene false
local macro_rules|`((0:))=>`((by decide +kernel))
local macro_rules|`((1:))=>`(⟨rfl,rfl,rfl,by decide +kernel,rfl,by decide +kernel,by decide +kernel⟩)
local macro_rules|`((2:))=>`((fun _ _=>rfl))
local macro_rules|`((3:))=>`((fun cdv A outer s H vs Q E hr h=>?_))
local macro_rules|`((4:))=>`((B (oT #[]) N N))
local macro_rules|`((5:))=>`((model X.prog X.w))
local macro_rules|`((6:))=>`(⟨I.ok.mod,I.ok.kind,I.ok.glob,I.ok.blt,I.ok.above,I.ok.inj,I.ok.has,I.ok.cab,I.ok.hd,I.ok.frames,I.ok.stk,I.ok.exf,I.ok.bs,I.ok.bsz,I.ok.noex,I.ok.exfs,I.ok.funs,I.ok.frf⟩)
local macro_rules|`((7:))=>`((QE X (xs ++ caps) scope cl s3.heap.objs.size fp s3 H3))
local macro_rules|`((8:))=>`((Nat.le_refl _))
local macro_rules|`((9:))=>`((by show 2≤sizeLine;decide))
local macro_rules|`((10:))=>`((by lia))
local macro_rules|`((11:))=>`((Addr × Obj))
local macro_rules|`((12:))=>`((Or.inl rfl))
local macro_rules|`((13:))=>`((fun vs H Q E h=>?_))
local macro_rules|`((14:))=>`((envOfC qual scope s.heap.objs.size f cd))
local macro_rules|`((15:))=>`((by intro z;cases z))
local macro_rules|`((16:))=>`((by show 3≤sizeLine;decide))
local macro_rules|`((17:))=>`((by show 0≤sizeLine;decide))
abbrev Fg:=PySem.W.Frag
noncomputable section
set_option Elab.async false
set_option linter.all false
set_option maxRecDepth 100000
namespace L2
open PySem PySem.Spec PyProof.Rows
abbrev Key:=Sum Int Str
def J2:Key→Value→Bool
 | .inl k,v=>Value.isInt k v
 | .inr x,v=>Value.isStrOf x v
def S6 (w:World):Key→Int
 | .inl k=>hashInt k
 | .inr x=>hashStr w x
theorem QU:∀ {k:Key} {v:Value},J2 k v=true→(∃ i t,k=Sum.inl i∧v=Value.int i t)∨(∃ x t,k=Sum.inr x∧v=Value.str x t)
 | .inl i,v,h=>by
  obtain ⟨t,e⟩:=Value.isInt_shape (k:=i) (v:=v) h
  exact .inl ⟨i,t,rfl,e⟩
 | .inr x,v,h=>by
  obtain ⟨t,e⟩:=Value.isStrOf_shape (x:=x) (v:=v) h
  exact .inr ⟨x,t,rfl,e⟩
theorem GF (i:Int) (t:Tok):J2 (.inl i) (.int i t)=true:=by simp [J2,Value.isInt]
theorem GV (x:Str) (t:Tok):J2 (.inr x) (.str x t)=true:=by simp [J2,Value.isStrOf]
theorem Po (a b:Int):decide ((Sum.inl a:Key)=Sum.inl b)=(a == b):=by
 by_cases e:a=b
 ·subst e;simp
 ·have h:¬ (Sum.inl a:Key)=Sum.inl b:=fun q=>e (Sum.inl.inj q)
  rw [decide_eq_false h]
  exact (beq_eq_false_iff_ne.mpr e).symm
theorem PR (a b:Str):decide ((Sum.inr a:Key)=Sum.inr b)=decide (a=b):=by
 by_cases e:a=b
 ·subst e;simp
 ·have h:¬ (Sum.inr a:Key)=Sum.inr b:=fun q=>e (Sum.inr.inj q)
  rw [decide_eq_false h,decide_eq_false e]
theorem P0 (a:Int) (b:Str):decide ((Sum.inl a:Key)=Sum.inr b)=false:=decide_eq_false (fun q=>nomatch q)
theorem O8 (a:Str) (b:Int):decide ((Sum.inr a:Key)=Sum.inl b)=false:=decide_eq_false (fun q=>nomatch q)
def QD (prog:Program) (w:World):PySem.KeyKind prog w Key where
 is:=J2
 hash:=S6 w
 inj:=fun v a b ha hb=>by
  rcases QU ha with ⟨i,t,rfl,rfl⟩ | ⟨x,t,rfl,rfl⟩
  ·rcases QU hb with ⟨j,u,rfl,e⟩ | ⟨y,u,rfl,e⟩
   ·injection e with e1 _;rw [e1]
   ·exact nomatch e
  ·rcases QU hb with ⟨j,u,rfl,e⟩ | ⟨y,u,rfl,e⟩
   ·exact nomatch e
   ·injection e with e1 _;rw [e1]
 byValue:=fun k v h=>by
  rcases QU h with ⟨i,t,rfl,rfl⟩ | ⟨x,t,rfl,rfl⟩ <;> rfl
 pyHash:=fun hv h=>by
  rcases QU hv with ⟨i,t,rfl,rfl⟩ | ⟨x,t,rfl,rfl⟩
  ·exact wpAny_pyHash_int h
  ·exact wpAny_pyHash_str h
 eqBool:=fun hu hv h=>by
  rcases QU hu with ⟨i,t,rfl,rfl⟩ | ⟨x,t,rfl,rfl⟩
  ·rcases QU hv with ⟨j,u,rfl,rfl⟩ | ⟨y,u,rfl,rfl⟩
   ·rw [Po] at h;exact wpAny_eqBool_int h
   ·rw [P0] at h;exact SeqAt.EqAt.int_str i t y u _ _ _ _ h
  ·rcases QU hv with ⟨j,u,rfl,rfl⟩ | ⟨y,u,rfl,rfl⟩
   ·rw [O8] at h;exact SeqAt.EqAt.str_int x t j u _ _ _ _ h
   ·rw [PR] at h;exact wpAny_eqBool_str h
 «strs»:=fun k x t v h=>by
  rcases QU h with ⟨i,u,rfl,e⟩ | ⟨y,u,rfl,e⟩
  ·exact nomatch e
  ·injection e with e1 _
   subst e1
   cases v <;> rfl
theorem WD (prog:Program) (w:World) (i:Int) (t:Tok):(QD prog w).is (.inl i) (.int i t)=true:=GF i t
theorem WI (prog:Program) (w:World) (x:Str) (t:Tok):(QD prog w).is (.inr x) (.str x t)=true:=GV x t
end L2
namespace L2
open PySem PySem.Spec PyProof.Rows
inductive V where
 | non | bl (b:Bool) | int (i:Int) | str (x:Str) | byt (b:Array UInt8) | flt (b:UInt64) | ref (a:Addr) | ty (n:String)
 deriving DecidableEq
def RelV:V→Value→Prop
 | .non,u=>u=Value.none
 | .bl b,u=>u=Value.bool b
 | .int i,u=>∃ t,u=Value.int i t
 | .str x,u=>∃ t,u=Value.str x t
 | .byt b,u=>∃ t,u=Value.bytes b t
 | .flt b,u=>∃ t,u=Value.float b t
 | .ref a,u=>u=Value.ref a
 | .ty n,u=>u=Value.type n
abbrev Vals:List V→List Value→Prop:=Paired RelV
theorem Vals.length {xs:List V} {us:List Value} (r:Vals xs us):xs.length=us.length:=Paired.length r
theorem Vals.get:∀ {xs:List V} {us:List Value} {i:Nat} {x:V},Vals xs us→xs[i]?=some x→∃ u,us[i]?=some u∧RelV x u
 | _,_,_,_,.nil,e=>by simp at e
 | _,_,0,_,.cons r _,e=>by simp at e;subst e;exact ⟨_,rfl,r⟩
 | _,_,i + 1,x,.cons _ t,e=>by
  obtain ⟨u,h1,h2⟩:=Vals.get (i:=i) (x:=x) t (by simpa using e)
  exact ⟨u,by simpa using h1,h2⟩
theorem Vals.set {x:V} {u:Value} (r:RelV x u):∀ {xs:List V} {us:List Value} (i:Nat),Vals xs us→Vals (xs.set i x) (us.set i u)
 | _,_,_,.nil=>.nil
 | _,_,0,.cons _ t=>.cons r t
 | _,_,i + 1,.cons q t=>.cons q (Vals.set r i t)
theorem Vals.append:∀ {xs ys:List V} {us ws:List Value},Vals xs us→Vals ys ws→Vals (xs ++ ys) (us ++ ws)
 | _,_,_,_,.nil,s=>s
 | _,_,_,_,.cons r t,s=>.cons r (Vals.append t s)
theorem Vals.take:∀ {xs:List V} {us:List Value} (n:Nat),Vals xs us→Vals (xs.take n) (us.take n)
 | _,_,0,_=>.nil
 | _,_,_ + 1,.nil=>.nil
 | _,_,n + 1,.cons r t=>.cons r (Vals.take n t)
theorem Vals.drop:∀ {xs:List V} {us:List Value} (n:Nat),Vals xs us→Vals (xs.drop n) (us.drop n)
 | _,_,0,r=>r
 | _,_,_ + 1,.nil=>.nil
 | _,_,n + 1,.cons _ t=>Vals.drop n t
def RelO:Option V→Option Value→Prop
 | some v,some u=>RelV v u
 | none,none=>True
 | _,_=>False
def KV {κ:Type}:List (κ × V)→List (κ × Value)→Prop:=Paired fun (p:κ × V) (q:κ × Value)=>p.1=q.1∧RelV p.2 q.2
def kV:Key→V
 | .inl i=>.int i
 | .inr x=>.str x
inductive HO where
 /-- a list -/
 | lst (xs:List V)
 /-- a tuple (never changes) -/
 | tup (xs:List V)
 /-- a dict whose keys are ints and texts;one whose keys are tuples of ints and texts (the empty one is both) -/
 | dK (kvs:List (Key × V)) | dT (kvs:List (List Key × V))
 /-- a set of ints: its members,its size -/
 | set (S:Int→Bool) (n:Nat)
 /-- an instance of the class at C,its dict at dx,its attributes -/
 | ins (C dx:Addr) (fs:List (Str × V))
 /-- the dict of the instance at x -/
 | own (x:Addr)
 /-- the dict of an exception -/
 | xd (fs:List (Str × V))
 /-- a bound method,f of x -/
 | met (f x:Addr)
 /-- a range object lo,lo + 1,.. below hi -/
 | rng (lo hi:Int)
 /-- a thing that is known to the object (the script;a dict while a loop walks it): read,never written while it is so -/
 | frz (o:Obj) (u:HO)
 /-- a code object's table -/
 | tbl (ps:Array Value)
 /-- any other thing,by what is true of its one object (a def of one's own: SetO a S n:=HO.ext fun h=>..) -/
 | ext (φ:Heap→Prop)
abbrev Hp:=Addr→Option HO
def upd (H:Hp) (a:Addr) (o:HO):Hp:=fun b=>if b=a then some o else H b
theorem Qd {H:Hp} {a:Addr} {o:HO}:upd H a o a=some o:=by unfold upd;rw [if_pos rfl]
theorem Ql {H:Hp} {a b:Addr} {o:HO} (h:b≠a):upd H a o b=H b:=by unfold upd;rw [if_neg h]
theorem ne_of {H:Hp} {a b:Addr} {o u:HO} (h:H a=some o) (h':H b=some u) (d:o≠u):a≠b:=by
 intro e;subst e;rw [h] at h';exact d (Option.some.inj h')
theorem Qj {H:Hp} {a b:Addr} {o:HO} (h:H a=some o) (h':H b=none):a≠b:=by
 intro e;subst e;rw [h] at h';cases h'
section
variable (P:Program) (w:World)
def ObjOk (H:Hp) (h:Heap) (a:Addr):HO→Prop
 | .lst xs=>xs.length≤sizeLine∧∃ (its:List Value) (n:Nat),Vals xs its∧h.get? a=some { cls:=.type "list", data:=.seq its.toArray n }
 | .tup xs=>xs.length≤sizeLine∧∃ its:List Value,Vals xs its∧IsTup h a its.toArray
 | .dK kvs=>kvs.length≤sizeLine∧(a == sysModules)=false∧∃ vs,KV kvs vs∧h.DictOf (QD P w) a vs
 | .dT kvs=>kvs.length≤sizeLine∧(a == sysModules)=false∧∃ xs:List (List Key × Addr × Value),
  Paired (fun (p:List Key × V) (q:List Key × Addr × Value)=>p.1=q.1∧H q.2.1=some (.tup (p.1.map kV))∧RelV p.2 q.2.2) kvs xs ∧
  ∃ o es ep,h.get? a=some o∧o.ExactDict∧o.data=.dict es ep∧es.toList=xs.map (entryOfKey (tupleKind (QD P w)))∧(xs.map (·.1)).Nodup
 | .set S n=>h.SetOf (intKind P w) a S n
 | .ins C dx fs=>H dx=some (.own a)∧fs.length≤1000∧dx≠a∧h.get? a=some (PySem.W.instObj C dx) ∧
  ∃ mA,h.Ns1 dx mA∧(∀ f,RelO (fs.lookup f) (mA f))∧PySem.Within mA (fs.map (·.1))
 | .own _=>∃ o,h.get? a=some o
 | .xd fs=>∃ mA,h.Ns1 a mA∧∀ f,RelO (fs.lookup f) (mA f)
 | .rng lo hi=>∃ t u v,h.get? a=some { cls:=.type "range", data:=.fields #[.int lo t,.int hi u,.int 1 v] }
 | .frz o u=>h.get? a=some o∧ObjOk H h a u
 | .tbl ps=>h.get? a=some { cls:=.none,data:=.fields ps }
 | .met f x=>h.get? a=some (PySem.W.methodObj (.ref f) (.ref x))
 | .ext φ=>φ h∧(∃ o,h.get? a=some o)∧∀ h1 h2:Heap,φ h1→(∀ o,h1.get? a=some o→h2.get? a=some o)→φ h2
def HOk (H:Hp) (h:Heap):Prop:=∀ a o,H a=some o→ObjOk P w H h a o
end
section
variable {P:Program} {w:World} {H H':Hp} {h h':Heap} {a:Addr} {o:HO}
theorem ObjOk.lt (x:ObjOk P w H h a o):a < h.objs.size:=by
 cases o with
 | lst xs=>obtain ⟨_,_,_,_,e⟩:=x;exact Heap.lt_size e
 | tup xs=>obtain ⟨_,_,_,p⟩:=x;exact p.lt
 | dK kvs=>obtain ⟨_,_,_,_,o,_,_,e,_⟩:=x;exact Heap.lt_size e
 | dT kvs=>obtain ⟨_,_,_,_,o,_,_,e,_⟩:=x;exact Heap.lt_size e
 | set S n=>obtain ⟨o,_,_,_,e,_⟩:=x;exact Heap.lt_size e
 | ins C dx fs=>obtain ⟨_,_,_,e,_⟩:=x;exact Heap.lt_size e
 | own y=>obtain ⟨_,e⟩:=x;exact Heap.lt_size e
 | xd fs=>obtain ⟨_,⟨_,_,_,e,_⟩,_⟩:=x;exact Heap.lt_size e
 | rng lo hi=>obtain ⟨_,_,_,e⟩:=x;exact Heap.lt_size e
 | frz ob u=>obtain ⟨e,_⟩:=x;exact Heap.lt_size e
 | tbl ps=>exact Heap.lt_size (show h.get? a=some _ from x)
 | met f y=>exact Heap.lt_size (show h.get? a=some _ from x)
 | ext φ=>obtain ⟨_,⟨_,e⟩,_⟩:=x;exact Heap.lt_size e
theorem Paired.mapP {α β:Type} {F G:α→β→Prop}:∀ {l₁:List α} {l₂:List β},Paired F l₁ l₂→(∀ a b,F a b→G a b)→Paired G l₁ l₂
 | _,_,.nil,_=>.nil
 | _,_,.cons r t,f=>.cons (f _ _ r) (Paired.mapP t f)
theorem ObjOk.stay (x:ObjOk P w H h a o) (k:∀ b u,(b=a∨H b=some (.own a))→h.get? b=some u→h'.get? b=some u)
 (ho:∀ b,H b=some (.own a)→H' b=some (.own a)) (ht:∀ b xs,H b=some (.tup xs)→H' b=some (.tup xs)):ObjOk P w H' h' a o:=by
 induction o with
 | lst xs=>obtain ⟨z,its,n,r,e⟩:=x;exact ⟨z,its,n,r,k _ _ (.inl rfl) e⟩
 | tup xs=>obtain ⟨z,its,r,ob,e,c⟩:=x;exact ⟨z,its,r,ob,k _ _ (.inl rfl) e,c⟩
 | dK kvs=>obtain ⟨z,y,vs,r,ob,es,ep,e,c⟩:=x;exact ⟨z,y,vs,r,ob,es,ep,k _ _ (.inl rfl) e,c⟩
 | dT kvs =>
  obtain ⟨z,y,xs,r,ob,es,ep,e,c⟩:=x
  exact ⟨z,y,xs,Paired.mapP r fun p q z=>⟨z.1,ht _ _ z.2.1,z.2.2⟩,ob,es,ep,k _ _ (.inl rfl) e,c⟩
 | set S n=>obtain ⟨ob,es,ep,t,e,c⟩:=x;exact ⟨ob,es,ep,t,k _ _ (.inl rfl) e,c⟩
 | ins C dx fs =>
  obtain ⟨d,z,ne,e,mA,⟨od,es,ep,e2,c⟩,r⟩:=x
  exact ⟨ho _ d,z,ne,k _ _ (.inl rfl) e,mA,⟨od,es,ep,k _ _ (.inr d) e2,c⟩,r⟩
 | own y=>obtain ⟨ob,e⟩:=x;exact ⟨ob,k _ _ (.inl rfl) e⟩
 | xd fs=>obtain ⟨mA,⟨od,es,ep,e,c⟩,r⟩:=x;exact ⟨mA,⟨od,es,ep,k _ _ (.inl rfl) e,c⟩,r⟩
 | rng lo hi=>obtain ⟨t,u,v,e⟩:=x;exact ⟨t,u,v,k _ _ (.inl rfl) e⟩
 | frz ob u ih=>obtain ⟨e,q⟩:=x;exact ⟨k _ _ (.inl rfl) e,ih q⟩
 | tbl ps =>
  have e:h.get? a=some { cls:=.none,data:=.fields ps }:=x
  show h'.get? a=some { cls:=.none,data:=.fields ps }
  exact k a _ (.inl rfl) e
 | met f y =>
  have e:h.get? a=some (PySem.W.methodObj (.ref f) (.ref y)):=x
  show h'.get? a=some (PySem.W.methodObj (.ref f) (.ref y))
  exact k a _ (.inl rfl) e
 | ext φ=>obtain ⟨p,⟨o,e⟩,st⟩:=x;exact ⟨st _ _ p fun o q=>k _ _ (.inl rfl) q,⟨o,k _ _ (.inl rfl) e⟩,st⟩
theorem HOk.lt (x:HOk P w H h) (e:H a=some o):a < h.objs.size:=(x a o e).lt
theorem HOk.fresh (x:HOk P w H h) (e:h.objs.size≤a):H a=none:=by
 cases q:H a with
 | none=>rfl
 | some u=>exact absurd (Nat.lt_of_lt_of_le (x.lt q) e) (Nat.lt_irrefl _)
theorem HOk.kept (x:HOk P w H h) (k:∀ b u,h.get? b=some u→h'.get? b=some u):HOk P w H h':=fun a o e =>
 (x a o e).stay (fun b u _ q=>k b u q) (fun _ q=>q) fun _ _ q=>q
theorem HOk.laid (x:HOk P w H h) (k:∀ b u,h.get? b=some u→h'.get? b=some u) (hp:h.objs.size≤a) (new:ObjOk P w (upd H a o) h' a o):HOk P w (upd H a o) h':=fun b u e=>by
 have hn:=x.fresh hp
 by_cases hb:b=a
 ·subst hb;rw [Qd] at e;cases e;exact new
 ·rw [Ql hb] at e
  exact (x b u e).stay (fun c v _ q=>k c v q) (fun c q=>by rw [Ql (Qj q hn)];exact q) fun c xs q=>by rw [Ql (Qj q hn)];exact q
end
def Rd (H:Hp) (a:Addr) (u:HO):Prop:=H a=some u∨∃ o,H a=some (.frz o u)
theorem Rd.ok {P:Program} {w:World} {H:Hp} {h:Heap} {a:Addr} {u:HO} (r:Rd H a u) (x:HOk P w H h):ObjOk P w H h a u:=by
 rcases r with r | ⟨o,r⟩
 ·exact x a u r
 ·obtain ⟨_,q⟩:=x a _ r
  exact q
def Mut:Option HO→Prop
 | some (.lst _)=>True
 | some (.dK _)=>True
 | some (.dT _)=>True
 | some (.set _ _)=>True
 | some (.ins _ _ _)=>True
 | some (.ext _)=>True
 | _=>False
section
variable {P:Program} {w:World} {H:Hp} {h h':Heap} {x e:Addr} {o':HO}
theorem HOk.write (ok:HOk P w H h) (mu:Mut (H x)) (he:e=x∨H e=some (.own x)) (k:∀ b u,b≠e→h.get? b=some u→h'.get? b=some u) (heo:∃ u,h'.get? e=some u)
 (new:ObjOk P w (upd H x o') h' x o'):HOk P w (upd H x o') h':=fun b u q=>by
 have nown:∀ c y,H c=some (.own y)→c≠x:=fun c y r z=>by subst z;rw [r] at mu;exact mu
 have ntup:∀ c xs,H c=some (.tup xs)→c≠x:=fun c xs r z=>by subst z;rw [r] at mu;exact mu
 by_cases hb:b=x
 ·subst hb;rw [Qd] at q;cases q;exact new
 ·rw [Ql hb] at q
  by_cases hbe:b=e
  ·have q':H b=some (.own x):=by
    rcases he with z | z
    ·exact absurd (hbe.trans z) hb
    ·rw [hbe];exact z
   rw [q] at q';cases q'
   obtain ⟨v,hv⟩:=heo
   exact ⟨v,by rw [hbe];exact hv⟩
  ·refine (ok b u q).stay (fun c v hc r=>k c v ?_ r) (fun c r=>by rw [Ql (nown c b r)];exact r) fun c xs r=>by rw [Ql (ntup c xs r)];exact r
   rcases hc with rfl | hc
   ·exact hbe
   ·rintro rfl
    rcases he with z | z
    ·exact nown c b hc z
    ·rw [hc] at z;cases z;exact hb rfl
end
structure Un (fs ex:List Addr) (H H':Hp) (h h':Heap):Prop where
 keep:∀ b o,h.get? b=some o→H b=none→b ∉ fs→b ∉ ex→h'.get? b=some o
 slot:∀ b o,h.get? b=some o→H b=none→b ∈ fs→b ∉ ex→∃ sl,h'.get? b=some { o with slots:=sl }
 free:∀ b o,h.get? b=some o→H b=none→b ∉ ex→H' b=none
 there:∀ b o,h.get? b=some o→b ∉ ex→∃ o',h'.get? b=some o'
 tups:∀ b xs,H b=some (.tup xs)→H' b=some (.tup xs)
 frzs:∀ b o u,H b=some (.frz o u)→H' b=some (.frz o u)
 tbls:∀ b ps,H b=some (.tbl ps)→∃ more,H' b=some (.tbl (ps ++ more))
section
variable {fs fs' ex ex':List Addr} {H H1 H2:Hp} {h h1 h2 h':Heap} {a x e:Addr} {o:HO}
theorem Un.any (u:Un fs ex H H1 h h1) {b:Addr} {ob:Obj} (q:h.get? b=some ob) (n:H b=none) (hx:b ∉ ex):∃ sl,h1.get? b=some { ob with slots:=sl }:=by
 by_cases hb:b ∈ fs
 ·exact u.slot b ob q n hb hx
 ·exact ⟨ob.slots,u.keep b ob q n hb hx⟩
theorem Un.kept (k:∀ b u,h.get? b=some u→h'.get? b=some u):Un fs ex H H h h' :=
 ⟨fun b ob q _ _ _=>k b ob q,fun b ob q _ _ _=>⟨ob.slots,k b ob q⟩,fun _ _ _ n _=>n,fun b ob q _=>⟨ob,k b ob q⟩,fun _ _ q=>q,fun _ _ _ q=>q,fun _ ps q=>⟨#[],by rw [q];simp⟩⟩
theorem Un.refl:Un fs ex H H h h:=Un.kept fun _ _ q=>q
theorem Un.laid (k:∀ b u,h.get? b=some u→h'.get? b=some u) (hp:h.objs.size≤a) (hn:H a=none):Un fs ex H (upd H a o) h h' where
 keep:=fun b u q _ _ _=>k b u q
 slot:=fun b u q _ _ _=>⟨u.slots,k b u q⟩
 free:=fun b u q n _=>by rw [Ql (Nat.ne_of_lt (Nat.lt_of_lt_of_le (Heap.lt_size q) hp))];exact n
 there:=fun b u q _=>⟨u,k b u q⟩
 tups:=fun b xs q=>by rw [Ql (Qj q hn)];exact q
 frzs:=fun b u xs q=>by rw [Ql (Qj q hn)];exact q
 tbls:=fun b ps q=>⟨#[],by rw [Ql (Qj q hn),q];simp⟩
theorem Un.write (mu:Mut (H x)) (he:e=x∨H e=some (.own x)) (k:∀ b u,b≠e→h.get? b=some u→h'.get? b=some u) (heo:∃ u,h'.get? e=some u):Un fs ex H (upd H x o) h h':=by
 have hx:∀ b,H b=none→b≠x:=fun b n z=>by subst z;rw [n] at mu;exact mu
 have hb:∀ b,H b=none→b≠e:=fun b n z=>by
  subst z
  rcases he with r | r
  ·exact hx b n r
  ·rw [n] at r;cases r
 have hm:∀ b u,H b=some u→¬ Mut (some u)→b≠x:=fun b u q nm z=>by subst z;rw [q] at mu;exact nm mu
 refine ⟨fun b u q n _ _=>k b u (hb b n) q,fun b u q n _ _=>⟨u.slots,k b u (hb b n) q⟩,fun b u q n _=>by rw [Ql (hx b n)];exact n,fun b u q _=>?_,fun b xs q=>by rw [Ql (hm b _ q fun z=>z)];exact q,fun b u xs q=>by rw [Ql (hm b _ q fun z=>z)];exact q,fun b ps q=>⟨#[],by rw [Ql (hm b _ q fun z=>z),q];simp⟩⟩
 by_cases hbe:b=e
 ·subst hbe;exact heo
 ·exact ⟨u,k b u hbe q⟩
end
def trk (h:Heap) (H:Hp):List Addr:=(List.range h.objs.size).filter fun a=>(H a).isSome
def YO (h:Heap) (H:Hp):Heap:=PySem.W.hideAll h (trk h H)
theorem JX (h:Heap) (H:Hp):(YO h H).objs.size=h.objs.size:=PySem.W.hideAll_size _ _
theorem WU {h:Heap} {H:Hp} {b:Addr} {o:Obj} (e:h.get? b=some o) (n:H b=none):(YO h H).get? b=some o :=
 PySem.W.hideAll_get _ e fun hm=>by
  have q:(H b).isSome=true:=(List.mem_filter.mp hm).2
  rw [n] at q;simp at q
theorem VN {h:Heap} {H:Hp} {b:Addr} {o:Obj} (e:(YO h H).get? b=some o):h.get? b=some o∧H b=none:=by
 have e':h.get? b=some o:=PySem.W.of_hideAll (trk h H) e
 refine ⟨e',?_⟩
 cases q:H b with
 | none=>rfl
 | some x =>
  have hm:b ∈ trk h H:=List.mem_filter.mpr ⟨List.mem_range.mpr (Heap.lt_size e'),by simp [q]⟩
  have z:(YO h H).get? b=none:=PySem.W.hideAll_none (trk h H) hm
  rw [z] at e;cases e
def Oc (g h:Heap) (L:Addr):List (11:):=(List.range h.objs.size).filterMap fun a=>if a=L∨(g.get? a).isSome=true then none else (h.get? a).map fun o=>(a,o)
def rest (g h:Heap) (L d:Addr):List (11:):=(Oc g h L).filter fun p=>decide (p.1≠d)
end L2
namespace L2
open PySem PySem.Spec PyProof.Rows
structure Mod (K:Fg) (mg:Str→Option Value) (base:Heap):Prop where
 kin:K.In base
 glob:base.Ns mainGlobals mg
 blt:∃ mb,base.Ns builtinsNs mb∧∀ x:Str,x ≠ "__name__" → mb x=bootBuiltins x
 nolimit:base.NoLimit
structure Cx where
 prog:Program
 w:World
 K:Fg
 mg:Str→Option Value
 base:Heap
 A:Around
 N:List Str
 s₀:Shared
 H₀:Hp
 env:Env
 outer:List Env
 stack:List Env
 ex:List Addr
 fn:Str→Bool
 calm:Bool
 pn:List (11:)
 xe:Value→Shared→Prop
def frs (l:List Env):List Addr:=l.filterMap (·.frame)
abbrev Cx.fs (X:Cx):List Addr:=frs X.outer
def Vis (sc:Scope) (x:Str):Prop:=sc.names.lookup x=some .local∨sc.names.lookup x=some .cell∨sc.names.lookup x=some .free
def Loc (sc:Scope) (x:Str):Prop:=sc.names.lookup x=some .local∨sc.names.lookup x=some .cell
def SG (env:Env) (h:Heap) (m:Str→Option Value) (x:Str) (u:Value):Prop :=
 (env.kindOf x=some .local∧m x=some u)∨((env.kindOf x=some .cell∨env.kindOf x=some .free)∧∃ c,env.cells.lookup x=some c∧h.IsCell c (some u))
structure Cx.Ok (X:Cx):Prop where
 mod:Mod X.K X.mg X.base
 kind:X.env.scope.kind=.function
 glob:X.env.globals=mainGlobals
 blt:X.env.builtins=builtinsNs
 above:X.s₀.heap.objs.size≤X.env.locals
 inj:∀ x y c,X.env.cells.lookup x=some c→X.env.cells.lookup y=some c→x=y
 has:∀ x,(X.env.kindOf x=some .cell∨X.env.kindOf x=some .free)→∃ c,X.env.cells.lookup x=some c
 cab:∀ x c,X.fn x=true→X.env.cells.lookup x=some c→X.s₀.heap.objs.size≤c
 hd:X.calm=true→X.A.handled=none
 frames:X.A.frames=some X.stack
 stk:X.stack=X.outer∨(X.stack=X.env :: X.outer∧X.env.frame=some X.env.locals)
 exf:∀ b ∈ X.ex,b≠X.env.locals∧∀ x c,X.env.cells.lookup x=some c→c≠b
 bs:∀ b o,X.base.get? b=some o→X.s₀.heap.get? b=some o∧X.H₀ b=none
 bsz:X.base.objs.size≤X.s₀.heap.objs.size
 noex:∀ b o,X.base.get? b=some o→b ∉ X.ex
 exfs:∀ b ∈ X.ex,b ∉ X.fs
 funs:X.s₀.heap.FunFrames X.base X.outer
 frf:∀ b ∈ X.fs,X.H₀ b=none
structure Inv (X:Cx) (pins:List (11:)) (σ:List (Option V)) (H:Hp) (s:Shared):Prop where
 ok:X.Ok
 os:s.os=X.s₀.os
 bare:AllBare s.gens
 base:Un X.fs X.ex X.H₀ H X.s₀.heap s.heap
 loc:∃ m,s.heap.Ns X.env.locals m∧∀ (i:Nat) (x:Str) (v:V),X.N[i]?=some x→σ[i]?=some (some v)→Vis X.env.scope x→∃ u,RelV v u∧SG X.env s.heap m x u
 cell:∀ x c,X.env.cells.lookup x=some c→∃ v,s.heap.IsCell c v
 free:H X.env.locals=none
 freeC:∀ x c,X.env.cells.lookup x=some c→H c=none
 pin:∀ p ∈ X.pn ++ pins,s.heap.get? p.1=some p.2∧H p.1=none∧p.1≠X.env.locals∧p.1 ∉ X.fs∧∀ v,p.2.data≠.cell v
 hok:HOk X.prog X.w H s.heap
 len:σ.length=X.N.length
section
variable {X:Cx} {pins:List (11:)} {σ:List (Option V)} {H H':Hp} {s:Shared} {h':Heap}
theorem Cx.Ok.nofr (ok:X.Ok) {b:Addr} {o:Obj} (e:X.base.get? b=some o):b ∉ X.fs:=fun hb=>by
 have:=(ok.funs.mem hb).1
 rw [e] at this;cases this
theorem Inv.bs (I:Inv X pins σ H s):∀ b o,X.base.get? b=some o→s.heap.get? b=some o∧H b=none:=fun b o e =>
 ⟨I.base.keep b o (I.ok.bs b o e).1 (I.ok.bs b o e).2 (I.ok.nofr e) (I.ok.noex b o e),I.base.free b o (I.ok.bs b o e).1 (I.ok.bs b o e).2 (I.ok.noex b o e)⟩
theorem Inv.bk (I:Inv X pins σ H s):∀ b o,X.base.get? b=some o→s.heap.get? b=some o:=fun b o e=>(I.bs b o e).1
theorem Inv.mod (I:Inv X pins σ H s):Mod X.K X.mg X.base:=I.ok.mod
theorem Inv.kIn (I:Inv X pins σ H s):X.K.In s.heap:=I.ok.mod.kin.keeps I.bk
theorem Inv.lt (I:Inv X pins σ H s):X.env.locals < s.heap.objs.size:=let ⟨_,hn,_⟩:=I.loc;hn.lt
theorem Inv.sz (I:Inv X pins σ H s):X.s₀.heap.objs.size≤s.heap.objs.size:=Nat.le_trans I.ok.above (Nat.le_of_lt I.lt)
theorem Inv.nofs (I:Inv X pins σ H s) {a:Addr} (h:s.heap.objs.size≤a):a ∉ X.fs:=fun hb=>by
 obtain ⟨_,o,ho,_⟩:=I.ok.funs.mem hb
 exact absurd (Nat.lt_of_lt_of_le (Heap.lt_size ho) (Nat.le_trans I.sz h)) (Nat.lt_irrefl _)
theorem Inv.cne (I:Inv X pins σ H s):∀ x c,X.env.cells.lookup x=some c→c≠X.env.locals:=fun x c e z=>by
 obtain ⟨v,o,ho,hd⟩:=I.cell x c e
 obtain ⟨m,⟨o',es,ep,ho',hd',_⟩,_⟩:=I.loc
 rw [z,ho'] at ho;cases ho;rw [hd'] at hd;cases hd
theorem Inv.funs (I:Inv X pins σ H s):s.heap.FunFrames X.base X.outer:=by
 have all:∀ (l:List Env),(∀ b ∈ frs l,b ∈ X.fs)→X.s₀.heap.FunFrames X.base l→s.heap.FunFrames X.base l:=by
  intro l
  induction l with
  | nil=>intro _ _;trivial
  | cons env r ih =>
   intro hs hl
   obtain ⟨hk,⟨L,o,hf,hn,ho,hd⟩,hr⟩:=hl
   have hL:L ∈ X.fs:=hs L (by unfold frs;rw [List.filterMap_cons,hf];exact List.mem_cons_self)
   obtain ⟨sl,e⟩:=I.base.slot L o ho (I.ok.frf L hL) hL fun z=>I.ok.exfs L z hL
   exact ⟨hk,⟨L,_,hf,hn,e,hd⟩,ih (fun b hb=>hs b (by unfold frs;rw [List.filterMap_cons,hf];exact List.mem_cons_of_mem _ hb)) hr⟩
 exact all X.outer (fun _ hb=>hb) I.ok.funs
theorem Inv.stack (I:Inv X pins σ H s):s.heap.FunFrames X.base X.stack:=by
 rcases I.ok.stk with e | ⟨e,hf⟩
 ·rw [e];exact I.funs
 ·rw [e]
  obtain ⟨m,hn,_⟩:=I.loc
  refine .cons (by rw [I.ok.kind];decide) hf hn ?_ I.funs
  exact Heap.get?_none_of_le (Nat.le_trans I.ok.bsz I.ok.above)
theorem Inv.stkSub (I:Inv X pins σ H s):∀ b ∈ frs X.stack,b ∈ X.env.locals :: X.fs:=fun b hb=>by
 rcases I.ok.stk with e | ⟨e,hf⟩
 ·rw [e] at hb;exact List.mem_cons_of_mem _ hb
 ·rw [e] at hb
  unfold frs at hb
  rw [List.filterMap_cons,hf] at hb
  exact hb
theorem Inv.stkFree (I:Inv X pins σ H s):∀ b ∈ frs X.stack,H b=none:=fun b hb=>by
 rcases List.mem_cons.mp (I.stkSub b hb) with e | hb
 ·rw [e];exact I.free
 ·obtain ⟨_,o,ho,_⟩:=I.ok.funs.mem hb
  exact I.base.free b o ho (I.ok.frf b hb) fun z=>I.ok.exfs b z hb
theorem Inv.step {g':Array GenState} {t':Nat} {d':Drawn} {ch:List Addr} (I:Inv X pins σ H s)
 (hch:∀ b ∈ ch,(b ∈ X.ex∨X.s₀.heap.objs.size≤b)∧b≠X.env.locals∧(∀ x c,X.env.cells.lookup x=some c→c≠b)∧∀ p ∈ X.pn ++ pins,p.1≠b)
 (keep:∀ b o,b≠X.env.locals→b ∉ X.fs→b ∉ ch→s.heap.get? b=some o→H b=none→h'.get? b=some o)
 (slot:∀ b o,b≠X.env.locals→b ∈ X.fs→b ∉ ch→s.heap.get? b=some o→H b=none→∃ sl,h'.get? b=some { o with slots:=sl }) (free:∀ b o,b ∉ ch→s.heap.get? b=some o→H b=none→H' b=none)
 (there:∀ b o,b ∉ ch→s.heap.get? b=some o→∃ o',h'.get? b=some o')
 (tups:∀ b xs,H b=some (.tup xs)→H' b=some (.tup xs)) (frzs:∀ b o u,H b=some (.frz o u)→H' b=some (.frz o u)) (tbls:∀ b ps,H b=some (.tbl ps)→∃ more,H' b=some (.tbl (ps ++ more)))
 (ns:∀ m,s.heap.Ns X.env.locals m→h'.Ns X.env.locals m) (hok:HOk X.prog X.w H' h') (hg:AllBare g') :
 Inv X pins σ H' { s with heap:=h',gens:=g',drawn:=d',toks:=t' }:=by
 have neL:∀ b o,X.s₀.heap.get? b=some o→b≠X.env.locals:=fun b o e=>Nat.ne_of_lt (Nat.lt_of_lt_of_le (Heap.lt_size e) I.ok.above)
 have neC:∀ b o,X.s₀.heap.get? b=some o→b ∉ X.ex→b ∉ ch:=fun b o e hx hb=>by
  rcases (hch b hb).1 with z | z
  ·exact hx z
  ·exact absurd (Nat.lt_of_lt_of_le (Heap.lt_size e) z) (Nat.lt_irrefl _)
 have cellK:∀ x c,X.env.cells.lookup x=some c→∀ v,s.heap.IsCell c v→h'.IsCell c v:=fun x c e v ⟨o,ho,hd⟩=>by
  have nch:c ∉ ch:=fun z=>(hch c z).2.2.1 x c e rfl
  by_cases hc:c ∈ X.fs
  ·obtain ⟨sl,q⟩:=slot c o (I.cne x c e) hc nch ho (I.freeC x c e)
   exact ⟨_,q,hd⟩
  ·exact ⟨o,keep c o (I.cne x c e) hc nch ho (I.freeC x c e),hd⟩
 refine ⟨I.ok,I.os,hg,⟨fun b o e n hb hx=>?_,fun b o e n hb hx=>?_,fun b o e n hx=>?_,fun b o e hx=>?_,fun b xs e=>tups b xs (I.base.tups b xs e),fun b o xs e=>frzs b o xs (I.base.frzs b o xs e),fun b ps e=>?_⟩,?_,fun x c e=>?_,?_,fun x c e=>?_,fun p hp=>?_,hok,I.len⟩
 ·exact keep b o (neL b o e) hb (neC b o e hx) (I.base.keep b o e n hb hx) (I.base.free b o e n hx)
 ·obtain ⟨sl,e1⟩:=I.base.slot b o e n hb hx
  obtain ⟨sl',e2⟩:=slot b _ (neL b o e) hb (neC b o e hx) e1 (I.base.free b o e n hx)
  exact ⟨sl',e2⟩
 ·obtain ⟨o',e1⟩:=I.base.there b o e hx
  exact free b o' (neC b o e hx) e1 (I.base.free b o e n hx)
 ·obtain ⟨o',e1⟩:=I.base.there b o e hx
  exact there b o' (neC b o e hx) e1
 ·obtain ⟨m1,e1⟩:=I.base.tbls b ps e
  obtain ⟨m2,e2⟩:=tbls b _ e1
  exact ⟨m1 ++ m2,by rw [e2,Array.append_assoc]⟩
 ·obtain ⟨m,hn,hl⟩:=I.loc
  refine ⟨m,ns m hn,fun i x v e1 e2 e3=>?_⟩
  obtain ⟨u,r,l⟩:=hl i x v e1 e2 e3
  refine ⟨u,r,?_⟩
  rcases l with l | ⟨k,c,e,z⟩
  ·exact .inl l
  ·exact .inr ⟨k,c,e,cellK x c e _ z⟩
 ·obtain ⟨v,z⟩:=I.cell x c e
  exact ⟨v,cellK x c e v z⟩
 ·obtain ⟨m,⟨o,_,_,ho,_⟩,_⟩:=I.loc
  exact free _ o (fun z=>(hch _ z).2.1 rfl) ho I.free
 ·obtain ⟨v,o,ho,hd⟩:=I.cell x c e
  exact free c o (fun z=>(hch c z).2.2.1 x c e rfl) ho (I.freeC x c e)
 ·obtain ⟨e,n,ne,nf,d⟩:=I.pin p hp
  have nch:p.1 ∉ ch:=fun z=>(hch p.1 z).2.2.2 p hp rfl
  exact ⟨keep p.1 p.2 ne nf nch e n,free p.1 p.2 nch e n,ne,nf,d⟩
theorem Inv.un {t':Nat} (I:Inv X pins σ H s) (u:Un X.fs [] H H' s.heap h') (hok:HOk X.prog X.w H' h'):Inv X pins σ H' { s with heap:=h',toks:=t' }:=by
 obtain ⟨m,⟨o,es,ep,ho,r⟩,_⟩:=id I.loc
 obtain ⟨sl,hL⟩:=u.any ho I.free (by simp)
 exact I.step (g':=s.gens) (d':=s.drawn) (ch:=[]) (fun _ z=>nomatch z) (fun b o _ hb _ e n=>u.keep b o e n hb (by simp)) (fun b o _ hb _ e n=>u.slot b o e n hb (by simp)) (fun b o _ e n=>u.free b o e n (by simp)) (fun b o _ e=>u.there b o e (by simp)) u.tups u.frzs u.tbls (fun m' hm=>by
  obtain ⟨o',es',ep',ho',r'⟩:=hm
  rw [ho] at ho';cases ho'
  exact ⟨_,es',ep',hL,r'⟩) hok I.bare
theorem Inv.call {g':Array GenState} {t':Nat} {d':Drawn} {ch:List Addr} (I:Inv X pins σ H s) (u:Un (frs X.stack) ch H H' s.heap h') (hok:HOk X.prog X.w H' h') (hg:AllBare g')
 (hch:∀ b ∈ ch,(b ∈ X.ex∨X.s₀.heap.objs.size≤b)∧b≠X.env.locals∧(∀ x c,X.env.cells.lookup x=some c→c≠b)∧∀ p ∈ X.pn ++ pins,p.1≠b) :
 Inv X pins σ H' { s with heap:=h',gens:=g',drawn:=d',toks:=t' }:=by
 obtain ⟨m,⟨o,es,ep,ho,r⟩,_⟩:=id I.loc
 obtain ⟨sl,hL⟩:=u.any ho I.free fun z=>(hch _ z).2.1 rfl
 exact I.step (ch:=ch) hch (fun b o hL hb hc e n=>u.keep b o e n (fun z=>(List.mem_cons.mp (I.stkSub b z)).elim hL hb) hc) (fun b o _ _ hc e n=>u.any e n hc) (fun b o hc e n=>u.free b o e n hc) (fun b o hc e=>u.there b o e hc) u.tups u.frzs u.tbls (fun m' hm=>by
  obtain ⟨o',es',ep',ho',r'⟩:=hm
  rw [ho] at ho';cases ho'
  exact ⟨_,es',ep',hL,r'⟩) hok hg
theorem Inv.turned {t':Nat} {it:Addr} (I:Inv X pins σ H s) (k:∀ b o,b≠it→s.heap.get? b=some o→h'.get? b=some o) (hn:H it=none) (hL:it≠X.env.locals)
 (h1:it ∈ X.ex∨X.s₀.heap.objs.size≤it) (h2:∀ x c,X.env.cells.lookup x=some c→c≠it) (h3:∀ p ∈ X.pn ++ pins,p.1≠it):Inv X pins σ H { s with heap:=h',toks:=t' }:=by
 have nit:∀ b u,H b=some u→b≠it:=fun b u e z=>by rw [z,hn] at e;cases e
 refine I.step (g':=s.gens) (d':=s.drawn) (ch:=[it]) (fun b hb=>?_) (fun b o _ _ hc e _=>k b o (fun z=>hc (by simp [z])) e) (fun b o _ _ hc e _=>⟨o.slots,k b o (fun z=>hc (by simp [z])) e⟩) (fun _ _ _ _ n=>n)
  (fun b o hc e=>⟨o,k b o (fun z=>hc (by simp [z])) e⟩) (fun _ _ e=>e) (fun _ _ _ e=>e) (fun b ps e=>⟨#[],by rw [e];simp⟩) (fun m hm=>?_) (fun b u e=>?_) I.bare
 ·have e:b=it:=by simpa using hb
  subst e
  exact ⟨h1,hL,h2,h3⟩
 ·obtain ⟨o,es,ep,ho,r⟩:=hm
  exact ⟨o,es,ep,k _ o (Ne.symm hL) ho,r⟩
 ·refine (I.hok b u e).stay (fun c v hc q=>k c v ?_ q) (fun _ q=>q) fun _ _ q=>q
  rcases hc with z | z
  ·rw [z];exact nit b u e
  ·exact nit c _ z
theorem Inv.tok (I:Inv X pins σ H s) (t:Nat):Inv X pins σ H { s with toks:=t }:=I.un (h':=s.heap) (t':=t) Un.refl I.hok
theorem Inv.kept {t':Nat} (I:Inv X pins σ H s) (k:∀ b u,s.heap.get? b=some u→h'.get? b=some u):Inv X pins σ H { s with heap:=h',toks:=t' }:=I.un (Un.kept k) (I.hok.kept k)
theorem Inv.laid {a:Addr} {o:HO} {t':Nat} (I:Inv X pins σ H s) (k:∀ b u,s.heap.get? b=some u→h'.get? b=some u) (hp:s.heap.objs.size≤a) (new:ObjOk X.prog X.w (upd H a o) h' a o) :
 Inv X pins σ (upd H a o) { s with heap:=h',toks:=t' }:=I.un (Un.laid k hp (I.hok.fresh hp)) (I.hok.laid k hp new)
theorem Inv.write {x e:Addr} {o:HO} {t':Nat} (I:Inv X pins σ H s) (mu:Mut (H x)) (he:e=x∨H e=some (.own x)) (k:∀ b u,b≠e→s.heap.get? b=some u→h'.get? b=some u) (heo:∃ u,h'.get? e=some u)
 (new:ObjOk X.prog X.w (upd H x o) h' x o):Inv X pins σ (upd H x o) { s with heap:=h',toks:=t' }:=I.un (Un.write mu he k heo) (I.hok.write mu he k heo new)
theorem Inv.pins_of {pins':List (11:)} (I:Inv X pins σ H s) (h:∀ p ∈ pins',s.heap.get? p.1=some p.2∧H p.1=none∧p.1≠X.env.locals∧p.1 ∉ X.fs∧∀ v,p.2.data≠.cell v):Inv X pins' σ H s :=
 ⟨I.ok,I.os,I.bare,I.base,I.loc,I.cell,I.free,I.freeC,fun p hp=>(List.mem_append.mp hp).elim (fun z=>I.pin p (List.mem_append_left _ z)) (h p),I.hok,I.len⟩
theorem Je {N:List Str} (hN:N.Nodup) {i j:Nat} {x:Str} (a:N[i]?=some x) (b:N[j]?=some x):i=j:=by
 obtain ⟨h1,e1⟩:=List.getElem?_eq_some_iff.mp a
 obtain ⟨h2,e2⟩:=List.getElem?_eq_some_iff.mp b
 exact (List.getElem_inj hN).mp (e1.trans e2.symm)
theorem Uk {M:Model} {A:Around} {E:Value→Shared→Prop} {i:Nat} {x:Str} {v:V} {u:Value} {Q:Unit→Shared→Prop} (I:Inv X pins σ H s) (hN:X.N.Nodup) (hi:X.N[i]?=some x) (hx:Loc X.env.scope x) (r:RelV v u)
 (h:∀ s',Inv X pins (σ.set i (some v)) H s'→(∃ a,Heap.SameBut a s.heap s'.heap∧(a=X.env.locals∨X.env.cells.lookup x=some a))→Q () s') (hf:X.fn x=true∨X.env.scope.names.lookup x=some .local:=by first | exact .inl rfl | exact .inr rfl | assumption):wpAny M A (storeName X.env x u) Q E s:=by
 obtain ⟨m,hn,hl⟩:=id I.loc
 have hcls:(X.env.scope.kind == .class || (X.env.scope.kind == .module && X.env.locals != X.env.globals))=false:=by rw [I.ok.kind];rfl
 have hiσ:i < σ.length:=by rw [I.len];exact (List.getElem?_eq_some_iff.mp hi).1
 have cne:=I.cne
 have tracked:∀ {a:Addr} {h':Heap},(∃ o,s.heap.get? a=some o∧H a=none)→Heap.SameBut a s.heap h'→HOk X.prog X.w H h':=fun {a h'} ha hs b ob e=>by
  obtain ⟨_,_,hfree⟩:=ha
  refine (I.hok b ob e).stay (fun c w' hc q=>(hs.2 c ?_).trans q) (fun _ q=>q) fun _ _ q=>q
  rintro rfl
  rcases hc with rfl | hc
  ·rw [hfree] at e;cases e
  ·rw [hfree] at hc;cases hc
 rcases hx with hk | hk
 ·refine wpAny_storeName_local hk hn (fun h' hn' hs=>?_) hcls
  obtain ⟨oL,_,_,hoL,_⟩:=id hn
  refine h _ ⟨I.ok,I.os,I.bare,⟨fun b o e n hb hx=>?_,fun b o e n hb hx=>?_,I.base.free,fun b o e hx=>?_,I.base.tups,I.base.frzs,I.base.tbls⟩,⟨_,hn',fun j y v' e1 e2 e3=>?_⟩,fun y c e=>?_,I.free,I.freeC,fun p hp=>?_,tracked ⟨oL,hoL,I.free⟩ hs,by simpa using I.len⟩ ⟨_,hs,.inl rfl⟩
  ·exact (hs.2 b (Nat.ne_of_lt (Nat.lt_of_lt_of_le (Heap.lt_size e) I.ok.above))).trans (I.base.keep b o e n hb hx)
  ·obtain ⟨sl,e1⟩:=I.base.slot b o e n hb hx
   exact ⟨sl,(hs.2 b (Nat.ne_of_lt (Nat.lt_of_lt_of_le (Heap.lt_size e) I.ok.above))).trans e1⟩
  ·obtain ⟨o',e1⟩:=I.base.there b o e hx
   exact ⟨o',(hs.2 b (Nat.ne_of_lt (Nat.lt_of_lt_of_le (Heap.lt_size e) I.ok.above))).trans e1⟩
  ·by_cases hj:j=i
   ·subst hj
    rw [hi] at e1;cases e1
    rw [List.getElem?_set_self hiσ] at e2
    cases e2
    exact ⟨u,r,.inl ⟨hk,by simp⟩⟩
   ·rw [List.getElem?_set_ne (Ne.symm hj)] at e2
    obtain ⟨u',r',q⟩:=hl j y v' e1 e2 e3
    refine ⟨u',r',?_⟩
    rcases q with ⟨k,e⟩ | ⟨k,c,e,z⟩
    ·refine .inl ⟨k,?_⟩
     have:y≠x:=fun e=>hj (Je hN e1 (e ▸ hi))
     simp [this,e]
    ·exact .inr ⟨k,c,e,z.sameBut hs (cne y c e)⟩
  ·obtain ⟨w',z⟩:=I.cell y c e
   exact ⟨w',z.sameBut hs (cne y c e)⟩
  ·obtain ⟨e,n,ne,nf,d⟩:=I.pin p hp
   exact ⟨(hs.2 p.1 ne).trans e,n,ne,nf,d⟩
 ·have hfn:X.fn x=true:=by
   rcases hf with z | z
   ·exact z
   ·rw [z] at hk;cases hk
  obtain ⟨c,hc⟩:=I.ok.has x (.inl hk)
  obtain ⟨w',z⟩:=I.cell x c hc
  refine wpAny_storeName_cell I.ok.kind hk hc z (fun h' hc' hs=>?_)
  obtain ⟨oc,hoc,hocd⟩:=id z
  refine h { s with heap:=h' } ⟨I.ok,I.os,I.bare,⟨fun b o e n hb hx=>?_,fun b o e n hb hx=>?_,I.base.free,fun b o e hx=>?_,I.base.tups,I.base.frzs,I.base.tbls⟩,⟨m,hn.sameBut hs (Ne.symm (cne x c hc)),fun j y v' e1 e2 e3=>?_⟩,fun y c' e=>?_,I.free,I.freeC,fun p hp=>?_,tracked ⟨oc,hoc,I.freeC x c hc⟩ hs,by simpa using I.len⟩ ⟨c,hs,.inr hc⟩
  ·exact (hs.2 b (Nat.ne_of_lt (Nat.lt_of_lt_of_le (Heap.lt_size e) (I.ok.cab x c hfn hc)))).trans (I.base.keep b o e n hb hx)
  ·obtain ⟨sl,e1⟩:=I.base.slot b o e n hb hx
   exact ⟨sl,(hs.2 b (Nat.ne_of_lt (Nat.lt_of_lt_of_le (Heap.lt_size e) (I.ok.cab x c hfn hc)))).trans e1⟩
  ·obtain ⟨o',e1⟩:=I.base.there b o e hx
   exact ⟨o',(hs.2 b (Nat.ne_of_lt (Nat.lt_of_lt_of_le (Heap.lt_size e) (I.ok.cab x c hfn hc)))).trans e1⟩
  ·by_cases hj:j=i
   ·subst hj
    rw [hi] at e1;cases e1
    rw [List.getElem?_set_self hiσ] at e2
    cases e2
    exact ⟨u,r,.inr ⟨.inl hk,c,hc,hc'⟩⟩
   ·rw [List.getElem?_set_ne (Ne.symm hj)] at e2
    obtain ⟨u',r',q⟩:=hl j y v' e1 e2 e3
    refine ⟨u',r',?_⟩
    rcases q with q | ⟨k,c',e,z'⟩
    ·exact .inl q
    ·refine .inr ⟨k,c',e,z'.sameBut hs ?_⟩
     rintro rfl
     exact hj (Je hN e1 (I.ok.inj _ _ _ e hc ▸ hi))
  ·by_cases hcc:c'=c
   ·subst hcc;exact ⟨_,hc'⟩
   ·obtain ⟨w2,z2⟩:=I.cell y c' e
    exact ⟨w2,z2.sameBut hs hcc⟩
  ·obtain ⟨e,n,ne,nf,d⟩:=I.pin p hp
   refine ⟨(hs.2 p.1 ?_).trans e,n,ne,nf,d⟩
   intro q
   rw [q,hoc] at e
   have q':oc=p.2:=Option.some.inj e
   exact d w' (by rw [← q'];exact hocd)
theorem YU {M:Model} {A:Around} {E:Value→Shared→Prop} {i:Nat} {x:Str} {v:V} {u:Value} {Q:Unit→Shared→Prop} (I:Inv X pins σ H s) (hN:X.N.Nodup) (hi:X.N[i]?=some x) (hx:Loc X.env.scope x) (r:RelV v u)
 (h:∀ s',Inv X pins (σ.set i (some v)) H s'→Q () s') (hf:X.fn x=true∨X.env.scope.names.lookup x=some .local:=by first | exact .inl rfl | exact .inr rfl | assumption):wpAny M A (storeName X.env x u) Q E s :=
 Uk I hN hi hx r (fun s' I' _=>h s' I') hf
theorem Inv.call' {s':Shared} {ch:List Addr} (I:Inv X pins σ H s) (ho:s'.os=s.os) (u:Un (frs X.stack) ch H H' s.heap s'.heap) (hok:HOk X.prog X.w H' s'.heap) (hg:AllBare s'.gens)
 (hch:∀ b ∈ ch,(b ∈ X.ex∨X.s₀.heap.objs.size≤b)∧b≠X.env.locals∧(∀ x c,X.env.cells.lookup x=some c→c≠b)∧∀ p ∈ X.pn ++ pins,p.1≠b):Inv X pins σ H' s':=by
 obtain ⟨h',g',d',t',o'⟩:=s'
 have e:o'=s.os:=ho
 subst e
 exact I.call (g':=g') (t':=t') (d':=d') u hok hg hch
end
abbrev XK:=Value→Option Addr→Hp→Prop
abbrev St:=List (Option V)
abbrev VK:=V→Hp→Prop
abbrev TE:=St→Hp→VK→Prop
abbrev TT:=St→Hp→(Bool→Hp→Prop)→Prop
abbrev TA:=St→Hp→(List V→Hp→Prop)→Prop
structure Ends where
 nx:St→Hp→Prop
 rt:VK
 bk:St→Hp→Prop:=fun _ _=>False
 ct:St→Hp→Prop:=fun _ _=>False
abbrev TS:=Ends→St→Hp→Prop
def EP (X:Cx) (pins:List (11:)) (σ:St) (Q:VK) (u:Value) (s':Shared):Prop:=∃ v H',Inv X pins σ H' s'∧RelV v u∧Q v H'
def TP (X:Cx) (pins:List (11:)) (σ:St) (Q:Bool→Hp→Prop) (b:Bool) (s':Shared):Prop:=∃ H',Inv X pins σ H' s'∧Q b H'
def AP (X:Cx) (pins:List (11:)) (σ:St) (Q:List V→Hp→Prop) (us:List Value) (s':Shared):Prop:=∃ vs H',Inv X pins σ H' s'∧Vals vs us∧Q vs H'
def SP (X:Cx) (pins:List (11:)) (D:Ends) (f:Flow) (s':Shared):Prop :=
 match f with
 | .next=>∃ σ' H',Inv X pins σ' H' s'∧D.nx σ' H'
 | .brk=>∃ σ' H',Inv X pins σ' H' s'∧D.bk σ' H'
 | .cont=>∃ σ' H',Inv X pins σ' H' s'∧D.ct σ' H'
 | .ret u=>∃ v σ' H',Inv X pins σ' H' s'∧RelV v u∧D.rt v H'
def PE (X:Cx) (e:Expr) (t:TE):Prop :=
 ∀ (pins:List (11:)) (s:Shared) (σ:St) (H:Hp) (Q:VK),Inv X pins σ H s→t σ H Q→wpAny (5:) X.A (eval e X.env) (EP X pins σ Q) X.xe s
def PT (X:Cx) (e:Expr) (t:TT):Prop :=
 ∀ (pins:List (11:)) (s:Shared) (σ:St) (H:Hp) (Q:Bool→Hp→Prop),Inv X pins σ H s→t σ H Q→wpAny (5:) X.A (isTrue e X.env (eval e X.env)) (TP X pins σ Q) X.xe s
def PW (X:Cx) (e:Expr) (t:TT):Prop :=
 ∀ (whole:Sem Value) (pins:List (11:)) (s:Shared) (σ:St) (H:Hp) (Q:Bool→Hp→Prop),Inv X pins σ H s→t σ H Q→wpAny (5:) X.A (isTrue e X.env whole) (TP X pins σ Q) X.xe s
theorem PW.pt {X:Cx} {e:Expr} {t:TT} (h:PW X e t):PT X e t:=h _
def PA (X:Cx) (es:List Expr) (t:TA):Prop :=
 ∀ (pos:Pos) (pins:List (11:)) (s:Shared) (σ:St) (H:Hp) (Q:List V→Hp→Prop),Inv X pins σ H s→t σ H Q→wpAny (5:) X.A (spliced (backTo pos (starEach es X.env))) (AP X pins σ Q) X.xe s
def PS (X:Cx) (st:Stmt) (t:TS):Prop :=
 ∀ (pins:List (11:)) (s:Shared) (σ:St) (H:Hp) (D:Ends),Inv X pins σ H s→t D σ H→wpAny (5:) X.A (exec st X.env) (SP X pins D) X.xe s
def PSs (X:Cx) (st:List Stmt) (t:TS):Prop :=
 ∀ (pins:List (11:)) (s:Shared) (σ:St) (H:Hp) (D:Ends),Inv X pins σ H s→t D σ H→wpAny (5:) X.A (execs st X.env) (SP X pins D) X.xe s
theorem thn {α:Type} {t:Sem α} {Q Q':α→Shared→Prop} {M:Model} {A:Around} {E:Value→Shared→Prop} {s:Shared} (h:wpAny M A t Q E s) (hQ:∀ a s,Q a s→Q' a s):wpAny M A t Q' E s:=wpAny_mono h hQ fun _ _ x=>x
end L2
namespace L2
open PySem PySem.Spec PyProof.Rows
section
variable {X:Cx}
def UP (i:Nat):TE:=fun σ H Q=>∃ v,σ[i]?=some (some v)∧Q v H
def tC (v:V):TE:=fun _ H Q=>Q v H
theorem ML {i:Nat} {x:Str} {pos:Pos} (hN:X.N[i]?=some x) (hv:Vis X.env.scope x) (hd:(x == ("__debug__" : Str))=false:=by decide) (hcd:(x == ("__classdict__" : Str))=false:=by decide):PE X (.Name x pos) (UP i):=by
 intro pins s σ H Q I h
 obtain ⟨v,e,h⟩:=h
 obtain ⟨m,hn,hl⟩:=I.loc
 obtain ⟨u,r,l⟩:=hl i x v hN e hv
 have fin:EP X pins σ Q u s:=⟨v,H,I,r,h⟩
 rcases l with ⟨hk,hm⟩ | ⟨hk,c,hc,hcell⟩
 ·exact wpAny_Name (wpAny_loadName_local I.ok.kind hk hn hm fin) hd
 ·rcases hk with hk | hk
  ·exact wpAny_Name (wpAny_loadName_cell I.ok.kind hk hc hcell fin) hd
  ·exact wpAny_Name (wpAny_loadName_free I.ok.kind hk hc hcell fin hcd) hd
theorem Qb {i j pos}:PE X (.Constant (.int i) j pos) (tC (.int i)):=fun _ _ _ H _ I h=>wpAny_Constant_int ⟨.int i,H,I.tok _,⟨_,rfl⟩,h⟩
theorem QO {b j pos}:PE X (.Constant (.bool b) j pos) (tC (.bl b)):=fun _ _ _ H _ I h=>Constant_bool ⟨.bl b,H,I,rfl,h⟩
theorem Uj {j pos}:PE X (.Constant .none j pos) (tC .non):=fun _ _ _ H _ I h=>Constant_none ⟨.non,H,I,rfl,h⟩
theorem Qs {x j pos}:PE X (.Constant (.str x) j pos) (tC (.str x)):=fun _ _ _ H _ I h=>Calls.Constant_str ⟨.str x,H,I.tok _,⟨_,rfl⟩,h⟩
def Gl (X:Cx) (x:Str):Prop:=X.env.kindOf x=some .globalImplicit
theorem Ye {E:Value→Shared→Prop} {pins:List (11:)} {s:Shared} {σ:St} {H:Hp} {x:Str} {u:Value} {pos:Pos} {Q:Value→Shared→Prop} (I:Inv X pins σ H s) (hg:Gl X x) (hm:X.mg x=some u) (h:Q u s)
 (hd:(x == ("__debug__" : Str))=false:=by decide):wpAny (5:) X.A (eval (.Name x pos) X.env) Q E s :=
 Calls.Name_function_global I.ok.kind hg (Calls.loadGlobal_global (by rw [I.ok.glob];exact I.mod.glob.keeps I.bk) hm h) hd
theorem UB {E:Value→Shared→Prop} {pins:List (11:)} {s:Shared} {σ:St} {H:Hp} {x:Str} {u:Value} {pos:Pos} {Q:Value→Shared→Prop} (I:Inv X pins σ H s) (hg:Gl X x) (hm:X.mg x=none) (hv:bootBuiltins x=some u) (h:Q u s)
 (hn:x ≠ "__name__" := by decide) (hd:(x == ("__debug__" : Str))=false:=by decide):wpAny (5:) X.A (eval (.Name x pos) X.env) Q E s:=by
 obtain ⟨mb,h1,h2⟩:=I.mod.blt
 exact Calls.Name_function_global I.ok.kind hg (Calls.loadGlobal_builtin (by rw [I.ok.glob];exact I.mod.glob.keeps I.bk) hm (by rw [I.ok.blt];exact h1.keeps I.bk) ((h2 x hn).trans hv) h) hd
theorem ZJ {x:Str} {v:V} {u:Value} {pos:Pos} (hg:Gl X x) (hm:X.mg x=some u) (r:RelV v u) (hd:(x == ("__debug__" : Str))=false:=by decide):PE X (.Name x pos) (tC v) :=
 fun _ _ _ H _ I h=>Ye I hg hm ⟨v,H,I,r,h⟩ hd
theorem ZH {x:Str} {v:V} {u:Value} {pos:Pos} (hg:Gl X x) (hm:X.mg x=none) (hv:bootBuiltins x=some u) (r:RelV v u) (hn:x ≠ "__name__" := by decide) (hd:(x == ("__debug__" : Str))=false:=by decide):PE X (.Name x pos) (tC v) :=
 fun _ _ _ H _ I h=>UB I hg hm hv ⟨v,H,I,r,h⟩ hn hd
variable {a b:Expr} {ta tb:TE} {pos:Pos}
def PC (X:Cx) (op:CmpOp) (a b:Expr) (t:TE):Prop :=
 ∀ (pins:List (11:)) (s:Shared) (σ:St) (H:Hp) (Q:VK),Inv X pins σ H s→t σ H Q →
  wpAny (5:) X.A (eval a X.env) (fun v s₁=>wpAny (5:) X.A (eval b X.env) (fun u s₂=>wpAny (5:) X.A (compareOp op v u) (EP X pins σ Q) X.xe s₂) X.xe s₁) X.xe s
theorem M9 (b:Expr) {op:CmpOp} (h:op≠.In) (h2:op≠.NotIn):behindInMarks op b=false:=by
 have e1:(op == CmpOp.In)=false:=by cases op <;> first | rfl | exact absurd rfl h
 have e2:(op == CmpOp.NotIn)=false:=by cases op <;> first | rfl | exact absurd rfl h2
 cases b <;> simp [behindInMarks,e1,e2]
def Tb (ta:TE):TE:=fun σ H Q=>ta σ H fun x H1=>Q (.bl (decide (x=.non))) H1
theorem RelV.none_iff {x:V} {v:Value} (r:RelV x v):(v == Value.none)=decide (x=.non):=by
 cases x with
 | non=>cases r;rfl
 | bl _=>cases r;rfl
 | int _=>obtain ⟨t,rfl⟩:=r;rfl
 | str _=>obtain ⟨t,rfl⟩:=r;rfl
 | byt _=>obtain ⟨t,rfl⟩:=r;rfl
 | flt _=>obtain ⟨t,rfl⟩:=r;rfl
 | ref _=>cases r;rfl
 | ty _=>cases r;rfl
theorem LU {j pos'} (ha:PE X a ta):PC X .Is a (.Constant .none j pos') (Tb ta):=by
 intro pins s σ H Q I h
 refine thn (ha pins s σ H _ I h) fun v s1 ⟨x,H1,I1,r1,q1⟩=>?_
 exact Constant_none (is_none_gen ⟨.bl _,H1,I1,by rw [r1.none_iff];rfl,q1⟩)
def tB (t:TE):TT:=fun σ H Q=>t σ H fun x H1=>∃ c,x=.bl c∧Q c H1
theorem XB {op:CmpOp} {t:TE} (h:PC X op a b t) (h1:behindInMarks op b=false:=by first | exact M9 _ (by decide) (by decide) | rfl):PT X (.Compare a [op] [b] pos) (tB t):=by
 intro pins s σ H Q I hw
 refine wpAny_isTrue_Compare1 (thn (h pins s σ H _ I hw) fun v s1 h1=>thn h1 fun u s2 h2=>thn h2 fun c s3 ⟨x,H1,I1,r1,q1⟩=>?_) h1
 obtain ⟨d,rfl,q⟩:=q1
 cases r1
 exact wpAny_truthy_bool ⟨H1,I1,q⟩
theorem QV {e:Expr} {t:TE} (h:PE X e t) (he:∀ whole,isTrue e X.env whole=(do let v ← whole;standAt e.pos;holding [v] (truthy v)):=by intro _;rfl):PT X e (tB t):=by
 intro pins s σ H Q I hw
 refine isTrue_plain (thn (h pins s σ H _ I hw) fun v s1 ⟨x,H1,I1,r1,q1⟩=>?_) (he _)
 obtain ⟨d,rfl,q⟩:=q1
 cases r1
 exact wpAny_truthy_bool ⟨H1,I1,q⟩
variable {tA tB':TT} {rest:List Expr}
def tOr (t u:TT):TT:=fun σ H Q=>t σ H fun c H1=>if c=true then Q true H1 else u σ H1 Q
def S4 (t:TT):TT:=fun σ H Q=>t σ H fun c H1=>Q (!c) H1
theorem pw_or1 (ha:PT X a tA):PW X (.BoolOp .Or [a] pos) tA:=by
 intro wh pins s σ H Q I h
 refine isTrue_or (thn (ha pins s σ H Q I h) fun c s1 e=>?_)
 cases c with
 | false=>exact isTrue_or_nil e
 | true=>exact e
theorem pw_or (ha:PT X a tA) (hb:PW X (.BoolOp .Or (b :: rest) pos) tB'):PW X (.BoolOp .Or (a :: b :: rest) pos) (tOr tA tB'):=by
 intro wh pins s σ H Q I h
 refine isTrue_or (thn (ha pins s σ H _ I h) fun c s1 ⟨H1,I1,q1⟩=>?_)
 cases c with
 | true=>exact ⟨H1,I1,q1⟩
 | false=>exact hb wh pins s1 σ H1 Q I1 q1
theorem ZD (ha:PT X a tA):PT X (.UnaryOp .Not a pos) (S4 tA):=by
 intro pins s σ H Q I h
 exact isTrue_not (ha pins s σ H (fun c H1=>Q (!c) H1) I h)
def Rc (ta tb:TE):TE:=fun σ H Q=>ta σ H fun x H1=>∃ c,x=.bl c∧if c=true then tb σ H1 Q else Q (.bl false) H1
def Sf (ta:TE):TE:=fun σ H Q=>ta σ H fun x H1=>∃ c,x=.bl c∧Q (.bl (!c)) H1
theorem Jd {op} {t:TE} (h:PE X a t):PE X (.BoolOp op [a] pos) t:=fun pins s σ H Q I hw=>BoolOp_one (h pins s σ H Q I hw)
theorem Ur (ha:PE X a ta) (hb:PE X (.BoolOp .And (b :: rest) pos) tb):PE X (.BoolOp .And (a :: b :: rest) pos) (Rc ta tb):=by
 intro pins s σ H Q I h
 refine BoolOp_and (thn (ha pins s σ H _ I h) fun v s1 ⟨x,H1,I1,r1,q1⟩=>?_)
 obtain ⟨c,rfl,q1⟩:=q1
 cases r1
 refine wpAny_truthy_bool ?_
 cases c with
 | true=>exact hb pins s1 σ H1 Q I1 q1
 | false=>exact ⟨.bl false,H1,I1,rfl,q1⟩
theorem PX (ha:PE X a ta):PE X (.UnaryOp .Not a pos) (Sf ta):=by
 intro pins s σ H Q I h
 refine UnaryOp_ (thn (ha pins s σ H _ I h) fun v s1 ⟨x,H1,I1,r1,q1⟩=>?_)
 obtain ⟨c,rfl,q1⟩:=q1
 cases r1
 exact not_of (wpAny_truthy_bool ⟨.bl (!c),H1,I1,rfl,q1⟩)
def tIf (t:TT) (ta tb:TE):TE:=fun σ H Q=>t σ H fun c H1=>if c=true then ta σ H1 Q else tb σ H1 Q
theorem WN {c:Expr} (hc:PT X c tA) (ha:PE X a ta) (hb:PE X b tb):PE X (.IfExp c a b pos) (tIf tA ta tb):=by
 intro pins s σ H Q I h
 refine wpAny_IfExp (thn (hc pins s σ H _ I h) fun d s1 ⟨H1,I1,q1⟩=>?_)
 cases d with
 | true=>exact ha pins s1 σ H1 Q I1 q1
 | false=>exact hb pins s1 σ H1 Q I1 q1
end
end L2
namespace L2
open PySem PySem.Spec PyProof.Rows
def SqL (K:Fg) (H:Hp) (a:Addr) (xs:List V):Prop :=
 Rd H a (.lst xs) ∨
  ∃ (o:Obj) (its:Array Value) (n:Nat),K.lookup a=some o∧o.cls=.type "list" ∧ o.dict=none∧o.data=.seq its n∧its.size≤sizeLine∧Vals xs its.toList
def SqT (K:Fg) (H:Hp) (a:Addr) (xs:List V):Prop :=
 Rd H a (.tup xs) ∨
  ∃ (o:Obj) (its:Array Value) (n:Nat),K.lookup a=some o∧o.cls=.type "tuple" ∧ o.data=.seq its n∧its.size≤sizeLine∧Vals xs its.toList
def SV:Value→Option V
 | .none=>some .non
 | .bool b=>some (.bl b)
 | .int i _=>some (.int i)
 | .str x _=>some (.str x)
 | .bytes b _=>some (.byt b)
 | .float b _=>some (.flt b)
 | .ref a=>some (.ref a)
 | .type n=>some (.ty n)
 | _=>none
theorem RelV.abs {x:V} {u:Value} (r:RelV x u):SV u=some x:=by
 cases x with
 | non=>cases r;rfl
 | bl _=>cases r;rfl
 | int _=>obtain ⟨t,rfl⟩:=r;rfl
 | str _=>obtain ⟨t,rfl⟩:=r;rfl
 | byt _=>obtain ⟨t,rfl⟩:=r;rfl
 | flt _=>obtain ⟨t,rfl⟩:=r;rfl
 | ref _=>cases r;rfl
 | ty _=>cases r;rfl
theorem RelV.inj {x y:V} {u:Value} (r:RelV x u) (q:RelV y u):x=y:=Option.some.inj (r.abs.symm.trans q.abs)
theorem Vals.inj:∀ {xs ys:List V} {us:List Value},Vals xs us→Vals ys us→xs=ys
 | _,_,_,.nil,.nil=>rfl
 | _,_,_,.cons r t,.cons r' t'=>by rw [r.inj r',Vals.inj t t']
section
variable {X:Cx} {pins:List (11:)} {σ:St} {H:Hp} {s:Shared} {a:Addr} {xs ys:List V}
theorem SqL.of {K:Fg} (h:H a=some (.lst xs)):SqL K H a xs:=.inl (.inl h)
theorem SqT.of {K:Fg} (h:H a=some (.tup xs)):SqT K H a xs:=.inl (.inl h)
theorem Inv.list (I:Inv X pins σ H s) (h:SqL X.K H a xs):∃ its:List Value,Vals xs its∧PlainL s.heap a its.toArray∧xs.length≤sizeLine:=by
 rcases h with h | ⟨o,its,n,hk,hc,hd,hs,hz,r⟩
 ·obtain ⟨z,its,n,r,e⟩:=h.ok I.hok
  exact ⟨its,r,⟨_,n,e,rfl,rfl,rfl⟩,z⟩
 ·refine ⟨its.toList,r,⟨o,n,I.kIn a o hk,hc,hd,by simpa using hs⟩,?_⟩
  have e:=r.length
  simp only [Array.length_toList] at e
  lia
theorem Inv.tuple (I:Inv X pins σ H s) (h:SqT X.K H a xs):∃ its:List Value,Vals xs its∧IsTup s.heap a its.toArray∧xs.length≤sizeLine:=by
 rcases h with h | ⟨o,its,n,hk,hc,hs,hz,r⟩
 ·obtain ⟨z,its,r,p⟩:=h.ok I.hok
  exact ⟨its,r,p,z⟩
 ·refine ⟨its.toList,r,⟨o,I.kIn a o hk,hc,n,by simpa using hs⟩,?_⟩
  have e:=r.length
  simp only [Array.length_toList] at e
  lia
theorem Inv.list_inj (I:Inv X pins σ H s) (h:SqL X.K H a xs) (h':SqL X.K H a ys):xs=ys:=by
 obtain ⟨its,r,⟨o,n,e,_,_,d⟩,_⟩:=I.list h
 obtain ⟨its',r',⟨o',n',e',_,_,d'⟩,_⟩:=I.list h'
 rw [e] at e';cases e'
 rw [d] at d'
 injection d' with d1 _
 have:its=its':=by simpa using congrArg Array.toList d1
 subst this
 exact r.inj r'
theorem Inv.tuple_inj (I:Inv X pins σ H s) (h:SqT X.K H a xs) (h':SqT X.K H a ys):xs=ys:=by
 obtain ⟨its,r,⟨o,e,_,n,d⟩,_⟩:=I.tuple h
 obtain ⟨its',r',⟨o',e',_,n',d'⟩,_⟩:=I.tuple h'
 rw [e] at e';cases e'
 rw [d] at d'
 injection d' with d1 _
 have:its=its':=by simpa using congrArg Array.toList d1
 subst this
 exact r.inj r'
end
abbrev Cx.wish (X:Cx) (E:Value→Shared→Prop):Cx:={ X with xe:=E }
abbrev Cx.nox (X:Cx):Cx:=X.wish fun _ _=>False
theorem Cx.Ok.wish {X:Cx} (ok:X.Ok) (E:Value→Shared→Prop):(X.wish E).Ok :=
 ⟨ok.mod,ok.kind,ok.glob,ok.blt,ok.above,ok.inj,ok.has,ok.cab,ok.hd,ok.frames,ok.stk,ok.exf,ok.bs,ok.bsz,ok.noex,ok.exfs,ok.funs,ok.frf⟩
theorem Cx.Ok.unwish {X:Cx} {E:Value→Shared→Prop} (ok:(X.wish E).Ok):X.Ok :=
 ⟨ok.mod,ok.kind,ok.glob,ok.blt,ok.above,ok.inj,ok.has,ok.cab,ok.hd,ok.frames,ok.stk,ok.exf,ok.bs,ok.bsz,ok.noex,ok.exfs,ok.funs,ok.frf⟩
section
variable {X:Cx} {pins:List (11:)} {σ:St} {H:Hp} {s:Shared} {E:Value→Shared→Prop}
theorem Inv.wish (I:Inv X pins σ H s) (E:Value→Shared→Prop):Inv (X.wish E) pins σ H s:=⟨I.ok.wish E,I.os,I.bare,I.base,I.loc,I.cell,I.free,I.freeC,I.pin,I.hok,I.len⟩
theorem Inv.unwish (I:Inv (X.wish E) pins σ H s):Inv X pins σ H s:=⟨I.ok.unwish,I.os,I.bare,I.base,I.loc,I.cell,I.free,I.freeC,I.pin,I.hok,I.len⟩
theorem SP.unwish {D:Ends} {f:Flow} {s':Shared} (h:SP (X.wish E) pins D f s'):SP X pins D f s':=by
 cases f with
 | next=>obtain ⟨σ',H',I,q⟩:=h;exact ⟨σ',H',I.unwish,q⟩
 | brk=>obtain ⟨σ',H',I,q⟩:=h;exact ⟨σ',H',I.unwish,q⟩
 | cont=>obtain ⟨σ',H',I,q⟩:=h;exact ⟨σ',H',I.unwish,q⟩
 | ret u=>obtain ⟨v,σ',H',I,r,q⟩:=h;exact ⟨v,σ',H',I.unwish,r,q⟩
theorem PSs.nox {st:List Stmt} {t:TS} (h:PSs X.nox st t):PSs X st t:=fun pins s σ H D I hw =>
 wpAny_mono (h pins s σ H D (I.wish _) hw) (fun _ _ q=>q.unwish) fun _ _ z=>False.elim z
end
section
variable {X:Cx} {st:Stmt} {rest:List Stmt} {t u:TS} {e:Expr} {te:TE} {pos:Pos}
def OE:TS:=fun D σ H=>D.nx σ H
def G4 (t u:TS):TS:=fun D σ H=>t { D with nx:=u D } σ H
theorem Qu:PSs X [] OE:=fun _ _ σ H _ I h=>wpAny_execs_nil ⟨σ,H,I,h⟩
theorem Qh (h1:PS X st t) (h2:PSs X rest u):PSs X (st :: rest) (G4 t u):=by
 intro pins s σ H D I h
 refine wpAny_execs_cons (thn (h1 pins s σ H { D with nx:=u D } I h) fun f s1 q=>?_)
 cases f with
 | next =>
  obtain ⟨σ',H',I',q⟩:=q
  exact h2 pins s1 σ' H' D I' q
 | ret v=>exact q
 | brk=>exact q
 | cont=>exact q
theorem Qk (h1:PS X st t):PSs X [st] t:=by
 intro pins s σ H D I h
 refine wpAny_execs_cons (thn (h1 pins s σ H D I h) fun f s1 q=>?_)
 cases f with
 | next=>exact wpAny_execs_nil q
 | ret v=>exact q
 | brk=>exact q
 | cont=>exact q
theorem Inv.quiet {pins:List (11:)} {σ:St} {H:Hp} {s:Shared} (I:Inv X pins σ H s):interactive X.env=false:=by simp [interactive,I.ok.kind]
def Sj (te:TE):TS:=fun D σ H=>te σ H fun _ H1=>D.nx σ H1
theorem Q0 (he:PE X e te) (hs:swapsWith e none pos.line X.env=pure false:=by rfl):PS X (.Expr e pos) (Sj te):=by
 intro pins s σ H D I h
 exact wpAny_Expr_any (thn (he pins s σ H _ I h) fun v s1 ⟨x,H1,I1,r1,q1⟩=>⟨σ,H1,I1,q1⟩) I.quiet hs
def Sz (te:TE):TS:=fun D σ H=>te σ H D.rt
theorem Qq (he:PE X e te):PS X (.Return (some e) pos) (Sz te):=by
 intro pins s σ H D I h
 exact wpAny_Return_some (thn (he pins s σ H _ I h) fun v s1 ⟨x,H1,I1,r1,q1⟩=>⟨x,σ,H1,I1,r1,q1⟩)
def R0:TS:=fun D _ H=>D.rt .non H
theorem Gw:PS X (.Return none pos) R0:=fun _ _ σ H _ I h=>wpAny_Return_none ⟨.non,σ,H,I,rfl,h⟩
def Sd (c:TT) (t u:TS):TS:=fun D σ H=>c σ H fun b H1=>if b=true then t D σ H1 else u D σ H1
theorem QM {c:Expr} {a b:List Stmt} {tc:TT} (hc:PT X c tc) (ha:PSs X a t) (hb:PSs X b u):PS X (.If c a b pos) (Sd tc t u):=by
 intro pins s σ H D I h
 refine wpAny_If (thn (hc pins s σ H _ I h) fun d s1 ⟨H1,I1,q1⟩=>?_)
 cases d with
 | true=>exact ha pins s1 σ H1 D I1 q1
 | false=>exact hb pins s1 σ H1 D I1 q1
end
abbrev TG:=V→St→Hp→(St→Hp→Prop)→Prop
abbrev TGs:=List V→St→Hp→(St→Hp→Prop)→Prop
def PG (X:Cx) (target:Expr) (t:TG):Prop :=
 ∀ (pins:List (11:)) (s:Shared) (σ:St) (H:Hp) (v:V) (u:Value) (Q:St→Hp→Prop),Inv X pins σ H s→RelV v u→t v σ H Q →
  wpAny (5:) X.A (assign target X.env u) (fun _ s'=>∃ σ' H',Inv X pins σ' H' s'∧Q σ' H') X.xe s
def PGs (X:Cx) (ts:List Expr) (t:TGs):Prop :=
 ∀ (pins:List (11:)) (s:Shared) (σ:St) (H:Hp) (vs:List V) (us:List Value) (Q:St→Hp→Prop),Inv X pins σ H s→Vals vs us→t vs σ H Q →
  wpAny (5:) X.A (assignInOrder ((assignEach ts X.env).map (·.2)) us) (fun _ s'=>∃ σ' H',Inv X pins σ' H' s'∧Q σ' H') X.xe s
abbrev PZ:=V→V→V→Hp→(Hp→Prop)→Prop
def R8 (X:Cx) (t:PZ):Prop :=
 ∀ (pins:List (11:)) (s:Shared) (σ:St) (H:Hp) (o i v:V) (ov iv u:Value) (Q:Hp→Prop),Inv X pins σ H s→RelV o ov→RelV i iv→RelV v u→t o i v H Q →
  wpAny (5:) X.A (setItem ov iv u) (fun _ s'=>∃ H',Inv X pins σ H' s'∧Q H') X.xe s
abbrev TIp:=V→V→Hp→VK→Prop
def PIp (X:Cx) (op:Operator) (t:TIp):Prop :=
 ∀ (pins:List (11:)) (s:Shared) (σ:St) (H:Hp) (x y:V) (v u:Value) (Q:VK),Inv X pins σ H s→RelV x v→RelV y u→t x y H Q →
  wpAny (5:) X.A (inplaceOp op v u) (EP X pins σ Q) X.xe s
section
variable {X:Cx} {pos:Pos}
def QJ (i:Nat):TG:=fun v σ H Q=>Q (σ.set i (some v)) H
theorem Qr {i:Nat} {x:Str} (hN:X.N.Nodup) (hi:X.N[i]?=some x) (hx:Loc X.env.scope x) (hf:X.fn x=true∨X.env.scope.names.lookup x=some .local:=by first | exact .inl rfl | exact .inr rfl | assumption):PG X (.Name x pos) (QJ i):=by
 intro pins s σ H v u Q I r h
 exact wpAny_assign_Name (YU I hN hi hx r (fun s' I'=>⟨_,H,I',h⟩) hf)
def Pe:TGs:=fun vs σ H Q=>vs=[]∧Q σ H
def Wz (t:TG) (u:TGs):TGs:=fun vs σ H Q=>∃ v r,vs=v :: r∧t v σ H fun σ' H'=>u r σ' H' Q
theorem Za:PGs X [] Pe:=by
 intro pins s σ H vs us Q I r h
 obtain ⟨e,h⟩:=h
 subst e
 cases r
 exact assignInOrder_nil ⟨σ,H,I,h⟩
theorem Qv {e:Expr} {es:List Expr} {t:TG} {u:TGs} (h1:PG X e t) (h2:PGs X es u)
 (hs:(assignEach (e :: es) X.env).map (·.2)=assign e X.env :: (assignEach es X.env).map (·.2):=by rfl):PGs X (e :: es) (Wz t u):=by
 intro pins s σ H vs us Q I r h
 obtain ⟨v,vr,e1,h⟩:=h
 subst e1
 cases r with
 | cons r rr =>
  rw [hs]
  refine assignInOrder_cons (thn (h1 pins s σ H _ _ _ I r h) fun _ s1 ⟨σ1,H1,I1,q1⟩=>?_)
  exact h2 pins s1 σ1 H1 _ _ Q I1 rr q1
def PU (K:Fg) (n:Nat) (t:TGs):TG:=fun v σ H Q=>∃ a xs,v=.ref a∧SqT K H a xs∧xs.length=n∧t xs σ H Q
theorem Zt {es:List Expr} {k:Nat} {t:TGs} {n:Nat} (hc:X.calm=true) (h:PGs X es t)
 (hn:(assignEach es X.env).length=n:=by rfl) (hst:(assignEach es X.env).findIdx? (·.1)=none:=by rfl):PG X (.Tuple es k pos) (PU X.K n t):=by
 intro pins s σ H v u Q I r hw
 obtain ⟨a,xs,e1,hq,hl,hw⟩:=hw
 subst e1
 cases r
 obtain ⟨its,rv,ht,hz⟩:=I.tuple hq
 refine assign_Tuple_tuple (I.ok.hd hc) ht (by simp [hn,← hl,rv.length]) hst fun h' hx=>?_
 have I1:Inv X pins σ H { s with heap:=h' }:=I.kept (t':=s.toks) fun b o e=>hx b o (Nat.ne_of_lt (Heap.lt_size e)) e
 exact h pins _ σ H xs _ Q I1 (by simpa using rv) hw
def SF (to ti:TE) (t:PZ):TG:=fun v σ H Q=>to σ H fun o H1=>ti σ H1 fun i H2=>t o i v H2 fun H3=>Q σ H3
theorem P2 {o i:Expr} {to ti:TE} {t:PZ} (ho:PE X o to) (hi:PE X i ti) (hs:R8 X t)
 (ha:∀ v,assign (.Subscript o i pos) X.env v=(do
  let ov ← holding [v] (eval o X.env)
  let iv ← holding [v,ov] (eval i X.env)
  standAt pos
  holding [v,ov,iv] (setItem ov iv v)
  release [v,ov,iv] []):=by intro _;rfl):PG X (.Subscript o i pos) (SF to ti t):=by
 intro pins s σ H v u Q I r h
 rw [ha]
 refine wpAny_bind (wpAny_holding (thn (ho pins s σ H _ I h) fun ov s1 ⟨x,H1,I1,r1,q1⟩=>?_))
 refine wpAny_bind (wpAny_holding (thn (hi pins s1 σ H1 _ I1 q1) fun iv s2 ⟨y,H2,I2,r2,q2⟩=>?_))
 refine wpAny_bind (wpAny_standAt (wpAny_bind (wpAny_holding (thn (hs pins s2 σ H2 x y v ov iv u _ I2 r1 r2 r q2) fun _ s3 ⟨H3,I3,q3⟩=>?_))))
 exact wpAny_release ⟨σ,H3,I3,q3⟩
def Mz (te:TE) (g:TG):TS:=fun D σ H=>te σ H fun x H1=>g x σ H1 D.nx
theorem Us {tg e:Expr} {te:TE} {g:TG} (he:PE X e te) (hg:PG X tg g) (hs:swapsWithSole [tg] e pos.line X.env=pure false:=by rfl) (hw:swappedStores [tg] e X.env=pure none:=by rfl)
 (h1:(assignEach [tg] X.env).map (·.2)=[assign tg X.env]:=by rfl):PS X (.Assign [tg] e pos) (Mz te g):=by
 intro pins s σ H D I h
 refine wpAny_Assign_stores (thn (he pins s σ H _ I h) fun v s1 ⟨x,H1,I1,r1,q1⟩=>?_) hs hw
 rw [h1]
 exact thn (hg pins s1 σ H1 x v _ I1 r1 q1) fun _ s2 q=>q
theorem Qp {i:Nat} {x:Str} {e:Expr} {te:TE} {pos':Pos} (hN:X.N.Nodup) (hi:X.N[i]?=some x) (hx:Loc X.env.scope x) (he:PE X e te) (hs:swapsWith e (some (.Name x pos')) pos.line X.env=pure false:=by rfl) (hf:X.fn x=true∨X.env.scope.names.lookup x=some .local:=by first | exact .inl rfl | exact .inr rfl | assumption) :
 PS X (.Assign [.Name x pos'] e pos) (Mz te (QJ i)):=by
 intro pins s σ H D I h
 refine wpAny_Assign_Name (thn (he pins s σ H _ I h) fun v s1 ⟨y,H1,I1,r1,q1⟩=>?_) hs
 exact YU I1 hN hi hx r1 (fun s2 I2=>⟨_,H1,I2,q1⟩) hf
def SS (i:Nat) (te:TE) (ti:TIp):TS:=fun D σ H=>∃ x,σ[i]?=some (some x)∧te σ H fun y H1=>ti x y H1 fun z H2=>D.nx (σ.set i (some z)) H2
theorem Pj {i:Nat} {x:Str} {e:Expr} {te:TE} {op:Operator} {ti:TIp} {pos':Pos} (hN:X.N.Nodup) (hi:X.N[i]?=some x) (hx:Loc X.env.scope x) (he:PE X e te) (ho:PIp X op ti) (hf:X.fn x=true∨X.env.scope.names.lookup x=some .local:=by first | exact .inl rfl | exact .inr rfl | assumption) :
 PS X (.AugAssign (.Name x pos') op e pos) (SS i te ti):=by
 intro pins s σ H D I h
 obtain ⟨v,e1,h⟩:=h
 obtain ⟨m,hn,hl⟩:=I.loc
 have vis:Vis X.env.scope x:=by rcases hx with k | k;exact .inl k;exact .inr (.inl k)
 obtain ⟨u,r,l⟩:=hl i x v hi e1 vis
 refine wpAny_AugAssign_Name ?_
 have go:wpAny (5:) X.A (eval e X.env) (fun w s₂=>wpAny (5:) X.A (inplaceOp op u w) (fun r s₃=>wpAny (5:) X.A (storeName X.env x r) (fun _=>SP X pins D .next) X.xe s₃) X.xe s₂) X.xe s:=by
  refine thn (he pins s σ H _ I h) fun w s1 ⟨y,H1,I1,r1,q1⟩=>?_
  refine thn (ho pins s1 σ H1 v y u w _ I1 r r1 q1) fun z s2 ⟨zv,H2,I2,r2,q2⟩=>?_
  exact YU I2 hN hi hx r2 (fun s3 I3=>⟨_,H2,I3,q2⟩) hf
 rcases l with ⟨hk,hm⟩ | ⟨hk,c,hc,hcell⟩
 ·exact wpAny_loadName_local I.ok.kind hk hn hm go
 ·rcases hk with hk | hk
  ·exact wpAny_loadName_cell I.ok.kind hk hc hcell go
  ·rcases hx with k | k
   ·have:X.env.scope.names.lookup x=some .free:=hk
    rw [k] at this;cases this
   ·have:X.env.scope.names.lookup x=some .free:=hk
    rw [k] at this;cases this
def ipI (f:Int→Int→Int):TIp:=fun x y H Q=>∃ i j,x=.int i∧y=.int j∧Q (.int (f i j)) H
theorem Pc:PIp X .Add (ipI fun i j=>i + j):=by
 intro pins s σ H x y v u Q I r1 r2 h
 obtain ⟨i,j,e1,e2,q⟩:=h
 subst e1;subst e2
 obtain ⟨t,rfl⟩:=r1
 obtain ⟨t',rfl⟩:=r2
 exact iadd_int ⟨.int _,H,I.tok _,⟨_,rfl⟩,q⟩
end
section
variable {X:Cx} {pos:Pos}
def Lw (c:TT) (tb:TS):TS:=fun D σ H=>∃ W:Nat→St→Hp→Prop,(∃ m,W m σ H)∧∀ m σ H,W m σ H →
 c σ H fun b H1=>if b=true then ∃ N:St→Hp→Prop,(∀ σ' H',N σ' H'→∃ m',m' < m∧W m' σ' H')∧tb { D with nx:=N,ct:=N,bk:=D.nx } σ H1 else D.nx σ H1
theorem W0 {c:Expr} {body:List Stmt} {tc:TT} {tb:TS} (hp:PassesOwn (5:) X.A X.env X.xe) (hc:PT X c tc) (hb:PSs X body tb):PS X (.While c body [] pos) (Lw tc tb):=by
 intro pins s σ H D I h
 obtain ⟨W,⟨m0,w0⟩,turn⟩:=h
 refine wpAny_While (codeAny_whileLoop (fun n s'=>∃ σ' H',Inv X pins σ' H' s'∧W n σ' H') ?_ m0 ⟨σ,H,I,w0⟩)
 rintro n s1 ⟨σ1,H1,I1,w1⟩
 refine wpAny_passesOwn hp (thn (hc pins s1 σ1 H1 _ I1 (turn n σ1 H1 w1)) fun b s2 ⟨H2,I2,q2⟩=>?_)
 cases b with
 | true =>
  obtain ⟨N,hN,q2⟩:=q2
  rw [if_pos rfl]
  refine wpAny_passesOwn hp (thn (hb pins s2 σ1 H2 _ I2 q2) fun f s3 q3=>?_)
  cases f with
  | next =>
   obtain ⟨σ3,H3,I3,n3⟩:=q3
   obtain ⟨m',hm,w3⟩:=hN σ3 H3 n3
   exact ⟨m',hm,σ3,H3,I3,w3⟩
  | cont =>
   obtain ⟨σ3,H3,I3,n3⟩:=q3
   obtain ⟨m',hm,w3⟩:=hN σ3 H3 n3
   exact ⟨m',hm,σ3,H3,I3,w3⟩
  | brk=>exact q3
  | ret v=>exact q3
 | false =>
  rw [if_neg Bool.false_ne_true]
  exact wpAny_execs_nil ⟨σ1,H2,I2,q2⟩
end
structure It where
 go:Nat→Hp→Prop
 yld:Nat→Hp→V→Hp→Prop
 stop:Nat→Hp→Prop
def Um (X:Cx) (pins:List (11:)) (H:Hp) (b:Addr):Prop :=
 H b=none∧b≠X.env.locals∧b ∉ X.fs∧(b ∈ X.ex∨X.s₀.heap.objs.size≤b)∧(∀ x c,X.env.cells.lookup x=some c→c≠b)∧∀ p ∈ X.pn ++ pins,p.1≠b
theorem Inv.fpOk {X:Cx} {pins:List (11:)} {σ:St} {H H':Hp} {s:Shared} {b:Addr} (I:Inv X pins σ H s) (hb:s.heap.objs.size≤b) (hn:H' b=none):Um X pins H' b:=by
 refine ⟨hn,Nat.ne_of_gt (Nat.lt_of_lt_of_le I.lt hb),I.nofs hb,.inr (Nat.le_trans I.sz hb),fun x c e z=>?_,fun p hp z=>?_⟩
 ·obtain ⟨v,q⟩:=I.cell x c e
  exact absurd (Nat.lt_of_lt_of_le q.lt (by rw [z];exact hb)) (Nat.lt_irrefl _)
 ·exact absurd (Nat.lt_of_lt_of_le (Heap.lt_size (I.pin p hp).1) (by rw [z];exact hb)) (Nat.lt_irrefl _)
structure Turn (P:Program) (w:World) (K:Fg) (tg:Expr) (J:It) (fp:List Addr) (it:Addr) (tn:Nat→Heap→Prop):Prop where
 mem:it ∈ fp
 obj:∀ i h,tn i h→∀ b ∈ fp,∃ o,h.get? b=some o∧∀ v,o.data≠.cell v
 keep:∀ i h h',tn i h→(∀ b ∈ fp,∀ o,h.get? b=some o→h'.get? b=some o)→tn i h'
 item:∀ (X:Cx),X.prog=P→X.w=w→X.K=K→X.calm=true→∀ (i:Nat) (pins:List (11:)) (s:Shared) (σ:St) (H:Hp) (E:Value→Shared→Prop),Inv X pins σ H s→(∀ b ∈ fp,Um X pins H b)→tn i s.heap→J.go i H →
  wpAny (model P w) X.A (pyNext (.ref it)) (fun r s1=>∃ u,r=some u ∧
   wpAny (model P w) X.A (letOwnedTupleGo tg (.ref it) u) (fun _ s2=>∃ x H',Inv X pins σ H' s2∧RelV x u∧J.yld i H x H'∧tn (i + 1) s2.heap∧∀ b ∈ fp,H' b=none) E s1) E s
 done:∀ (X:Cx),X.prog=P→X.w=w→X.K=K→X.calm=true→∀ (i:Nat) (pins:List (11:)) (s:Shared) (σ:St) (H:Hp) (E:Value→Shared→Prop),Inv X pins σ H s→(∀ b ∈ fp,Um X pins H b)→tn i s.heap→J.stop i H →
  wpAny (model P w) X.A (pyNext (.ref it)) (fun r s1=>r=none∧Inv X pins σ H s1) E s
 self:∀ (A:Around) (i:Nat) (s:Shared) (Q:Value→Shared→Prop) (E:Value→Shared→Prop),tn i s.heap→Q (.ref it) s→wpAny (model P w) A (pyIter (.ref it)) Q E s
abbrev TI:=St→Hp→(It→Hp→Prop)→Prop
def PIE (X:Cx) (pins:List (11:)) (σ:St) (tg:Expr) (R:It→Hp→Prop) (itv:Value) (s2:Shared):Prop :=
 ∃ (it:Addr) (fp:List Addr) (tn:Nat→Heap→Prop) (J:It) (H':Hp),itv=.ref it∧Inv X pins σ H' s2∧Turn X.prog X.w X.K tg J fp it tn∧tn 0 s2.heap∧(∀ b ∈ fp,Um X pins H' b)∧R J H'
def PI (X:Cx) (tg iter:Expr) (wi:TI):Prop :=
 ∀ (pins:List (11:)) (s:Shared) (σ:St) (H:Hp) (R:It→Hp→Prop),Inv X pins σ H s→wi σ H R →
  wpAny (5:) X.A (eval iter X.env) (fun v s1=>wpAny (5:) X.A (pyIter v) (PIE X pins σ tg R) X.xe s1) X.xe s
theorem Lk {M:Model} {A:Around} {E:Value→Shared→Prop} {s:Shared} {tg:Expr} {it:Addr} {u:Value} {o:Obj} {n:String} {vs:Array Value} {Q:Unit→Shared→Prop} (ho:s.heap.get? it=some o) (hc:o.cls=.type n) (hd:o.data=.fields vs)
 (hn:["enumerate", "zip", "dict_itemiterator", "dict_reverseitemiterator", "odict_iterator", "itertools.zip_longest", "itertools.pairwise"].contains n=false) (hQ:Q () s):wpAny M A (letOwnedTupleGo tg (.ref it) u) Q E s:=by
 unfold letOwnedTupleGo
 cases tg <;> first
  | exact wpAny_pure hQ
  | (cases u <;> first
   | exact wpAny_pure hQ
   | (refine wpAny_bind (wpAny_load ho ?_)
      rw [hc,hd]
      show wpAny M A (if (["enumerate", "zip", "dict_itemiterator", "dict_reverseitemiterator", "odict_iterator", "itertools.zip_longest", "itertools.pairwise"].contains n && vs[0]? == some (rawInt _))=true then _ else _) Q E s
      rw [if_neg (by intro h;rw [hn,Bool.false_and] at h;cases h)]
      exact wpAny_pure hQ))
def Itl (K:Fg) (a:Addr):It :=
 ⟨fun i H=>∃ xs x,SqL K H a xs∧xs[i]?=some x,fun i H x H'=>H'=H∧∀ xs,SqL K H a xs→xs[i]?=some x,fun i H=>∃ xs,SqL K H a xs∧xs.length≤i⟩
def Itt (K:Fg) (a:Addr):It :=
 ⟨fun i H=>∃ xs x,SqT K H a xs∧xs[i]?=some x,fun i H x H'=>H'=H∧∀ xs,SqT K H a xs→xs[i]?=some x,fun i H=>∃ xs,SqT K H a xs∧xs.length≤i⟩
def Itr (lo:Int) (n:Nat):It:=⟨fun i _=>i < n,fun i H x H'=>H'=H∧x=.int (lo + i),fun i _=>n≤i⟩
theorem GK {P:Program} {w:World} {K:Fg} {tg:Expr} (a it:Addr):Turn P w K tg (Itl K a) [it] it (fun i h=>h.IsListIter it a i) where
 mem:=by simp
 obj:=fun i h st b hb=>by
  have e:b=it:=by simpa using hb
  subst e
  obtain ⟨o,e,c,d⟩:=st
  exact ⟨o,e,fun v z=>by rw [d] at z;cases z⟩
 keep:=fun i h h' st k=>st.at fun o e=>k it (by simp) o e
 item:=by
  intro X hP hw hK hc i pins s σ H E I hf st hg
  subst hP hw hK
  obtain ⟨xs,x,hq,hx⟩:=hg
  obtain ⟨its,rv,p,hz⟩:=I.list hq
  obtain ⟨u,hu,ru⟩:=rv.get hx
  obtain ⟨f0,f1,f2,f3,f4,f5⟩:=hf it (by simp)
  refine wpAny_pyNext_list_item st p.isList (x:=u) (by simpa using hu) fun h' st' sb=>?_
  have I1:Inv X pins σ H { s with heap:=h' }:=I.turned (t':=s.toks) (fun b o hb e=>(sb.2 b hb).trans e) f0 f1 f3 f4 f5
  obtain ⟨o,e,c,d⟩:=id st'
  exact ⟨u,rfl,Lk (s:={ s with heap:=h' }) e c d (by decide) ⟨x,H,I1,ru,⟨rfl,fun ys hy=>by rw [I.list_inj hy hq];exact hx⟩,st',fun b hb=>(hf b hb).1⟩⟩
 done:=by
  intro X hP hw hK hc i pins s σ H E I hf st hg
  subst hP hw hK
  obtain ⟨xs,hq,hx⟩:=hg
  obtain ⟨its,rv,p,hz⟩:=I.list hq
  obtain ⟨f0,f1,f2,f3,f4,f5⟩:=hf it (by simp)
  have hl:=rv.length
  exact wpAny_pyNext_list_end (I.ok.hd hc) st p.isList (by simp;lia) fun h' eb=>⟨rfl,I.turned (t':=s.toks) (fun b o hb e=>eb b o hb e) f0 f1 f3 f4 f5⟩
 self:=fun _ _ _ _ _ st h=>wpAny_pyIter_listiter st h
theorem W7 {P:Program} {w:World} {K:Fg} {tg:Expr} (a it:Addr):Turn P w K tg (Itt K a) [it] it (fun i h=>h.IsTupleIter it a i) where
 mem:=by simp
 obj:=fun i h st b hb=>by
  have e:b=it:=by simpa using hb
  subst e
  obtain ⟨o,e,c,d⟩:=st
  exact ⟨o,e,fun v z=>by rw [d] at z;cases z⟩
 keep:=fun i h h' st k=>st.at fun o e=>k it (by simp) o e
 item:=by
  intro X hP hw hK hc i pins s σ H E I hf st hg
  subst hP hw hK
  obtain ⟨xs,x,hq,hx⟩:=hg
  obtain ⟨its,rv,p,hz⟩:=I.tuple hq
  obtain ⟨u,hu,ru⟩:=rv.get hx
  obtain ⟨f0,f1,f2,f3,f4,f5⟩:=hf it (by simp)
  refine wpAny_pyNext_tuple_item st (show s.heap.IsTuple a its.toArray from p) (x:=u) (by simpa using hu) fun h' st' sb=>?_
  have I1:Inv X pins σ H { s with heap:=h' }:=I.turned (t':=s.toks) (fun b o hb e=>(sb.2 b hb).trans e) f0 f1 f3 f4 f5
  obtain ⟨o,e,c,d⟩:=id st'
  exact ⟨u,rfl,Lk (s:={ s with heap:=h' }) e c d (by decide) ⟨x,H,I1,ru,⟨rfl,fun ys hy=>by rw [I.tuple_inj hy hq];exact hx⟩,st',fun b hb=>(hf b hb).1⟩⟩
 done:=by
  intro X hP hw hK hc i pins s σ H E I hf st hg
  subst hP hw hK
  obtain ⟨xs,hq,hx⟩:=hg
  obtain ⟨its,rv,p,hz⟩:=I.tuple hq
  obtain ⟨f0,f1,f2,f3,f4,f5⟩:=hf it (by simp)
  have hl:=rv.length
  exact wpAny_pyNext_tuple_end (I.ok.hd hc) st (show s.heap.IsTuple a its.toArray from p) (by simp;lia) fun h' eb=>⟨rfl,I.turned (t':=s.toks) (fun b o hb e=>eb b o hb e) f0 f1 f3 f4 f5⟩
 self:=fun _ _ _ _ _ st h=>wpAny_pyIter_tupleiter st h
theorem Vb {P:Program} {w:World} {K:Fg} {tg:Expr} (it:Addr) (lo:Int) (n:Nat):Turn P w K tg (Itr lo n) [it] it (fun i h=>IsRangeIter h it (lo + (i:Nat) * 1) ((n:Int) - (i:Nat)) 1) where
 mem:=by simp
 obj:=fun i h st b hb=>by
  have e:b=it:=by simpa using hb
  subst e
  exact ⟨_,st,fun v z=>by
   have z':Data.fields _=Data.cell v:=z
   cases z'⟩
 keep:=fun i h h' st k=>k it (by simp) _ st
 item:=by
  intro X hP hw hK hc i pins s σ H E I hf st hg
  subst hP hw hK
  obtain ⟨f0,f1,f2,f3,f4,f5⟩:=hf it (by simp)
  have W:=Walks.range (prog:=X.prog) (w:=X.w) (I.ok.hd hc) it lo 1 n
  refine W.item i s _ _ hg st fun v h' tk hv st' kk=>?_
  obtain ⟨t,rfl⟩:=hv
  have I1:Inv X pins σ H { s with heap:=h',toks:=tk }:=I.turned (fun b o hb e=>kk b o (by simpa using hb) e) f0 f1 f3 f4 f5
  refine ⟨_,rfl,Lk (s:={ s with heap:=h',toks:=tk }) (n:="range_iterator") st' rfl rfl (by decide) ⟨.int (lo + i),H,I1,⟨t,?_⟩,⟨rfl,rfl⟩,st',fun b hb=>(hf b hb).1⟩⟩
  rw [Int.mul_one]
 done:=by
  intro X hP hw hK hc i pins s σ H E I hf st hg
  subst hP hw hK
  obtain ⟨f0,f1,f2,f3,f4,f5⟩:=hf it (by simp)
  exact wpAny_pyNext_range_end (I.ok.hd hc) st (by have:n≤i:=hg;lia) fun h' eb=>⟨rfl,I.turned (t':=s.toks) (fun b o hb e=>eb b o hb e) f0 f1 f3 f4 f5⟩
 self:=fun _ _ _ _ _ st h=>wpAny_pyIter_rangeiter st h
end L2
namespace L2
open PySem PySem.Spec PyProof.Rows
section
variable {X:Cx} {tg:Expr}
def OP (K:Fg) (tl:TE):TI:=fun σ H R=>tl σ H fun x H1=>∃ a,x=.ref a∧(∃ xs,SqL K H1 a xs)∧R (Itl K a) H1
def S0 (K:Fg) (tl:TE):TI:=fun σ H R=>tl σ H fun x H1=>∃ a,x=.ref a∧(∃ xs,SqT K H1 a xs)∧R (Itt K a) H1
theorem Q4 {l:Expr} {tl:TE} (hl:PE X l tl):PI X tg l (OP X.K tl):=by
 intro pins s σ H R I h
 refine thn (hl pins s σ H _ I h) fun v s1 ⟨x,H1,I1,r1,q1⟩=>?_
 obtain ⟨a,e,⟨xs,hq⟩,q⟩:=q1
 subst e
 cases r1
 obtain ⟨its,rv,p,hz⟩:=I1.list hq
 refine wpAny_pyIter_list p.isList ?_
 refine ⟨s1.heap.objs.size,[s1.heap.objs.size],_,_,H1,rfl,I1.kept (t':=s1.toks) fun b o e=>Heap.get?_push_of_some _ e,GK a _,⟨_,Heap.get?_push_size _ rfl,rfl,rfl⟩,fun b hb=>?_,q⟩
 have e:b=s1.heap.objs.size:=by simpa using hb
 subst e
 exact I1.fpOk (8:) (I1.hok.fresh (8:))
theorem YL {l:Expr} {tl:TE} (hl:PE X l tl):PI X tg l (S0 X.K tl):=by
 intro pins s σ H R I h
 refine thn (hl pins s σ H _ I h) fun v s1 ⟨x,H1,I1,r1,q1⟩=>?_
 obtain ⟨a,e,⟨xs,hq⟩,q⟩:=q1
 subst e
 cases r1
 obtain ⟨its,rv,p,hz⟩:=I1.tuple hq
 refine wpAny_pyIter_tuple (show s1.heap.IsTuple a its.toArray from p) ?_
 refine ⟨s1.heap.objs.size,[s1.heap.objs.size],_,_,H1,rfl,I1.kept (t':=s1.toks) fun b o e=>Heap.get?_push_of_some _ e,W7 a _,⟨_,Heap.get?_push_size _ rfl,rfl,rfl⟩,fun b hb=>?_,q⟩
 have e:b=s1.heap.objs.size:=by simpa using hb
 subst e
 exact I1.fpOk (8:) (I1.hok.fresh (8:))
theorem Mx {pins:List (11:)} {σ:St} {H:Hp} {s:Shared} {R:It→Hp→Prop} {E:Value→Shared→Prop} {lo hi:Int} {t u v:Tok} {tk:Nat} (I:Inv X pins σ H s) (h1:-(2 ^ 62)≤lo) (h2:lo < 2 ^ 62) (h3:-(2 ^ 62)≤hi) (h4:hi < 2 ^ 62)
 (q:R (Itr lo (hi - lo).toNat) H):wpAny (5:) X.A (pyIter (.ref s.heap.objs.size)) (PIE X pins σ tg R) E { s with heap:=s.heap.push { cls:=.type "range", data:=.fields #[.int lo t,.int hi u,.int 1 v] },toks:=tk }:=by
 refine wpAny_pyIter_range (IsRange.new ..) (small_one h1 h2 h3 h4) ?_
 have I1:Inv X pins σ H { s with heap:=s.heap.push { cls:=.type "range", data:=.fields #[.int lo t,.int hi u,.int 1 v] },toks:=tk }:=I.kept fun b o e=>Heap.get?_push_of_some _ e
 refine ⟨(s.heap.push { cls:=.type "range", data:=.fields #[.int lo t,.int hi u,.int 1 v] }).objs.size,[(s.heap.push { cls:=.type "range", data:=.fields #[.int lo t,.int hi u,.int 1 v] }).objs.size],_,_,H,rfl,I1.kept (t':=tk) fun b o e=>Heap.get?_push_of_some _ e,Vb _ lo (hi - lo).toNat,?_,fun b hb=>?_,q⟩
 ·have e1:lo + ((0:Nat):Int) * 1=lo:=by simp
  have e2:(((hi - lo).toNat:Nat):Int) - ((0:Nat):Int)=Builtin.Range.rangeSize lo hi 1:=by rw [rangeSize_one];split <;> lia
  show IsRangeIter _ _ (lo + ((0:Nat):Int) * 1) ((((hi - lo).toNat:Nat):Int) - ((0:Nat):Int)) 1
  rw [e1,e2]
  exact Heap.get?_push_size _ rfl
 ·have e:b=(s.heap.push { cls:=.type "range", data:=.fields #[.int lo t,.int hi u,.int 1 v] }).objs.size:=by simpa using hb
  subst e
  exact I1.fpOk (8:) (I1.hok.fresh (8:))
def RJ (ta:TA):TI:=fun σ H R=>ta σ H fun vs H1=>∃ j:Int,vs=[.int j]∧-(2 ^ 62)≤j∧j < 2 ^ 62∧R (Itr 0 j.toNat) H1
theorem Zp {a:Expr} {ta:TA} {p pos:Pos} (hg:Gl X "range") (hm:X.mg "range" = none) (ha:PA X [a] ta) (hs:starEach [a] X.env=[(false,eval a X.env)]:=by rfl):PI X tg (.Call (.Name "range" p) [a] [] pos) (RJ ta):=by
 intro pins s σ H R I h
 refine Call_ (UB I hg hm boot_range (PyProof.Rows.callWith_type1 (thn (ha pos pins s σ H _ I h) fun us s1 ⟨vs,H1,I1,r1,q1⟩=>?_) hs rfl))
 obtain ⟨j,e,q1,q2,q⟩:=q1
 subst e
 cases r1 with
 | cons r rr =>
  cases rr
  obtain ⟨t,rfl⟩:=r
  exact call_range_1 (Mx I1 (10:) (10:) q1 q2 (by simpa using q))
def R5 (wi:TI) (g:TG) (tb:TS):TS:=fun D σ H=>wi σ H fun J H1=>∃ W:Nat→Nat→St→Hp→Prop,(∃ m,W 0 m σ H1)∧∀ i m σ H,W i m σ H →
 (J.stop i H∧D.nx σ H)∨(J.go i H∧∃ N:St→Hp→Prop,(∀ σ' H',N σ' H'→∃ m',m' < m∧W (i + 1) m' σ' H')∧∀ x H',J.yld i H x H'→g x σ H' fun σ2 H2=>tb { D with nx:=N,ct:=N,bk:=D.nx } σ2 H2)
def Uw (fp:List Addr) (h:Heap):List (11:):=fp.filterMap fun b=>(h.get? b).map fun o=>(b,o)
theorem Zl {fp:List Addr} {h:Heap} {b:Addr} {o:Obj} (hb:b ∈ fp) (e:h.get? b=some o):(b,o) ∈ Uw fp h:=List.mem_filterMap.mpr ⟨b,hb,by rw [e];rfl⟩
theorem Gy {fp:List Addr} {h:Heap} {p:Addr × Obj} (hp:p ∈ Uw fp h):p.1 ∈ fp∧h.get? p.1=some p.2:=by
 obtain ⟨b,hb,e⟩:=List.mem_filterMap.mp hp
 cases q:h.get? b with
 | none=>rw [q] at e;cases e
 | some o =>
  rw [q] at e
  have e':(b,o)=p:=Option.some.inj e
  subst e'
  exact ⟨hb,q⟩
theorem Inv.pinned {pins:List (11:)} {σ:St} {H:Hp} {s:Shared} {fp:List Addr} (I:Inv X pins σ H s) (hf:∀ b ∈ fp,Um X pins H b) (ho:∀ b ∈ fp,∃ o,s.heap.get? b=some o∧∀ v,o.data≠.cell v):Inv X (pins ++ Uw fp s.heap) σ H s :=
 I.pins_of fun p hp=>(List.mem_append.mp hp).elim (fun z=>I.pin p (List.mem_append_right _ z)) fun z=>by
  obtain ⟨hb,e⟩:=Gy z
  obtain ⟨f0,f1,f2,_⟩:=hf p.1 hb
  obtain ⟨o,e',d⟩:=ho p.1 hb
  rw [e] at e';cases e'
  exact ⟨e,f0,f1,f2,d⟩
theorem Inv.unpinned {pins pl:List (11:)} {σ:St} {H:Hp} {s:Shared} (I:Inv X (pins ++ pl) σ H s):Inv X pins σ H s:=I.pins_of fun p hp=>I.pin p (List.mem_append_right _ (List.mem_append_left _ hp))
theorem Zc {iter:Expr} {body:List Stmt} {wi:TI} {g:TG} {tb:TS} {pos:Pos} (hp:PassesOwn (5:) X.A X.env X.xe) (hc:X.calm=true) (hi:PI X tg iter wi) (hg:PG X tg g) (hb:PSs X body tb)
 (hs:∀ x,foldedSetIterable iter X.env x=pure x:=by intro _;rfl):PS X (.For tg iter body [] pos) (R5 wi g tb):=by
 intro pins s σ H D I h
 refine wpAny_For (thn (hi pins s σ H _ I h) fun v s1 h1=>thn h1 fun itv s2 h2=>?_) hs
 obtain ⟨it,fp,tn,J,H2,e,I2,T,st2,f2,W,⟨m0,w0⟩,turn⟩:=h2
 subst e
 have stat:∀ {H':Hp},(∀ b ∈ fp,H' b=none)→∀ b ∈ fp,Um X pins H' b:=fun hn b hb=>⟨hn b hb,(f2 b hb).2⟩
 refine codeAny_forLoop_any (fun n s'=>∃ i σ' H',Inv X pins σ' H' s'∧tn i s'.heap∧(∀ b ∈ fp,H' b=none)∧W i n σ' H') ?_ m0 ⟨0,σ,H2,I2,st2,fun b hb=>(f2 b hb).1,w0⟩
 rintro n s3 ⟨i,σ3,H3,I3,st3,fr3,w3⟩
 rcases turn i n σ3 H3 w3 with ⟨stop,qn⟩ | ⟨go,N,hN,step⟩
 ·refine wpAny_passesOwn hp (thn (T.done X rfl rfl rfl hc i pins s3 σ3 H3 X.xe I3 (stat fr3) st3 stop) fun r s4 ⟨hr,I4⟩=>?_)
  subst hr
  exact wpAny_execs_nil ⟨σ3,H3,I4,qn⟩
 ·refine wpAny_passesOwn hp (thn (T.item X rfl rfl rfl hc i pins s3 σ3 H3 X.xe I3 (stat fr3) st3 go) fun r s4 ⟨u,hr,h4⟩=>?_)
  subst hr
  refine wpAny_passesOwn hp (thn h4 fun _ s5 ⟨x,H5,I5,r5,y5,st5,fr5⟩=>?_)
  have I5':=I5.pinned (stat fr5) (T.obj _ _ st5)
  refine wpAny_passesOwn hp (thn (hg _ s5 σ3 H5 x u _ I5' r5 (step x H5 y5)) fun _ s6 ⟨σ6,H6,I6,q6⟩=>?_)
  refine wpAny_passesOwn hp (thn (hb _ s6 σ6 H6 _ I6 q6) fun f s7 q7=>?_)
  have again:∀ {σ7:St} {H7:Hp},Inv X (pins ++ Uw fp s5.heap) σ7 H7 s7→N σ7 H7→∃ m,m < n∧∃ i σ' H',Inv X pins σ' H' s7∧tn i s7.heap∧(∀ b ∈ fp,H' b=none)∧W i m σ' H':=fun {σ7 H7} I7 n7=>by
   obtain ⟨m',hm,w7⟩:=hN σ7 H7 n7
   refine ⟨m',hm,i + 1,σ7,H7,I7.unpinned,T.keep _ _ _ st5 fun b hb o e=>(I7.pin (b,o) (List.mem_append_right _ (List.mem_append_right _ (Zl hb e)))).1,fun b hb=>?_,w7⟩
   obtain ⟨o,e,d⟩:=T.obj _ _ st5 b hb
   exact (I7.pin (b,o) (List.mem_append_right _ (List.mem_append_right _ (Zl hb e)))).2.1
  cases f with
  | next=>obtain ⟨σ7,H7,I7,n7⟩:=q7;exact again I7 n7
  | cont=>obtain ⟨σ7,H7,I7,n7⟩:=q7;exact again I7 n7
  | brk=>obtain ⟨σ7,H7,I7,q7⟩:=q7;exact ⟨σ7,H7,I7.unpinned,q7⟩
  | ret v=>obtain ⟨x7,σ7,H7,I7,r7,q7⟩:=q7;exact ⟨x7,σ7,H7,I7.unpinned,r7,q7⟩
end
theorem ZQ {K:Fg} {a:Addr} {xs:List V} {g:TG} {tb:TS} {D:Ends} {σ:St} {H:Hp} (Pv:Nat→St→Hp→Prop) (h0:Pv 0 σ H) (hl:∀ i σ H,i≤xs.length→Pv i σ H→SqL K H a xs)
 (hs:∀ i x σ H,xs[i]?=some x→Pv i σ H→g x σ H fun σ2 H2=>tb { D with nx:=Pv (i + 1),ct:=Pv (i + 1),bk:=D.nx } σ2 H2) (hd:∀ σ H,Pv xs.length σ H→D.nx σ H) :
 ∃ W:Nat→Nat→St→Hp→Prop,(∃ m,W 0 m σ H)∧∀ i m σ H,W i m σ H →
  ((Itl K a).stop i H∧D.nx σ H)∨((Itl K a).go i H∧∃ N:St→Hp→Prop,(∀ σ' H',N σ' H'→∃ m',m' < m∧W (i + 1) m' σ' H')∧∀ x H',(Itl K a).yld i H x H'→g x σ H' fun σ2 H2=>tb { D with nx:=N,ct:=N,bk:=D.nx } σ2 H2):=by
 refine ⟨fun i m σ H=>m=xs.length - i∧i≤xs.length∧Pv i σ H,⟨xs.length,by simp,Nat.zero_le _,h0⟩,?_⟩
 rintro i m σ H ⟨rfl,hi,p⟩
 have q:=hl i σ H hi p
 by_cases hlt:i < xs.length
 ·refine .inr ⟨⟨xs,xs[i],q,by simp [hlt]⟩,Pv (i + 1),fun σ' H' p'=>⟨xs.length - (i + 1),by lia,rfl,hlt,p'⟩,fun x H' y=>?_⟩
  obtain ⟨e,y⟩:=y
  subst e
  exact hs i x σ _ (y xs q) p
 ·have e:i=xs.length:=by lia
  subst e
  exact .inl ⟨⟨xs,q,Nat.le_refl _⟩,hd σ H p⟩
theorem We {K:Fg} {a:Addr} {xs:List V} {g:TG} {tb:TS} {D:Ends} {σ:St} {H:Hp} (Pv:Nat→St→Hp→Prop) (h0:Pv 0 σ H) (hl:∀ i σ H,i≤xs.length→Pv i σ H→SqT K H a xs)
 (hs:∀ i x σ H,xs[i]?=some x→Pv i σ H→g x σ H fun σ2 H2=>tb { D with nx:=Pv (i + 1),ct:=Pv (i + 1),bk:=D.nx } σ2 H2) (hd:∀ σ H,Pv xs.length σ H→D.nx σ H) :
 ∃ W:Nat→Nat→St→Hp→Prop,(∃ m,W 0 m σ H)∧∀ i m σ H,W i m σ H →
  ((Itt K a).stop i H∧D.nx σ H)∨((Itt K a).go i H∧∃ N:St→Hp→Prop,(∀ σ' H',N σ' H'→∃ m',m' < m∧W (i + 1) m' σ' H')∧∀ x H',(Itt K a).yld i H x H'→g x σ H' fun σ2 H2=>tb { D with nx:=N,ct:=N,bk:=D.nx } σ2 H2):=by
 refine ⟨fun i m σ H=>m=xs.length - i∧i≤xs.length∧Pv i σ H,⟨xs.length,by simp,Nat.zero_le _,h0⟩,?_⟩
 rintro i m σ H ⟨rfl,hi,p⟩
 have q:=hl i σ H hi p
 by_cases hlt:i < xs.length
 ·refine .inr ⟨⟨xs,xs[i],q,by simp [hlt]⟩,Pv (i + 1),fun σ' H' p'=>⟨xs.length - (i + 1),by lia,rfl,hlt,p'⟩,fun x H' y=>?_⟩
  obtain ⟨e,y⟩:=y
  subst e
  exact hs i x σ _ (y xs q) p
 ·have e:i=xs.length:=by lia
  subst e
  exact .inl ⟨⟨xs,q,Nat.le_refl _⟩,hd σ H p⟩
theorem Xm {lo:Int} {n:Nat} {g:TG} {tb:TS} {D:Ends} {σ:St} {H:Hp} (Pv:Nat→St→Hp→Prop) (h0:Pv 0 σ H)
 (hs:∀ i σ H,i < n→Pv i σ H→g (.int (lo + i)) σ H fun σ2 H2=>tb { D with nx:=Pv (i + 1),ct:=Pv (i + 1),bk:=D.nx } σ2 H2) (hd:∀ σ H,Pv n σ H→D.nx σ H) :
 ∃ W:Nat→Nat→St→Hp→Prop,(∃ m,W 0 m σ H)∧∀ i m σ H,W i m σ H →
  ((Itr lo n).stop i H∧D.nx σ H)∨((Itr lo n).go i H∧∃ N:St→Hp→Prop,(∀ σ' H',N σ' H'→∃ m',m' < m∧W (i + 1) m' σ' H')∧∀ x H',(Itr lo n).yld i H x H'→g x σ H' fun σ2 H2=>tb { D with nx:=N,ct:=N,bk:=D.nx } σ2 H2):=by
 refine ⟨fun i m σ H=>m=n - i∧i≤n∧Pv i σ H,⟨n,by simp,Nat.zero_le _,h0⟩,?_⟩
 rintro i m σ H ⟨rfl,hi,p⟩
 by_cases hlt:i < n
 ·refine .inr ⟨hlt,Pv (i + 1),fun σ' H' p'=>⟨n - (i + 1),by lia,rfl,hlt,p'⟩,fun x H' y=>?_⟩
  obtain ⟨e,y⟩:=y
  subst e y
  exact hs i σ _ hlt p
 ·have e:i=n:=by lia
  subst e
  exact .inl ⟨Nat.le_refl _,hd σ H p⟩
end L2
namespace L2
open PySem PySem.Spec PyProof.Rows
abbrev R2:=V→V→Hp→VK→Prop
def OpR (X:Cx) (f:Value→Value→Sem Value) (r:R2):Prop :=
 ∀ (pins:List (11:)) (s:Shared) (σ:St) (H:Hp) (x y:V) (v u:Value) (Q:VK),Inv X pins σ H s→RelV x v→RelV y u→r x y H Q →
  wpAny (5:) X.A (f v u) (EP X pins σ Q) X.xe s
def Zv (X:Cx) (f:Value) (r:List V→Hp→VK→Prop):Prop :=
 ∀ (pins:List (11:)) (s:Shared) (σ:St) (H:Hp) (xs:List V) (us:List Value) (Q:VK),Inv X pins σ H s→Vals xs us→r xs H Q →
  wpAny (5:) X.A (call f us) (EP X pins σ Q) X.xe s
def tOp (r:R2) (ta tb:TE):TE:=fun σ H Q=>ta σ H fun x H1=>tb σ H1 fun y H2=>r x y H2 Q
def rI (C:Int→Int→Prop) (g:Int→Int→V):R2:=fun x y H Q=>∃ i j,x=.int i∧y=.int j∧C i j∧Q (g i j) H
def rI0 (g:Int→Int→V):R2:=fun x y H Q=>∃ i j,x=.int i∧y=.int j∧Q (g i j) H
section
variable {X:Cx} {a b c:Expr} {ta tb tc:TE} {pos:Pos}
theorem O3 (ha:PE X a ta) (hb:PE X b tb) {pins:List (11:)} {s:Shared} {σ:St} {H:Hp} {R:V→V→Hp→Prop} (I:Inv X pins σ H s)
 (h:ta σ H fun x H1=>tb σ H1 fun y H2=>R x y H2) {Q:Value→Shared→Prop} {f:Value→Value→Sem Value}
 (hf:∀ v u s2 x y H2,Inv X pins σ H2 s2→RelV x v→RelV y u→R x y H2→wpAny (5:) X.A (f v u) Q X.xe s2) :
 wpAny (5:) X.A (eval a X.env) (fun v s₁=>wpAny (5:) X.A (eval b X.env) (fun u s₂=>wpAny (5:) X.A (f v u) Q X.xe s₂) X.xe s₁) X.xe s:=by
 refine thn (ha pins s σ H _ I h) fun v s1 ⟨x,H1,I1,r1,q1⟩=>?_
 refine thn (hb pins s1 σ H1 _ I1 q1) fun u s2 ⟨y,H2,I2,r2,q2⟩=>?_
 exact hf v u s2 x y H2 I2 r1 r2 q2
theorem Qo {op:Operator} {r:R2} (ho:OpR X (binaryOp op) r) (ha:PE X a ta) (hb:PE X b tb):PE X (.BinOp a op b pos) (tOp r ta tb):=by
 intro pins s σ H Q I h
 exact wpAny_BinOp (O3 ha hb I h fun v u s2 x y H2 I2 rx ry q=>ho pins s2 σ H2 x y v u Q I2 rx ry q)
theorem opI {f:Value→Value→Sem Value} {C:Int→Int→Prop} {g:Int→Int→Int}
 (rule:∀ (i j:Int) (t u:Tok) (s:Shared) (Q:Value→Shared→Prop) (E:Value→Shared→Prop),C i j→Q (.int (g i j) s.toks) { s with toks:=s.toks + 1 }→wpAny (5:) X.A (f (.int i t) (.int j u)) Q E s) :
 OpR X f (rI C fun i j=>.int (g i j)):=by
 intro pins s σ H x y v u Q I rx ry h
 obtain ⟨i,j,rfl,rfl,hc,q⟩:=h
 obtain ⟨t,rfl⟩:=rx
 obtain ⟨t',rfl⟩:=ry
 exact rule i j t t' s _ _ hc ⟨.int (g i j),H,I.tok _,⟨_,rfl⟩,q⟩
theorem RY {f:Value→Value→Sem Value} {g:Int→Int→Int}
 (rule:∀ (i j:Int) (t u:Tok) (s:Shared) (Q:Value→Shared→Prop) (E:Value→Shared→Prop),Q (.int (g i j) s.toks) { s with toks:=s.toks + 1 }→wpAny (5:) X.A (f (.int i t) (.int j u)) Q E s) :
 OpR X f (rI0 fun i j=>.int (g i j)):=by
 intro pins s σ H x y v u Q I rx ry h
 obtain ⟨i,j,rfl,rfl,q⟩:=h
 obtain ⟨t,rfl⟩:=rx
 obtain ⟨t',rfl⟩:=ry
 exact rule i j t t' s _ _ ⟨.int (g i j),H,I.tok _,⟨_,rfl⟩,q⟩
theorem Sm {f:Value→Value→Sem Value} {g:Int→Int→Bool}
 (rule:∀ (i j:Int) (t u:Tok) (s:Shared) (Q:Value→Shared→Prop) (E:Value→Shared→Prop),Q (.bool (g i j)) s→wpAny (5:) X.A (f (.int i t) (.int j u)) Q E s) :
 OpR X f (rI0 fun i j=>.bl (g i j)):=by
 intro pins s σ H x y v u Q I rx ry h
 obtain ⟨i,j,rfl,rfl,q⟩:=h
 obtain ⟨t,rfl⟩:=rx
 obtain ⟨t',rfl⟩:=ry
 exact rule i j t t' s _ _ ⟨.bl (g i j),H,I,rfl,q⟩
def Ta (i j:Int):Prop:=0 < j∧j < 1073741824
def S3 (i j:Int):Prop:=0≤j∧j≤1000000∧i.natAbs < 2 ^ 64
def CMul (i j:Int):Prop:=(-(2 ^ 64) < i∧i < 2 ^ 64)∨(-(2 ^ 64) < j∧j < 2 ^ 64)
theorem CMul.ok {i j:Int} (h:CMul i j):IntMulOk i j:=by
 rcases h with ⟨h1,h2⟩ | ⟨h1,h2⟩
 ·exact .of_left (intBits_le_64 h1 h2)
 ·exact .of_right (intBits_le_64 h1 h2)
theorem QR:OpR X (binaryOp .Add) (rI0 fun i j=>.int (i + j)):=RY fun _ _ _ _ _ _ _ q=>add_int q
theorem Yd:OpR X (binaryOp .Sub) (rI0 fun i j=>.int (i - j)):=RY fun _ _ _ _ _ _ _ q=>sub_int q
theorem ZB:OpR X (binaryOp .Mult) (rI CMul fun i j=>.int (i * j)):=opI fun _ _ _ _ _ _ _ hc q=>mul_int q hc.ok
theorem Q1:OpR X (binaryOp .FloorDiv) (rI Ta fun i j=>.int (i / j)):=opI fun i j _ _ _ _ _ hc q=>by
 have h1:(0:Int) < j:=hc.1
 have h2:j < 1073741824:=hc.2
 exact floordiv_int (10:) (by rw [Int.fdiv_eq_ediv_of_nonneg i (10:)];exact q) (.inl (PyProof.noPylong_small (10:)))
theorem QN:OpR X (binaryOp .Mod) (rI (fun _ j=>0 < j) fun i j=>.int (i % j)):=opI fun i j _ _ _ _ _ hc q=>by
 have h1:(0:Int) < j:=hc
 exact mod_int' (10:) (by rw [Int.fmod_eq_emod_of_nonneg i (10:)];exact q)
theorem LW:OpR X (binaryOp .Pow) (rI S3 fun i j=>.int (i ^ j.toNat)):=opI fun _ _ _ _ _ _ _ hc q=>pow_int_small hc.1 hc.2.1 hc.2.2 q
end
def Rp:V→V→Bool
 | .non,.non=>true | .non,.int _=>true | .int _,.non=>true | .non,.bl _=>true | .bl _,.non=>true | .non,.str _=>true | .str _,.non=>true
 | .int _,.int _=>true | .bl _,.bl _=>true | .str _,.str _=>true | .byt _,.byt _=>true
 | .int _,.str _=>true | .str _,.int _=>true | .bl _,.str _=>true | .str _,.bl _=>true
 | _,_=>false
def rEq:R2:=fun x y H Q=>Rp x y=true∧Q (.bl (decide (x=y))) H
def rNe:R2:=fun x y H Q=>Rp x y=true∧Q (.bl (!decide (x=y))) H
theorem Ga {i j:Int}:decide (V.int i=V.int j)=(i == j):=by
 rw [Bool.eq_iff_iff]
 simp
theorem Lf {i j:Bool}:decide (V.bl i=V.bl j)=(i == j):=by
 rw [Bool.eq_iff_iff]
 simp
theorem VQ {i j:Str}:decide (V.str i=V.str j)=(i == j):=by
 rw [Bool.eq_iff_iff]
 simp
theorem V8 {i j:Array UInt8}:decide (V.byt i=V.byt j)=(i.toList == j.toList):=by
 rw [Bool.eq_iff_iff]
 cases i
 cases j
 simp
section
variable {X:Cx} {a b c:Expr} {ta tb tc:TE} {pos:Pos}
theorem QF {pins:List (11:)} {σ:St} {H:Hp} {s:Shared} {Q:VK} {k k':Bool} (I:Inv X pins σ H s) (q:Q (.bl k) H) (e:k=k'):EP X pins σ Q (.bool k') s:=by
 subst e
 exact ⟨.bl k,H,I,rfl,q⟩
theorem Zw:OpR X (compareOp .Eq) rEq:=by
 intro pins s σ H x y v u Q I rx ry h
 obtain ⟨hs,q⟩:=h
 cases x with
 | non =>
  cases rx
  cases y with
  | non=>cases ry;exact PySem.EqNone.eq_none_none (QF I q (by simp))
  | bl j=>cases ry;exact PySem.EqNone.eq_none_bool (QF I q (by simp))
  | int j=>obtain ⟨t',rfl⟩:=ry;exact PySem.EqNone.eq_none_int (QF I q (by simp))
  | str j=>obtain ⟨t',rfl⟩:=ry;exact PySem.EqNone.eq_none_str (QF I q (by simp))
  | _=>exact absurd (show false=true from hs) Bool.false_ne_true
 | bl i =>
  cases rx
  cases y with
  | non=>cases ry;exact PySem.EqNone.eq_bool_none (QF I q (by simp))
  | bl j=>cases ry;exact eq_bool (QF I q Lf)
  | str j=>obtain ⟨t',rfl⟩:=ry;exact PySem.EqMixed.eq_bool_str (QF I q (by simp))
  | _=>exact absurd (show false=true from hs) Bool.false_ne_true
 | int i =>
  obtain ⟨t,rfl⟩:=rx
  cases y with
  | non=>cases ry;exact PySem.EqNone.eq_int_none (QF I q (by simp))
  | int j=>obtain ⟨t',rfl⟩:=ry;exact eq_int (QF I q Ga)
  | str j=>obtain ⟨t',rfl⟩:=ry;exact PySem.EqMixed.eq_int_str (QF I q (by simp))
  | _=>exact absurd (show false=true from hs) Bool.false_ne_true
 | str i =>
  obtain ⟨t,rfl⟩:=rx
  cases y with
  | non=>cases ry;exact PySem.EqNone.eq_str_none (QF I q (by simp))
  | bl j=>cases ry;exact PySem.EqMixed.eq_str_bool (QF I q (by simp))
  | int j=>obtain ⟨t',rfl⟩:=ry;exact PySem.EqMixed.eq_str_int (QF I q (by simp))
  | str j=>obtain ⟨t',rfl⟩:=ry;exact eq_str (QF I q VQ)
  | _=>exact absurd (show false=true from hs) Bool.false_ne_true
 | byt i =>
  obtain ⟨t,rfl⟩:=rx
  cases y with
  | byt j=>obtain ⟨t',rfl⟩:=ry;exact PySem.W.eq_bytes (QF I q V8)
  | _=>exact absurd (show false=true from hs) Bool.false_ne_true
 | _=>cases y <;> exact absurd (show false=true from hs) Bool.false_ne_true
theorem M5:OpR X (compareOp .NotEq) rNe:=by
 intro pins s σ H x y v u Q I rx ry h
 obtain ⟨hs,q⟩:=h
 cases x with
 | non =>
  cases rx
  cases y with
  | non=>cases ry;exact PySem.EqNone.ne_none_none (QF I q (by simp))
  | bl j=>cases ry;exact PySem.EqNone.ne_none_bool (QF I q (by simp))
  | int j=>obtain ⟨t',rfl⟩:=ry;exact PySem.EqNone.ne_none_int (QF I q (by simp))
  | str j=>obtain ⟨t',rfl⟩:=ry;exact PySem.EqNone.ne_none_str (QF I q (by simp))
  | _=>exact absurd (show false=true from hs) Bool.false_ne_true
 | bl i =>
  cases rx
  cases y with
  | non=>cases ry;exact PySem.EqNone.ne_bool_none (QF I q (by simp))
  | bl j=>cases ry;exact ne_bool (QF I q (congrArg not Lf))
  | str j=>obtain ⟨t',rfl⟩:=ry;exact PySem.EqMixed.ne_bool_str (QF I q (by simp))
  | _=>exact absurd (show false=true from hs) Bool.false_ne_true
 | int i =>
  obtain ⟨t,rfl⟩:=rx
  cases y with
  | non=>cases ry;exact PySem.EqNone.ne_int_none (QF I q (by simp))
  | int j=>obtain ⟨t',rfl⟩:=ry;exact ne_int (QF I q (congrArg not Ga))
  | str j=>obtain ⟨t',rfl⟩:=ry;exact PySem.EqMixed.ne_int_str (QF I q (by simp))
  | _=>exact absurd (show false=true from hs) Bool.false_ne_true
 | str i =>
  obtain ⟨t,rfl⟩:=rx
  cases y with
  | non=>cases ry;exact PySem.EqNone.ne_str_none (QF I q (by simp))
  | bl j=>cases ry;exact PySem.EqMixed.ne_str_bool (QF I q (by simp))
  | int j=>obtain ⟨t',rfl⟩:=ry;exact PySem.EqMixed.ne_str_int (QF I q (by simp))
  | str j=>obtain ⟨t',rfl⟩:=ry;exact ne_str (QF I q (congrArg not VQ))
  | _=>exact absurd (show false=true from hs) Bool.false_ne_true
 | byt i =>
  obtain ⟨t,rfl⟩:=rx
  cases y with
  | byt j=>obtain ⟨t',rfl⟩:=ry;exact PySem.W.ne_bytes (QF I q (congrArg not V8))
  | _=>exact absurd (show false=true from hs) Bool.false_ne_true
 | _=>cases y <;> exact absurd (show false=true from hs) Bool.false_ne_true
theorem V6:OpR X (compareOp .Lt) (rI0 fun i j=>.bl (decide (i < j))):=Sm fun _ _ _ _ _ _ _ q=>lt_int q
theorem WY:OpR X (compareOp .Gt) (rI0 fun i j=>.bl (decide (j < i))):=Sm fun _ _ _ _ _ _ _ q=>gt_int q
theorem JN:OpR X (compareOp .Lt) (fun x y H Q=>∃ i j,x=.str i∧y=.str j∧Q (.bl (decide (i.cps.toList < j.cps.toList))) H):=by
 intro pins s σ H x y v u Q I rx ry h
 obtain ⟨i,j,rfl,rfl,q⟩:=h
 obtain ⟨t,rfl⟩:=rx
 obtain ⟨t',rfl⟩:=ry
 exact lt_str (QF I q rfl)
theorem ND:OpR X (compareOp .IsNot) (fun x y H Q=>y=.non∧Q (.bl (!decide (x=.non))) H):=by
 intro pins s σ H x y v u Q I rx ry h
 obtain ⟨rfl,q⟩:=h
 cases ry
 refine isnot_none_gen (QF I q ?_)
 cases x <;> first
  | (cases rx;rfl)
  | (obtain ⟨t,rfl⟩:=rx;rfl)
theorem Qz (b:Expr) {op:CmpOp} (h:op≠.In:=by decide) (h2:op≠.NotIn:=by decide):behindInMarks op b=false:=by
 have e1:(op == CmpOp.In)=false:=by cases op <;> first | rfl | exact absurd rfl h
 have e2:(op == CmpOp.NotIn)=false:=by cases op <;> first | rfl | exact absurd rfl h2
 cases b <;> simp [behindInMarks,e1,e2]
theorem Zr {op:CmpOp} {r:R2} (ho:OpR X (compareOp op) r) (ha:PE X a ta) (hb:PE X b tb) (hm:behindInMarks op b=false):PE X (.Compare a [op] [b] pos) (tOp r ta tb):=by
 intro pins s σ H Q I h
 exact wpAny_Compare1 (O3 ha hb I h fun v u s2 x y H2 I2 rx ry q=>ho pins s2 σ H2 x y v u Q I2 rx ry q) hm
def Sh (t:TE):TT:=fun σ H Q=>t σ H fun x H'=>∃ k,x=.bl k∧Q k H'
theorem QA {op:CmpOp} {r:R2} (ho:OpR X (compareOp op) r) (ha:PE X a ta) (hb:PE X b tb) (hm:behindInMarks op b=false):PT X (.Compare a [op] [b] pos) (Sh (tOp r ta tb)):=by
 intro pins s σ H Q I h
 refine wpAny_isTrue_Compare1 (thn (ha pins s σ H _ I h) fun v s1 ⟨x,H1,I1,r1,q1⟩=>thn (hb pins s1 σ H1 _ I1 q1) fun u s2 ⟨y,H2,I2,r2,q2⟩ =>
  thn (ho pins s2 σ H2 x y v u _ I2 r1 r2 q2) fun c s3 ⟨z,H3,I3,r3,k,e,q3⟩=>?_) hm
 subst e
 cases r3
 exact wpAny_truthy_bool ⟨H3,I3,q3⟩
theorem Ut:(sizeLine:Nat) < 2 ^ 63:=by rw [sizeLine_eq];decide
theorem Xj {x:V} {us:List Value} (r:Vals [x] us):∃ u,us=[u]∧RelV x u:=by
 cases r with
 | cons r1 r2=>cases r2;exact ⟨_,rfl,r1⟩
theorem Wy {x y:V} {us:List Value} (r:Vals [x,y] us):∃ u w',us=[u,w']∧RelV x u∧RelV y w':=by
 cases r with
 | cons r1 r2 =>
  cases r2 with
  | cons r3 r4=>cases r4;exact ⟨_,_,rfl,r1,r3⟩
theorem G3 (hc:X.calm=true):Zv X (.builtin "max") (fun xs H Q=>∃ i j,xs=[.int i,.int j]∧Q (.int (if j > i then j else i)) H):=by
 intro pins s σ H xs us Q I r h
 obtain ⟨i,j,rfl,q⟩:=h
 obtain ⟨u,w',rfl,⟨t,rfl⟩,⟨t',rfl⟩⟩:=Wy r
 refine max_two_ints (I.ok.hd hc) fun h' tk k=>⟨_,H,I.kept k,?_,q⟩
 by_cases hj:j > i
 ·rw [if_pos hj,if_pos hj];exact ⟨_,rfl⟩
 ·rw [if_neg hj,if_neg hj];exact ⟨_,rfl⟩
theorem GW:Zv X (.type "int") (fun xs H Q=>(∃ i,xs=[.int i]∧Q (.int i) H)∨∃ k,xs=[.bl k]∧Q (.int (if k then 1 else 0)) H):=by
 intro pins s σ H xs us Q I r h
 rcases h with ⟨i,rfl,q⟩ | ⟨k,rfl,q⟩
 ·obtain ⟨u,rfl,t,rfl⟩:=Xj r
  exact call_int_int ⟨.int i,H,I,⟨_,rfl⟩,q⟩
 ·obtain ⟨u,rfl,r1⟩:=Xj r
  cases r1
  exact call_int_bool ⟨.int (if k then 1 else 0),H,I.tok _,⟨_,rfl⟩,q⟩
end
end L2
namespace L2
open PySem PySem.Spec PyProof.Rows
structure ObjM (h:Heap) (x dx C:Addr) (mA:Str→Option Value):Prop where
 obj:h.get? x=some (PySem.W.instObj C dx)
 ns:h.Ns1 dx mA
 ne:dx≠x
theorem G9 {h:Heap} {dx:Addr} {mA:Str→Option Value} (n:h.Ns1 dx mA):∃ od,h.get? dx=some od∧∀ name,PySem.W.lookIn name od=some (mA name):=by
 obtain ⟨o,es,ep,ho,hd,hk,_,hm⟩:=n
 refine ⟨o,ho,fun name=>?_⟩
 have e:=hm name
 unfold nsFind findBy at e
 rw [← Array.find?_toList] at e
 unfold PySem.W.lookIn
 rw [hd]
 dsimp only
 split
 ·rename_i y q
  rw [q] at e
  exact congrArg some e
 ·rename_i q
  rw [q] at e
  have a:es.toList.any (·.refKey)=false:=by
   rw [List.any_eq_false]
   intro y hy
   obtain ⟨z,t,hkey⟩:=hk y (Array.mem_toList_iff.mp hy)
   simp [DictEntry.refKey,hkey]
  have a':¬ es.toList.any (·.refKey)=true:=by rw [a];exact Bool.false_ne_true
  rw [if_neg a']
  exact congrArg some e
theorem ObjM.look {h:Heap} {x dx C:Addr} {mA:Str→Option Value} (I:ObjM h x dx C mA):∃ od,PySem.W.InstAt h x (PySem.W.instObj C dx) C (some od)∧∀ name,PySem.W.lookIn name od=some (mA name) :=
 let ⟨od,ho,hl⟩:=G9 I.ns
 ⟨od,⟨I.obj,rfl,rfl,ho⟩,hl⟩
section
variable {prog:Program} {w:World} {A:Around} {E:Value→Shared→Prop} {s:Shared} {K:Fg} {x dx C f:Addr} {mA:Str→Option Value} {name:Str} {v:Value}
theorem Od {expr:Bool} {Q:Value→Shared→Prop} (X:K.In s.heap) (I:ObjM s.heap x dx C mA) (hg:PySem.W.plainGet K C name=true) (hh:PySem.W.hasDictIn K C=true)
 (ha:PySem.W.findIn K (.ref C) name=some none) (hv:mA name=some v) (hv':PySem.W.handedIn v=true) (h:Q v { s with toks:=s.toks + 1 }) :
 wpAny (model prog w) A (getAttr (.ref x) name expr) Q E s:=by
 obtain ⟨od,J,hl⟩:=I.look
 exact PySem.W.get_value X J (PySem.W.plainGet_of hg).1 (PySem.W.findObj_own hh ha rfl (by rw [hl,hv])) hv' h
theorem LV {pl:Sem Bool} {Q:Value × List Value→Shared→Prop} (X:K.In s.heap) (I:ObjM s.heap x dx C mA) (hg:PySem.W.plainGet K C name=true)
 (hf:PySem.W.findIn K (.ref C) name=some (some (.ref f))) (ht:PySem.W.isFn K (.ref f)=true) (hv:mA name=none) (h:Q (.ref f,[.ref x]) s) :
 wpAny (model prog w) A (getMethod (.ref x) name pl) Q E s:=by
 obtain ⟨od,J,hl⟩:=I.look
 exact PySem.W.method_fn X J (PySem.W.plainGet_of hg).1 (PySem.W.plainGet_of hg).2 hf (beq_iff_eq.mp ht) (by show (PySem.W.lookIn name od).map (·.isSome)=some false;rw [hl,hv];rfl) h
theorem NF {ns:List Str} {Q:Unit→Shared→Prop} (X:K.In s.heap) (I:ObjM s.heap x dx C mA)
 (hs:PySem.W.findIn K (.ref C) "__setattr__" = some (some (.builtin "object.__setattr__"))) (hp:PySem.W.plainOver K C=true) (ht:PySem.W.takerIn K C name=some none) (hh:PySem.W.hasDictIn K C=true)
 (hw:PySem.Within mA ns) (hsz:ns.length≤sizeLine)
 (h:∀ h',ObjM h' x dx C (fun y=>if y=name then some v else mA y)→Heap.SameBut dx s.heap h'→Q () { s with heap:=h',toks:=s.toks + 2 }) :
 wpAny (model prog w) A (setAttr (.ref x) name v) Q E s:=by
 obtain ⟨od,J,hl⟩:=I.look
 refine PySem.W.set_plain X J hs (PySem.W.osa_open (s:={ s with toks:=s.toks + 1 }) (r:=none) X J hp ht fun b=>?_)
 obtain ⟨cd,hc,hd'⟩:=PySem.W.any_some hh
 have hx:s.heap.get? x=some ⟨.ref C,some dx,.plain,#[]⟩:=I.obj
 refine wpAny_bind (wpAny_pure (wpAny_bind (wpAny_bind (wpAny_loadPart hx (wpAny_bind (PySem.W.Looks.here (s:={ s with toks:=s.toks + 1 }) (PySem.W.looks_clsIn X hc) ?_))))))
 rw [hd']
 refine wpAny_pure (a:=some dx) (wpAny_bind (wpAny_pure (wpAny_bind ?_)))
 refine wpAny_nsSet1 (s:={ s with toks:=s.toks + 1 }) I.ns fun h' hn2 hs2=>?_
 obtain ⟨oD,esD,epD,hoD,hdD,hcD⟩:=hn2.count (PySem.Within.cons name v hw)
 refine wpAny_bind (wpAny_lookBehind hoD (by rw [hdD];exact pastItsLine_dict (Nat.le_trans hcD (by rw [List.length_cons];lia))) ?_)
 exact wpAny_pure (h _ ⟨(hs2.2 _ (Ne.symm I.ne)).trans I.obj,hn2,I.ne⟩ hs2)
theorem Lu {R:Result→Shared→Prop} {vs:List Value} {kw:List (Str × Value)} (X:K.In s.heap) (hm:PySem.W.makesIn K C=true)
 (hi:PySem.W.findIn K (.ref C) "__init__" = some (some (.ref f))) (hf:PySem.W.typeIn K (.ref f)=some (.type "function"))
 (h:codeAny (model prog w) (A.under (.builtin "type.__call__" ⟨.ref C :: vs,kw⟩)) (.call (.ref f) ⟨.ref (s.heap.objs.size + 1) :: vs,kw⟩) (PySem.W.InitBack (s.heap.objs.size + 1) R)
  { s with heap:=(s.heap.push PySem.W.emptyDict).push (PySem.W.instObj C s.heap.objs.size) }) :
 codeAny (model prog w) A (.call (.ref C) ⟨vs,kw⟩) R s:=by
 obtain ⟨hh,g,d,t,os⟩:=s
 exact PySem.W.make_core (PySem.W.makes_of X hm) (PySem.W.looks_findIn X hi) (fun self=>PySem.W.bind_fn X self hf) (.inl rfl) h
end
def Zg (f:Str) (v:V):List (Str × V)→List (Str × V)
 | []=>[(f,v)]
 | (g,x) :: r=>if g=f then (g,v) :: r else (g,x) :: Zg f v r
theorem UE (f g:Str) (v:V):∀ fs:List (Str × V),(Zg f v fs).lookup g=if g=f then some v else fs.lookup g
 | []=>by
  show List.lookup g [(f,v)]=_
  by_cases h:g=f
  ·have hb:(g == f)=true:=beq_iff_eq.mpr h
   simp only [List.lookup,hb,if_pos h]
  ·have hb:(g == f)=false:=beq_eq_false_iff_ne.mpr h
   simp only [List.lookup,hb,if_neg h]
 | (k,x) :: r=>by
  have ih:=UE f g v r
  rw [show Zg f v ((k,x) :: r)=(if k=f then (k,v) :: r else (k,x) :: Zg f v r) from rfl]
  by_cases hk:k=f
  ·rw [if_pos hk]
   by_cases h:g=k
   ·have hb:(g == k)=true:=beq_iff_eq.mpr h
    simp only [List.lookup,hb,if_pos (h.trans hk)]
   ·have hb:(g == k)=false:=beq_eq_false_iff_ne.mpr h
    simp only [List.lookup,hb,if_neg (fun e:g=f=>h (e.trans hk.symm))]
  ·rw [if_neg hk]
   by_cases h:g=k
   ·have hb:(g == k)=true:=beq_iff_eq.mpr h
    simp only [List.lookup,hb,if_neg (fun e:g=f=>hk (h.symm.trans e))]
   ·have hb:(g == k)=false:=beq_eq_false_iff_ne.mpr h
    simp only [List.lookup,hb]
    exact ih
theorem Ul (f:Str) (v:V):∀ fs:List (Str × V),f ∈ (Zg f v fs).map (·.1)∧∀ g,g ∈ fs.map (·.1)→g ∈ (Zg f v fs).map (·.1)
 | []=>⟨by simp [Zg],fun g h=>by simp at h⟩
 | (k,x) :: r=>by
  obtain ⟨i1,i2⟩:=Ul f v r
  rw [show Zg f v ((k,x) :: r)=(if k=f then (k,v) :: r else (k,x) :: Zg f v r) from rfl]
  by_cases hk:k=f
  ·rw [if_pos hk]
   subst hk
   exact ⟨by simp,fun g h=>by simpa using h⟩
  ·rw [if_neg hk]
   refine ⟨?_,fun g h=>?_⟩
   ·rw [List.map_cons]
    exact List.mem_cons_of_mem _ i1
   ·rw [List.map_cons] at h ⊢
    rcases List.mem_cons.mp h with e | e
    ·exact List.mem_cons.mpr (.inl e)
    ·exact List.mem_cons_of_mem _ (i2 g e)
theorem UK (f:Str) (v:V):∀ fs:List (Str × V),(Zg f v fs).length≤fs.length + 1
 | []=>by simp [Zg]
 | (k,x) :: r=>by
  have ih:=UK f v r
  rw [show Zg f v ((k,x) :: r)=(if k=f then (k,v) :: r else (k,x) :: Zg f v r) from rfl]
  by_cases hk:k=f
  ·rw [if_pos hk,List.length_cons,List.length_cons];lia
  ·rw [if_neg hk,List.length_cons,List.length_cons];lia
theorem RelO.some_of {v:V} {o:Option Value} (r:RelO (some v) o):∃ u,o=some u∧RelV v u:=by
 cases o with
 | none=>exact (show False from r).elim
 | some u=>exact ⟨u,rfl,r⟩
theorem RelO.none_of {o:Option Value} (r:RelO none o):o=none:=by
 cases o with
 | none=>rfl
 | some u=>exact (show False from r).elim
theorem GG {v:V} {u:Value} (r:RelV v u):PySem.W.handedIn u=true:=by
 cases v with
 | non=>cases (show u=Value.none from r);rfl
 | bl b=>cases (show u=Value.bool b from r);rfl
 | int i=>obtain ⟨t,e⟩:=(show ∃ t,u=Value.int i t from r);cases e;rfl
 | str x=>obtain ⟨t,e⟩:=(show ∃ t,u=Value.str x t from r);cases e;rfl
 | byt b=>obtain ⟨t,e⟩:=(show ∃ t,u=Value.bytes b t from r);cases e;rfl
 | flt b=>obtain ⟨t,e⟩:=(show ∃ t,u=Value.float b t from r);cases e;rfl
 | ref a=>cases (show u=Value.ref a from r);rfl
 | ty n=>cases (show u=Value.type n from r);rfl
section
variable {P:Program} {w:World} {H H':Hp} {h h':Heap} {a C dx:Addr} {fs fs':List (Str × V)}
theorem UY (hok:HOk P w H h) (e:H a=some (.ins C dx fs)):∃ mA,ObjM h a dx C mA∧(∀ f,RelO (fs.lookup f) (mA f))∧PySem.Within mA (fs.map (·.1))∧fs.length≤1000∧H dx=some (.own a):=by
 obtain ⟨d,z,ne,ob,mA,n,r,q⟩:=(show ObjOk P w H h a (.ins C dx fs) from hok a _ e)
 exact ⟨mA,⟨ob,n,ne⟩,r,q,z,d⟩
end
structure Cls (K:Fg) (C:Addr):Prop where
 pg:PySem.W.plainGet K C Str.empty=true
 hd:PySem.W.hasDictIn K C=true
 po:PySem.W.plainOver K C=true
 sa:PySem.W.findIn K (.ref C) "__setattr__" = some (some (.builtin "object.__setattr__"))
theorem Cls.get {K:Fg} {C:Addr} (c:Cls K C) (f:Str):PySem.W.plainGet K C f=true:=c.pg
def NoAttr (K:Fg) (C:Addr) (f:Str):Prop:=PySem.W.findIn K (.ref C) f=some none
theorem NoAttr.taker {K:Fg} {C:Addr} {f:Str} (n:NoAttr K C f):PySem.W.takerIn K C f=some none:=by
 unfold PySem.W.takerIn
 rw [show PySem.W.findIn K (.ref C) f=some none from n]
 rfl
structure Meth (K:Fg) (C:Addr) (m:Str) (f:Addr):Prop where
 at_:PySem.W.findIn K (.ref C) m=some (some (.ref f))
 fn:PySem.W.isFn K (.ref f)=true
 kp:PySem.W.keepIn K (.ref f)=true
section
variable {X:Cx} {pins:List (11:)} {σ:St} {H:Hp} {s:Shared} {a C dx:Addr} {fs:List (Str × V)} {f:Str} {v:V} {A:Around} {E:Value→Shared→Prop}
theorem Ja {b:Bool} {Q:Value→Shared→Prop} (I:Inv X pins σ H s) (e:H a=some (.ins C dx fs)) (c:Cls X.K C) (n:NoAttr X.K C f) (l:fs.lookup f=some v)
 (h:∀ u s',Inv X pins σ H s'→RelV v u→Q u s'):wpAny (5:) A (getAttr (.ref a) f b) Q E s:=by
 obtain ⟨mA,O,r,_,_,_⟩:=UY I.hok e
 obtain ⟨u,hu,ru⟩:=RelO.some_of (v:=v) (o:=mA f) (by rw [← l];exact r f)
 exact Od I.kIn O (c.get f) c.hd n hu (GG ru) (h u _ (I.tok _) ru)
theorem Jc {m:Str} {g:Addr} {pl:Sem Bool} {Q:Value × List Value→Shared→Prop} (I:Inv X pins σ H s) (e:H a=some (.ins C dx fs)) (c:Cls X.K C) (k:Meth X.K C m g) (l:fs.lookup m=none)
 (h:Q (.ref g,[.ref a]) s):wpAny (5:) A (getMethod (.ref a) m pl) Q E s:=by
 obtain ⟨mA,O,r,_,_,_⟩:=UY I.hok e
 have hn:mA m=none:=RelO.none_of (by rw [← l];exact r m)
 exact LV I.kIn O (c.get m) k.at_ k.fn hn h
theorem Jp {y:V} {u:Value} {Q:Unit→Shared→Prop} (I:Inv X pins σ H s) (e:H a=some (.ins C dx fs)) (c:Cls X.K C) (n:NoAttr X.K C f) (hl:fs.length < 1000) (ry:RelV y u)
 (h:∀ s',Inv X pins σ (upd H a (.ins C dx (Zg f y fs))) s'→Q () s'):wpAny (5:) A (setAttr (.ref a) f u) Q E s:=by
 obtain ⟨mA,O,r,wi,_,ho⟩:=UY I.hok e
 have hz:(fs.map (·.1)).length≤sizeLine:=by rw [List.length_map,sizeLine_eq];lia
 refine NF I.kIn O c.sa c.po n.taker c.hd wi hz fun h' O' sb=>h _ ?_
 have hd:∃ o,h'.get? dx=some o:=let ⟨o,_,_,e',_⟩:=O'.ns;⟨o,e'⟩
 refine I.write (x:=a) (e:=dx) (by rw [e];exact True.intro) (.inr ho) (fun b q hb z=>(sb.2 b hb).trans z) hd ?_
 refine ⟨by rw [Ql O.ne];exact ho,?_,O.ne,O'.obj,_,O'.ns,fun g=>?_,fun g hg=>?_⟩
 ·have:=UK f y fs;lia
 ·show RelO ((Zg f y fs).lookup g) (if g=f then some u else mA g)
  rw [UE]
  by_cases q:g=f
  ·rw [if_pos q,if_pos q];exact ry
  ·rw [if_neg q,if_neg q];exact r g
 ·by_cases q:g=f
  ·rw [q];exact (Ul f y fs).1
  ·refine (Ul f y fs).2 g (wi g fun z=>hg ?_)
   show (if g=f then some u else mA g)=none
   rw [if_neg q];exact z
theorem Inv.made (I:Inv X pins σ H s):Inv X pins σ (upd (upd H s.heap.objs.size (.own (s.heap.objs.size + 1))) (s.heap.objs.size + 1) (.ins C s.heap.objs.size []))
 { s with heap:=(s.heap.push PySem.W.emptyDict).push (PySem.W.instObj C s.heap.objs.size) }:=by
 have e1:(s.heap.push PySem.W.emptyDict).get? s.heap.objs.size=some PySem.W.emptyDict:=Heap.get?_push_size s.heap rfl
 have e2:((s.heap.push PySem.W.emptyDict).push (PySem.W.instObj C s.heap.objs.size)).get? (s.heap.objs.size + 1)=some (PySem.W.instObj C s.heap.objs.size):=by
  have:=Heap.get?_push_size (s.heap.push PySem.W.emptyDict) (o:=PySem.W.instObj C s.heap.objs.size) rfl
  rwa [Heap.size_push] at this
 have e3:(s.heap.push PySem.W.emptyDict).Ns s.heap.objs.size (fun _=>none):=⟨PySem.W.emptyDict,#[],_,e1,rfl,(fun e he=>absurd he (by simp)),fun _=>rfl⟩
 have I1:=I.laid (a:=s.heap.objs.size) (o:=.own (s.heap.objs.size + 1)) (h':=s.heap.push PySem.W.emptyDict) (t':=s.toks) (fun b u q=>Heap.get?_push_of_some _ q) (8:) ⟨_,e1⟩
 refine I1.laid (a:=s.heap.objs.size + 1) (o:=.ins C s.heap.objs.size []) (t':=s.toks) (fun b u q=>Heap.get?_push_of_some _ q) (Nat.le_of_eq (Heap.size_push _ _)) ?_
 have ne:s.heap.objs.size≠s.heap.objs.size + 1:=Nat.ne_of_lt (Nat.lt_succ_self _)
 refine ⟨by rw [Ql ne,Qd],Nat.zero_le _,ne,e2,fun _=>none,(Heap.Ns1.of_empty e3).at fun o q=>Heap.get?_push_of_some _ q,fun _=>True.intro,fun y hy=>absurd rfl hy⟩
theorem Oz {prog:Program} {w:World} {env:Env} {e:Expr} {f:Str} {pos:Pos} {s:Shared} {Q:Value→Shared→Prop} (hb:attributeBase e f env (eval e env)=eval e env)
 (h:wpAny (model prog w) A (eval e env) (fun o s₁=>wpAny (model prog w) A (getAttr o f true) Q E s₁) E s):wpAny (model prog w) A (eval (.Attribute e f pos) env) Q E s :=
 Attribute_any_ h (by rw [arm_eval_Attribute,hb])
end
def SH (K:Fg) (ta:TE) (f:Str):TE:=fun σ H Q=>ta σ H fun x H1=>∃ a C dx fs v,x=.ref a∧H1 a=some (.ins C dx fs)∧Cls K C∧NoAttr K C f∧fs.lookup f=some v∧Q v H1
def SR (K:Fg) (ta tv:TE) (f:Str):TS:=fun D σ H=>tv σ H fun y H1=>ta σ H1 fun x H2=>∃ a C dx fs,x=.ref a∧H2 a=some (.ins C dx fs)∧Cls K C∧NoAttr K C f∧fs.length < 1000 ∧
 D.nx σ (upd H2 a (.ins C dx (Zg f y fs)))
def Ra (X:Cx) (op:Operator) (rd:V→V→Hp→VK→Prop):Prop :=
 ∀ (pins:List (11:)) (s:Shared) (σ:St) (H:Hp) (x y:V) (u v:Value) (Q:VK),Inv X pins σ H s→RelV x u→RelV y v→rd x y H Q→wpAny (5:) X.A (inplaceOp op u v) (EP X pins σ Q) X.xe s
def Oa (K:Fg) (ta tv:TE) (rd:V→V→Hp→VK→Prop) (f:Str):TS:=fun D σ H=>ta σ H fun x H1=>∃ a C dx fs v,x=.ref a∧H1 a=some (.ins C dx fs)∧Cls K C∧NoAttr K C f∧fs.lookup f=some v ∧
 tv σ H1 fun y H2=>rd v y H2 fun z H3=>∃ dx' fs',H3 a=some (.ins C dx' fs')∧fs'.length < 1000∧D.nx σ (upd H3 a (.ins C dx' (Zg f z fs')))
section
variable {X:Cx} {o e value:Expr} {f:Str} {pos pos' tpos:Pos} {ta tv:TE}
theorem Zj (he:PE X e ta) (hb:attributeBase e f X.env (eval e X.env)=eval e X.env):PE X (.Attribute e f pos) (SH X.K ta f):=by
 intro pins s σ H Q I h
 refine Oz hb (thn (he pins s σ H _ I h) fun u s1 ⟨x,H1,I1,rx,a,C,dx,fs,v,ex,ea,c,n,l,q⟩=>?_)
 subst ex
 obtain rfl:u=Value.ref a:=rx
 exact Ja I1 ea c n l fun u' s2 I2 ru=>⟨v,H1,I2,ru,q⟩
theorem Yh (ha:PE X o ta) (hv:PE X value tv) (hs:swapsWith value (some (.Attribute o f pos')) pos.line X.env=pure false):PS X (.Assign [.Attribute o f pos'] value pos) (SR X.K ta tv f):=by
 intro pins s σ H D I h
 refine plainObj_wpAny_Assign_Attribute (thn (hv pins s σ H _ I h) fun u s1 ⟨y,H1,I1,ry,q⟩=>thn (ha pins s1 σ H1 _ I1 q) fun ov s2 ⟨x,H2,I2,rx,a,C,dx,fs,ex,ea,c,n,l,q2⟩=>?_) hs
 subst ex
 obtain rfl:ov=Value.ref a:=rx
 exact Jp I2 ea c n l ry fun s3 I3=>⟨σ,_,I3,q2⟩
theorem G8 {op:Operator} {rd:V→V→Hp→VK→Prop} (ha:PE X o ta) (hv:PE X value tv) (hop:Ra X op rd):PS X (.AugAssign (.Attribute o f tpos) op value pos) (Oa X.K ta tv rd f):=by
 intro pins s σ H D I h
 refine wpAny_AugAssign_AttributeAny (thn (ha pins s σ H _ I h) fun ov s1 ⟨x,H1,I1,rx,a,C,dx,fs,v,ex,ea,c,n,l,q⟩=>?_)
 subst ex
 obtain rfl:ov=Value.ref a:=rx
 refine Ja I1 ea c n l fun u s2 I2 ru=>thn (hv pins s2 σ H1 _ I2 q) fun w3 s3 ⟨y,H2,I3,ry,q3⟩=>thn (hop pins s3 σ H2 v y u w3 _ I3 ru ry q3) fun w4 s4 ⟨z,H3,I4,rz,dx',fs',ea',l',q4⟩=>?_
 exact Jp I4 ea' c n l' rz fun s5 I5=>⟨σ,_,I5,q4⟩
def SN:V→V→Hp→VK→Prop:=fun x y H Q=>∃ i j,x=.int i∧y=.int j∧Q (.int (i - j)) H
theorem Pp:Ra X .Sub SN:=by
 rintro pins s σ H x y u v Q I rx ry ⟨i,j,rfl,rfl,q⟩
 obtain ⟨t,rfl⟩:=(show ∃ t,u=Value.int i t from rx)
 obtain ⟨t',rfl⟩:=(show ∃ t',v=Value.int j t' from ry)
 exact PyProof.Rows.isub_int ⟨.int (i - j),H,I.tok _,⟨_,rfl⟩,q⟩
end
section
variable {X:Cx} {pins:List (11:)} {σ:St} {H:Hp} {s:Shared} {A:Around} {E:Value→Shared→Prop} {Q:Value→Shared→Prop} {c:Value} {b:Bool}
inductive TyOf (K:Fg) (H:Hp):V→Value→Prop where
 | non:TyOf K H .non (.type "NoneType")
 | bl (x:Bool):TyOf K H (.bl x) (.type "bool")
 | int (i:Int):TyOf K H (.int i) (.type "int")
 | str (x:Str):TyOf K H (.str x) (.type "str")
 | flt (x:UInt64):TyOf K H (.flt x) (.type "float")
 | lst {a:Addr} {xs:List V} (e:H a=some (.lst xs)):TyOf K H (.ref a) (.type "list")
 | frz {a:Addr} {o:Obj} {xs:List V} (e:H a=some (.frz o (.lst xs))):TyOf K H (.ref a) (.type "list")
 | tup {a:Addr} {xs:List V} (e:H a=some (.tup xs)):TyOf K H (.ref a) (.type "tuple")
 | dK {a:Addr} {kvs:List (Key × V)} (e:H a=some (.dK kvs)):TyOf K H (.ref a) (.type "dict")
 | dT {a:Addr} {kvs:List (List Key × V)} (e:H a=some (.dT kvs)):TyOf K H (.ref a) (.type "dict")
 | ins {a C dx:Addr} {fs:List (Str × V)} (e:H a=some (.ins C dx fs)) (cl:Cls K C) (ha:PySem.W.findIn K (.ref C) "__class__" = some (some (.builtin "object.__class__")))
  (hn:PySem.W.specialIn K (.builtin "object.__class__") "__get__" = some (some (.builtin "getset_descriptor.__get__"))) (htk:PySem.W.takesIn K (.builtin "object.__class__")=some true)
  (hm:PySem.W.mroIn K C (.type "object")=some true):TyOf K H (.ref a) (.ref C)
theorem Lb {x:V} {u t:Value} (I:Inv X pins σ H s) (rx:RelV x u) (ty:TyOf X.K H x t) (e:PySem.W.kitOne X.K t c=some b) (h:∀ tk,Q (.bool b) { s with toks:=tk }) :
 wpAny (5:) A (call (.builtin "isinstance") [u,c]) Q E s:=by
 cases ty with
 | non=>cases (show u=Value.none from rx);exact PySem.W.kia_one PySem.W.kitx_none I.kIn True.intro e (fun z=>nomatch z) h
 | bl y=>cases (show u=Value.bool y from rx);exact PySem.W.kia_one PySem.W.kitx_bool I.kIn True.intro e (fun z=>nomatch z) h
 | int i=>obtain ⟨t,q⟩:=(show ∃ t,u=Value.int i t from rx);cases q;exact PySem.W.kia_one PySem.W.kitx_int I.kIn True.intro e (fun z=>nomatch z) h
 | str y=>obtain ⟨t,q⟩:=(show ∃ t,u=Value.str y t from rx);cases q;exact PySem.W.kia_one PySem.W.kitx_str I.kIn True.intro e (fun z=>nomatch z) h
 | flt y=>obtain ⟨t,q⟩:=(show ∃ t,u=Value.float y t from rx);cases q;exact PySem.W.kia_one PySem.W.kitx_float I.kIn True.intro e (fun z=>nomatch z) h
 | @lst a xs ea =>
  cases (show u=Value.ref a from rx)
  obtain ⟨_,_,n,_,h1⟩:=(show ObjOk X.prog X.w H s.heap a (.lst xs) from I.hok a _ ea)
  exact PySem.W.kia_one PySem.W.kitx_list I.kIn ⟨_,h1,rfl⟩ e (fun z=>nomatch z) h
 | @frz a ob xs ea =>
  cases (show u=Value.ref a from rx)
  obtain ⟨_,_,_,n,_,h1⟩:=(show ObjOk X.prog X.w H s.heap a (.frz ob (.lst xs)) from I.hok a _ ea)
  exact PySem.W.kia_one PySem.W.kitx_list I.kIn ⟨_,h1,rfl⟩ e (fun z=>nomatch z) h
 | @tup a xs ea =>
  cases (show u=Value.ref a from rx)
  obtain ⟨_,_,_,p⟩:=(show ObjOk X.prog X.w H s.heap a (.tup xs) from I.hok a _ ea)
  obtain ⟨o,h1,h2,_⟩:=p
  exact PySem.W.kia_one PySem.W.kitx_tuple I.kIn ⟨o,h1,h2⟩ e (fun z=>nomatch z) h
 | @dK a kvs ea =>
  cases (show u=Value.ref a from rx)
  obtain ⟨_,_,vs,_,p⟩:=(show ObjOk X.prog X.w H s.heap a (.dK kvs) from I.hok a _ ea)
  obtain ⟨o,es,ep,h1,h2,_⟩:=p
  exact PySem.W.kia_one PySem.W.kitx_dict I.kIn ⟨o,h1,h2.1⟩ e (fun z=>nomatch z) h
 | @dT a kvs ea =>
  cases (show u=Value.ref a from rx)
  obtain ⟨_,_,xs,_,o,es,ep,h1,h2,_⟩:=(show ObjOk X.prog X.w H s.heap a (.dT kvs) from I.hok a _ ea)
  exact PySem.W.kia_one PySem.W.kitx_dict I.kIn ⟨o,h1,h2.1⟩ e (fun z=>nomatch z) h
 | @ins a C dx fs ea cl ha hn htk hm =>
  cases (show u=Value.ref a from rx)
  obtain ⟨mA,O,_⟩:=UY I.hok ea
  obtain ⟨od,J,_⟩:=O.look
  exact PySem.W.kia_one (PySem.W.kitx_own (cl.get _) cl.hd ha hn htk hm) I.kIn J e (fun z=>nomatch z) h
end
end L2
namespace L2
open PySem PySem.Spec PyProof.Rows
structure Room (k:Nat) (A:Around):Prop where
 hd:A.handled=none
 dp:A.depth + 3 * k + 5 < recursionLimit
 un:A.units + 16 * k + 200 < cLine
theorem Room.mono {j k:Nat} {A:Around} (r:Room k A) (h:j≤k):Room j A:=⟨r.hd,by have:=r.dp;lia,by have:=r.un;lia⟩
theorem Room.deeper {k:Nat} {A:Around} (r:Room (k + 1) A) (env:Env):Room k (A.deeper env) :=
 ⟨r.hd,by have:=r.dp;show A.depth + 1 + 3 * k + 5 < _;lia,by have:=r.un;show A.units + 3 + 16 * k + 200 < _;lia⟩
theorem VH {A:Around} {C:Addr} {us:List Value} {kw:List (Str × Value)}:(A.under (.builtin "type.__call__" ⟨.ref C :: us,kw⟩)).depth=A.depth + 1:=by
 first | rfl | simp [Around.under,Code.weight,Code.isCreation,Code.isGuard,Code.isCaller,Code.frames,Code.isFrame,guardIds]
theorem Vl {A:Around} {C:Addr} {us:List Value} {kw:List (Str × Value)}:(A.under (.builtin "type.__call__" ⟨.ref C :: us,kw⟩)).units=A.units + 1:=by
 first | rfl | simp [Around.under,Code.cUnits,Code.frames,Code.isFrame]
theorem Room.make {k:Nat} {A:Around} (r:Room (k + 1) A) (C:Addr) (us:List Value) (kw:List (Str × Value)):Room k (A.under (.builtin "type.__call__" ⟨.ref C :: us,kw⟩)) :=
 ⟨r.hd,by have:=r.dp;rw [VH];lia,by have:=r.un;rw [Vl];lia⟩
theorem Room.depth {k:Nat} {A:Around} (r:Room k A):A.depth < recursionLimit:=by have:=r.dp;lia
theorem Room.units {k:Nat} {A:Around} (r:Room k A):A.units + 64 < cLine:=by have:=r.un;lia
def Wl:TA:=fun _ H Q=>Q [] H
def Yj (ta:TE) (tr:TA):TA:=fun σ H Q=>ta σ H fun x H1=>tr σ H1 fun xs H2=>Q (x :: xs) H2
section
variable {X:Cx} {e:Expr} {es:List Expr} {te:TE} {t:TA} {pos:Pos}
theorem Qe:PA X [] Wl:=fun _ _ _ _ H Q I h=>Calls.spliced_nil ⟨[],H,I,.nil,h⟩
theorem Qa (ha:PE X e te) (hr:PA X es t) (hs:starEach (e :: es) X.env=(false,eval e X.env) :: starEach es X.env:=by rfl):PA X (e :: es) (Yj te t):=by
 intro pos pins s σ H Q I h
 rw [hs]
 show wpAny _ _ (spliced ((false,eval e X.env) :: backTo pos (starEach es X.env))) _ _ s
 refine Calls.spliced_cons (thn (ha pins s σ H _ I h) fun u s1 ⟨x,H1,I1,r1,q1⟩=>?_)
 exact thn (hr pos pins s1 σ H1 _ I1 q1) fun us s2 ⟨xs,H2,I2,r2,q2⟩=>⟨x :: xs,H2,I2,.cons r1 r2,q2⟩
def O5 (t:TA):TE:=fun σ H Q=>t σ H fun xs H1=>xs.length≤sizeLine∧∀ p,H1 p=none→Q (.ref p) (upd H1 p (.tup xs))
def Rb (t:TA):TE:=fun σ H Q=>t σ H fun xs H1=>xs.length≤sizeLine∧∀ p,H1 p=none→Q (.ref p) (upd H1 p (.lst xs))
theorem QC {x1} (h:PA X es t):PE X (.Tuple es x1 pos) (O5 t):=by
 intro pins s σ H Q I hq
 refine wpAny_Tuple_spliced (thn (h pos pins s σ H _ I hq) fun us s1 ⟨xs,H1,I1,r,z,q⟩=>⟨by rw [← r.length];exact z,?_⟩)
 have hf:H1 s1.heap.objs.size=none:=I1.hok.fresh (8:)
 refine ⟨.ref s1.heap.objs.size,upd H1 s1.heap.objs.size (.tup xs),I1.laid (t':=s1.toks) (fun b u e=>Heap.get?_push_of_some _ e) (8:) ?_,rfl,q _ hf⟩
 exact ⟨z,us,r,⟨_,Heap.get?_push_size _ rfl,rfl,_,rfl⟩⟩
theorem QZ (h:PA X es t):PE X (.List es pos) (Rb t):=by
 intro pins s σ H Q I hq
 refine wpAny_List_spliced (thn (h pos pins s σ H _ I hq) fun us s1 ⟨xs,H1,I1,r,z,q⟩=>⟨by rw [← r.length];exact z,?_⟩)
 have hf:H1 s1.heap.objs.size=none:=I1.hok.fresh (8:)
 refine ⟨.ref s1.heap.objs.size,upd H1 s1.heap.objs.size (.lst xs),I1.laid (t':=s1.toks) (fun b u e=>Heap.get?_push_of_some _ e) (8:) ?_,rfl,q _ hf⟩
 exact ⟨z,us,0,r,Heap.get?_push_size _ rfl⟩
end
abbrev Sp:=List V→Hp→VK→XK→Prop
abbrev CXT:=List Env→Hp→Shared→XK→Value→Shared→Prop
structure Env0 (P:Program) (w:World) (K:Fg) (mg:Str→Option Value) (base:Heap) (A:Around) (outer:List Env) (s:Shared) (H:Hp):Prop where
 frames:A.frames=some outer
 mod:Mod K mg base
 bs:∀ b o,base.get? b=some o→s.heap.get? b=some o∧H b=none
 bsz:base.objs.size≤s.heap.objs.size
 funs:s.heap.FunFrames base outer
 frf:∀ b ∈ frs outer,H b=none
 hok:HOk P w H s.heap
 bare:AllBare s.gens
def CE (outer:List Env) (P:Program) (w:World) (H:Hp) (s:Shared) (Q:VK) (u:Value) (s':Shared):Prop :=
 ∃ v H',s'.os=s.os∧AllBare s'.gens∧Un (frs outer) [] H H' s.heap s'.heap∧HOk P w H' s'.heap∧RelV v u∧Q v H'
def CR (CX:CXT) (outer:List Env) (P:Program) (w:World) (H:Hp) (s:Shared) (Q:VK) (E:XK) (r:Result) (s':Shared):Prop :=
 match r with
 | .ok (.ret u)=>CE outer P w H s Q u s'
 | .ok _=>False
 | .error e=>CX outer H s E e s'
structure FnOk (P:Program) (w:World) (K:Fg) (mg:Str→Option Value) (base:Heap) (CX:CXT) (k:Nat) (f:Addr) (fd:FuncData) (ps:List Str) (sp:Sp):Prop where
 len:∀ vs H Q E,sp vs H Q E→vs.length=ps.length
 run:∀ (A:Around) (outer:List Env) (s:Shared) (H:Hp) (args:Args) (us:List Value) (vs:List V) (Q:VK) (E:XK),Room k A→Env0 P w K mg base A outer s H→BindsTo s fd args (ps.zip us)→Vals vs us→sp vs H Q E →
  codeAny (model P w) A (.call (.ref f) args) (CR CX outer P w H s Q E) s
theorem Env0.make {P:Program} {w:World} {K:Fg} {mg:Str→Option Value} {base:Heap} {A:Around} {outer:List Env} {s:Shared} {H:Hp} (e:Env0 P w K mg base A outer s H) (C:Addr) (us:List Value) (kw:List (Str × Value)) :
 Env0 P w K mg base (A.under (.builtin "type.__call__" ⟨.ref C :: us,kw⟩)) outer s H:=⟨by first | exact e.frames | (simpa [Around.under,Code.envs,Code.isFrame,pushEnvs] using e.frames),e.mod,e.bs,e.bsz,e.funs,e.frf,e.hok,e.bare⟩
section
variable {X:Cx} {pins:List (11:)} {σ:St} {H:Hp} {s s':Shared}
theorem Inv.env0 (I:Inv X pins σ H s):Env0 X.prog X.w X.K X.mg X.base X.A X.stack s H :=
 ⟨I.ok.frames,I.ok.mod,I.bs,Nat.le_trans I.ok.bsz I.sz,I.stack,I.stkFree,I.hok,I.bare⟩
theorem Inv.after {Q:VK} {u:Value} (I:Inv X pins σ H s) (h:CE X.stack X.prog X.w H s Q u s'):EP X pins σ Q u s':=by
 obtain ⟨v,H',os,bare,un,hok,r,q⟩:=h
 obtain ⟨hh,g,d,t,os'⟩:=s'
 obtain rfl:os'=s.os:=os
 exact ⟨v,H',I.call (h':=hh) (g':=g) (d':=d) (t':=t) (ch:=[]) un hok bare (fun b z=>absurd z (by simp)),r,q⟩
end
def Xn (sp:Sp) (dvs:List V) (E:XK) (t:TA):TE:=fun σ H Q=>t σ H fun vs H1=>sp (vs ++ dvs) H1 Q E
def P4 (C:Addr) (m:Str) (sp:Sp) (dvs:List V) (E:XK) (ta:TE) (t:TA):TE:=fun σ H Q=>ta σ H fun x H1=>∃ a dx fs,x=.ref a∧H1 a=some (.ins C dx fs)∧fs.lookup m=none ∧
 t σ H1 fun vs H2=>sp (x :: (vs ++ dvs)) H2 Q E
def Ry (C:Addr) (sp:Sp) (dvs:List V) (E:XK) (t:TA):TE:=fun σ H Q=>t σ H fun vs H1=>∀ x dx,H1 x=none→H1 dx=none→dx≠x →
 sp (.ref x :: (vs ++ dvs)) (upd (upd H1 dx (.own x)) x (.ins C dx [])) (fun v H2=>v=.non∧Q (.ref x) H2) E
def Binds (K:Fg) (fd:FuncData) (ps:List Str) (ds:List Value):Prop :=
 ∀ (s:Shared) (us:List Value),K.In s.heap→(us ++ ds).length=ps.length→BindsTo s fd ⟨us,[]⟩ (ps.zip (us ++ ds))
theorem Binds.all {K:Fg} {fd:FuncData} {ps:List Str} (h:∀ us:List Value,us.length=ps.length→bindArgs fd ⟨us,[]⟩=pure (ps.zip us)):Binds K fd ps []:=fun s us _ hl=>by
 rw [List.append_nil] at hl ⊢
 exact .of_eq (h us hl)
def YK (CX:CXT) (X:Cx) (E:XK):Prop:=∀ (pins:List (11:)) (σ:St) (H:Hp) (s:Shared) (e:Value) (s':Shared),Inv X pins σ H s→CX X.stack H s E e s'→X.xe e s'
section
variable {X:Cx} {CX:CXT} {k:Nat} {f C:Addr} {fd:FuncData} {ps:List Str} {sp:Sp} {dvs:List V} {ds:List Value} {E:XK} {x m:Str} {p pos apos:Pos} {e o:Expr} {es:List Expr} {ta:TE} {t:TA}
theorem LA {pins:List (11:)} {σ:St} {H:Hp} {s:Shared} {Q:VK} {us:List Value} {vs:List V} (F:FnOk X.prog X.w X.K X.mg X.base CX k f fd ps sp) (hr:Room k X.A) (hb:Binds X.K fd ps ds) (hd:Vals dvs ds) (hx:YK CX X E)
 (I:Inv X pins σ H s) (r:Vals vs us) (h:sp (vs ++ dvs) H Q E):wpAny (5:) X.A (call (.ref f) us) (EP X pins σ Q) X.xe s:=by
 have r2:Vals (vs ++ dvs) (us ++ ds):=r.append hd
 have hl:(us ++ ds).length=ps.length:=by rw [← r2.length];exact F.len _ _ _ _ h
 refine wpAny_call (codeAny_mono (F.run X.A X.stack s H ⟨us,[]⟩ (us ++ ds) (vs ++ dvs) Q E hr I.env0 (hb s us I.kIn hl) r2 h) fun r s' hq=>?_)
 cases r with
 | error e=>exact hx pins σ H s e s' I hq
 | ok fl =>
  cases fl with
  | ret u=>exact I.after hq
  | next=>exact False.elim hq
  | brk=>exact False.elim hq
  | cont=>exact False.elim hq
theorem Oi (F:FnOk X.prog X.w X.K X.mg X.base CX k f fd ps sp) (hr:Room k X.A) (hg:Gl X x) (hm:X.mg x=some (.ref f)) (hk:PySem.W.keepIn X.K (.ref f)=true) (hb:Binds X.K fd ps ds) (hd:Vals dvs ds) (hx:YK CX X E)
 (ha:PA X (e :: es) t) (hdb:(x == ("__debug__" : Str))=false:=by decide) (he:starEach (e :: es) X.env=(false,eval e X.env) :: starEach es X.env:=by rfl) (hpl:(backTo pos (starEach es X.env)).any (·.1)=false:=by rfl) :
 PE X (.Call (.Name x p) (e :: es) [] pos) (Xn sp dvs E t):=by
 intro pins s σ H Q I h
 refine wpAny_Call_Name_kw (Ye I hg hm ?_ hdb)
 refine PySem.W.callWith_K (h₀:=X.base) I.ok.mod.kin hk (thn (ha pos pins s σ H _ I h) fun us s1 ⟨vs,H1,I1,r,q⟩=>⟨I1.kIn,?_⟩) he hpl
 exact LA F hr hb hd hx I1 r q
theorem Yw {pl:Sem Bool} (he:PE X o ta) (c:Cls X.K C) (hm:Meth X.K C m f) (F:FnOk X.prog X.w X.K X.mg X.base CX k f fd ps sp) (hr:Room k X.A) (hb:Binds X.K fd ps ds) (hd:Vals dvs ds) (hx:YK CX X E) (ha:PA X (e :: es) t)
 (hst:starEach (e :: es) X.env=(false,eval e X.env) :: starEach es X.env:=by rfl) (hpl:(backTo pos (starEach es X.env)).any (·.1)=false:=by rfl)
 (ht:eval (.Call (.Attribute o m apos) (e :: es) [] pos) X.env=(do
  let ov ← eval o X.env
  standAt apos.atName
  let (f,first) ← holding [ov] (getMethod ov m pl)
  callWith pos f first (backTo pos (starEach (e :: es) X.env)) (backToKw pos (keywordEach [] X.env))):=by rfl) :
 PE X (.Call (.Attribute o m apos) (e :: es) [] pos) (P4 C m sp dvs E ta t):=by
 intro pins s σ H Q I h
 refine PySem.W.methodCall_KW (pl:=pl) (thn (he pins s σ H _ I h) fun u s1 ⟨x,H1,I1,rx,a,dx,fs,ex,ea,l,q⟩=>?_) ht
 subst ex
 obtain rfl:u=Value.ref a:=rx
 refine Jc I1 ea c hm l ?_
 refine PySem.W.callWith_K (first:=[.ref a]) (h₀:=X.base) I.ok.mod.kin hm.kp (thn (ha pos pins s1 σ H1 _ I1 q) fun us s2 ⟨vs,H2,I2,r,q2⟩=>⟨I2.kIn,?_⟩) hst hpl
 exact LA (us:=.ref a :: us) (vs:=.ref a :: vs) F hr hb hd hx I2 (.cons rfl r) q2
structure Mk (K:Fg) (C f:Addr):Prop where
 makes:PySem.W.makesIn K C=true
 init:PySem.W.findIn K (.ref C) "__init__" = some (some (.ref f))
 fn:PySem.W.isFn K (.ref f)=true
 kp:PySem.W.keepIn K (.ref C)=true
theorem MN {pins:List (11:)} {σ:St} {H:Hp} {s:Shared} {Q:VK} {us:List Value} {vs:List V} (M:Mk X.K C f) (F:FnOk X.prog X.w X.K X.mg X.base CX k f fd ps sp) (hr:Room (k + 1) X.A) (hb:Binds X.K fd ps ds) (hd:Vals dvs ds)
 (hx:YK CX X E) (I:Inv X pins σ H s) (r:Vals vs us)
 (h:∀ x dx,H x=none→H dx=none→dx≠x→sp (.ref x :: (vs ++ dvs)) (upd (upd H dx (.own x)) x (.ins C dx [])) (fun v H2=>v=.non∧Q (.ref x) H2) E) :
 wpAny (5:) X.A (call (.ref C) us) (EP X pins σ Q) X.xe s:=by
 have hq:=h (s.heap.objs.size + 1) s.heap.objs.size (I.hok.fresh (Nat.le_succ _)) (I.hok.fresh (8:)) (Nat.ne_of_lt (Nat.lt_succ_self _))
 have I2:=Inv.made (C:=C) I
 have r2:Vals (V.ref (s.heap.objs.size + 1) :: (vs ++ dvs)) (Value.ref (s.heap.objs.size + 1) :: (us ++ ds)):=.cons rfl (r.append hd)
 have hl:(Value.ref (s.heap.objs.size + 1) :: us ++ ds).length=ps.length:=by
  have e:=r2.length
  rw [F.len _ _ _ _ hq] at e
  exact e.symm
 refine wpAny_call (Lu (f:=f) I.kIn M.makes M.init (beq_iff_eq.mp M.fn) (codeAny_mono (F.run _ X.stack _ _ ⟨Value.ref (s.heap.objs.size + 1) :: us,[]⟩ (Value.ref (s.heap.objs.size + 1) :: (us ++ ds)) _ _ E (hr.make C us [])
  (I2.env0.make C us []) (hb _ (Value.ref (s.heap.objs.size + 1) :: us) I2.kIn hl) r2 hq) fun r s' hq'=>?_))
 cases r with
 | error e=>exact hx pins σ _ _ e s' I2 hq'
 | ok fl =>
  cases fl with
  | ret u =>
   obtain ⟨v,H',I3,rv,ev,q3⟩:=I2.after hq'
   subst ev
   exact ⟨rv,⟨V.ref (s.heap.objs.size + 1),H',I3,rfl,q3⟩⟩
  | next=>exact False.elim hq'
  | brk=>exact False.elim hq'
  | cont=>exact False.elim hq'
theorem Wf (M:Mk X.K C f) (F:FnOk X.prog X.w X.K X.mg X.base CX k f fd ps sp) (hr:Room (k + 1) X.A) (hg:Gl X x) (hm:X.mg x=some (.ref C)) (hb:Binds X.K fd ps ds) (hd:Vals dvs ds) (hx:YK CX X E)
 (ha:PA X (e :: es) t) (hdb:(x == ("__debug__" : Str))=false:=by decide) (he:starEach (e :: es) X.env=(false,eval e X.env) :: starEach es X.env:=by rfl) (hpl:(backTo pos (starEach es X.env)).any (·.1)=false:=by rfl) :
 PE X (.Call (.Name x p) (e :: es) [] pos) (Ry C sp dvs E t):=by
 intro pins s σ H Q I h
 refine wpAny_Call_Name_kw (Ye I hg hm ?_ hdb)
 refine PySem.W.callWith_K (h₀:=X.base) I.ok.mod.kin M.kp (thn (ha pos pins s σ H _ I h) fun us s1 ⟨vs,H1,I1,r,q⟩=>⟨I1.kIn,?_⟩) he hpl
 exact MN M F hr hb hd hx I1 r q
end
section
variable {X:Cx} {CX:CXT} {k:Nat} {f C:Addr} {fd:FuncData} {ps ks:List Str} {sp:Sp} {E:XK} {x m:Str} {p pos apos kpos:Pos} {e o:Expr} {es:List Expr} {kws:List Keyword} {te ta:TE} {t tk:TA} {nm:Option Str}
variable {g:List Value→List Value→List Value} {gV:List V→List V→List V}
end
structure FnScope (N P:List Str) (sc:Scope):Prop where
 kind:sc.kind=.function
 co:sc.isCoroutine=false
 gen:sc.isGenerator=false
 nd:N.Nodup
 pre:N.take P.length=P
 par:∀ x ∈ P,sc.names.lookup x=some .local∨sc.names.lookup x=some .cell
 nofree:∀ y ∈ sc.names,y.2≠.free
theorem Xk {kindOf:Str→Option NameKind} {x:Str}:∀ {binds:List (Str × Value)} {m:Str→Option Value},(∀ v,(x,v) ∉ binds)→bindL kindOf binds m x=m x
 | [],_,_=>rfl
 | (n,v) :: r,m,h=>by
  unfold bindL
  rw [Xk fun w hw=>h w (List.mem_cons_of_mem _ hw)]
  split
  ·have:x≠n:=by rintro rfl;exact h v List.mem_cons_self
   simp [this]
  ·rfl
theorem JZ {kindOf:Str→Option NameKind} {x:Str}:∀ {binds:List (Str × Value)} {m:Str→Option Value},(∀ v,(x,v) ∉ binds)→bindC kindOf binds m x=m x
 | [],_,_=>rfl
 | (n,v) :: r,m,h=>by
  unfold bindC
  rw [JZ fun w hw=>h w (List.mem_cons_of_mem _ hw)]
  split
  ·rfl
  ·have:x≠n:=by rintro rfl;exact h v List.mem_cons_self
   simp [this]
theorem JS {kindOf:Str→Option NameKind} {x:Str} {v:Value}:∀ {P:List Str} {vs:List Value} {i:Nat} {m:Str→Option Value},P.Nodup→P[i]?=some x→vs[i]?=some v→kindOf x=some .local →
 bindL kindOf (P.zip vs) m x=some v
 | [],_,_,_,_,h,_,_=>by simp at h
 | _ :: _,[],_,_,_,_,h,_=>by simp at h
 | p :: P,w :: vs,0,m,nd,h1,h2,hk=>by
  simp at h1 h2;subst h1;subst h2
  show bindL kindOf ((p,w) :: P.zip vs) m p=_
  unfold bindL
  rw [Xk fun v hv=>(List.nodup_cons.mp nd).1 (List.of_mem_zip hv).1,if_pos hk]
  simp
 | p :: P,w :: vs,i + 1,m,nd,h1,h2,hk=>by
  show bindL kindOf ((p,w) :: P.zip vs) m x=_
  unfold bindL
  exact JS (i:=i) (List.nodup_cons.mp nd).2 (by simpa using h1) (by simpa using h2) hk
theorem JY {kindOf:Str→Option NameKind} {x:Str} {v:Value}:∀ {P:List Str} {vs:List Value} {i:Nat} {m:Str→Option Value},P.Nodup→P[i]?=some x→vs[i]?=some v→kindOf x≠some .local →
 bindC kindOf (P.zip vs) m x=some v
 | [],_,_,_,_,h,_,_=>by simp at h
 | _ :: _,[],_,_,_,_,h,_=>by simp at h
 | p :: P,w :: vs,0,m,nd,h1,h2,hk=>by
  simp at h1 h2;subst h1;subst h2
  show bindC kindOf ((p,w) :: P.zip vs) m p=_
  unfold bindC
  rw [JZ fun v hv=>(List.nodup_cons.mp nd).1 (List.of_mem_zip hv).1,if_neg hk]
  simp
 | p :: P,w :: vs,i + 1,m,nd,h1,h2,hk=>by
  show bindC kindOf ((p,w) :: P.zip vs) m x=_
  unfold bindC
  exact JY (i:=i) (List.nodup_cons.mp nd).2 (by simpa using h1) (by simpa using h2) hk
def YD (N:List Str) (vs:List V):St:=vs.map some ++ List.replicate (N.length - vs.length) none
def QB (CX:CXT) (P:Program) (w:World) (K:Fg) (mg:Str→Option Value) (base:Heap) (N:List Str) (qual:Str) (scope:Scope) (f:Addr) (cd:Value) (A:Around) (outer:List Env) (s:Shared) (H:Hp) (E:XK):Cx where
 prog:=P
 w:=w
 K:=K
 mg:=mg
 base:=base
 A:=A.deeper (14:)
 N:=N
 s₀:=s
 H₀:=H
 env:=envOfC qual scope s.heap.objs.size f cd
 outer:=outer
 stack:=envOfC qual scope s.heap.objs.size f cd :: outer
 ex:=[]
 calm:=true
 fn:=fun _=>true
 pn:=[]
 xe:=fun e s'=>wpAny (model P w) (A.deeper (14:)) (leaving (14:) e) (fun _ s''=>CX outer H s E e s'') (fun e' s''=>CX outer H s E e' s'') s'
theorem Ws {sc:Scope} {n:Nat} {x:Str} (h:sc.names.lookup x=some .cell):∃ c,(cellsFrom n sc.names []).lookup x=some c:=by
 have q:=PySem.W.cellsFrom_some sc.names n [] (.inl h)
 exact Option.isSome_iff_exists.mp q
theorem La {CX:CXT} {P:Program} {w:World} {K:Fg} {mg:Str→Option Value} {base:Heap} {N ps:List Str} {qual:Str} {scope:Scope} {f:Addr} {cd:Value} {A:Around} {outer:List Env} {s s1:Shared} {H:Hp} {E:XK} {us:List Value} {vs:List V}
 (S:FnScope N ps scope) (hd:A.handled=none) (e0:Env0 P w K mg base A outer s H) (hl:vs.length=ps.length) (r:Vals vs us)
 (x:InCallC s s.heap.objs.size (bindL (14:).kindOf (ps.zip us) fun _=>none) (cellsFrom (s.heap.objs.size + 1) scope.names []) (bindC (14:).kindOf (ps.zip us) fun _=>none) s1) :
 Inv (QB CX P w K mg base N qual scope f cd A outer s H E) [] (YD N vs) H s1:=by
 have hpl:ps.length≤N.length:=by have:=congrArg List.length S.pre;rw [List.length_take] at this;lia
 obtain ⟨h1,tk,rfl,hk⟩:=x.done
 have noA:∀ b:Addr,b ∉ (QB CX P w K mg base N qual scope f cd A outer s H E).ex:=fun b z=>absurd (show b ∈ ([]:List Addr) from z) (by simp)
 refine ⟨⟨e0.mod,S.kind,rfl,rfl,Nat.le_refl _,fun y z c h1 h2=>?_,fun y hy=>?_,fun y c _ h=>?_,fun _=>hd,Around.frames_deeper e0.frames,.inr ⟨rfl,rfl⟩,fun b z=>absurd z (noA b),e0.bs,e0.bsz,fun b _ _=>noA b,fun b z=>absurd z (noA b),e0.funs,e0.frf⟩,rfl,e0.bare,Un.kept hk,⟨_,x.toInCall.ns,fun i y v h1 h2 h3=>?_⟩,fun y c h=>⟨_,x.cell y c h⟩,e0.hok.fresh (8:),fun y c h=>?_,fun p hp=>absurd (show p ∈ ([]:List (11:)) from hp) (by simp),e0.hok.kept hk,?_⟩
 ·exact name_of_addr x.apart (PySem.mem_of_lookup h1) (PySem.mem_of_lookup h2)
 ·have hy:scope.names.lookup y=some .cell∨scope.names.lookup y=some .free:=hy
  rcases hy with hy | hy
  ·exact Ws hy
  ·exact absurd rfl (S.nofree _ (PySem.mem_of_lookup hy))
 ·exact Nat.le_of_lt (x.above y c (PySem.mem_of_lookup h))
 ·have hi:i < vs.length:=by
   unfold YD at h2
   by_cases hi:i < vs.length
   ·exact hi
   ·rw [List.getElem?_append_right (by simpa using hi)] at h2
    rw [List.getElem?_replicate] at h2
    split at h2 <;> cases h2
  have ha:vs[i]?=some v:=by
   unfold YD at h2
   rw [List.getElem?_append_left (by simpa using hi),List.getElem?_map] at h2
   cases e:vs[i]? with
   | none=>rw [e] at h2;cases h2
   | some a=>rw [e] at h2;cases h2;rfl
  obtain ⟨u,hu,rv⟩:=r.get ha
  have hp:ps[i]?=some y:=by
   rw [← S.pre,List.getElem?_take_of_lt (10:)];exact h1
  have ndP:ps.Nodup:=by rw [← S.pre];exact S.nd.sublist (List.take_sublist _ _)
  refine ⟨u,rv,?_⟩
  rcases S.par y (List.mem_of_getElem? hp) with k | k
  ·exact .inl ⟨k,JS ndP hp hu k⟩
  ·obtain ⟨c,e⟩:=Ws (n:=s.heap.objs.size + 1) k
   refine .inr ⟨.inl k,c,e,?_⟩
   have q:=x.cell y c e
   rw [JY ndP hp hu (by show scope.names.lookup y≠_;rw [k];decide)] at q
   exact q
 ·exact e0.hok.fresh (Nat.le_of_lt (x.above y c (PySem.mem_of_lookup h)))
 ·unfold YD
  show _=N.length
  rw [List.length_append,List.length_map,List.length_replicate]
  lia
theorem M7 {CX:CXT} {P:Program} {w:World} {K:Fg} {mg:Str→Option Value} {base:Heap} {k:Nat} {f:Addr} {name qual:Str} {params:Arguments} {body:List Stmt} {scope:Scope} {dV kV doc pm cdv ct oc:Value} {an od:Option Addr}
 {osl:Array (Option Value)} {N ps:List Str} {sp:Sp} (lk:K.lookup f=some ⟨oc,od,.func (PySem.W.fnOf name qual params body scope dV kV doc pm an cdv ct),osl⟩) (hcd:PySem.W.codeIn K cdv qual=true) (S:FnScope N ps scope)
 (len:∀ vs H Q E,sp vs H Q E→vs.length=ps.length)
 (hbody:∀ (A:Around) (outer:List Env) (s:Shared) (H:Hp) (vs:List V) (Q:VK) (E:XK),Room k (A.deeper (envOfC qual scope s.heap.objs.size f cdv))→sp vs H Q E →
  ∃ t,PSs (QB CX P w K mg base N qual scope f cdv A outer s H E) body t∧t { nx:=fun _ H'=>Q .non H',rt:=Q } (YD N vs) H) :
 FnOk P w K mg base CX (k + 1) f (PySem.W.fnOf name qual params body scope dV kV doc pm an cdv ct) ps sp:=by
 refine ⟨len,fun A outer s H args us vs Q E hr e0 hb r hsp=>?_⟩
 have hl:=len _ _ _ _ hsp
 have KX:K.In s.heap:=e0.mod.kin.keeps fun b o e=>(e0.bs b o e).1
 have lim:s.heap.NoLimit:=e0.mod.nolimit.keeps fun b o e=>(e0.bs b o e).1
 have hkind:∀ y ∈ ps.zip us,scope.names.lookup y.1=some .local∨(scope.names.lookup y.1=some .cell∧((cellsFrom (s.heap.objs.size + 1) scope.names []).lookup y.1).isSome=true):=fun ⟨n,v⟩ hy=>by
  rcases S.par n (List.of_mem_zip hy).1 with q | q
  ·exact .inl q
  ·exact .inr ⟨q,PySem.W.cellsFrom_some _ _ _ (.inl q)⟩
 refine codeAny_call_function hr.depth (KX _ _ lk) rfl S.co S.gen rfl (PySem.W.codeRec_of KX hcd) (hb _ _ _ _ ?_)
 refine wpAny_newFunctionEnv_cells S.kind hkind fun env he s1 x=>?_
 subst he
 refine ⟨lim.keeps x.toInCall.keep,codeAny_func ?_⟩
 obtain ⟨t,ht,hq⟩:=hbody A outer s H vs Q E (hr.deeper _) hsp
 have I:Inv (QB CX P w K mg base N qual scope f cdv A outer s H E) [] (YD N vs) H s1:=La S hr.hd e0 hl r x
 refine wpAny_mono (ht [] s1 (YD N vs) H _ I hq) (fun fl s' hs=>?_) fun e s' hs=>hs
 have fin:∀ {σ':St} {H':Hp} {v:V} {u:Value},Inv (QB CX P w K mg base N qual scope f cdv A outer s H E) [] σ' H' s'→RelV v u→Q v H'→CE outer P w H s Q u s' :=
  fun {σ' H' v u} J rv q=>⟨v,H',J.os,J.bare,J.base,J.hok,rv,q⟩
 cases fl with
 | ret u =>
  obtain ⟨v,σ',H',J,rv,q⟩:=hs
  exact fin J rv q
 | next =>
  obtain ⟨σ',H',J,q⟩:=hs
  exact fin (v:=V.non) (u:=Value.none) J rfl q
 | brk =>
  obtain ⟨_,_,_,q⟩:=hs
  exact False.elim q
 | cont =>
  obtain ⟨_,_,_,q⟩:=hs
  exact False.elim q
end L2
namespace L2
open PySem PySem.Spec PyProof.Rows
section
variable {X:Cx} {x:Str} {p pos:Pos} {e:Expr} {es:List Expr} {t:TA} {id T:String} {r:List V→Hp→VK→Prop}
def tCB (r:List V→Hp→VK→Prop) (t:TA):TE:=fun σ H Q=>t σ H fun vs H1=>r vs H1 Q
theorem Qw (hc:Zv X (.builtin id) r) (hg:Gl X x) (hm:X.mg x=none) (hv:bootBuiltins x=some (.builtin id)) (ha:PA X (e :: es) t) (hn:x ≠ "__name__" := by decide) (hdb:(x == ("__debug__" : Str))=false:=by decide)
 (he:starEach (e :: es) X.env=(false,eval e X.env) :: starEach es X.env:=by rfl) (hpl:(backTo pos (starEach es X.env)).any (·.1)=false:=by rfl):PE X (.Call (.Name x p) (e :: es) [] pos) (tCB r t):=by
 intro pins s σ H Q I h
 refine wpAny_Call_Name_kw (UB I hg hm hv ?_ hn hdb)
 exact PyProof.Rows.callWith_builtin1 (thn (ha pos pins s σ H _ I h) fun us s1 ⟨vs,H1,I1,r1,q1⟩=>hc pins s1 σ H1 vs us Q I1 r1 q1) he hpl
theorem QP (hc:Zv X (.type T) r) (hg:Gl X x) (hm:X.mg x=none) (hv:bootBuiltins x=some (.type T)) (ha:PA X (e :: es) t) (hn:x ≠ "__name__" := by decide) (hdb:(x == ("__debug__" : Str))=false:=by decide)
 (he:starEach (e :: es) X.env=(false,eval e X.env) :: starEach es X.env:=by rfl) (hpl:(backTo pos (starEach es X.env)).any (·.1)=false:=by rfl):PE X (.Call (.Name x p) (e :: es) [] pos) (tCB r t):=by
 intro pins s σ H Q I h
 refine wpAny_Call_Name_kw (UB I hg hm hv ?_ hn hdb)
 exact PyProof.Rows.callWith_type1 (thn (ha pos pins s σ H _ I h) fun us s1 ⟨vs,H1,I1,r1,q1⟩=>hc pins s1 σ H1 vs us Q I1 r1 q1) he hpl
end
end L2
namespace HT
open PySem PyProof.Rows
def OD:List Int→List Int→Bool
 | [],[]=>false
 | [],_ :: _=>true
 | _ :: _,[]=>false
 | x :: xs,y :: ys=>if x=y then OD xs ys else decide (x < y)
section
open PySem.SeqAt
open PySem.AutoSeq1 (wpAny_loadPart')
open PySem.MeetsSeq PySem.MeetsSeq2 PySem.MeetsSeq3
end
section
variable {prog:Program} {w:World} {A:Around} {E:Value→Shared→Prop} {s:Shared}
theorem cat_tup {t b:Addr} {vs ws:List Value} {Q:Value→Shared→Prop} (ht:IsTup s.heap t vs.toArray) (hb:IsTup s.heap b ws.toArray) (hv:vs≠[])
 (h1:ws=[]→Q (.ref t) s) (h2:ws≠[]→Q (.ref s.heap.objs.size) { s with heap:=s.heap.push { cls:=.type "tuple", data:=.seq (vs ++ ws).toArray } })
 (hsz:vs.length + ws.length≤sizeLine):wpAny (model prog w) A (binaryOp .Add (.ref t) (.ref b)) Q E s:=by
 obtain ⟨⟨cls,dd,data,sl⟩,ho,hc,n,hd⟩:=id ht
 obtain ⟨⟨cls2,dd2,data2,sl2⟩,ho2,hc2,n2,hd2⟩:=id hb
 simp only at hc hd hc2 hd2
 subst hc hd hc2 hd2
 have e:vs.toArray ++ ws.toArray=(vs ++ ws).toArray:=by simp
 by_cases hw:ws=[]
 ·exact concat_meets ⟨_,ho,rfl⟩ ⟨_,ho2,rfl⟩ noFill_tuple_add seq_tuple_add PySem.F.slot_tuple_add PySem.F.entry_tuple_add (PySem.F.args_tuple_add_2 _ _)
   (tuple_addW1 t b vs.toArray ws.toArray n n2 dd dd2 sl sl2 (by simpa using hv) (by simp [hw])) ⟨ho,ho2,h1 hw⟩
 ·refine concat_meets ⟨_,ho,rfl⟩ ⟨_,ho2,rfl⟩ noFill_tuple_add seq_tuple_add PySem.F.slot_tuple_add PySem.F.entry_tuple_add (PySem.F.args_tuple_add_2 _ _)
   (tuple_addW2 t b vs.toArray ws.toArray n n2 dd dd2 sl sl2 (by simpa using hv) (by simpa using hw) (by rw [List.size_toArray,List.size_toArray];exact hsz)) ⟨ho,ho2,?_⟩
  rw [e]
  exact h2 hw
def sIx (n d:Nat):Option Int→Nat
 | none=>d
 | some v=>if v < 0 then (v + (n:Int)).toNat else min v.toNat n
theorem sIx_none (n d:Nat):sIx n d none=d:=rfl
theorem sIx_nat (n d k:Nat):sIx n d (some (k:Int))=min k n:=by
 show (if (k:Int) < 0 then ((k:Int)+(n:Int)).toNat else min (k:Int).toNat n)=min k n
 rw [if_neg (10:),Int.toNat_natCast]
theorem PP (n d:Nat) (hd:d≤n) (o:Option Int):sIx n d o≤n:=by
 cases o with
 | none=>exact hd
 | some v =>
  show (if v < 0 then (v + (n:Int)).toNat else min v.toNat n)≤n
  by_cases hv:v < 0
  ·rw [if_pos hv];lia
  ·rw [if_neg hv];exact Nat.min_le_right _ _
theorem Gj (v:Int) (n d:Nat):(if v < 0 then max (v + (n:Int)) 0 else min v (n:Int))=((sIx n d (some v):Nat):Int):=by
 show (if v < 0 then max (v + (n:Int)) 0 else min v (n:Int))=(((if v < 0 then (v + (n:Int)).toNat else min v.toNat n):Nat):Int)
 by_cases hv:v < 0
 ·simp only [if_pos hv];lia
 ·simp only [if_neg hv];lia
theorem VG (lo hi:Option Int) (n:Nat):Builtin.Slice.sliceAdjust lo hi 1 (n:Int)=(((sIx n 0 lo:Nat):Int),((sIx n n hi:Nat):Int)):=by
 have h1:¬ ((1:Int) < 0):=by lia
 unfold Builtin.Slice.sliceAdjust
 simp only [h1,if_false]
 refine Prod.ext ?_ ?_
 ·cases lo with
  | none=>rfl
  | some v=>exact Gj v n 0
 ·cases hi with
  | none=>rfl
  | some v=>exact Gj v n n
theorem Vn (i j:Nat):Builtin.Slice.slicePlaces (i:Int) (j:Int) 1=j - i:=by
 unfold Builtin.Slice.slicePlaces
 have h1:(1:Int) > 0:=by lia
 simp only [h1,if_true,Int.ediv_one]
 split <;> lia
theorem Jk {v:Value} {o:Option Int} {Q:Option Int→Shared→Prop} (p:IsPart v o) (h:Q o s):wpAny (model prog w) A (Builtin.Slice.slicePartIndex v) Q E s:=by
 cases p with
 | none=>exact slicePart_none h
 | int i t=>exact slicePart_int h
theorem ZT {sl:Addr} {vl vu:Value} {lo hi:Option Int} {n:Nat} {Q:Int × Int × Nat→Shared→Prop} (hs:s.heap.IsSliceOf sl vl vu .none) (pl:IsPart vl lo) (pu:IsPart vu hi)
 (h:Q (((sIx n 0 lo:Nat):Int),1,sIx n n hi - sIx n 0 lo) s):wpAny (model prog w) A (Builtin.Slice.sliceApplied (.ref sl) (pure (n:Int))) Q E s:=by
 obtain ⟨os,hos,hcs,hds⟩:=id hs
 unfold Builtin.Slice.sliceApplied Builtin.Slice.sliceFields
 refine wpAny_bind (wpAny_bind (wpAny_field hos hds (x:=vl) rfl (wpAny_bind (wpAny_field hos hds (x:=vu) rfl (wpAny_bind (wpAny_field hos hds (x:=.none) rfl (wpAny_pure ?_)))))))
 refine wpAny_bind (slicePart_none ?_)
 show wpAny _ _ (if ((1:Int) == 0)=true then _ else _) _ _ s
 rw [if_neg (by decide)]
 refine wpAny_bind (Jk pl (wpAny_bind (Jk pu (wpAny_bind (wpAny_pure ?_)))))
 show wpAny _ _ (match Builtin.Slice.sliceAdjust lo hi 1 (n:Int) with | (lo,hi)=>pure (lo,(1:Int),Builtin.Slice.slicePlaces lo hi 1)) _ _ s
 rw [VG lo hi n]
 show wpAny _ _ (pure (((sIx n 0 lo:Nat):Int),(1:Int),Builtin.Slice.slicePlaces ((sIx n 0 lo:Nat):Int) ((sIx n n hi:Nat):Int) 1)) _ _ s
 rw [Vn]
 exact wpAny_pure h
theorem L6 (xs:Array Value) (i k:Nat):((List.range k).filterMap fun (m:Nat)=>xs[((i:Int)+(m:Int) * 1).toNat]?).toArray=((xs.toList.drop i).take k).toArray:=by
 have e:(fun (m:Nat)=>xs[((i:Int)+(m:Int) * 1).toNat]?)=fun m=>xs[i + m]?:=by
  funext m
  have:((i:Int)+(m:Int) * 1).toNat=i + m:=by lia
  rw [this]
 rw [e]
 have:=pick_run xs i k
 rw [List.filterMap_map] at this
 have e2:((fun x=>xs[x]?) ∘ fun x=>i + x)=fun m=>xs[i + m]?:=rfl
 rw [e2] at this
 rw [this]
theorem getItem_tuple_cut {t sl:Addr} {items:Array Value} {vl vu:Value} {lo hi:Option Int} {Q:Value→Shared→Prop} (ht:IsTup s.heap t items) (hs:s.heap.IsSliceOf sl vl vu .none) (pl:IsPart vl lo) (pu:IsPart vu hi)
 (hw:¬ (sIx items.size 0 lo=0∧sIx items.size items.size hi=items.size))
 (h:Q (.ref s.heap.objs.size) { s with heap:=s.heap.push { cls:=.type "tuple", data:=.seq ((items.toList.drop (sIx items.size 0 lo)).take (sIx items.size items.size hi - sIx items.size 0 lo)).toArray } })
 (hsz:items.size≤sizeLine):wpAny (model prog w) A (getItem (.ref t) (.ref sl)) Q E s:=by
 have htake:sizeOk (.seq ((items.toList.drop (sIx items.size 0 lo)).take (sIx items.size items.size hi - sIx items.size 0 lo)).toArray):=by
  show ((items.toList.drop (sIx items.size 0 lo)).take (sIx items.size items.size hi - sIx items.size 0 lo)).toArray.size≤sizeLine
  rw [List.size_toArray,List.length_take,List.length_drop,Array.length_toList]
  lia
 have hj:sIx items.size items.size hi≤items.size:=PP _ _ (8:) hi
 obtain ⟨os,hos,hcs,hds⟩:=id hs
 have hTs:s.TypeIs (.ref sl) "slice" := ⟨os,hos,hcs⟩
 unfold getItem
 try with_reducible refine wpAny_holding ?_
 first | refine wpAny_bind (wpAny_pure ?_) | skip
 refine wpAny_bind (wpAny_sequenceKey ht.typeIs (by decide) ?_)
 refine wpAny_bind (wpAny_callSpecial?_slot (name:=Str.ofString "__getitem__") ht.typeIs PyProof.Rows.slot_tuple_getitem
  (wpAny_call_entry PyProof.Rows.slot_tuple_getitem ht.typeIs entry_tuple_getitem ?_ (args_tuple_getitem _ _)))
 show wpAny _ _ (Builtin.Tuple.tupleItemsOf (.ref t) >>= _) _ _ s
 refine wpAny_bind (tupleItemsOf_ ht ?_)
 refine wpAny_bind (wpAny_typeOf hTs ?_)
 rw [if_pos (by decide)]
 refine wpAny_bind (ZT hs pl pu ?_)
 have hno:¬ ((((sIx items.size 0 lo:Nat):Int) == 0 && (1:Int) == 1 && (sIx items.size items.size hi - sIx items.size 0 lo) == items.size)=true):=by
  intro q
  rw [Bool.and_eq_true,Bool.and_eq_true] at q
  have q1:((sIx items.size 0 lo:Nat):Int)=0:=eq_of_beq q.1.1
  have q2:sIx items.size items.size hi - sIx items.size 0 lo=items.size:=eq_of_beq q.2
  exact hw ⟨by lia,by lia⟩
 show wpAny _ _ (if (((sIx items.size 0 lo:Nat):Int) == 0 && (1:Int) == 1 && (sIx items.size items.size hi - sIx items.size 0 lo) == items.size)=true then _ else _) _ _ s
 rw [if_neg hno,L6]
 first
  | exact wpAny_bind (m:=Builtin.Tuple.tupleExact _) (wpAny_newObj_type (wpAny_pure ⟨_,rfl,wpAny_pure h⟩) htake)
  | exact wpAny_bind (m:=Builtin.Tuple.tupleExact _) (wpAny_newObj_type (wpAny_bind (wpAny_pure (wpAny_pure ⟨_,rfl,wpAny_pure h⟩))) htake)
  | exact wpAny_bind (wpAny_bind (m:=Builtin.Tuple.tupleExact _) (wpAny_newObj_type (wpAny_pure (wpAny_pure ⟨_,rfl,wpAny_pure h⟩)) htake))
  | exact wpAny_bind (wpAny_bind (m:=Builtin.Tuple.tupleExact _) (wpAny_newObj_type (wpAny_pure ⟨_,rfl,wpAny_pure h⟩) htake))
end
end HT
namespace L2
open PySem PySem.Spec PyProof.Rows
abbrev TO:=St→Hp→(Option Int→Hp→Prop)→Prop
def PO (X:Cx) (e:Option Expr) (t:TO):Prop :=
 ∀ (pins:List (11:)) (s:Shared) (σ:St) (H:Hp) (Q:Option Int→Hp→Prop),Inv X pins σ H s→t σ H Q →
  wpAny (5:) X.A (evalPart e X.env) (fun u s'=>∃ o H',Inv X pins σ H' s'∧IsPart u o∧Q o H') X.xe s
def Nj:TO:=fun _ H Q=>Q none H
def Si (t:TE):TO:=fun σ H Q=>t σ H fun x H1=>∃ i,x=.int i∧Q (some i) H1
section
variable {X:Cx} {e:Expr} {te:TE} {lo hi:Option Expr} {tl th:TO} {pos p2:Pos}
theorem YR:PO X none Nj:=by
 intro pins s σ H Q I h
 rw [evalPart_none]
 exact wpAny_pure ⟨none,H,I,.none,h⟩
theorem YT (h:PE X e te):PO X (some e) (Si te):=by
 intro pins s σ H Q I hw
 rw [evalPart_some]
 refine thn (h pins s σ H _ I hw) fun u s1 ⟨x,H1,I1,r1,q1⟩=>?_
 obtain ⟨i,rfl,q⟩:=q1
 obtain ⟨t,rfl⟩:=r1
 exact ⟨some i,H1,I1,.int i t,q⟩
def SlR (X:Cx) (r:V→Option Int→Option Int→Hp→VK→Prop):Prop :=
 ∀ (pins:List (11:)) (s:Shared) (σ:St) (H:Hp) (x:V) (v vl vu:Value) (lo hi:Option Int) (sl:Addr) (Q:VK),Inv X pins σ H s→RelV x v→s.heap.IsSliceOf sl vl vu .none→IsPart vl lo→IsPart vu hi→r x lo hi H Q →
  ∃ T id,typeLookup (.type T) "__getitem__" = pure (some (.builtin id))∧s.TypeIs v T∧wpAny (5:) X.A (getItem v (.ref sl)) (EP X pins σ Q) X.xe s
def tSl (r:V→Option Int→Option Int→Hp→VK→Prop) (te:TE) (tl th:TO):TE:=fun σ H Q=>te σ H fun x H1=>tl σ H1 fun l H2=>th σ H2 fun u H3=>r x l u H3 Q
theorem Yt {r:V→Option Int→Option Int→Hp→VK→Prop} (hr:SlR X r) (he:PE X e te) (hl:PO X lo tl) (hu:PO X hi th):PE X (.Subscript e (.Slice lo hi none p2) pos) (tSl r te tl th):=by
 intro pins s σ H Q I h
 refine Subscript_ (thn (he pins s σ H _ I h) fun v s1 ⟨x,H1,I1,r1,q1⟩=>?_)
 refine wpAny_Slice (thn (hl pins s1 σ H1 _ I1 q1) fun vl s2 ⟨l,H2,I2,pl,q2⟩=>thn (hu pins s2 σ H2 _ I2 q2) fun vu s3 ⟨u,H3,I3,pu,q3⟩=>?_)
 rw [evalPart_none]
 refine wpAny_pure ?_
 have I4:Inv X pins σ H3 { s3 with heap:=s3.heap.push { cls:=.type "slice", data:=.fields #[vl,vu,.none] } }:=I3.kept (t':=s3.toks) fun b ob q=>Heap.get?_push_of_some _ q
 obtain ⟨T,id,hT,ht,hg⟩:=hr pins { s3 with heap:=s3.heap.push { cls:=.type "slice", data:=.fields #[vl,vu,.none] } } σ H3 x v vl vu l u s3.heap.objs.size Q I4 r1 (Heap.IsSliceOf.new ..) pl pu q3
 show wpAny (5:) X.A (subscriptTail e (.Slice lo hi none p2) v (.ref s3.heap.objs.size)) (EP X pins σ Q) X.xe { s3 with heap:=s3.heap.push { cls:=.type "slice", data:=.fields #[vl,vu,.none] } }
 exact tail_any (ops:=[.ref s3.heap.objs.size,v]) ht hT hg (by with_unfolding_all rfl)
def cutV (xs:List V) (lo hi:Option Int):List V:=(xs.drop (HT.sIx xs.length 0 lo)).take (HT.sIx xs.length xs.length hi - HT.sIx xs.length 0 lo)
theorem UF (xs:List V) (lo hi:Option Int):(cutV xs lo hi).length≤xs.length:=by
 unfold cutV
 rw [List.length_take,List.length_drop]
 lia
def S7 (K:Fg):V→Option Int→Option Int→Hp→VK→Prop:=fun x lo hi H Q=>∃ a xs,x=.ref a∧SqT K H a xs ∧
 ¬ (HT.sIx xs.length 0 lo=0∧HT.sIx xs.length xs.length hi=xs.length)∧∀ p,H p=none→Q (.ref p) (upd H p (.tup (cutV xs lo hi)))
theorem Pt:SlR X (S7 X.K):=by
 intro pins s σ H x v vl vu lo hi sl Q I rx hs pl pu h
 obtain ⟨a,xs,rfl,hx,hw,q⟩:=h
 cases rx
 obtain ⟨its,r,ht,hz⟩:=I.tuple hx
 have hlen:its.toArray.size=xs.length:=by rw [List.size_toArray];exact r.length.symm
 refine ⟨"tuple", _,PyProof.Rows.slot_tuple_getitem.lookup,ht.typeIs,?_⟩
 refine HT.getItem_tuple_cut ht hs pl pu (by rw [hlen];exact hw) ?_ (by rw [hlen];exact hz)
 rw [hlen]
 refine ⟨.ref s.heap.objs.size,_,I.laid (t':=s.toks) (o:=.tup (cutV xs lo hi)) (fun b ob q=>Heap.get?_push_of_some _ q) (8:) ?_,rfl,q _ (I.hok.fresh (8:))⟩
 exact ⟨Nat.le_trans (UF xs lo hi) hz,_,(r.drop (HT.sIx xs.length 0 lo)).take (HT.sIx xs.length xs.length hi - HT.sIx xs.length 0 lo),IsTup.new _ _⟩
def P8 (K:Fg):R2:=fun x y H Q=>∃ a b xs ys,x=.ref a∧y=.ref b∧SqT K H a xs∧SqT K H b ys∧xs≠[]∧xs.length + ys.length≤sizeLine ∧
 (ys=[]→Q (.ref a) H)∧(ys≠[]→∀ p,H p=none→Q (.ref p) (upd H p (.tup (xs ++ ys))))
theorem Vals.nil_iff {xs:List V} {us:List Value} (r:Vals xs us):us=[] ↔ xs=[]:=by
 cases r with
 | nil=>simp
 | cons _ _=>simp
theorem Ol:OpR X (binaryOp .Add) (P8 X.K):=by
 intro pins s σ H x y v u Q I rx ry h
 obtain ⟨a,b,xs,ys,rfl,rfl,ha,hb,hx,hz,q1,q2⟩:=h
 cases rx
 cases ry
 obtain ⟨its,r1,p1,_⟩:=I.tuple ha
 obtain ⟨its2,r2,p2,_⟩:=I.tuple hb
 refine HT.cat_tup p1 p2 (fun z=>hx (r1.nil_iff.mp z)) (fun z=>⟨.ref a,H,I,rfl,q1 (r2.nil_iff.mp z)⟩) (fun z=>?_) (by rw [← r1.length,← r2.length];exact hz)
 refine ⟨.ref s.heap.objs.size,_,I.laid (t':=s.toks) (o:=.tup (xs ++ ys)) (fun b ob q=>Heap.get?_push_of_some _ q) (8:) ?_,rfl,q2 (fun w=>z (r2.nil_iff.mpr w)) _ (I.hok.fresh (8:))⟩
 exact ⟨by rw [List.length_append];exact hz,_,r1.append r2,IsTup.new _ _⟩
end
end L2
namespace L2
open PySem PySem.Spec PyProof.Rows
def ixN (n:Nat) (i:Int):Option Nat:=if 0≤i then (if i < n then some i.toNat else none) else if -(n:Int)≤i then some (i + n).toNat else none
def atI {α:Type} (xs:List α) (i:Int):Option α:=(ixN xs.length i).bind fun j=>xs[j]?
theorem VO {n:Nat} {i:Int} {j:Nat} (h:ixN n i=some j):seqIndex? i n=some j∧j < n∧-(n:Int)≤i∧i < n:=by
 unfold ixN at h
 by_cases h0:0≤i
 ·rw [if_pos h0] at h
  by_cases h1:i < n
  ·rw [if_pos h1] at h
   have e:i.toNat=j:=Option.some.inj h
   exact ⟨by rw [seqIndex_of h0 h1,e],by lia,by lia,h1⟩
  ·rw [if_neg h1] at h;cases h
 ·rw [if_neg h0] at h
  by_cases h1:-(n:Int)≤i
  ·rw [if_pos h1] at h
   have e:(i + n).toNat=j:=Option.some.inj h
   exact ⟨by rw [seqIndex_neg (10:) h1,e],by lia,h1,by lia⟩
  ·rw [if_neg h1] at h;cases h
theorem XG {α:Type} {xs:List α} {i:Int} {v:α} (h:atI xs i=some v):∃ j,seqIndex? i xs.length=some j∧xs[j]?=some v∧j < xs.length∧-(xs.length:Int)≤i∧i < xs.length:=by
 unfold atI at h
 cases e:ixN xs.length i with
 | none=>rw [e] at h;cases h
 | some j =>
  rw [e] at h
  obtain ⟨h1,h2,h3,h4⟩:=VO e
  exact ⟨j,h1,h,h2,h3,h4⟩
theorem QY {α:Type} {xs:List α} {j:Nat} {v:α} (h:xs[j]?=some v):atI xs (j:Int)=some v:=by
 have hj:j < xs.length:=(List.getElem?_eq_some_iff.mp h).1
 have e:ixN xs.length (j:Int)=some j:=by
  unfold ixN
  rw [if_pos (10:),if_pos (10:)];simp
 unfold atI;rw [e];exact h
def N5 (b:Expr):Prop:=∀ o i,subscripted b false o i=operate [o,i] (getItem o i)
def IxR (X:Cx) (r:R2):Prop :=
 ∀ (value slice:Expr) (pins:List (11:)) (s:Shared) (σ:St) (H:Hp) (x y:V) (v u:Value) (Q:VK),Inv X pins σ H s→RelV x v→RelV y u→r x y H Q →
  subscripted slice false v u=operate [v,u] (getItem v u)→wpAny (5:) X.A (subscriptTail value slice v u) (EP X pins σ Q) X.xe s
def MtR (X:Cx) (id:String) (r:V→List V→Hp→VK→Prop):Prop :=
 ∀ (pins:List (11:)) (s:Shared) (σ:St) (H:Hp) (x:V) (xs:List V) (v:Value) (us:List Value) (Q:VK),Inv X pins σ H s→RelV x v→Vals xs us→r x xs H Q →
  wpAny (5:) X.A (call (.builtin id) (v :: us)) (EP X pins σ Q) X.xe s
section
variable {X:Cx} {a b:Expr} {ta tb:TE} {pos:Pos}
theorem Qg {r:R2} (hr:IxR X r) (ha:PE X a ta) (hb:PE X b tb) (hs:N5 b):PE X (.Subscript a b pos) (tOp r ta tb):=by
 intro pins s σ H Q I h
 exact Subscript_ (O3 ha hb I h fun v u s2 x y H2 I2 rx ry q=>hr a b pins s2 σ H2 x y v u Q I2 rx ry q (hs _ _))
def Ri (K:Fg):R2:=fun x y H Q=>∃ p xs i v,x=.ref p∧y=.int i∧SqL K H p xs∧atI xs i=some v∧Q v H
def Rg (K:Fg):R2:=fun x y H Q=>∃ p xs i v,x=.ref p∧y=.int i∧SqT K H p xs∧atI xs i=some v∧Q v H
def Rl:R2:=fun x y H Q=>∃ z i c,x=.str z∧y=.int i∧z.length≤sizeLine∧atI z.cps.toList i=some c∧Q (.str ⟨#[c]⟩) H
theorem Qn:IxR X (Ri X.K):=by
 intro value slice pins s σ H x y v u Q I rx ry h hs
 obtain ⟨p,xs,i,z,rfl,rfl,hq,he,q⟩:=h
 cases rx
 obtain ⟨t,rfl⟩:=ry
 obtain ⟨its,r,pl,hz⟩:=I.list hq
 obtain ⟨j,h1,h2,h3,h4,h5⟩:=XG he
 obtain ⟨w,ew,rw'⟩:=r.get h2
 have hl:=r.length
 have hn:=Ut
 have fin:EP X pins σ Q w s:=⟨z,H,I,rw',q⟩
 by_cases h0:0≤i
 ·have hj:i.toNat=j:=by
   rw [seqIndex_of h0 h5] at h1
   exact Option.some.inj h1
  exact item_listR pl.isList h0 (10:) (by rw [hj];simpa using ew) fin hs
 ·have hj:(i + (its.toArray.size:Int)).toNat=j:=by
   rw [seqIndex_neg (10:) h4] at h1
   rw [List.size_toArray,← hl]
   exact Option.some.inj h1
  exact subscriptTail_builtinR (x:=w) pl.isList.typeIs slot_list_getitem.lookup
   (wpAny_getItem_list_neg (Q:=fun r s'=>r=w∧EP X pins σ Q r s') pl.isList (10:) (by rw [List.size_toArray] <;> lia) (10:) (by rw [hj];simpa using ew) ⟨rfl,fin⟩) hs
theorem Qi:IxR X (Rg X.K):=by
 intro value slice pins s σ H x y v u Q I rx ry h hs
 obtain ⟨p,xs,i,z,rfl,rfl,hq,he,q⟩:=h
 cases rx
 obtain ⟨t,rfl⟩:=ry
 obtain ⟨its,r,pl,hz⟩:=I.tuple hq
 obtain ⟨j,h1,h2,h3,h4,h5⟩:=XG he
 obtain ⟨w,ew,rw'⟩:=r.get h2
 have hl:=r.length
 have hn:=Ut
 have fin:EP X pins σ Q w s:=⟨z,H,I,rw',q⟩
 exact subscriptTail_builtinR (x:=w) pl.typeIs slot_tuple_getitem.lookup
  (getItem_tuple (j:=j) (Q:=fun r s'=>r=w∧EP X pins σ Q r s') pl (10:) (10:) (by rw [List.size_toArray,← hl];exact h1) (by simpa using ew) ⟨rfl,fin⟩) hs
theorem Nf:IxR X Rl:=by
 intro value slice pins s σ H x y v u Q I rx ry h hs
 obtain ⟨z,i,c,rfl,rfl,hz,he,q⟩:=h
 obtain ⟨t,rfl⟩:=rx
 obtain ⟨t',rfl⟩:=ry
 obtain ⟨j,h1,h2,h3,h4,h5⟩:=XG he
 have hl:z.cps.toList.length=z.length:=by simp [Str.length]
 rw [hl] at h1 h4 h5
 have hn:=Ut
 exact tail_any (typeIs_str s z t) slot_str_getitem.lookup (getItem_str (c:=c) (by
  have e1:decide (i < -(2 ^ 63:Int))=false:=decide_eq_false (10:)
  have e2:decide (i ≥ 2 ^ 63)=false:=decide_eq_false (10:)
  rw [e1,e2,Bool.or_false]) (by rw [h1];simpa using h2) ⟨.str ⟨#[c]⟩,H,I.tok _,⟨_,rfl⟩,q⟩) hs
theorem Vs (its:List Value) (n j:Nat) (u:Value):Obj.mapSeq (·.setIfInBounds j u) { cls:=.type "list", data:=.seq its.toArray n }={ cls:=.type "list", data:=.seq (its.set j u).toArray n }:=by
 simp [Obj.mapSeq]
theorem Inv.lst {pins:List (11:)} {σ:St} {H:Hp} {s:Shared} {p:Addr} {xs:List V} (I:Inv X pins σ H s) (h:H p=some (.lst xs)) :
 ∃ (its:List Value) (n:Nat),Vals xs its∧s.heap.get? p=some { cls:=.type "list", data:=.seq its.toArray n }∧xs.length≤sizeLine:=by
 obtain ⟨z,its,n,r,e⟩:=I.hok p _ h
 exact ⟨its,n,r,e,z⟩
theorem Inv.lstUpd {pins:List (11:)} {σ:St} {H:Hp} {s:Shared} {p:Addr} {xs ys:List V} {its its':List Value} {n n':Nat} {f:Obj→Obj} (I:Inv X pins σ H s) (h:H p=some (.lst xs))
 (ho:s.heap.get? p=some { cls:=.type "list", data:=.seq its.toArray n }) (hf:f { cls:=.type "list", data:=.seq its.toArray n }={ cls:=.type "list", data:=.seq its'.toArray n' }) (r:Vals ys its') (hz:ys.length≤sizeLine) (t:Nat) :
 Inv X pins σ (upd H p (.lst ys)) { s with heap:=s.heap.update p f,toks:=t }:=by
 have e:(s.heap.update p f).get? p=some { cls:=.type "list", data:=.seq its'.toArray n' }:=by
  rw [Heap.get?_update_self f ho (by rw [hf] <;> rfl),hf]
 refine I.write (x:=p) (e:=p) (by rw [h];trivial) (.inl rfl) (fun b u hb q=>(Heap.get?_update_other _ _ (Ne.symm hb)).trans q) ⟨_,e⟩ ?_
 exact ⟨hz,its',n',r,e⟩
def Rn:V→V→V→Hp→(Hp→Prop)→Prop:=fun o i v H Q=>∃ p xs k j,o=.ref p∧i=.int k∧H p=some (.lst xs)∧ixN xs.length k=some j∧Q (upd H p (.lst (xs.set j v)))
theorem Ma:R8 X Rn:=by
 intro pins s σ H o i v ov iv u Q I ro ri rv h
 obtain ⟨p,xs,k,j,rfl,rfl,hp,hj,q⟩:=h
 cases ro
 obtain ⟨t,rfl⟩:=ri
 obtain ⟨its,n,r,ho,hz⟩:=I.lst hp
 obtain ⟨h1,h2,h3,h4⟩:=VO hj
 have hl:=r.length
 have hn:=Ut
 have I':Inv X pins σ (upd H p (.lst (xs.set j v))) { s with heap:=s.heap.update p (Obj.mapSeq (·.setIfInBounds j u)) } :=
  I.lstUpd hp ho (Vs its n j u) (r.set rv j) (by rw [List.length_set];exact hz) s.toks
 by_cases h0:0≤k
 ·have hk:k.toNat=j:=by
   rw [seqIndex_of h0 h4] at h1
   exact Option.some.inj h1
  exact PySem.W.ki_setAt ho h0 (10:) (by rw [List.size_toArray,← hl];exact h4) (by rw [hk];exact ⟨_,I',q⟩)
 ·have hk:(k + (its.toArray.size:Int)).toNat=j:=by
   rw [seqIndex_neg (10:) h3] at h1
   rw [List.size_toArray,← hl]
   exact Option.some.inj h1
  exact PySem.W.ki_setBack ho (10:) (by rw [List.size_toArray,← hl];exact h3) (10:) (by rw [hk];exact ⟨_,I',q⟩)
theorem XF (lo hi:Option Int) (n:Nat):(sliceBounds lo hi none n).1=((HT.sIx n 0 lo:Nat):Int)∧(sliceBounds lo hi none n).2.1=((HT.sIx n n hi:Nat):Int)∧(sliceBounds lo hi none n).2.2=1:=by
 refine ⟨?_,?_,rfl⟩
 ·cases lo with
  | none=>simp [sliceBounds,HT.sIx]
  | some i =>
   simp only [sliceBounds,HT.sIx,Option.getD_none,show (1:Int) > 0 by decide,if_true]
   by_cases h:i < 0
   ·simp only [h,if_true] <;> lia
   ·simp only [h,if_false] <;> lia
 ·cases hi with
  | none=>simp [sliceBounds,HT.sIx]
  | some i =>
   simp only [sliceBounds,HT.sIx,Option.getD_none,show (1:Int) > 0 by decide,if_true]
   by_cases h:i < 0
   ·simp only [h,if_true] <;> lia
   ·simp only [h,if_false] <;> lia
theorem JJ (its:List Value) (lo hi:Option Int):slicePick its.toArray lo hi none=((its.drop (HT.sIx its.length 0 lo)).take (HT.sIx its.length its.length hi - HT.sIx its.length 0 lo)).toArray:=by
 obtain ⟨h1,h2,h3⟩:=XF lo hi its.toArray.size
 unfold slicePick
 rw [h1,h2,h3]
 simp only [sliceRange_one,pick_run,List.size_toArray] <;> rfl
def R7 (K:Fg):V→Option Int→Option Int→Hp→VK→Prop:=fun x lo hi H Q=>∃ a xs,x=.ref a∧SqL K H a xs∧∀ p,H p=none→Q (.ref p) (upd H p (.lst (cutV xs lo hi)))
theorem Gx:SlR X (R7 X.K):=by
 intro pins s σ H x v vl vu lo hi sl Q I rx hs pl pu h
 obtain ⟨a,xs,rfl,hx,q⟩:=h
 cases rx
 obtain ⟨its,r,ht,hz⟩:=I.list hx
 have hlen:=r.length
 refine ⟨"list", _,slot_list_getitem.lookup,ht.isList.typeIs,?_⟩
 refine wpAny_getItem_list_slice ht.isList hs pl pu .none (by simp) ?_ (by rw [List.size_toArray] <;> lia)
 rw [JJ,← hlen]
 refine ⟨.ref s.heap.objs.size,_,I.laid (t':=s.toks) (o:=.lst (cutV xs lo hi)) (fun b ob q=>Heap.get?_push_of_some _ q) (8:) ?_,rfl,q _ (I.hok.fresh (8:))⟩
 exact ⟨Nat.le_trans (UF xs lo hi) hz,_,0,(r.drop (HT.sIx xs.length 0 lo)).take (HT.sIx xs.length xs.length hi - HT.sIx xs.length 0 lo),Heap.get?_push_size _ rfl⟩
def UG:V→Bool
 | .non=>true
 | .bl _=>true
 | .int _=>true
 | .str _=>true
 | _=>false
def eqV:V→V→Bool
 | .non,.non=>true
 | .bl a,.bl b=>a == b
 | .bl a,.int b=>(if a then 1 else 0) == b
 | .int a,.bl b=>a == (if b then 1 else 0)
 | .int a,.int b=>a == b
 | .str a,.str b=>a == b
 | _,_=>false
theorem PN {A:Around} {s:Shared} {y x:V} {u v:Value} (ry:RelV y u) (rx:RelV x v) (fy:UG y=true) (fx:UG x=true):SeqAt.EqAt A s u v (eqV y x):=by
 cases y with
 | non =>
  cases ry
  cases x with
  | non=>cases rx;exact SeqAt.EqAt.same _
  | bl b=>cases rx;exact SeqAt.EqAt.none_bool b
  | int b=>obtain ⟨t,rfl⟩:=rx;exact SeqAt.EqAt.none_int b t
  | str b=>obtain ⟨t,rfl⟩:=rx;exact SeqAt.EqAt.none_str b t
  | _=>exact absurd (show false=true from fx) Bool.false_ne_true
 | bl a =>
  cases ry
  cases x with
  | non=>cases rx;exact SeqAt.EqAt.bool_none a
  | bl b=>cases rx;exact SeqAt.EqAt.bool_bool a b
  | int b=>obtain ⟨t,rfl⟩:=rx;exact SeqAt.EqAt.bool_int a b t
  | str b=>obtain ⟨t,rfl⟩:=rx;exact SeqAt.EqAt.bool_str a b t
  | _=>exact absurd (show false=true from fx) Bool.false_ne_true
 | int a =>
  obtain ⟨t',rfl⟩:=ry
  cases x with
  | non=>cases rx;exact SeqAt.EqAt.int_none a t'
  | bl b=>cases rx;exact SeqAt.EqAt.int_bool a t' b
  | int b=>obtain ⟨t,rfl⟩:=rx;exact SeqAt.EqAt.int_int a t' b t
  | str b=>obtain ⟨t,rfl⟩:=rx;exact SeqAt.EqAt.int_str a t' b t
  | _=>exact absurd (show false=true from fx) Bool.false_ne_true
 | str a =>
  obtain ⟨t',rfl⟩:=ry
  cases x with
  | non=>cases rx;exact SeqAt.EqAt.str_none a t'
  | bl b=>cases rx;exact SeqAt.EqAt.str_bool a t' b
  | int b=>obtain ⟨t,rfl⟩:=rx;exact SeqAt.EqAt.str_int a t' b t
  | str b=>obtain ⟨t,rfl⟩:=rx;exact SeqAt.EqAt.str_str a t' b t
  | _=>exact absurd (show false=true from fx) Bool.false_ne_true
 | _=>exact absurd (show false=true from fy) Bool.false_ne_true
def eqU (x:V) (u:Value):Bool:=match u with
 | .none=>eqV .non x
 | .bool b=>eqV (.bl b) x
 | .int i _=>eqV (.int i) x
 | .str z _=>eqV (.str z) x
 | _=>false
theorem L8 {x y:V} {u:Value} (r:RelV y u) (f:UG y=true):eqU x u=eqV y x:=by
 cases y with
 | non=>cases r;rfl
 | bl b=>cases r;rfl
 | int i=>obtain ⟨t,rfl⟩:=r;rfl
 | str z=>obtain ⟨t,rfl⟩:=r;rfl
 | _=>exact absurd (show false=true from f) Bool.false_ne_true
theorem XV {x:V}:∀ {xs:List V} {us:List Value},Vals xs us→xs.all UG=true→us.any (eqU x)=xs.any fun y=>eqV y x
 | _,_,.nil,_=>rfl
 | y :: xs,u :: us,.cons r t,f=>by
  rw [List.all_cons,Bool.and_eq_true] at f
  rw [List.any_cons,List.any_cons,L8 r f.1,XV t f.2]
theorem U8 {A:Around} {s:Shared} {x:V} {v:Value} (rx:RelV x v) (fx:UG x=true):∀ {xs:List V} {us:List Value},Vals xs us→xs.all UG=true→∀ u ∈ us,SeqAt.EqAt A s u v (eqU x u)
 | _,_,.nil,_=>fun u hu=>by cases hu
 | y :: xs,u :: us,.cons r t,f=>fun u' hu=>by
  rw [List.all_cons,Bool.and_eq_true] at f
  rcases List.mem_cons.mp hu with rfl | hu
  ·rw [L8 r f.1];exact PN r rx f.1 fx
  ·exact U8 rx fx t f.2 u' hu
def inV (x:V) (xs:List V):Bool:=xs.any fun y=>eqV y x
def rIn (K:Fg) (neg:Bool):R2:=fun x y H Q=>∃ p xs,y=.ref p∧(SqL K H p xs∨SqT K H p xs)∧UG x=true∧xs.all UG=true∧Q (.bl (if neg then !inV x xs else inV x xs)) H
theorem XQ:OpR X (compareOp .NotIn) (rIn X.K true):=by
 intro pins s σ H x y v u Q I rx ry h
 obtain ⟨p,xs,rfl,hq,fx,fs,q⟩:=h
 cases ry
 rcases hq with hq | hq
 ·obtain ⟨its,r,pl,hz⟩:=I.list hq
  refine SeqAt.notIn_listAt (eqU x) pl.isList (fun w hw=>U8 rx fx r fs w (by simpa using hw)) ⟨.bl _,H,I,rfl,?_⟩
  rw [show its.toArray.any (eqU x)=its.any (eqU x) by simp,XV r fs]
  exact q
 ·obtain ⟨its,r,pl,hz⟩:=I.tuple hq
  refine SeqAt.notIn_tupleAt (eqU x) pl (fun w hw=>U8 rx fx r fs w (by simpa using hw)) ⟨.bl _,H,I,rfl,?_⟩
  rw [show its.toArray.any (eqU x)=its.any (eqU x) by simp,XV r fs]
  exact q
theorem QI:Zv X (.builtin "len") (fun xs H Q=>∃ p ys,xs=[.ref p]∧(SqL X.K H p ys∨SqT X.K H p ys)∧Q (.int ys.length) H):=by
 intro pins s σ H xs us Q I r h
 obtain ⟨p,ys,rfl,hq,q⟩:=h
 obtain ⟨u,rfl,rx⟩:=Xj r
 cases rx
 have hn:=Ut
 rcases hq with hq | hq
 ·obtain ⟨its,r',pl,hz⟩:=I.list hq
  have hlen:=r'.length
  exact Calls.call_len_list pl.isList (by simp only [List.size_toArray] <;> lia) ⟨.int ys.length,H,I.tok _,⟨s.toks + 1,by rw [List.size_toArray,hlen]⟩,q⟩
 ·obtain ⟨its,r',pl,hz⟩:=I.tuple hq
  have hlen:=r'.length
  exact len_tuple pl (by simp only [List.size_toArray] <;> lia) ⟨.int ys.length,H,I.tok _,⟨s.toks + 1,by rw [List.size_toArray,hlen]⟩,q⟩
theorem XU:Zv X (.type "list") (fun xs H Q=>∃ p ys,xs=[.ref p]∧(SqL X.K H p ys∨SqT X.K H p ys)∧∀ l,H l=none→Q (.ref l) (upd H l (.lst ys))):=by
 intro pins s σ H xs us Q I r h
 obtain ⟨p,ys,rfl,hq,q⟩:=h
 obtain ⟨u,rfl,rx⟩:=Xj r
 cases rx
 have fin:∀ (its:List Value),Vals ys its→ys.length≤sizeLine→∀ (h':Heap) (c':Nat),(∀ b o',s.heap.get? b=some o'→h'.get? b=some o') →
  h'.get? s.heap.objs.size=some { cls:=.type "list", dict:=none,data:=.seq its.toArray c',slots:=#[] }→EP X pins σ Q (.ref s.heap.objs.size) { s with heap:=h' }:=fun its r' hz h' c' kp e =>
  ⟨.ref s.heap.objs.size,_,I.laid (t':=s.toks) kp (8:) (show ObjOk X.prog X.w _ h' _ (.lst ys) from ⟨hz,its,c',r',e⟩),rfl,q _ (I.hok.fresh (8:))⟩
 rcases hq with hq | hq
 ·obtain ⟨its,r',pl,hz⟩:=I.list hq
  have hlen:=r'.length
  obtain ⟨o,ho,hc,n,hd⟩:=pl.isList
  exact call_list_seq p (.inl rfl) ho hc hd (fun h' c' kp e=>fin its r' hz h' c' kp e) (by simp only [List.size_toArray] <;> lia)
 ·obtain ⟨its,r',pl,hz⟩:=I.tuple hq
  have hlen:=r'.length
  obtain ⟨o,ho,hc,n,hd⟩:=pl
  exact call_list_seq p (.inr rfl) ho hc hd (fun h' c' kp e=>fin its r' hz h' c' kp e) (by simp only [List.size_toArray] <;> lia)
theorem Q2:Zv X (.type "tuple") (fun xs H Q=>∃ p ys,xs=[.ref p]∧((SqL X.K H p ys∧∀ l,H l=none→Q (.ref l) (upd H l (.tup ys)))∨(SqT X.K H p ys∧Q (.ref p) H))):=by
 intro pins s σ H xs us Q I r h
 obtain ⟨p,ys,rfl,h⟩:=h
 obtain ⟨u,rfl,rx⟩:=Xj r
 cases rx
 rcases h with ⟨hq,q⟩ | ⟨hq,q⟩
 ·obtain ⟨its,r',pl,hz⟩:=I.list hq
  have hlen:=r'.length
  refine call_tuple_list pl.isList (fun h' kp=>?_) (by simp only [List.size_toArray] <;> lia)
  have I1:Inv X pins σ H { s with heap:=h' }:=I.kept (t':=s.toks) kp
  have I2:Inv X pins σ (upd H h'.objs.size (.tup ys)) { s with heap:=h'.push { cls:=.type "tuple", data:=.seq its.toArray } } :=
   I1.laid (t':=s.toks) (fun b o e=>Heap.get?_push_of_some _ e) (8:) (show ObjOk X.prog X.w _ _ _ (.tup ys) from ⟨hz,its,r',IsTup.new _ _⟩)
  exact ⟨.ref h'.objs.size,_,I2,rfl,q _ (I1.hok.fresh (8:))⟩
 ·obtain ⟨its,r',pl,hz⟩:=I.tuple hq
  exact call_tuple_same pl ⟨.ref p,H,I,rfl,q⟩
def tyV (K:Fg) (T:String) (x:V) (H:Hp):Prop:=match x with
 | .str _=>T = "str"
 | .int _=>T = "int"
 | .ref p=>(T = "list" ∧ ∃ xs,SqL K H p xs)∨(T = "tuple" ∧ ∃ o,K.lookup p=some o∧o.cls=.type "tuple" ∧ o.dict=none) ∨
  (T = "dict" ∧ ((∃ kvs,H p=some (.dK kvs))∨∃ kvs,H p=some (.dT kvs)))∨(T = "set" ∧ ∃ S n,H p=some (.set S n))
 | _=>False
theorem OX {pins:List (11:)} {σ:St} {H:Hp} {s:Shared} {T:String} {x:V} {v:Value} (I:Inv X pins σ H s) (r:RelV x v) (ty:tyV X.K T x H) :
 s.TypeIs v T∧∀ a,v=.ref a→∃ ob,s.heap.get? a=some ob∧ob.dict=none:=by
 cases x with
 | str z =>
  obtain ⟨t,rfl⟩:=r
  cases (show T = "str" from ty)
  exact ⟨typeIs_str s z t,fun _ e=>nomatch e⟩
 | int i =>
  obtain ⟨t,rfl⟩:=r
  cases (show T = "int" from ty)
  exact ⟨typeIs_int s i t,fun _ e=>nomatch e⟩
 | ref p =>
  cases r
  rcases ty with ⟨rfl,xs,hq⟩ | ⟨rfl,o,hk,hc,hd⟩ | ⟨rfl,hk⟩ | ⟨rfl,S,n,hk⟩
  ·obtain ⟨its,_,pl,_⟩:=I.list hq
   refine ⟨pl.isList.typeIs,fun a e=>?_⟩
   cases e
   obtain ⟨o,n,e,c,hd,_⟩:=pl
   exact ⟨o,e,hd⟩
  ·refine ⟨⟨o,I.kIn p o hk,hc⟩,fun a e=>?_⟩
   cases e
   exact ⟨o,I.kIn _ o hk,hd⟩
  ·have z:∃ o,s.heap.get? p=some o∧o.ExactDict:=by
    rcases hk with ⟨kvs,hk⟩ | ⟨kvs,hk⟩
    ·obtain ⟨_,_,_,_,o,_,_,e,ex,_⟩:=I.hok p _ hk
     exact ⟨o,e,ex⟩
    ·obtain ⟨_,_,_,_,o,_,_,e,ex,_⟩:=I.hok p _ hk
     exact ⟨o,e,ex⟩
   obtain ⟨o,e,ex⟩:=z
   refine ⟨⟨o,e,ex.1⟩,fun a e2=>?_⟩
   cases e2
   exact ⟨o,e,ex.2.1⟩
  ·obtain ⟨o,_,_,_,e,ex,_⟩:=I.hok p _ hk
   refine ⟨⟨o,e,ex.1⟩,fun a e2=>?_⟩
   cases e2
   exact ⟨o,e,ex.2.1⟩
 | _=>exact False.elim ty
def tBM (K:Fg) (T:String) (r:V→List V→Hp→VK→Prop) (to:TE) (t:TA):TE:=fun σ H Q=>to σ H fun x H1=>tyV K T x H1∧t σ H1 fun xs H2=>r x xs H2 Q
variable {o e:Expr} {es:List Expr} {to:TE} {t:TA} {name:Str} {apos cpos:Pos} {T id:String} {r:V→List V→Hp→VK→Prop}
theorem Jw (pa:PlainAttrs T) (slot:Slot T name id) (hty:typeOf (.builtin id)=pure (.type "method_descriptor")) (hm:MtR X id r) (ho:PE X o to) (ha:PA X (e :: es) t)
 (hbase:attributeBase o name X.env (eval o X.env)=eval o X.env:=by rfl)
 (hfew:((backTo cpos (starEach (e :: es) X.env)).all (fun x=>!x.1) && (backToKw cpos (keywordEach [] X.env)).all (fun x=>x.1.isSome)
  && decide ((e :: es).length + ([]:List Keyword).length + (if ([]:List Keyword).isEmpty then 0 else 1) < 30))=true:=by rfl)
 (hline:(apos.endLine == cpos.line)=true:=by rfl) (hs:starEach (e :: es) X.env=(false,eval e X.env) :: starEach es X.env:=by rfl) (hplain:(backTo cpos (starEach es X.env)).any (·.1)=false:=by rfl) :
 PE X (.Call (.Attribute o name apos) (e :: es) [] cpos) (tBM X.K T r to t):=by
 intro pins s σ H Q I h
 refine wpAny_Call_method_late hbase hfew hline rfl (thn (ho pins s σ H _ I h) fun v s1 ⟨x,H1,I1,r1,ty,q1⟩=>?_)
 obtain ⟨h1,h2⟩:=OX I1 r1 ty
 refine ⟨T,id,pa,slot,hty,h1,h2,?_⟩
 have hA:=ha cpos pins s1 σ H1 _ I1 q1
 rw [hs] at hA ⊢
 refine Calls.callWith_builtin (by show (false || (backTo cpos (starEach es X.env)).any (·.1))=false;rw [hplain] <;> rfl) (Calls.evalArgs_plain ?_)
 exact thn hA fun us s2 ⟨vs,H2,I2,r2,q2⟩=>hm pins s2 σ H2 x vs v us Q I2 r1 r2 q2
/- xs.append(e),list.index on a module's tuple .. are MtR facts of 06m -/
end
end L2
namespace L2
open PySem PySem.Spec PyProof.Rows
def MtM (X:Cx) (id:String) (r:V→List V→Hp→VK→Prop):Prop :=
 ∀ (pins:List (11:)) (s:Shared) (σ:St) (H:Hp) (x:V) (xs:List V) (v:Value) (us:List Value) (Q:VK),Inv X pins σ H s→RelV x v→Vals xs us→r x xs H Q →
  wpAny (5:) X.A (call (.builtin id) (v :: us)) (EP X pins σ Q) X.xe s
theorem Vals.one:∀ {x:V} {us:List Value},Vals [x] us→∃ u,us=[u]∧RelV x u
 | _,_,.cons r .nil=>⟨_,rfl,r⟩
theorem Vals.two:∀ {x y:V} {us:List Value},Vals [x,y] us→∃ u v,us=[u,v]∧RelV x u∧RelV y v
 | _,_,_,.cons r (.cons q .nil)=>⟨_,_,rfl,r,q⟩
section
variable {X:Cx} {pins:List (11:)} {σ:St} {H:Hp} {s:Shared} {l b:Addr} {xs ys zs:List V}
theorem Inv.lset {its its':List Value} {n:Nat} {f:Array Value→Array Value} {t':Nat} (I:Inv X pins σ H s) (hH:H l=some (.lst xs))
 (e:s.heap.get? l=some { cls:=.type "list", data:=.seq its.toArray n }) (hf:f its.toArray=its'.toArray) (hv:Vals ys its') (hz:ys.length≤sizeLine) :
 Inv X pins σ (upd H l (.lst ys)) { s with heap:=s.heap.update l (Obj.mapSeq f),toks:=t' }:=by
 have q:=PySem.IsL.update e f
 rw [hf] at q
 refine I.write (x:=l) (e:=l) (by rw [hH];exact trivial) (.inl rfl) (fun b' u hb hu=>(Heap.get?_update_other s.heap (Obj.mapSeq f) (Ne.symm hb)).trans hu) ⟨_,q⟩ ?_
 exact ⟨hz,its',_,hv,q⟩
theorem Inv.lnew {its:List Value} {t':Nat} (I:Inv X pins σ H s) (hv:Vals ys its) (hz:ys.length≤sizeLine) :
 Inv X pins σ (upd H s.heap.objs.size (.lst ys)) { s with heap:=s.heap.push { cls:=.type "list", data:=.seq its.toArray },toks:=t' } :=
 I.laid (fun _ _ q=>Heap.get?_push_of_some _ q) (8:) ⟨hz,its,0,hv,Heap.get?_push_size _ rfl⟩
theorem Inv.fresh (I:Inv X pins σ H s):H s.heap.objs.size=none:=I.hok.fresh (8:)
theorem Inv.lstM (I:Inv X pins σ H s) (hH:H l=some (.lst xs)):xs.length≤sizeLine∧∃ (its:List Value) (n:Nat),Vals xs its∧xs.length=its.length∧s.heap.get? l=some { cls:=.type "list", data:=.seq its.toArray n }:=by
 obtain ⟨z,its,n,r,e⟩:=I.hok l _ hH
 exact ⟨z,its,n,r,r.length,e⟩
theorem L9 {n:Nat} (h:n≤sizeLine):Builtin.List.listTooLong n=false:=by
 unfold Builtin.List.listTooLong
 exact decide_eq_false (10:)
end
section
variable {X:Cx}
def Ot:V→List V→Hp→VK→Prop:=fun x vs H Q=>∃ l xs y,x=.ref l∧vs=[y]∧H l=some (.lst xs)∧xs.length < sizeLine∧Q .non (upd H l (.lst (xs ++ [y])))
theorem Zz:MtM X "list.append" Ot:=by
 intro pins s σ H x vs v us Q I rx rv h
 obtain ⟨l,xs,y,rfl,rfl,hH,hz,q⟩:=h
 cases rx
 obtain ⟨u,rfl,ru⟩:=rv.one
 obtain ⟨z,its,n,r,hl,e⟩:=I.lstM hH
 refine call_meets F.slot_list_append ⟨_,e,rfl⟩ F.entry_list_append (F.args_list_append_2 _ _) (PySem.list_append l its.toArray n u (by rw [List.size_toArray];lia)) ⟨e,?_⟩
 refine ⟨.non,_,I.lset (its':=its ++ [u]) hH e (by simp) (r.append (.cons ru .nil)) ?_,rfl,q⟩
 rw [List.length_append,List.length_singleton]
 lia
def NE:V→List V→Hp→VK→Prop:=fun x vs H Q=>∃ l b xs zs,x=.ref l∧vs=[.ref b]∧H l=some (.lst xs)∧H b=some (.lst zs)∧xs.length + zs.length≤sizeLine∧Q .non (upd H l (.lst (xs ++ zs)))
theorem Gz:MtM X "list.extend" NE:=by
 intro pins s σ H x vs v us Q I rx rv h
 obtain ⟨l,b,xs,zs,rfl,rfl,hH,hB,hz,q⟩:=h
 cases rx
 obtain ⟨u,rfl,ru⟩:=rv.one
 cases ru
 obtain ⟨z,its,n,r,hl,e⟩:=I.lstM hH
 obtain ⟨z2,its2,n2,r2,hl2,e2⟩:=I.lstM hB
 have hsz:its.toArray.size + its2.toArray.size≤sizeLine:=by rw [List.size_toArray,List.size_toArray];lia
 have hlong:¬ (!its.toArray.isEmpty && Builtin.List.listTooLong (its.toArray.size + its2.toArray.size))=true:=by
  rw [L9 hsz,Bool.and_false]
  exact Bool.false_ne_true
 refine call_meets F.slot_list_extend ⟨_,e,rfl⟩ F.entry_list_extend (F.args_list_extend_2 _ _)
  (AutoSeq1.list_extend_list_list_0 l its.toArray n b its2.toArray n2 hlong (by rw [List.size_toArray];lia) (10:)) ⟨e,e2,?_⟩
 refine ⟨.non,_,I.lset (its':=its ++ its2) hH e (by simp) (r.append r2) ?_,rfl,q⟩
 rw [List.length_append]
 lia
end
section
variable {prog:Program} {w:World} {A:Around} {E:Value→Shared→Prop} {s:Shared}
set_option maxRecDepth 100000 in
end
section
variable {X:Cx}
end
end L2
namespace Att
open PySem PySem.W PySem.Calls PyProof.Rows
theorem UQ {P:Params} {h:Heap}:∀ (ns:List Int) (vs:List Value),WellAll P h vs (ns.map WData.int)→IntsAre vs ns:=by
 intro ns
 induction ns with
 | nil =>
  intro vs w
  rw [List.map_nil] at w
  cases w
  exact .nil
 | cons n ns ih =>
  intro vs w
  rw [List.map_cons] at w
  cases w with
  | cons a b =>
   cases a
   exact .cons _ _ (ih _ b)
theorem GU {l:OpenLaw} {n:Nat} (hn:l.most=some n) {P:Params} {h:Heap} {args:List WData} {vals:List Value}
 (hpre:l.row.toRowW.claim.pre args=true) (hwl:WellAll P h vals args) :
 ∃ a vs ns,vals=[Value.ref a]∧args=[WData.list (ns.map WData.int)]∧h.get? a=some { cls:=.type "list", data:=.seq vs.toArray }∧IntsAre vs ns∧ns.length≤n:=by
 have hsh:WShape.hasAll [] args [.list .int]=true:=(pre_splitW hpre).1
 have hc:l.pre.holds [] { args:=args }=true:=(pre_splitW hpre).2
 obtain ⟨d,r,rfl,h1,h2⟩:=hasAllW_cons hsh
 obtain rfl:=hasAllW_nil h2
 obtain ⟨xs,rfl,h3⟩:=hasW_list h1
 obtain ⟨ns,rfl⟩:=items_int h3
 have hlen:ns.length≤n:=by
  unfold OpenLaw.pre at hc
  have h4:(WTm.not (.lt (.lit (.int (n:Int))) (.len (.arg 0)))).holds [] { args:=[.list (ns.map .int)] }=true:=by
   have h4:=(holds_andW hc).1
   rw [hn] at h4
   exact h4
  have h5:=condW_of h4 (w_not (w_lt w_lit (w_len_list (w_arg rfl))))
  rw [List.length_map] at h5
  refine Nat.le_of_not_lt fun q=>?_
  have q':(n:Int) < ((ns.length:Nat):Int):=by lia
  first
   | (rw [decide_eq_true q'] at h5;exact absurd h5 (by decide))
   | (simp at h5;lia)
 cases hwl with
 | cons w1 w2 =>
  cases w2
  cases w1 with
  | list ho hall=>exact ⟨_,_,ns,rfl,rfl,ho,UQ ns _ hall,hlen⟩
theorem GJ (l:OpenLaw) (args:List WData):l.row.toRowW.claim.post args (.bool true) args=true :=
 postW_of (r:=l.row.toRowW) (X:=(true == true))
  (show WShape.has [] (.bool true) .bool=true by first | rfl | decide | simp [WShape.has,WShape.arms,WShape.armsAll])
  (show (WTm.eq .res (.lit (.bool true))).value [] { args:=args,res:=some (.bool true),after:=args }=some (.bool (true == true)) from w_eq_bool (w_res rfl) w_lit) rfl
theorem attach_call {l:OpenLaw} {n:Nat} {q:Program} {loose:List Str} {XP:(Str→Option Value)→Heap→Prop} {YP:World→Heap→Prop} {d:DefRec}
 (hn:l.most=some n) (hdf:d.params.defaults=[])
 (call:∀ (w:World) (s₀ s₁:Shared) (mg mb:Str→Option Value) (fa:Addr) (o:Obj) (pm cd doc:Value) (a:Addr) (vs:List Value) (ns:List Int),Ground q loose [] XP w s₀ mg mb s₁.heap→YP w s₁.heap →
  s₁.heap.get? fa=some o→o.data=.func (docDef d.name d.params d.body d.scope pm cd doc)→s₁.heap.CodeRec cd d.name→mg d.name=some (.ref fa) →
  s₁.heap.get? a=some { cls:=.type "list", data:=.seq vs.toArray }→IntsAre vs ns→ns.length≤n→s₁.gens=#[] →
  codeAny (model l.prog w) callerA (.call (.ref fa) ⟨[.ref a],[]⟩) (fun r s'=>r=.ok (.ret (.bool true))∧OldK s₁.heap s'.heap∧s'.os=s₁.os∧AllBare s'.gens) s₁) :
 WalkO q loose XP YP l.row.toRowW d [] (fun f vs=>PySem.call f vs):=by
 intro w s₀ s₁ mg mb G Y fa o pm cd doc dV kV ho hd hcd hD hmg hg args vals as hpre hlay hrd hwl hlo
 obtain rfl:dV=.none:=Dflts.none hD hdf
 obtain rfl:kV=.none:=Dflts.noKw hD
 obtain ⟨a,vs,ns,rfl,rfl,hobj,hints,hlen⟩:=GU hn hpre hwl
 refine enter_call (codeAny_mono (call w s₀ s₁ mg mb fa o pm cd doc a vs ns G Y ho (fd_plain hd) hcd hmg hobj hints hlen hg) fun r s' hq=>?_)
 obtain ⟨rfl,h2,h3,h4⟩:=hq
 exact ⟨.inl ⟨.bool true,.bool true,[],rfl,fun _=>rfl,.bool true,GJ l _,fun _=>⟨List.Pairwise.nil,fun _ hm=>(nomatch hm)⟩⟩,h2,h3,h4⟩
section
variable {prog:Program} {w:World} {A:Around} {E:Value→Shared→Prop} {s:Shared} {K:Frag}
def SX (h:Heap) (L d:Addr):List (11:):=(List.range h.objs.size).filterMap fun a=>if a=L∨a=d then none else (h.get? a).map fun o=>(a,o)
end
end Att
namespace L2
open PySem PySem.Spec PyProof.Rows
theorem Uq:∀ {vs:List Value} {ns:List Int},IntsAre vs ns→Vals (ns.map V.int) vs
 | _,_,.nil=>.nil
 | _,_,.cons n t h=>.cons ⟨t,rfl⟩ (Uq h)
def O0 (H:Hp):Prop:=∀ b,H b=none∨∃ o xs,H b=some (.frz o (.lst xs))
theorem Mh {P:Program} {w:World} {K:Fg} {mg mb:Str→Option Value} {CX:CXT} {k:Nat} {fa a:Addr} {fd:FuncData} {x:Str} {sp:Sp} {s₁:Shared} {vs:List Value} {ns:List Int}
 (KX:K.In s₁.heap) (hns:s₁.heap.Ns mainGlobals mg) (hb:s₁.heap.Ns builtinsNs mb) (hbb:∀ x:Str,x ≠ "__name__" → mb x=bootBuiltins x) (hlim:s₁.heap.NoLimit) (hg:s₁.gens=#[])
 (ha:s₁.heap.get? a=some { cls:=.type "list", data:=.seq vs.toArray }) (hi:IntsAre vs ns) (hl:ns.length≤sizeLine) (hr:Room k callerA)
 (F:∀ base:Heap,K.In base→base.Ns mainGlobals mg→FnOk P w K mg base CX k fa fd [x] sp) (hbind:∀ (s:Shared) (u:Value),BindsTo s fd ⟨[u],[]⟩ [(x,u)])
 (hsp:∀ H:Hp,O0 H→SqL K H a (ns.map V.int)→sp [.ref a] H (fun v _=>v=.bl true) fun _ _ _=>False)
 (hCX:∀ H e s',CX [] H s₁ (fun _ _ _=>False) e s'→False) :
 codeAny (model P w) callerA (.call (.ref fa) ⟨[.ref a],[]⟩) (fun r s'=>r=.ok (.ret (.bool true))∧OldK s₁.heap s'.heap∧s'.os=s₁.os∧AllBare s'.gens) s₁:=by
 have rv:=Uq hi
 have lenV:=hi.length
 have core:∀ H:Hp,O0 H→SqL K H a (ns.map V.int)→HOk P w H s₁.heap→(∀ b,H b≠none→b=a)→(H a≠none→K.lookup a=none) →
  codeAny (model P w) callerA (.call (.ref fa) ⟨[.ref a],[]⟩) (fun r s'=>r=.ok (.ret (.bool true))∧OldK s₁.heap s'.heap∧s'.os=s₁.os∧AllBare s'.gens) s₁:=by
  intro H hO hS hok hA hK
  have base_of:∀ {b:Addr} {o:Obj},s₁.heap.get? b=some o→H b=none→(YO s₁.heap H).get? b=some o:=fun e n=>WU e n
  have noA:∀ {b:Addr} {o:Obj} {es:Array DictEntry} {ep:Nat},s₁.heap.get? b=some o→o.data=.dict es ep→H b=none:=fun {b o es ep} e d=>by
   cases q:H b with
   | none=>rfl
   | some u =>
    have e':b=a:=hA b (by rw [q];simp)
    subst e'
    rw [ha] at e;cases e
    have d':Data.seq vs.toArray _=Data.dict es ep:=d
    cases d'
  have nsK:∀ {b:Addr} {m:Str→Option Value},s₁.heap.Ns b m→(YO s₁.heap H).Ns b m:=fun {b m} ⟨o,es,ep,e,d,r⟩=>⟨o,es,ep,base_of e (noA e d),d,r⟩
  have hKb:K.In (YO s₁.heap H):=fun b o e=>base_of (KX b o e) (by
   cases q:H b with
   | none=>rfl
   | some u =>
    have e':b=a:=hA b (by rw [q];simp)
    subst e'
    rw [hK (by rw [q];simp)] at e;cases e)
  have hM:Mod K mg (YO s₁.heap H):=⟨hKb,nsK hns,⟨mb,nsK hb,hbb⟩,let ⟨mc,h1,h2⟩:=hlim;⟨mc,nsK h1,h2⟩⟩
  have e0:Env0 P w K mg (YO s₁.heap H) callerA [] s₁ H:=⟨rfl,hM,fun b o e=>VN e,Nat.le_of_eq (JX _ _),trivial,fun b hb=>absurd (show b ∈ ([]:List Addr) from hb) (by simp),hok,.of_eq hg⟩
  refine codeAny_mono ((F _ hKb (nsK hns)).run callerA [] s₁ H ⟨[.ref a],[]⟩ [.ref a] [.ref a] _ _ hr e0 (hbind s₁ (.ref a)) (.cons rfl .nil) (hsp H hO hS)) fun r s' h=>?_
  cases r with
  | error e=>exact (hCX H e s' h).elim
  | ok fl =>
   cases fl with
   | next=>exact False.elim h
   | brk=>exact False.elim h
   | cont=>exact False.elim h
   | ret u =>
    obtain ⟨v,H',os,bare,un,hok',r',q⟩:=h
    have q':v=.bl true:=q
    subst q'
    obtain rfl:u=Value.bool true:=r'
    refine ⟨rfl,OldK.of_keep fun b o e=>?_,os,bare⟩
    cases q:H b with
    | none=>exact un.keep b o e q (by intro z;exact absurd (show b ∈ ([]:List Addr) from z) (by simp)) (by simp)
    | some u =>
     rcases hO b with z | ⟨ob,xs,z⟩
     ·rw [q] at z;cases z
     ·have z2:=un.frzs b ob _ z
      obtain ⟨e1,_⟩:=hok b _ z
      obtain ⟨e2,_⟩:=hok' b _ z2
      rw [e] at e1;cases e1
      exact e2
 cases hk:K.lookup a with
 | some o =>
  have e:=KX a o hk
  rw [ha] at e
  cases e
  refine core (fun _=>none) (fun _=>.inl rfl) (.inr ⟨_,vs.toArray,_,hk,rfl,rfl,rfl,by rw [List.size_toArray,lenV];exact hl,by simpa using rv⟩) (fun b u z=>by have z':(none:Option HO)=some u:=z;cases z') (fun b z=>absurd rfl z) fun z=>absurd rfl z
 | none =>
  refine core (fun b=>if b=a then some (.frz { cls:=.type "list", data:=.seq vs.toArray } (.lst (ns.map V.int))) else none) (fun b=>?_) (.inl (.inr ⟨{ cls:=.type "list", data:=.seq vs.toArray },if_pos rfl⟩)) (fun b u z=>?_) (fun b z=>?_) fun _=>hk
  ·by_cases hb:b=a
   ·exact .inr ⟨_,_,if_pos hb⟩
   ·exact .inl (if_neg hb)
  ·by_cases hb:b=a
   ·have z':=(if_pos hb).symm.trans z
    cases z'
    subst hb
    exact ⟨ha,by rw [List.length_map];exact hl,vs,_,rv,ha⟩
   ·have z':=(if_neg hb).symm.trans z
    cases z'
  ·by_cases hb:b=a
   ·exact hb
   ·exact absurd (if_neg hb) z
end L2
namespace L2
open PySem PySem.Spec PyProof.Rows
abbrev KOf {K:Fg} {h:Heap} (_:K.In h):Fg:=K
theorem walk_of {l:PySem.W.OpenLaw} {n k:Nat} {q:Program} {loose:List Str} {XP:(Str→Option Value)→Heap→Prop} {YP:World→Heap→Prop} {d:DefRec} {K:Params→Fg} {CX:World→CXT} {sp:World→Sp} {x:Str}
 (hn:l.most=some n) (hn2:n≤sizeLine) (hdf:d.params.defaults=[]) (hr:Room k callerA)
 (hY:∀ (w:World) (h:Heap),YP w h→(K w.params).In h)
 (F:∀ (w:World) (mg:Str→Option Value) (fa:Addr) (h:Heap),(K w.params).In h→h.Ns mainGlobals mg→mg d.name=some (.ref fa) →
  ∃ fd:FuncData,(∀ (s:Shared) (u:Value),BindsTo s fd ⟨[u],[]⟩ [(x,u)]) ∧
   ∀ base:Heap,(K w.params).In base→base.Ns mainGlobals mg→FnOk l.prog w (K w.params) mg base (CX w) k fa fd [x] (sp w))
 (hsp:∀ (w:World) (H:Hp) (a:Addr) (ns:List Int),ns.length≤n→O0 H→SqL (K w.params) H a (ns.map V.int)→sp w [.ref a] H (fun v _=>v=.bl true) fun _ _ _=>False)
 (hCX:∀ (w:World) (H:Hp) (s:Shared) (e:Value) (s':Shared),CX w [] H s (fun _ _ _=>False) e s'→False) :
 PySem.W.WalkO q loose XP YP l.row.toRowW d [] (fun f vs=>PySem.call f vs):=by
 refine Att.attach_call hn hdf fun w s₀ s₁ mg mb fa o pm cd doc a vs ns G Y ho hd hcd hmg hobj hints hlen hg=>?_
 have KX:=hY w _ Y
 obtain ⟨fd,hb,hF⟩:=F w mg fa _ KX G.T.g hmg
 exact Mh KX G.T.g G.T.b G.T.builtins G.T.nolimit hg hobj hints (Nat.le_trans hlen hn2) hr hF hb (fun H hO hS=>hsp w H a ns hlen hO hS) fun H e s'=>hCX w H s₁ e s'
end L2
/- THE LAST THEOREM (shape;LID,My.* are yours):
 My.Adr: a structure of the addresses that your layer names (classes,functions);My.Txt K t: a structure (Prop) of the equations over K;
 My.txt_mk:{K} {implicit addresses ..} (e1:nsIn K mainGlobals "law" = some (some (.ref f))) (e2:K.lookup f=some ⟨oc,od,.func (fnOf "law" "law" params body scope dV kV doc pm an cdv ct),sl⟩) (e3:codeIn K cdv "law" = true) .. : ∃ t,My.Txt K t
set_option maxRecDepth 100000 in
set_option maxHeartbeats 0 in
theorem PySem.Challenge.cw_LID_holds : PySem.Challenge.rw_LID.Holds := by
 w_on;o_law;k_head;(case hw=>w_witness2)
 k_fill
 refine L2.walk_of (l:=PySem.Challenge.rw_LID) (n:=63) (k:=40) (x:="script") (CX:=fun w=>..) (sp:=fun _=>My.sp_law) rfl (by decide) rfl ⟨rfl,by decide,by decide⟩ (fun w h Y=>PySem.W.kIn_of Y) ?F ?S ?C
 case F =>
  intro w mg fa h KX G hmg
  have T:∃ t,My.Txt (L2.KOf KX) t:=by
   dsimp only [L2.KOf]                          -- K must stand as «<heap const> w.params» for k_is
   refine' My.txt_mk ?e1 ?e2 ?e3 ..
   (case e1=>PySem.W.k_is)                    -- in the order: a name -> its address -> its object -> its parts
   (case e2=>PySem.W.k_is)
   ..
  obtain ⟨t,T⟩:=T
  have e0:=hmg.symm.trans (PySem.W.mg_of KX G T.law)
  cases e0                                       -- fa is the law's own address
  exact ⟨_,fun s u=>.of_eq rfl,fun base kb nb=>My.law_fn T kb nb⟩     -- if «.of_eq rfl» comes too early: refine' ⟨_,?b,fun base kb nb=>My.law_fn T kb nb⟩;exact fun s u=>.of_eq rfl
 case S=>exact fun w H a ns hl hO hS=>..
 case C=>exact ..
(the tactic k_is has no namespace: write k_is) -/
namespace L2
open PySem PySem.Spec PyProof.Rows
def inClass (s:Stmt) (j:Nat):Stmt:=match s with
 | .ClassDef _ _ _ body _ _ _ _ _ _ _=>body.getD j (.Pass ⟨0,0,0,0⟩)
 | _=>.Pass ⟨0,0,0,0⟩
def defArgs (s:Stmt):Arguments:=match s with
 | .FunctionDef _ a _ _ _ _ _ _ _ _=>a
 | _=>{ posonlyargs:=[],args:=[],vararg:=none,kwonlyargs:=[],kw_defaults:=[],kwarg:=none,defaults:=[] }
def defBody (s:Stmt):List Stmt:=match s with
 | .FunctionDef _ _ b _ _ _ _ _ _ _=>b
 | _=>[]
def defScope (s:Stmt):Scope:=match s with
 | .FunctionDef _ _ _ _ _ _ sc _ _ _=>sc
 | _=>{ kind:=.function,names:=[],isGenerator:=false,isCoroutine:=false }
abbrev CX0:CXT:=fun _ _ _ _ _ _=>False
abbrev E0:XK:=fun _ _ _=>False
theorem YF {X:Cx}:YK CX0 X E0:=fun _ _ _ _ _ _ _ h=>h.elim
structure Fun (K:Fg) (x qual:Str) (st:Stmt) (f:Addr) (fd:FuncData):Prop where
 ex:∃ (oc:Value) (od:Option Addr) (kV doc pm:Value) (an:Option Addr) (cdv ct:Value) (osl:Array (Option Value)),
  fd=PySem.W.fnOf x qual (defArgs st) (defBody st) (defScope st) .none kV doc pm an cdv ct∧K.lookup f=some ⟨oc,od,.func fd,osl⟩∧PySem.W.codeIn K cdv qual=true
 kp:PySem.W.keepIn K (.ref f)=true
section
variable {P:Program} {w:World} {K:Fg} {mg:Str→Option Value} {base:Heap}
theorem Fun.ok {x qual:Str} {st:Stmt} {f:Addr} {fd:FuncData} {N ps:List Str} {k:Nat} {sp:Sp} (F:Fun K x qual st f fd) (S:FnScope N ps (defScope st)) (len:∀ vs H Q E,sp vs H Q E→vs.length=ps.length)
 (hbody:∀ (cdv:Value) (A:Around) (outer:List Env) (s:Shared) (H:Hp) (vs:List V) (Q:VK) (E:XK),Room k (A.deeper (envOfC qual (defScope st) s.heap.objs.size f cdv))→sp vs H Q E →
  ∃ t,PSs (QB CX0 P w K mg base N qual (defScope st) f cdv A outer s H E).nox (defBody st) t∧t { nx:=fun _ H'=>Q .non H',rt:=Q } (YD N vs) H):FnOk P w K mg base CX0 (k + 1) f fd ps sp:=by
 obtain ⟨oc,od,kV,doc,pm,an,cdv,ct,osl,rfl,lk,hcd⟩:=F.ex
 refine M7 lk hcd S len fun A outer s H vs Q E hr hsp=>?_
 obtain ⟨t,h,q⟩:=hbody cdv A outer s H vs Q E hr hsp
 exact ⟨t,h.nox,q⟩
theorem Fun.binds {x qual:Str} {st:Stmt} {f:Addr} {fd:FuncData} {ps:List Str} (F:Fun K x qual st f fd)
 (h:∀ (kV doc pm:Value) (an:Option Addr) (cdv ct:Value) (us:List Value),us.length=ps.length→bindArgs (PySem.W.fnOf x qual (defArgs st) (defBody st) (defScope st) .none kV doc pm an cdv ct) ⟨us,[]⟩=pure (ps.zip us)):Binds K fd ps []:=by
 obtain ⟨oc,od,kV,doc,pm,an,cdv,ct,osl,rfl,lk,hcd⟩:=F.ex
 exact .all (h kV doc pm an cdv ct)
theorem QS {x qual:Str} {st:Stmt} {f:Addr} {oc:Value} {od an:Option Addr} {osl:Array (Option Value)} {kV doc pm cdv ct:Value} (l:K.lookup f=some ⟨oc,od,.func (PySem.W.fnOf x qual (defArgs st) (defBody st) (defScope st) .none kV doc pm an cdv ct),osl⟩)
 (c:PySem.W.codeIn K cdv qual=true) (k:PySem.W.keepIn K (.ref f)=true):Fun K x qual st f (PySem.W.fnOf x qual (defArgs st) (defBody st) (defScope st) .none kV doc pm an cdv ct):=⟨⟨oc,od,kV,doc,pm,an,cdv,ct,osl,rfl,l,c⟩,k⟩
end
theorem YC {A:Around} {k:Nat} (hr:Room k A):A.units + 1 < cLine:=Nat.lt_of_le_of_lt (Nat.add_le_add_left (by decide:1≤64) _) hr.units
section
variable {X:Cx}
theorem pv (i:Nat) {x:Str} {pos:Pos} (hN:X.N[i]?=some x:=by rfl) (hv:Vis X.env.scope x:=by first | exact Or.inl rfl | exact Or.inr (12:) | exact Or.inr (Or.inr rfl)) (hd:(x == ("__debug__" : Str))=false:=by decide)
 (hcd:(x == ("__classdict__" : Str))=false:=by decide):PE X (.Name x pos) (UP i):=ML hN hv hd hcd
end
theorem Zh {A B:Prop} (h:B):if false=true then A else B:=by
 rw [if_neg Bool.false_ne_true]
 exact h
theorem Q8 {A B:Prop} (h:A):if true=true then A else B:=by
 rw [if_pos rfl]
 exact h
theorem XI {c A B:Prop} [Decidable c] (h1:c→A) (h2:¬ c→B):if c then A else B:=by
 by_cases h:c
 ·rw [if_pos h]
  exact h1 h
 ·rw [if_neg h]
  exact h2 h
theorem Na {c A B:Prop} [Decidable c] (hc:c) (h:B):if (!decide c)=true then A else B:=by
 rw [decide_eq_true hc]
 exact Zh h
def Same (H H':Hp):Prop:=∀ b o,H b=some o→H' b=some o
theorem Same.refl (H:Hp):Same H H:=fun _ _ h=>h
theorem Same.trans {H H1 H2:Hp} (a:Same H H1) (b:Same H1 H2):Same H H2:=fun c o h=>b c o (a c o h)
theorem Same.free {H H':Hp} (e:Same H H') {l:Addr} (h:H' l=Option.none):H l=Option.none:=by
 cases q:H l with
 | none=>rfl
 | some o =>
  rw [e l o q] at h
  cases h
theorem Same.seq {K:Fg} {H H':Hp} {a:Addr} {xs:List V} (e:Same H H') (h:SqL K H a xs):SqL K H' a xs:=by
 rcases h with (h | ⟨o,h⟩) | h
 ·exact .inl (.inl (e _ _ h))
 ·exact .inl (.inr ⟨o,e _ _ h⟩)
 ·exact .inr h
end L2
set_option maxHeartbeats 4000000
namespace L2
open PySem PySem.Spec PyProof.Rows
section
variable {X:Cx}
theorem ZK:Zv X (.builtin "isinstance") (fun xs H Q=>∃ x T t b,xs=[x,.ty T]∧TyOf X.K H x t∧PySem.W.kitOne X.K t (.type T)=some b∧Q (.bl b) H):=by
 intro pins s σ H xs us Q I r h
 obtain ⟨x,T,t,b,rfl,ty,e,q⟩:=h
 obtain ⟨u,c,rfl,rx,rc⟩:=Wy r
 cases (show c=Value.type T from rc)
 exact Lb I rx ty e fun tk=>⟨.bl b,H,I.tok tk,rfl,q⟩
end
section
variable {X:Cx}
end
mutual
inductive RdV (K:Fg) (H:Hp):V→PyData→Prop where
 | non:RdV K H .non .none
 | bl (b:Bool):RdV K H (.bl b) (.bool b)
 | int (i:Int):RdV K H (.int i) (.int i)
 | str (x:Str):RdV K H (.str x) (.str x)
 | lst {a:Addr} {xs:List V} {ds:List PyData}:SqL K H a xs→RdAll K H xs ds→RdV K H (.ref a) (.list ds)
 | tup {a:Addr} {xs:List V} {ds:List PyData}:SqT K H a xs→RdAll K H xs ds→RdV K H (.ref a) (.tuple ds)
inductive RdAll (K:Fg) (H:Hp):List V→List PyData→Prop where
 | nil:RdAll K H [] []
 | cons {v:V} {vs:List V} {d:PyData} {ds:List PyData}:RdV K H v d→RdAll K H vs ds→RdAll K H (v :: vs) (d :: ds)
end
section
variable {X:Cx} {pins:List (11:)} {σ:St} {H:Hp} {s:Shared}
mutual
theorem RdV.reads (I:Inv X pins σ H s):∀ {v:V} {d:PyData} {u:Value},RdV X.K H v d→RelV v u→∃ as,Reads s.heap u d as
 | _,_,u,.non,r=>by cases (show u=Value.none from r);exact ⟨_,.none⟩
 | _,_,u,.bl b,r=>by cases (show u=Value.bool b from r);exact ⟨_,.bool b⟩
 | _,_,u,.int i,r=>by obtain ⟨t,e⟩:=(show ∃ t,u=Value.int i t from r);cases e;exact ⟨_,.int i t⟩
 | _,_,u,.str x,r=>by obtain ⟨t,e⟩:=(show ∃ t,u=Value.str x t from r);cases e;exact ⟨_,.str x t⟩
 | _,_,u,@RdV.lst _ _ a xs ds hq hr,r=>by
  cases (show u=Value.ref a from r)
  obtain ⟨its,rv,⟨o,n,e,c,_,dt⟩,_⟩:=I.list hq
  obtain ⟨as,q⟩:=RdAll.reads I hr rv
  exact ⟨_,.list e c dt (by simpa using q)⟩
 | _,_,u,@RdV.tup _ _ a xs ds hq hr,r=>by
  cases (show u=Value.ref a from r)
  obtain ⟨its,rv,⟨o,e,c,n,dt⟩,_⟩:=I.tuple hq
  obtain ⟨as,q⟩:=RdAll.reads I hr rv
  exact ⟨_,.tuple e c dt (by simpa using q)⟩
theorem RdAll.reads (I:Inv X pins σ H s):∀ {vs:List V} {ds:List PyData} {us:List Value},RdAll X.K H vs ds→Vals vs us→∃ as,ReadsAll s.heap us ds as
 | _,_,_,.nil,r=>by cases r;exact ⟨_,.nil⟩
 | _,_,_,.cons h t,r=>by
  cases r with
  | cons r1 r2 =>
   obtain ⟨as,q⟩:=RdV.reads I h r1
   obtain ⟨bs,q2⟩:=RdAll.reads I t r2
   exact ⟨_,.cons q q2⟩
end
end
section
variable {X:Cx}
def Sr (K:Fg) (A:Around) (neg:Bool):R2:=fun x y H Q=>∃ d e:PyData,RdV K H x d∧RdV K H y e∧d.canLay0=true∧e.canLay0=true∧A.units + min d.depth e.depth < cLine∧Q (.bl (if neg then !PyData.eqv d e else PyData.eqv d e)) H
theorem Ju:OpR X (compareOp .Eq) (Sr X.K X.A false):=by
 intro pins s σ H x y v u Q I rx ry h
 obtain ⟨d,e,hd,he,cd,ce,hu,q⟩:=h
 obtain ⟨as,q1⟩:=hd.reads I rx
 obtain ⟨bs,q2⟩:=he.reads I ry
 exact SeqAt.compareEq_reads q1 q2 cd ce hu ⟨.bl _,H,I,rfl,q⟩
theorem M6:OpR X (compareOp .NotEq) (Sr X.K X.A true):=by
 intro pins s σ H x y v u Q I rx ry h
 obtain ⟨d,e,hd,he,cd,ce,hu,q⟩:=h
 obtain ⟨as,q1⟩:=hd.reads I rx
 obtain ⟨bs,q2⟩:=he.reads I ry
 exact SeqAt.compareNe_reads q1 q2 cd ce hu ⟨.bl _,H,I,rfl,q⟩
end
mutual
theorem ZE:∀ d:PyData,d.canLay0=true→PyData.eqv d d=true
 | .none,_=>by simp [PyData.eqv]
 | .bool _,_=>by simp [PyData.eqv]
 | .int _,_=>by simp [PyData.eqv]
 | .str _,_=>by simp [PyData.eqv]
 | .list xs,h=>by
  simp only [PyData.eqv]
  exact Yn xs (by simpa [PyData.canLay0] using h)
 | .tuple xs,h=>by
  simp only [PyData.eqv]
  exact Yn xs (by simpa [PyData.canLay0] using h)
 | .dict _,h=>by simp [PyData.canLay0] at h
theorem Yn:∀ ds:List PyData,PyData.canLayAll0 ds=true→PyData.eqvAll ds ds=true
 | [],_=>by simp [PyData.eqvAll]
 | d :: ds,h=>by
  simp only [PyData.canLayAll0,Bool.and_eq_true] at h
  simp only [PyData.eqvAll,Bool.and_eq_true]
  exact ⟨ZE d h.1,Yn ds h.2⟩
end
end L2
namespace L2
open PySem PySem.Spec PyProof.Rows
structure Fn (P:Program) (w:World) (K:Fg) (mg:Str→Option Value) (base:Heap) (k:Nat) (x:Str) (ps:List Str) (sp:Sp):Prop where
 ex:∃ (f:Addr) (fd:FuncData),FnOk P w K mg base CX0 k f fd ps sp∧Binds K fd ps []∧PySem.W.keepIn K (.ref f)=true∧mg x=some (.ref f)
theorem Qt {X:Cx} {k k':Nat} {x:Str} {ps:List Str} {sp:Sp} {p pos:Pos} {e:Expr} {es:List Expr} {t:TA} (F:Fn X.prog X.w X.K X.mg X.base k x ps sp) (hr:Room k' X.A) (ha:PA X (e :: es) t) (hk:k≤k':=by decide) (hg:Gl X x:=by rfl)
 (hdb:(x == ("__debug__" : Str))=false:=by decide) (he:starEach (e :: es) X.env=(false,eval e X.env) :: starEach es X.env:=by rfl) (hpl:(backTo pos (starEach es X.env)).any (·.1)=false:=by rfl) :
 PE X (.Call (.Name x p) (e :: es) [] pos) (Xn sp [] E0 t):=by
 obtain ⟨f,fd,h1,h2,h3,h4⟩:=F.ex
 exact Oi h1 (hr.mono hk) hg h4 h3 h2 .nil YF ha hdb he hpl
theorem Z9 {c A B:Prop} [Decidable c] (hc:c) (h:A):if decide c=true then A else B:=by
 rw [decide_eq_true hc]
 exact Q8 h
theorem Z0 {c A B:Prop} [Decidable c] (hc:¬ c) (h:B):if decide c=true then A else B:=by
 rw [decide_eq_false hc]
 exact Zh h
theorem Qf {H:Hp} {p:Addr} (h:H p=Option.none) (o:HO):Same H (upd H p o):=fun b u q=>by rw [Ql (Qj q h)];exact q
def S (l:List Nat):Str:=⟨l.toArray⟩
theorem L7 (l:List Nat):(S l).cps.toList=l:=by simp [S]
theorem MF (l:List Nat):(S l).length=l.length:=by simp [S,Str.length]
theorem OL {a b:List Nat} (h:S a=S b):a=b:=by
 have:=congrArg (fun z:Str=>z.cps.toList) h
 simpa [L7] using this
end L2
namespace L2
open PySem PySem.Spec PyProof.Rows
def Rh (t:TS):TS:=fun D σ H=>∃ R:St→Hp→Prop,t { D with nx:=R } σ H∧∀ σ' H',R σ' H'→D.nx σ' H'
theorem Yk {X:Cx} {st:Stmt} {t:TS} (h:PS X st t):PS X st (Rh t):=by
 intro pins s σ H D I hw
 obtain ⟨R,h1,h2⟩:=hw
 refine thn (h pins s σ H { D with nx:=R } I h1) fun f s1 q=>?_
 cases f with
 | next =>
  obtain ⟨σ',H',I',q⟩:=q
  exact ⟨σ',H',I',h2 _ _ q⟩
 | brk=>exact q
 | cont=>exact q
 | ret v=>exact q
theorem YI:∀ xs:List Str,PyData.depthAll (xs.map PyData.str)=0
 | []=>by simp [PyData.depthAll]
 | x :: r=>by simp [PyData.depthAll,PyData.depth,YI r]
end L2
namespace L2
open PySem PySem.Spec PyProof.Rows
structure DefAt (K:Fg) (x:Str) (st:Stmt):Prop where
 ex:∃ (f:Addr) (oc:Value) (od:Option Addr) (kV doc pm:Value) (an:Option Addr) (cdv ct:Value) (osl:Array (Option Value)),
  PySem.W.nsIn K mainGlobals x=some (some (.ref f))∧K.lookup f=some ⟨oc,od,.func (PySem.W.fnOf x x (defArgs st) (defBody st) (defScope st) .none kV doc pm an cdv ct),osl⟩∧PySem.W.codeIn K cdv x=true∧PySem.W.keepIn K (.ref f)=true
theorem DefAt.mk' {K:Fg} {x:Str} {st:Stmt} {f:Addr} {oc:Value} {od:Option Addr} {kV doc pm:Value} {an:Option Addr} {cdv ct:Value} {osl:Array (Option Value)}
 (a:PySem.W.nsIn K mainGlobals x=some (some (.ref f))) (l:K.lookup f=some ⟨oc,od,.func (PySem.W.fnOf x x (defArgs st) (defBody st) (defScope st) .none kV doc pm an cdv ct),osl⟩) (c:PySem.W.codeIn K cdv x=true) (k:PySem.W.keepIn K (.ref f)=true):DefAt K x st :=
 ⟨f,oc,od,kV,doc,pm,an,cdv,ct,osl,a,l,c,k⟩
theorem DefAt.fn {P:Program} {w:World} {K:Fg} {mg:Str→Option Value} {base h:Heap} {k:Nat} {x:Str} {st:Stmt} {ps:List Str} {sp:Sp} (D:DefAt K x st) (X:K.In h) (G:h.Ns mainGlobals mg)
 (ok:∀ (f:Addr) (fd:FuncData),Fun K x x st f fd→FnOk P w K mg base CX0 k f fd ps sp)
 (hb:∀ (kV doc pm:Value) (an:Option Addr) (cdv ct:Value) (us:List Value),us.length=ps.length→bindArgs (PySem.W.fnOf x x (defArgs st) (defBody st) (defScope st) .none kV doc pm an cdv ct) ⟨us,[]⟩=pure (ps.zip us)):Fn P w K mg base k x ps sp:=by
 obtain ⟨f,oc,od,kV,doc,pm,an,cdv,ct,osl,a,l,c,kp⟩:=D.ex
 have F:=QS (st:=st) l c kp
 exact ⟨f,_,ok f _ F,F.binds hb,kp,PySem.W.mg_of X G a⟩
end L2
namespace L2
open PySem PySem.Spec PyProof.Rows
section
variable {X:Cx}
def RV (K:Fg):R2:=fun x y H Q=>∃ a b xs ys,x=.ref a∧y=.ref b∧SqT K H a xs∧SqT K H b ys∧xs.length + ys.length≤sizeLine ∧
 ∀ p H',Same H H'→SqT K H' p (xs ++ ys)→Q (.ref p) H'
theorem YW:OpR X (binaryOp .Add) (RV X.K):=by
 intro pins s σ H x y v u Q I rx ry h
 obtain ⟨a,b,xs,ys,e1,e2,ha,hb,hz,q⟩:=h
 by_cases hx:xs=[]
 ·subst e1;subst e2;subst hx
  cases (show v=Value.ref a from rx)
  cases (show u=Value.ref b from ry)
  obtain ⟨its,r1,p1,_⟩:=I.tuple ha
  obtain ⟨its2,r2,p2,_⟩:=I.tuple hb
  cases r1
  obtain ⟨⟨cls,dd,data,sl⟩,ho,hc,n,hd⟩:=id p1
  obtain ⟨⟨cls2,dd2,data2,sl2⟩,ho2,hc2,n2,hd2⟩:=id p2
  simp only at hc hd hc2 hd2
  subst hc hd hc2 hd2
  exact concat_meets ⟨_,ho,rfl⟩ ⟨_,ho2,rfl⟩ noFill_tuple_add seq_tuple_add PySem.F.slot_tuple_add PySem.F.entry_tuple_add (PySem.F.args_tuple_add_2 _ _)
   (tuple_addW0 a b _ its2.toArray n n2 dd dd2 sl sl2 rfl) ⟨ho,ho2,⟨.ref b,H,I,rfl,q b H (Same.refl H) (by simpa using hb)⟩⟩
 ·refine Ol pins s σ H x y v u Q I rx ry ⟨a,b,xs,ys,e1,e2,ha,hb,hx,hz,fun hy=>?_,fun hy p hp=>?_⟩
  ·subst hy
   exact q a H (Same.refl H) (by simpa using ha)
  ·exact q p _ (Qf hp _) (SqT.of Qd)
theorem Same.seqT {K:Fg} {H H':Hp} {a:Addr} {xs:List V} (e:Same H H') (h:SqT K H a xs):SqT K H' a xs:=by
 rcases h with (h | ⟨o,h⟩) | h
 ·exact .inl (.inl (e _ _ h))
 ·exact .inl (.inr ⟨o,e _ _ h⟩)
 ·exact .inr h
end
section
variable {X:Cx} {tg:Expr}
end
end L2
namespace L2
open PySem PySem.Spec PyProof.Rows
def QE (X:Cx) (N':List Str) (scope:Scope) (cl:List (Str × Addr)) (C:Addr) (fp:List Addr) (s₀:Shared) (H₀:Hp):Cx :=
 { X with N:=N',s₀:=s₀,H₀:=H₀,env:=compEnvC scope cl C X.env,outer:=X.stack,ex:=fp,fn:=fun _=>false,pn:=[],xe:=fun _ _=>False }
def PF (X:Cx) (ifs:List Expr) (t:TT):Prop :=
 ∀ (pins:List (11:)) (s:Shared) (σ:St) (H:Hp) (Q:Bool→Hp→Prop),Inv X pins σ H s→t σ H Q →
  wpAny (5:) X.A (forIn ifs true fun c r=>if r=true then do let ok ← isTrue c X.env (eval c X.env);pure (ForInStep.yield ok) else pure (ForInStep.yield r)) (TP X pins σ Q) X.xe s
theorem Q6 {X:Cx}:PF X [] (fun _ H Q=>Q true H):=by
 intro pins s σ H Q I h
 rw [List.forIn_nil]
 exact wpAny_pure ⟨H,I,h⟩
structure OwnAt (X:Cx) (pins:List (11:)) (H:Hp) (s:Shared) (C:Addr):Prop where
 ns:∃ m,s.heap.Ns C m
 free:H C=none
 loc:C≠X.env.locals
 above:X.s₀.heap.objs.size≤C
 cells:∀ x c,X.env.cells.lookup x=some c→c≠C
 pins:∀ p ∈ X.pn ++ pins,p.1≠C
theorem OwnAt.go {X:Cx} {pins:List (11:)} {σ:St} {H:Hp} {s:Shared} {C:Addr} {h':Heap} (I:Inv X pins σ H s) (o:OwnAt X pins H s C) (hb:Heap.SameBut C s.heap h'):Inv X pins σ H { s with heap:=h' } :=
 I.turned (t':=s.toks) (fun b u hb' e=>(hb.2 b hb').trans e) o.free o.loc (.inr o.above) o.cells o.pins
def VS (n:Nat) (Pv:Nat→List V→Hp→Prop):Nat→Nat→Hp→Prop:=fun i m H=>m=n - i∧i≤n∧∃ ys,Pv i ys H
def MJ (n:Nat) (Pv:Nat→List V→Hp→Prop) (acc:Addr) (i m:Nat):VK:=fun y H5=>∃ ys,H5 acc=some (.lst ys)∧ys.length < sizeLine∧∃ m',m' < m∧VS n Pv (i + 1) m' (upd H5 acc (.lst (ys ++ [y])))
theorem QK {n:Nat} {Pv:Nat→List V→Hp→Prop} {acc:Addr} {i:Nat} {y:V} {H5:Hp} {ys:List V} (hi:i < n) (hacc:H5 acc=some (.lst ys)) (hl:ys.length < 5000) (hP:Pv (i + 1) (ys ++ [y]) (upd H5 acc (.lst (ys ++ [y])))):MJ n Pv acc i (n - i) y H5 :=
 ⟨ys,hacc,Nat.lt_trans hl (by decide),n - (i + 1),by lia,rfl,hi,_,hP⟩
end L2
namespace L2
open PySem PySem.Spec PyProof.Rows
end L2
namespace L2
open PySem PySem.Spec PyProof.Rows
section
variable {X:Cx}
theorem Ya:Zv X (.builtin "isinstance") (fun xs H Q=>∃ a ys T b,xs=[.ref a,.ty T]∧SqT X.K H a ys∧PySem.W.kitOne X.K (.type "tuple") (.type T)=some b∧Q (.bl b) H):=by
 intro pins s σ H xs us Q I r h
 obtain ⟨a,ys,T,b,rfl,ht,e,q⟩:=h
 obtain ⟨u,c,rfl,rx,rc⟩:=Wy r
 cases (show c=Value.type T from rc)
 cases (show u=Value.ref a from rx)
 obtain ⟨its,r1,p,_⟩:=I.tuple ht
 obtain ⟨o,h1,h2,_⟩:=p
 exact PySem.W.kia_one PySem.W.kitx_tuple I.kIn ⟨o,h1,h2⟩ e (fun z=>nomatch z) fun tk=>⟨.bl b,H,I.tok tk,rfl,q⟩
end
end L2
namespace L2
open PySem PySem.Spec PyProof.Rows
section
variable {X:Cx} {pins:List (11:)} {σ:St} {H:Hp} {s:Shared} {h':Heap}
theorem Inv.turnedL {ch:List Addr} {t':Nat} (I:Inv X pins σ H s) (k:∀ b o,b ∉ ch→s.heap.get? b=some o→h'.get? b=some o) (hf:∀ b ∈ ch,Um X pins H b):Inv X pins σ H { s with heap:=h',toks:=t' }:=by
 have nch:∀ b u,H b=some u→b ∉ ch:=fun b u e z=>by rw [(hf b z).1] at e;cases e
 refine I.step (g':=s.gens) (d':=s.drawn) (ch:=ch) (fun b hb=>?_) (fun b o _ _ hc e _=>k b o hc e) (fun b o _ _ hc e _=>⟨o.slots,k b o hc e⟩) (fun _ _ _ _ n=>n)
  (fun b o hc e=>⟨o,k b o hc e⟩) (fun _ _ e=>e) (fun _ _ _ e=>e) (fun b ps e=>⟨#[],by rw [e];simp⟩) (fun m hm=>?_) (fun b u e=>?_) I.bare
 ·obtain ⟨f0,f1,f2,f3,f4,f5⟩:=hf b hb
  exact ⟨f3,f1,f4,f5⟩
 ·obtain ⟨o,es,ep,ho,r⟩:=hm
  exact ⟨o,es,ep,k _ o (fun z=>(hf _ z).2.1 rfl) ho,r⟩
 ·refine (I.hok b u e).stay (fun c v hc q=>k c v ?_ q) (fun _ q=>q) fun _ _ q=>q
  rcases hc with z | z
  ·rw [z];exact nch b u e
  ·exact nch c _ z
theorem Inv.turnedNew {ch:List Addr} {t':Nat} {a:Addr} {o:HO} (I:Inv X pins σ H s) (k:∀ b o,b ∉ ch→s.heap.get? b=some o→h'.get? b=some o) (hf:∀ b ∈ ch,Um X pins H b)
 (hp:s.heap.objs.size≤a) (new:ObjOk X.prog X.w (upd H a o) h' a o):Inv X pins σ (upd H a o) { s with heap:=h',toks:=t' }:=by
 have hn:H a=none:=I.hok.fresh hp
 have nch:∀ b u,H b=some u→b ∉ ch:=fun b u e z=>by rw [(hf b z).1] at e;cases e
 have lt:∀ b u,s.heap.get? b=some u→b≠a:=fun b u e=>Nat.ne_of_lt (Nat.lt_of_lt_of_le (Heap.lt_size e) hp)
 refine I.step (g':=s.gens) (d':=s.drawn) (ch:=ch) (fun b hb=>?_) (fun b o _ _ hc e _=>k b o hc e) (fun b o _ _ hc e _=>⟨o.slots,k b o hc e⟩) (fun b u _ e n=>by rw [Ql (lt b u e)];exact n)
  (fun b o hc e=>⟨o,k b o hc e⟩) (fun b xs e=>by rw [Ql (Qj e hn)];exact e) (fun b u xs e=>by rw [Ql (Qj e hn)];exact e) (fun b ps e=>⟨#[],by rw [Ql (Qj e hn),e];simp⟩) (fun m hm=>?_) (fun b u e=>?_) I.bare
 ·obtain ⟨f0,f1,f2,f3,f4,f5⟩:=hf b hb
  exact ⟨f3,f1,f4,f5⟩
 ·obtain ⟨o,es,ep,ho,r⟩:=hm
  exact ⟨o,es,ep,k _ o (fun z=>(hf _ z).2.1 rfl) ho,r⟩
 ·by_cases hb:b=a
  ·subst hb
   rw [Qd] at e;cases e
   exact new
  ·rw [Ql hb] at e
   refine (I.hok b u e).stay (fun c v hc q=>k c v ?_ q) (fun c q=>by rw [Ql (Qj q hn)];exact q) fun c xs q=>by rw [Ql (Qj q hn)];exact q
   rcases hc with z | z
   ·rw [z];exact nch b u e
   ·exact nch c _ z
end
def Itz (K:Fg) (a b:Addr) (xs ys:List V):It :=
 ⟨fun i H=>SqL K H a xs∧SqL K H b ys∧i < xs.length∧i < ys.length,fun i H x H'=>∃ p u v,H p=none∧x=.ref p∧H'=upd H p (.tup [u,v])∧xs[i]?=some u∧ys[i]?=some v,fun i H=>SqL K H a xs∧SqL K H b ys∧(xs.length≤i∨ys.length≤i)⟩
theorem Mn {P:Program} {w:World} {K:Fg} {elts:List Expr} {k1:Nat} {pos:Pos} (a b z:Addr) (xs ys:List V) (TI TO i1 i2:Addr) (Ap:ZipApart z TI TO i1 i2 a b) :
 Turn P w K (.Tuple elts k1 pos) (Itz K a b xs ys) [z,TI,TO,i1,i2] z (fun i h=>IsZip h z TI TO .none∧IsPair h TI (.ref i1) (.ref i2)∧(∃ u v,IsPair h TO u v)∧h.IsListIter i1 a i∧h.IsListIter i2 b i) where
 mem:=by simp
 obj:=fun i h st c hc=>by
  obtain ⟨hz,hTI,⟨u,v,hTO⟩,h1,h2⟩:=st
  simp only [List.mem_cons,List.mem_nil_iff,or_false] at hc
  rcases hc with rfl | rfl | rfl | rfl | rfl
  ·exact ⟨_,hz,fun v z=>by have z':Data.fields _=Data.cell v:=z;cases z'⟩
  ·exact ⟨_,hTI,fun v z=>by have z':Data.seq _ _=Data.cell v:=z;cases z'⟩
  ·exact ⟨_,hTO,fun v z=>by have z':Data.seq _ _=Data.cell v:=z;cases z'⟩
  ·obtain ⟨o,e,c,d⟩:=h1;exact ⟨o,e,fun v z=>by rw [d] at z;cases z⟩
  ·obtain ⟨o,e,c,d⟩:=h2;exact ⟨o,e,fun v z=>by rw [d] at z;cases z⟩
 keep:=fun i h h' st k=>by
  obtain ⟨hz,hTI,⟨u,v,hTO⟩,h1,h2⟩:=st
  exact ⟨k z (by simp) _ hz,k TI (by simp) _ hTI,⟨u,v,k TO (by simp) _ hTO⟩,h1.at fun o e=>k i1 (by simp) o e,h2.at fun o e=>k i2 (by simp) o e⟩
 item:=by
  intro X hP hw hK hc i pins s σ H E I hf st hg
  subst hP hw hK
  obtain ⟨hz,hTI,⟨u0,v0,hTO⟩,h1,h2⟩:=st
  obtain ⟨qa,qb,lx,ly⟩:=hg
  obtain ⟨its,rv,p,_⟩:=I.list qa
  obtain ⟨its2,rv2,p2,_⟩:=I.list qb
  have ex:xs[i]?=some xs[i]:=List.getElem?_eq_getElem lx
  have ey:ys[i]?=some ys[i]:=List.getElem?_eq_getElem ly
  obtain ⟨u,hu,ru⟩:=rv.get ex
  obtain ⟨v,hv,rv'⟩:=rv2.get ey
  refine wpAny_pyNext_zip_item Ap hz hTI hTO h1 h2 p.isList p2.isList (x:=u) (y:=v) (by simpa using hu) (by simpa using hv) fun h' a1 a2 a3 a4 a5 a6 hk=>?_
  refine ⟨.ref s.heap.objs.size,rfl,wpAny_letOwnedTupleGo_zip (s:={ s with heap:=h' }) a1 fun h'' hz' hs'=>?_⟩
  have lt:∀ {c o},s.heap.get? c=some o→c≠s.heap.objs.size:=fun e=>Nat.ne_of_lt (Heap.lt_size e)
  have e5:IsPair h'' s.heap.objs.size u v:=(hs'.2 _ (Ne.symm (lt hz))).trans a5
  have hch:∀ c ∈ [z,TO,i1,i2],Um X pins H c:=fun c hc=>hf c (by
   simp only [List.mem_cons,List.mem_nil_iff,or_false] at hc ⊢
   rcases hc with rfl | rfl | rfl | rfl <;> simp)
  have I2:Inv X pins σ (upd H s.heap.objs.size (.tup [xs[i],ys[i]])) { s with heap:=h'',toks:=s.toks }:=by
   refine I.turnedNew (ch:=[z,TO,i1,i2]) (fun c o hc e=>?_) hch (8:) ⟨by show 2≤sizeLine;decide,[u,v],.cons ru (.cons rv' .nil),⟨_,e5,rfl,_,rfl⟩⟩
   simp only [List.mem_cons,List.mem_nil_iff,or_false,not_or] at hc
   exact (hs'.2 c hc.1).trans (hk c o hc.1 hc.2.1 hc.2.2.1 hc.2.2.2 e)
  have hfr:∀ c ∈ [z,TI,TO,i1,i2],upd H s.heap.objs.size (.tup [xs[i],ys[i]]) c=none:=fun c hc=>by
   have hc2:=hf c hc
   have:c≠s.heap.objs.size:=by
    simp only [List.mem_cons,List.mem_nil_iff,or_false] at hc
    rcases hc with rfl | rfl | rfl | rfl | rfl
    ·exact lt hz
    ·exact lt hTI
    ·exact lt hTO
    ·obtain ⟨o,e,_⟩:=h1;exact lt e
    ·obtain ⟨o,e,_⟩:=h2;exact lt e
   rw [Ql this];exact hc2.1
  exact ⟨.ref s.heap.objs.size,_,I2,rfl,⟨s.heap.objs.size,_,_,I.fresh,rfl,rfl,ex,ey⟩,⟨hz',hs'.extBut _ _ Ap.TIz (hk _ _ Ap.TIz Ap.TITO Ap.TIi1 Ap.TIi2 hTI),⟨_,_,hs'.extBut _ _ Ap.TOz a2⟩,a3.extBut hs'.extBut Ap.i1z,a4.extBut hs'.extBut Ap.i2z⟩,hfr⟩
 done:=by
  intro X hP hw hK hc i pins s σ H E I hf st hg
  subst hP hw hK
  obtain ⟨hz,hTI,⟨u0,v0,hTO⟩,h1,h2⟩:=st
  obtain ⟨qa,qb,hl⟩:=hg
  obtain ⟨its,rv,p,_⟩:=I.list qa
  obtain ⟨its2,rv2,p2,_⟩:=I.list qb
  have l1:=rv.length
  have l2:=rv2.length
  have hch:∀ c ∈ [z,TO,i1,i2],Um X pins H c:=fun c hc=>hf c (by
   simp only [List.mem_cons,List.mem_nil_iff,or_false] at hc ⊢
   rcases hc with rfl | rfl | rfl | rfl <;> simp)
  refine wpAny_pyNext_zip_end (I.ok.hd hc) Ap hz hTI hTO h1 h2 p.isList p2.isList ?_ fun h' hk=>⟨rfl,I.turnedL (t':=s.toks) (ch:=[z,TO,i1,i2]) (fun c o hc e=>?_) hch⟩
  ·rcases hl with q | q
   ·exact .inl (by simp;lia)
   ·exact .inr (by simp;lia)
  ·simp only [List.mem_cons,List.mem_nil_iff,or_false,not_or] at hc
   exact hk c o hc.1 hc.2.1 hc.2.2.1 hc.2.2.2 e
 self:=fun _ _ _ _ _ st h=>wpAny_pyIter_zip st.1 h
theorem nne {x y:Nat} (h:x < y∨y < x):x≠y:=by lia
section
variable {X:Cx} {elts:List Expr} {k1:Nat} {tpos:Pos}
def S5 (K:Fg) (ta:TA):TI:=fun σ H R=>ta σ H fun vs H1=>∃ a b xs ys,vs=[.ref a,.ref b]∧SqL K H1 a xs∧SqL K H1 b ys∧R (Itz K a b xs ys) H1
theorem Vj {e1 e2:Expr} {ta:TA} {p pos:Pos} (hg:Gl X "zip") (hm:X.mg "zip" = none) (ha:PA X [e1,e2] ta) (hs:starEach [e1,e2] X.env=[(false,eval e1 X.env),(false,eval e2 X.env)]:=by rfl) (hs2:starEach [e2] X.env=[(false,eval e2 X.env)]:=by rfl) :
 PI X (.Tuple elts k1 tpos) (.Call (.Name "zip" p) [e1,e2] [] pos) (S5 X.K ta):=by
 intro pins s σ H R I h
 refine Call_ (UB I hg hm PyProof.Rows.boot_zip (PyProof.Rows.callWith_type1 (thn (ha pos pins s σ H _ I h) fun us s1 ⟨vs,H1,I1,r1,q1⟩=>?_) (by rw [hs,hs2]) (by rw [hs2];rfl)))
 obtain ⟨a,b,xs,ys,e,qa,qb,q⟩:=q1
 subst e
 obtain ⟨u1,u2,e3,r3,r4⟩:=r1.two
 subst e3
 cases (show u1=Value.ref a from r3)
 cases (show u2=Value.ref b from r4)
 obtain ⟨its,rv,pl,_⟩:=I1.list qa
 obtain ⟨its2,rv2,pl2,_⟩:=I1.list qb
 have la:@LT.lt Nat _ a s1.heap.objs.size:=by obtain ⟨o,n,e,_⟩:=pl;exact Heap.lt_size e
 have lb:@LT.lt Nat _ b s1.heap.objs.size:=by obtain ⟨o,n,e,_⟩:=pl2;exact Heap.lt_size e
 refine call_zip_2 pl.isList pl2.isList fun h' hz hTI hTO h1 h2 hsz hk=>?_
 refine wpAny_pyIter_zip hz ?_
 have I2:Inv X pins σ H1 { s1 with heap:=h' }:=I1.kept (t':=s1.toks) hk
 refine ⟨s1.heap.objs.size + 4,[s1.heap.objs.size + 4,s1.heap.objs.size + 2,s1.heap.objs.size + 3,s1.heap.objs.size,s1.heap.objs.size + 1],_,_,H1,rfl,I2,Mn a b (s1.heap.objs.size + 4) xs ys (s1.heap.objs.size + 2) (s1.heap.objs.size + 3) s1.heap.objs.size (s1.heap.objs.size + 1) ?_,⟨hz,hTI,⟨_,_,hTO⟩,h1,h2⟩,fun c hc=>?_,q⟩
 ·constructor <;> (refine nne ?_;lia)
 ·have hle:@LE.le Nat _ s1.heap.objs.size c:=by
   simp only [List.mem_cons,List.mem_nil_iff,or_false] at hc
   rcases hc with rfl | rfl | rfl | rfl | rfl <;> lia
  exact I1.fpOk hle (I1.hok.fresh hle)
theorem XX {K:Fg} {a b:Addr} {xs ys:List V} {g:TG} {tb:TS} {D:Ends} {σ:St} {H:Hp} (hlen:xs.length=ys.length) (Pv:Nat→St→Hp→Prop) (h0:Pv 0 σ H) (hl:∀ i σ H,i≤xs.length→Pv i σ H→SqL K H a xs∧SqL K H b ys)
 (hs:∀ i u v p σ H,xs[i]?=some u→ys[i]?=some v→H p=none→Pv i σ H→g (.ref p) σ (upd H p (.tup [u,v])) fun σ2 H2=>tb { D with nx:=Pv (i + 1),ct:=Pv (i + 1),bk:=D.nx } σ2 H2) (hd:∀ σ H,Pv xs.length σ H→D.nx σ H) :
 ∃ W:Nat→Nat→St→Hp→Prop,(∃ m,W 0 m σ H)∧∀ i m σ H,W i m σ H →
  ((Itz K a b xs ys).stop i H∧D.nx σ H)∨((Itz K a b xs ys).go i H∧∃ N:St→Hp→Prop,(∀ σ' H',N σ' H'→∃ m',m' < m∧W (i + 1) m' σ' H')∧∀ x H',(Itz K a b xs ys).yld i H x H'→g x σ H' fun σ2 H2=>tb { D with nx:=N,ct:=N,bk:=D.nx } σ2 H2):=by
 refine ⟨fun i m σ H=>m=xs.length - i∧i≤xs.length∧Pv i σ H,⟨xs.length - 0,rfl,Nat.zero_le _,h0⟩,?_⟩
 rintro i m σ H ⟨rfl,hi,p⟩
 obtain ⟨qa,qb⟩:=hl i σ H hi p
 by_cases h:i < xs.length
 ·refine .inr ⟨⟨qa,qb,h,by lia⟩,Pv (i + 1),fun σ' H' p'=>⟨xs.length - (i + 1),by lia,rfl,h,p'⟩,?_⟩
  rintro x H' ⟨p',u,v,hp,rfl,rfl,hu,hv⟩
  exact hs i u v p' σ H hu hv hp p
 ·have e:i=xs.length:=by lia
  subst e
  exact .inl ⟨⟨qa,qb,.inl (8:)⟩,hd σ H p⟩
end
end L2
namespace L2
open PySem PySem.Spec PyProof.Rows
def Zu (ns:List Int):Prop:=(∀ n ∈ ns,0≤n)∧ns.sum≤1000000000
section
variable {X:Cx}
end
section
variable {prog:Program} {w:World} {A:Around} {R:Result→Shared→Prop} {I:Addr} {fp wr:List Addr} {n:Nat} {P:Nat→Value→Prop} {St:Nat→Heap→Prop}
end
section
variable {prog:Program} {w:World} {A:Around} {E:Value→Shared→Prop} {s:Shared}
end
end L2
namespace L2
open PySem PySem.Spec PyProof.Rows
section
variable {X:Cx} {x:Str} {p pos:Pos} {e:Expr} {es:List Expr} {kws:List Keyword} {t tk:TA} {id:String} {ks:List Str} {r:List V→List V→Hp→VK→Prop}
end
end L2
namespace L2
open PySem PySem.Spec PyProof.Rows
structure CompG (X:Cx) (xs caps:List Str) (cap:List Nat) (scope:Scope) (cl:List (Str × Addr)):Prop where
 clos:closureFor scope X.env=pure cl
 cell:∀ y ∈ scope.names,y.2≠.cell
 kind:scope.kind=.function
 names:∀ y ∈ scope.names,y.2=.local→scope.names.lookup y.1=some .local
 lx:∀ x ∈ xs,scope.names.lookup x=some .local
 nd:(xs ++ caps).Nodup
 from_:∀ y c,cl.lookup y=some c→X.env.cells.lookup y=some c
 has:∀ y,((relabel scope X.env).names.lookup y=some .cell∨(relabel scope X.env).names.lookup y=some .free)→∃ c,cl.lookup y=some c
 len:cap.length=caps.length
 cps:∀ (i:Nat) (y:Str),caps[i]?=some y→∃ j,cap[i]?=some j∧X.N[j]?=some y∧X.env.scope.names.lookup y=some .cell∧(relabel scope X.env).names.lookup y=some .cell
def YB (cap:List Nat) (σ:St):St:=cap.map fun j=>(σ[j]?).getD none
def Uz (n:Nat) (wi:TI) (cap:List Nat) (g:TG) (tt:TT) (te:TE):TE:=fun σ H Q=>wi σ H fun J H1=>∀ acc,H1 acc=none→∃ W:Nat→Nat→Hp→Prop,(∃ m,W 0 m (upd H1 acc (.lst [])))∧∀ i m H2,W i m H2 →
 (J.stop i H2∧Q (.ref acc) H2)∨(J.go i H2∧∀ x H3,J.yld i H2 x H3→∀ as:St,as.length=n→g x (as ++ YB cap σ) H3 fun σ4 H4=>(∃ bs:St,bs.length=n∧σ4=bs ++ YB cap σ)∧tt σ4 H4 fun ok H5=>if ok=true then
  te σ4 H5 (fun y H6=>∃ ys,H6 acc=some (.lst ys)∧ys.length < sizeLine∧∃ m',m' < m∧W (i + 1) m' (upd H6 acc (.lst (ys ++ [y]))))
  else ∃ m',m' < m∧W (i + 1) m' H5)
theorem Jh {X:Cx} {elt iter tg:Expr} {xs:List Str} {ifs:List Expr} {scope:Scope} {pos pos':Pos} {wi:TI} {g:TG} {tt:TT} {te:TE} {cl:List (Str × Addr)} {caps:List Str} {cap:List Nat}
 (O:CompG X xs caps cap scope cl) (hc:X.calm=true) (hi:PI X tg iter wi) (hg:∀ C fp s₀ H₀,PG (QE X (xs ++ caps) scope cl C fp s₀ H₀) tg g)
 (ht:∀ C fp s₀ H₀,PF (QE X (xs ++ caps) scope cl C fp s₀ H₀) ifs tt) (he:∀ C fp s₀ H₀,PE (QE X (xs ++ caps) scope cl C fp s₀ H₀) elt te)
 (hs:∀ x,foldedSetIterable iter X.env x=pure x) {pins:List (11:)} {s:Shared} {σ:St} {H:Hp} {Q:VK} {use:Option (Value→Sem Unit)} {QQ:Value→Shared→Prop} (I:Inv X pins σ H s)
 (h:Uz xs.length wi cap g tt te σ H Q)
 (hfin:∀ D C H' s',Inv X pins σ H' s'→OwnAt X pins H' s' C→Q (.ref D) H'→compPost (5:) X.A X.xe use QQ (.ref D) C (.ok .next) s') :
 wpAny (5:) X.A (comprehension (.ListComp elt [⟨tg,iter,ifs,0⟩] scope pos) scope X.env pos' (newList []) false (eval iter X.env) use) QQ X.xe s:=by
 refine wpAny_comprehension_free rfl hs O.clos O.kind O.names (thn (hi pins s σ H _ I h) fun v s1 h1=>thn h1 fun itv s2 h2=>?_)
 obtain ⟨it,fp,tn,J,H1,e,I2,T,t0,f2,hR⟩:=h2
 subst e
 refine wpAny_newObj_type (wpAny_newFunctionEnv O.cell (by intro y hy;simp at hy) (fun h₁ hns hsb=>?_) O.kind)
 have hacc:H1 s2.heap.objs.size=none:=I2.fresh
 obtain ⟨W,⟨m0,w0⟩,turn⟩:=hR s2.heap.objs.size hacc
 have I3:Inv X pins σ (upd H1 s2.heap.objs.size (.lst [])) { s2 with heap:=s2.heap.push { cls:=.type "list", data:=.seq ([]:List Value).toArray } }:=I2.lnew (t':=s2.toks) (ys:=[]) (its:=[]) .nil (Nat.zero_le _)
 generalize hs3:({ s2 with heap:=s2.heap.push { cls:=.type "list", data:=.seq ([]:List Value).toArray } }:Shared)=s3 at hns hsb I3 ⊢
 generalize hD:s2.heap.objs.size=D at I3 w0 turn hacc ⊢
 generalize hH3:upd H1 D (.lst [])=H3 at I3 w0
 have keep3:∀ b o,s3.heap.get? b=some o→h₁.get? b=some o:=fun b o e=>(hsb.2 b (Nat.ne_of_lt (Heap.lt_size e))).trans (Heap.get?_push_of_some _ e)
 have hfp3:∀ b ∈ fp,H3 b=none:=fun b hb=>by
  rw [← hH3,Ql]
  ·exact (f2 b hb).1
  ·intro z
   obtain ⟨o,e,_⟩:=T.obj _ _ t0 b hb
   exact absurd (Heap.lt_size e) (by rw [z,hD];exact Nat.lt_irrefl _)
 have hCfresh:H3 s3.heap.objs.size=none:=I3.fresh
 have hCfp:∀ b ∈ fp,b≠s3.heap.objs.size:=fun b hb z=>by
  obtain ⟨o,e,_⟩:=T.obj _ _ t0 b hb
  have h2:s3.heap.objs.size=s2.heap.objs.size + 1:=by rw [← hs3];exact Heap.size_push ..
  exact absurd (Heap.lt_size e) (by rw [z,h2];exact Nat.not_lt.mpr (Nat.le_succ _))
 have t3:tn 0 h₁:=T.keep _ _ _ t0 fun b hb o e=>keep3 b o (by rw [← hs3];exact Heap.get?_push_of_some _ e)
 have ok':(7:).Ok:=by
  refine ⟨I3.ok.mod,O.kind,I3.ok.glob,I3.ok.blt,Nat.le_refl _,fun y z c e1 e2=>I3.ok.inj y z c (O.from_ y c e1) (O.from_ z c e2),fun y hy=>O.has y hy,fun y c z _=>(nomatch z),I3.ok.hd,I3.ok.frames,.inl rfl,fun b hb=>⟨hCfp b hb,fun y c e=>?_⟩,I3.bs,Nat.le_trans I3.ok.bsz I3.sz,fun b o e hb=>?_,fun b hb z=>?_,I3.stack,I3.stkFree⟩
  ·exact (f2 b hb).2.2.2.2.1 y c (O.from_ y c e)
  ·rcases (f2 b hb).2.2.2.1 with q | q
   ·exact I3.ok.noex b o e q
   ·exact absurd (Nat.lt_of_lt_of_le (Heap.lt_size e) (Nat.le_trans I3.ok.bsz q)) (Nat.lt_irrefl _)
  ·rcases List.mem_cons.mp (I3.stkSub b z) with q | q
   ·exact (f2 b hb).2.1 q
   ·exact (f2 b hb).2.2.1 q
 have I4:Inv (7:) [] (List.replicate xs.length none ++ YB cap σ) H3 { s3 with heap:=h₁,toks:=s3.toks + ([]:List (Str × Value)).length }:=by
  obtain ⟨m,hn,hl⟩:=id I3.loc
  refine ⟨ok',rfl,I3.bare,Un.kept keep3,⟨_,hns,fun i y v e1 e2 e3=>?_⟩,fun y c e=>?_,hCfresh,fun y c e=>I3.freeC y c (O.from_ y c e),fun p hp=>(nomatch hp),I3.hok.kept keep3,?_⟩
  ·by_cases hix:i < xs.length
   ·rw [List.getElem?_append_left (by rw [List.length_replicate];exact hix),List.getElem?_replicate,if_pos hix] at e2
    cases e2
   ·have e1':caps[i - xs.length]?=some y:=by
     have e1'':(xs ++ caps)[i]?=some y:=e1
     rwa [List.getElem?_append_right (10:)] at e1''
    obtain ⟨j,hj,hN,hk,hk'⟩:=O.cps _ y e1'
    have e2':(σ[j]?).getD none=some v:=by
     rw [List.getElem?_append_right (by rw [List.length_replicate];lia),List.length_replicate] at e2
     unfold YB at e2
     simpa [hj] using e2
    have e2'':σ[j]?=some (some v):=by
     cases q:σ[j]? with
     | none=>rw [q] at e2';cases e2'
     | some a=>rw [q] at e2';exact congrArg some e2'
    obtain ⟨u,r,l⟩:=hl j y v hN e2'' (.inr (.inl hk))
    refine ⟨u,r,?_⟩
    rcases l with ⟨k,_⟩ | ⟨k,c,e,z⟩
    ·have k':X.env.scope.names.lookup y=some .local:=k
     rw [hk] at k';cases k'
    ·obtain ⟨c',hc'⟩:=O.has y (.inl hk')
     have:c'=c:=Option.some.inj ((O.from_ y c' hc').symm.trans e)
     subst this
     refine .inr ⟨.inl hk',c',hc',?_⟩
     obtain ⟨o,ho,hd⟩:=z
     exact ⟨o,keep3 _ _ ho,hd⟩
  ·obtain ⟨v,o,ho,hd⟩:=I3.cell y c (O.from_ y c e)
   exact ⟨v,o,keep3 _ _ ho,hd⟩
  ·show (List.replicate xs.length none ++ YB cap σ).length=(xs ++ caps).length
   simp [YB,O.len]
 have fin:∀ (H':Hp) (σ':St) (s':Shared),Inv (7:) [] σ' H' s'→Q (.ref D) H' →
  compPost (5:) X.A X.xe use QQ (.ref D) s3.heap.objs.size (.ok .next) s':=fun H' σ' s' I' q=>by
  obtain ⟨m,hn,_⟩:=id I'.loc
  have hU:Un (frs X.stack) fp H3 H' s3.heap s'.heap:=I'.base
  have hok2:HOk X.prog X.w H' s'.heap:=I'.hok
  have os':s'.os=s3.os:=I'.os
  have I6:Inv X pins σ H' s':=I3.call' (ch:=fp) os' hU hok2 I'.bare (fun b hb=>⟨(f2 b hb).2.2.2.1,(f2 b hb).2.1,(f2 b hb).2.2.2.2⟩)
  refine hfin D _ H' s' I6 ⟨⟨m,hn⟩,I'.free,Nat.ne_of_gt I3.lt,I3.sz,fun y c e z=>?_,fun p hp z=>?_⟩ q
  ·obtain ⟨v,hv⟩:=I3.cell y c e
   exact absurd hv.lt (by rw [z];exact Nat.lt_irrefl _)
  ·exact absurd (Heap.lt_size (I3.pin p hp).1) (by rw [z];exact Nat.lt_irrefl _)
 have stat:∀ {H':Hp},(∀ b ∈ fp,H' b=none)→∀ b ∈ fp,Um (7:) [] H' b:=fun hn b hb =>
  ⟨hn b hb,hCfp b hb,ok'.exfs b hb,.inl hb,fun y c e=>(f2 b hb).2.2.2.2.1 y c (O.from_ y c e),fun p hp=>(nomatch hp)⟩
 have loop:codeAny (5:) X.A (.compLoop (.ListComp elt [⟨tg,iter,ifs,0⟩] scope pos) 0 (.ref it) (.ref D) (compEnvC scope cl s3.heap.objs.size X.env))
  (compPost (5:) X.A X.xe use QQ (.ref D) s3.heap.objs.size) { s3 with heap:=h₁,toks:=s3.toks + ([]:List (Str × Value)).length }:=by
  refine codeAny_loop rfl (fun n s'=>∃ i as H',as.length=xs.length∧Inv (7:) [] (as ++ YB cap σ) H' s'∧tn i s'.heap∧(∀ b ∈ fp,H' b=none)∧W i n H') ?_ m0 ⟨0,_,H3,List.length_replicate,I4,t3,hfp3,w0⟩
  rintro n s5 ⟨i,as,H5,has,I5,st5,fr5,w5⟩
  show wpAny _ _ ((compTurn (.ListComp elt [⟨tg,iter,ifs,0⟩] scope pos) 0 (.ref it) (.ref D) (compEnvC scope cl s3.heap.objs.size X.env)).onRaise (fun x=>do noteFrame x (compEnvC scope cl s3.heap.objs.size X.env);theTreesLotGoes x)) _ _ s5
  refine wpAny_noted ?_
  rw [compTurn_list]
  refine wpAny_bind (wpAny_standAt (wpAny_bind ?_))
  have bad:∀ {M:Model} {A:Around} {α:Type} {t:Sem α} {P:α→Shared→Prop} {E':Value→Shared→Prop} {s':Shared},wpAny M A t P (fun _ _=>False) s'→wpAny M A t P E' s':=fun h=>wpAny_mono h (fun _ _ q=>q) fun _ _ z=>z.elim
  rcases turn i n H5 w5 with ⟨stop,qn⟩ | ⟨go,step⟩
  ·refine bad (thn (T.done (7:) rfl rfl rfl hc i [] s5 _ H5 (fun _ _=>False) I5 (stat fr5) st5 stop) fun r s6 ⟨hr,I6⟩=>?_)
   subst hr
   exact wpAny_pure (fin H5 _ s6 I6 qn)
  ·refine bad (thn (T.item (7:) rfl rfl rfl hc i [] s5 _ H5 (fun _ _=>False) I5 (stat fr5) st5 go) fun r s6 ⟨u,hr,h6⟩=>?_)
   subst hr
   refine wpAny_bind (bad (thn h6 fun _ s7 ⟨y,H7,I7,r7,y7,st7,fr7⟩=>?_))
   have I7':=I7.pinned (stat fr7) (T.obj _ _ st7)
   have goal:=step y H7 y7 as has
   refine wpAny_bind (bad (thn (hg s3.heap.objs.size fp s3 H3 _ s7 _ H7 y _ _ I7' r7 goal) fun _ s8 ⟨σ8,H8,I8,⟨bs,hbs,eσ⟩,goal8⟩=>?_))
   subst eσ
   refine wpAny_bind (bad (thn (ht s3.heap.objs.size fp s3 H3 _ s8 _ H8 _ I8 goal8) fun okb s9 ⟨H9,I9,q9⟩=>?_))
   have again:∀ {H10:Hp} {s10:Shared} {m':Nat},Inv (7:) ([] ++ Uw fp s7.heap) (bs ++ YB cap σ) H10 s10→m' < n→W (i + 1) m' H10 →
    ∃ m,m < n∧∃ i as H',as.length=xs.length∧Inv (7:) [] (as ++ YB cap σ) H' s10∧tn i s10.heap∧(∀ b ∈ fp,H' b=none)∧W i m H':=fun {H10 s10 m'} I10 hm w10=>by
    refine ⟨m',hm,i + 1,bs,H10,hbs,I10.unpinned,T.keep _ _ _ st7 fun b hb o e=>(I10.pin (b,o) (List.mem_append_right _ (List.mem_append_right _ (Zl hb e)))).1,fun b hb=>?_,w10⟩
    obtain ⟨o,e,d⟩:=T.obj _ _ st7 b hb
    exact (I10.pin (b,o) (List.mem_append_right _ (List.mem_append_right _ (Zl hb e)))).2.1
   cases okb with
   | false =>
    rw [if_neg Bool.false_ne_true] at q9
    obtain ⟨m',hm,w9⟩:=q9
    exact wpAny_pure ⟨rfl,again I9 hm w9⟩
   | true =>
    rw [if_pos rfl] at q9
    refine wpAny_bind (wpAny_bind (bad (thn (he s3.heap.objs.size fp s3 H3 _ s9 _ H9 _ I9 q9) fun yv s10 ⟨yy,H10,I10,r10,ys,hys,hlen,m',hm,w10⟩=>?_)))
    refine wpAny_bind (bad (thn (Zz (X:=QE X (xs ++ caps) scope cl s3.heap.objs.size fp s3 H3) _ s10 _ H10 (.ref D) [yy] (.ref D) [yv] (fun _ H11=>W (i + 1) m' H11) I10 rfl (.cons r10 .nil) ⟨D,ys,yy,rfl,rfl,hys,hlen,w10⟩) fun _ s11 ⟨_,H11,I11,_,q11⟩=>?_))
    exact wpAny_pure (wpAny_pure ⟨rfl,again I11 hm q11⟩)
 refine codeAny_compStart_list loop (T.self _ 0 _ _ _ t3 loop)
theorem QT {X:Cx} {elt iter tg:Expr} {xs:List Str} {ifs:List Expr} {scope:Scope} {pos:Pos} {wi:TI} {g:TG} {tt:TT} {te:TE} {cl:List (Str × Addr)} {caps:List Str} {cap:List Nat}
 (O:CompG X xs caps cap scope cl) (hc:X.calm=true) (hi:PI X tg iter wi) (hg:∀ C fp s₀ H₀,PG (QE X (xs ++ caps) scope cl C fp s₀ H₀) tg g)
 (ht:∀ C fp s₀ H₀,PF (QE X (xs ++ caps) scope cl C fp s₀ H₀) ifs tt) (he:∀ C fp s₀ H₀,PE (QE X (xs ++ caps) scope cl C fp s₀ H₀) elt te)
 (hs:∀ x,foldedSetIterable iter X.env x=pure x:=by intro _;rfl) :
 PE X (.ListComp elt [⟨tg,iter,ifs,0⟩] scope pos) (Uz xs.length wi cap g tt te):=by
 intro pins s σ H Q I h
 rw [eval_ListComp]
 exact Jh (use:=none) O hc hi hg ht he hs I h fun D C H' s' I' o q=>by
  obtain ⟨m,hn⟩:=o.ns
  exact ⟨m,hn,fun h' hb=>⟨.ref D,H',o.go I' hb,rfl,q⟩⟩
theorem Gh {X:Cx} {elt iter tg:Expr} {xs:List Str} {y:Str} {py:Pos} {ifs:List Expr} {scope:Scope} {pos spos:Pos} {wi:TI} {g:TG} {tt:TT} {te:TE} {cl:List (Str × Addr)} {caps:List Str} {cap:List Nat} {i:Nat}
 (O:CompG X xs caps cap scope cl) (hc:X.calm=true) (hi:PI X tg iter wi) (hg:∀ C fp s₀ H₀,PG (QE X (xs ++ caps) scope cl C fp s₀ H₀) tg g)
 (ht:∀ C fp s₀ H₀,PF (QE X (xs ++ caps) scope cl C fp s₀ H₀) ifs tt) (he:∀ C fp s₀ H₀,PE (QE X (xs ++ caps) scope cl C fp s₀ H₀) elt te)
 (hN:X.N.Nodup) (hy:X.N[i]?=some y) (hl:X.env.scope.names.lookup y=some .local)
 (hsw:swapsWith (.ListComp elt [⟨tg,iter,ifs,0⟩] scope pos) (some (.Name y py)) spos.line X.env=pure true:=by rfl)
 (hs:∀ x,foldedSetIterable iter X.env x=pure x:=by intro _;rfl) :
 PS X (.Assign [.Name y py] (.ListComp elt [⟨tg,iter,ifs,0⟩] scope pos) spos) (Mz (Uz xs.length wi cap g tt te) (QJ i)):=by
 intro pins s σ H D I h
 rw [exec_Assign_Name_used _ _ _ _ hsw]
 refine wpAny_bind (wpAny_standAt (wpAny_bind ?_))
 show wpAny _ X.A (do let _ ← comprehension (.ListComp elt [⟨tg,iter,ifs,0⟩] scope pos) scope X.env _ (newList []) false (eval iter X.env) (some (assign (.Name y py) X.env))) _ _ s
 refine wpAny_bind (thn (Jh (use:=some (assign (.Name y py) X.env)) (QQ:=fun _ s'=>SP X pins D .next s') O hc hi hg ht he hs I h fun Dd C H' s' I' o q=>?_) fun _ s' hq=>wpAny_pure (wpAny_pure hq))
 obtain ⟨m,hn⟩:=o.ns
 show wpAny _ X.A (assign (.Name y py) X.env (.ref Dd)) _ _ s'
 refine wpAny_assign_Name (Uk (v:=.ref Dd) I' hN hy (.inl hl) rfl (fun s2 I2 sb=>?_) (.inr hl))
 obtain ⟨a,sb,ha⟩:=sb
 have hCa:C≠a:=by
  rcases ha with z | z
  ·rw [z];exact o.loc
  ·exact Ne.symm (o.cells y a z)
 have o2:OwnAt X pins H' s2 C:=⟨⟨m,hn.sameBut sb hCa⟩,o.free,o.loc,o.above,o.cells,o.pins⟩
 refine ⟨m,hn.sameBut sb hCa,fun h' hb=>?_⟩
 exact ⟨_,H',o2.go I2 hb,q⟩
section
variable {X:Cx} {xs caps:List Str} {cap:List Nat} {scope:Scope} {cl:List (Str × Addr)}
theorem ZL {x:Str} {px:Pos} (O:CompG X [x] caps cap scope cl):∀ C fp s₀ H₀,PG (QE X ([x] ++ caps) scope cl C fp s₀ H₀) (.Name x px) (QJ 0):=fun C fp s₀ H₀ =>
 Qr (X:=QE X ([x] ++ caps) scope cl C fp s₀ H₀) (i:=0) O.nd rfl (.inl (lookup_relabel_local (O.lx x (by simp)))) (.inr (lookup_relabel_local (O.lx x (by simp))))
theorem OH {x y:Str} {px py pos:Pos} {k:Nat} (O:CompG X [x,y] caps cap scope cl) (hc:X.calm=true):∀ C fp s₀ H₀,PG (QE X ([x,y] ++ caps) scope cl C fp s₀ H₀) (.Tuple [.Name x px,.Name y py] k pos) (PU X.K 2 (Wz (QJ 0) (Wz (QJ 1) Pe))):=fun C fp s₀ H₀ =>
 Zt (X:=QE X ([x,y] ++ caps) scope cl C fp s₀ H₀) hc (Qv (Qr (i:=0) O.nd rfl (.inl (lookup_relabel_local (O.lx x (by simp)))) (.inr (lookup_relabel_local (O.lx x (by simp)))))
  (Qv (Qr (i:=1) O.nd rfl (.inl (lookup_relabel_local (O.lx y (by simp)))) (.inr (lookup_relabel_local (O.lx y (by simp))))) Za))
end
theorem JQ {k:NameKind} {y:Str}:∀ {l:List (Str × NameKind)},l.lookup y=some k→(y,k) ∈ l
 | [],h=>by simp at h
 | (n,j) :: r,h=>by
  cases hx:y == n with
  | true =>
   simp only [List.lookup_cons,hx] at h
   have:y=n:=by simpa using hx
   cases h
   rw [this];exact List.mem_cons_self
  | false =>
   simp only [List.lookup_cons,hx] at h
   exact List.mem_cons_of_mem _ (JQ h)
theorem U6 {y:Str} {c:Addr}:∀ {l:List (Str × Addr)},l.lookup y=some c→(y,c) ∈ l
 | [],h=>by simp at h
 | (n,j) :: r,h=>by
  cases hx:y == n with
  | true =>
   simp only [List.lookup_cons,hx] at h
   have:y=n:=by simpa using hx
   cases h
   rw [this];exact List.mem_cons_self
  | false =>
   simp only [List.lookup_cons,hx] at h
   exact List.mem_cons_of_mem _ (U6 h)
theorem Jo {y:Str} {c:Addr}:∀ {l:List (Str × Addr)},(y,c) ∈ l→∃ c',l.lookup y=some c'
 | [],h=>by cases h
 | (n,j) :: r,h=>by
  cases hx:y == n with
  | true=>exact ⟨j,by simp only [List.lookup_cons,hx]⟩
  | false =>
   simp only [List.lookup_cons,hx]
   rcases List.mem_cons.mp h with z | z
   ·have:y=n:=congrArg Prod.fst z
    rw [this] at hx
    simp at hx
   ·exact Jo z
theorem Ub {env:Env} {y:Str} (hf:env.scope.kind=.function) (hy:env.kindOf y=some .cell):∀ {names:List (Str × NameKind)},names.lookup y=some .free →
 (names.map fun (n,k)=>if (k == NameKind.free && env.scope.kind == .function && env.kindOf n == some .cell) then (n,NameKind.cell) else (n,k)).lookup y=some .cell
 | [],h=>by simp at h
 | (n,k) :: r,h=>by
  show List.lookup y ((if (k == NameKind.free && env.scope.kind == .function && env.kindOf n == some .cell)=true then (n,NameKind.cell) else (n,k)) :: _)=_
  cases hx:y == n with
  | true =>
   simp only [List.lookup_cons,hx] at h
   have e:y=n:=by simpa using hx
   cases h
   rw [← e,hf,hy]
   simp
  | false =>
   simp only [List.lookup_cons,hx] at h
   have ih:=Ub hf hy h
   split
   ·simp only [List.lookup_cons,hx];exact ih
   ·simp only [List.lookup_cons,hx];exact ih
def U7 (names:List (Str × NameKind)):List Str:=names.filterMap fun z=>if z.2 == NameKind.free then some z.1 else none
theorem YN {env:Env}:∀ (names:List (Str × NameKind)) (caps:List Str) (cs:List Addr) (acc:List (Str × Addr)),U7 names=caps→caps.map (fun y=>env.cells.lookup y)=cs.map some →
 (forIn names acc fun (x:Str × NameKind) (r:List (Str × Addr))=>(if (x.2 == NameKind.free)=true then do let a ← cellOf env x.1;pure (ForInStep.yield ((x.1,a) :: r)) else pure (ForInStep.yield r):Sem (ForInStep (List (Str × Addr)))))=(pure ((caps.zip cs).reverse ++ acc):Sem (List (Str × Addr)))
 | [],caps,cs,acc,h1,h2=>by
  have:caps=[]:=h1.symm
  subst this
  simp
 | (n,k) :: r,caps,cs,acc,h1,h2=>by
  rw [List.forIn_cons]
  by_cases hk:(k == NameKind.free)=true
  ·have e1:caps=n :: U7 r:=by
    rw [← h1];unfold U7
    rw [List.filterMap_cons]
    simp only [hk,if_true]
   subst e1
   cases cs with
   | nil=>simp at h2
   | cons c cs =>
    simp only [List.map_cons,List.cons.injEq] at h2
    have hcell:cellOf env n=pure c:=by unfold cellOf;rw [h2.1]
    simp only [hk,if_true,hcell,pure_bind]
    rw [YN r _ cs ((n,c) :: acc) rfl h2.2]
    simp
  ·have e1:caps=U7 r:=by
    rw [← h1];unfold U7
    rw [List.filterMap_cons]
    simp only [hk]
    rfl
   subst e1
   simp only [hk,if_false,pure_bind]
   exact YN r _ cs acc rfl h2
theorem US {env:Env} {scope:Scope} {caps:List Str} {cs:List Addr} (hf:U7 scope.names=caps) (hc:caps.map (fun y=>env.cells.lookup y)=cs.map some):closureFor scope env=pure (caps.zip cs).reverse:=by
 have h:=YN (env:=env) scope.names caps cs [] hf hc
 rw [List.append_nil] at h
 unfold closureFor
 simp only [bind_pure]
 exact h
theorem CompG.many {X:Cx} {xs caps:List Str} {cap:List Nat} {cs:List Addr} {scope:Scope} (hk:scope.kind=.function) (hf:X.env.scope.kind=.function) (hfr:U7 scope.names=caps)
 (hnc:∀ z ∈ scope.names,z.2≠.cell) (hl:∀ y ∈ scope.names,y.2=.local→scope.names.lookup y.1=some .local) (hlx:∀ x ∈ xs,scope.names.lookup x=some .local) (hnd:(xs ++ caps).Nodup)
 (hfl:∀ y ∈ caps,scope.names.lookup y=some .free) (hce:caps.map (fun y=>X.env.scope.names.lookup y)=caps.map fun _=>some .cell) (hcs:caps.map (fun y=>X.env.cells.lookup y)=cs.map some)
 (hN:cap.map (fun j=>X.N[j]?)=caps.map some):CompG X xs caps cap scope (caps.zip cs).reverse:=by
 have hlen:caps.length=cs.length:=by simpa using congrArg List.length hcs
 have at_cs:∀ (i:Nat) (y:Str),caps[i]?=some y→∃ c,cs[i]?=some c∧X.env.cells.lookup y=some c:=fun i y h=>by
  have e:=congrArg (fun l=>l[i]?) hcs
  simp only [List.getElem?_map,h] at e
  cases q:cs[i]? with
  | none=>rw [q] at e;simp at e
  | some c=>rw [q] at e;exact ⟨c,rfl,by simpa using e⟩
 refine ⟨US hfr hcs,hnc,hk,hl,hlx,hnd,fun y c h=>?_,fun y h=>?_,?_,fun i y h=>?_⟩
 ·have hm:=U6 h
  rw [List.mem_reverse] at hm
  obtain ⟨i,hi,e⟩:=List.getElem_of_mem hm
  have hi1:i < caps.length:=by rw [List.length_zip] at hi;lia
  have hi2:i < cs.length:=by rw [List.length_zip] at hi;lia
  rw [List.getElem_zip] at e
  obtain ⟨c',e1,e2⟩:=at_cs i caps[i] (List.getElem?_eq_getElem hi1)
  have e3:caps[i]=y:=congrArg Prod.fst e
  have e4:cs[i]=c:=congrArg Prod.snd e
  rw [List.getElem?_eq_getElem hi2,e4] at e1
  cases e1
  rw [← e3];exact e2
 ·have hm:y ∈ caps:=by
   have aux:∀ k:NameKind,(k=.cell∨k=.free)→(relabel scope X.env).names.lookup y=some k→y ∈ caps:=fun k hk h=>by
    have h1:=JQ h
    obtain ⟨z,hz,e⟩:=List.mem_map.mp h1
    obtain ⟨n,kk⟩:=z
    have hfree:kk=.free∧n=y:=by
     dsimp only at e
     split at e
     ·rename_i q
      simp only [Bool.and_eq_true] at q
      exact ⟨by simpa using q.1.1,congrArg Prod.fst e⟩
     ·have e2:kk=k:=congrArg Prod.snd e
      refine ⟨?_,congrArg Prod.fst e⟩
      rcases hk with z | z
      ·exact absurd (e2.trans z) (hnc _ hz)
      ·exact e2.trans z
    rw [← hfr]
    refine List.mem_filterMap.mpr ⟨(n,kk),hz,?_⟩
    rw [hfree.1,hfree.2];rfl
   rcases h with h | h
   ·exact aux _ (.inl rfl) h
   ·exact aux _ (.inr rfl) h
  obtain ⟨i,hi,e⟩:=List.getElem_of_mem hm
  have hi2:i < cs.length:=by lia
  refine Jo (c:=cs[i]) ?_
  rw [List.mem_reverse]
  have hiz:i < (caps.zip cs).length:=by rw [List.length_zip];lia
  have:=List.getElem_mem hiz
  rw [List.getElem_zip,e] at this
  exact this
 ·have:=congrArg List.length hN
  simpa using this
 ·have e:=congrArg (fun l=>l[i]?) hN
  simp only [List.getElem?_map,h] at e
  have hm:=List.mem_of_getElem? h
  cases q:cap[i]? with
  | none=>rw [q] at e;simp at e
  | some j =>
   rw [q] at e
   have hcell:X.env.scope.names.lookup y=some .cell:=by
    have e2:=congrArg (fun l=>l[i]?) hce
    simpa only [List.getElem?_map,h,Option.map_some,Option.some.injEq] using e2
   exact ⟨j,rfl,by simpa using e,hcell,Ub hf hcell (hfl y hm)⟩
theorem ZG {J:It} {n N:Nat} {cs:St} {g:TG} {tt:TT} {te:TE} {H1:Hp} {acc:Addr} {Q:Hp→Prop} (Pv:Nat→List V→Hp→Prop) (h0:Pv 0 [] (upd H1 acc (.lst [])))
 (hstop:∀ ys H,Pv N ys H→J.stop N H∧Q H)
 (hstep:∀ i ys H,i < N→Pv i ys H→J.go i H∧∀ x H3,J.yld i H x H3→∀ as:St,as.length=n→g x (as ++ cs) H3 fun σ4 H4=>(∃ bs:St,bs.length=n∧σ4=bs ++ cs)∧tt σ4 H4 fun ok H5=>if ok=true then te σ4 H5 (MJ N Pv acc i (N - i)) else ∃ m',m' < N - i∧VS N Pv (i + 1) m' H5) :
 ∃ W:Nat→Nat→Hp→Prop,(∃ m,W 0 m (upd H1 acc (.lst [])))∧∀ i m H2,W i m H2 →
  (J.stop i H2∧Q H2)∨(J.go i H2∧∀ x H3,J.yld i H2 x H3→∀ as:St,as.length=n→g x (as ++ cs) H3 fun σ4 H4=>(∃ bs:St,bs.length=n∧σ4=bs ++ cs)∧tt σ4 H4 fun ok H5=>if ok=true then
   te σ4 H5 (fun y H6=>∃ ys,H6 acc=some (.lst ys)∧ys.length < sizeLine∧∃ m',m' < m∧W (i + 1) m' (upd H6 acc (.lst (ys ++ [y]))))
   else ∃ m',m' < m∧W (i + 1) m' H5):=by
 refine ⟨VS N Pv,⟨N - 0,rfl,Nat.zero_le _,[],h0⟩,?_⟩
 rintro i m H2 ⟨rfl,hi,ys,p⟩
 by_cases h:i < N
 ·exact .inr (hstep i ys H2 h p)
 ·have e:i=N:=by lia
  subst e
  exact .inl (hstop ys H2 p)
abbrev Nw (N:Nat) (Pv:Nat→List V→Hp→Prop) (acc:Addr) (i:Nat) (te:TE) (σ:St):Bool→Hp→Prop:=fun ok H5=>if ok=true then te σ H5 (MJ N Pv acc i (N - i)) else ∃ m',m' < N - i∧VS N Pv (i + 1) m' H5
abbrev WO (J:It) (n:Nat) (cs:St) (g:TG) (tt:TT) (te:TE) (H1:Hp) (acc:Addr) (Q:Hp→Prop):Prop :=
 ∃ W:Nat→Nat→Hp→Prop,(∃ m,W 0 m (upd H1 acc (.lst [])))∧∀ i m H2,W i m H2 →
  (J.stop i H2∧Q H2)∨(J.go i H2∧∀ x H3,J.yld i H2 x H3→∀ as:St,as.length=n→g x (as ++ cs) H3 fun σ4 H4=>(∃ bs:St,bs.length=n∧σ4=bs ++ cs)∧tt σ4 H4 fun ok H5=>if ok=true then
   te σ4 H5 (fun y H6=>∃ ys,H6 acc=some (.lst ys)∧ys.length < sizeLine∧∃ m',m' < m∧W (i + 1) m' (upd H6 acc (.lst (ys ++ [y]))))
   else ∃ m',m' < m∧W (i + 1) m' H5)
section
variable {K:Fg} {a b acc:Addr} {xs zs:List V} {tt:TT} {te:TE} {cs:St} {H1:Hp} {Q:Hp→Prop}
theorem U1 (Pv:Nat→List V→Hp→Prop) (h0:Pv 0 [] (upd H1 acc (.lst []))) (hl:∀ i ys H,i≤xs.length→Pv i ys H→SqL K H a xs)
 (hs:∀ i x ys H,i < xs.length→xs[i]?=some x→Pv i ys H→tt (some x :: cs) H (Nw xs.length Pv acc i te (some x :: cs))) (hd:∀ ys H,Pv xs.length ys H→Q H):WO (Itl K a) 1 cs (QJ 0) tt te H1 acc Q:=by
 refine ZG Pv h0 (fun ys H p=>⟨⟨xs,hl _ _ _ (8:) p,Nat.le_refl _⟩,hd ys H p⟩) fun i ys H hi p=>⟨⟨xs,xs[i],hl _ _ _ (Nat.le_of_lt hi) p,List.getElem?_eq_getElem hi⟩,?_⟩
 rintro x H3 ⟨rfl,hx⟩ as has
 obtain ⟨a0,rfl⟩ : ∃ a0,as=[a0]:=List.length_eq_one_iff.mp has
 exact ⟨⟨[some x],rfl,rfl⟩,hs i x ys _ hi (hx xs (hl _ _ _ (Nat.le_of_lt hi) p)) p⟩
theorem Xz (Pv:Nat→List V→Hp→Prop) (h0:Pv 0 [] (upd H1 acc (.lst []))) (hl:∀ i ys H,i≤xs.length→Pv i ys H→SqT K H a xs)
 (hs:∀ i x ys H,i < xs.length→xs[i]?=some x→Pv i ys H→tt (some x :: cs) H (Nw xs.length Pv acc i te (some x :: cs))) (hd:∀ ys H,Pv xs.length ys H→Q H):WO (Itt K a) 1 cs (QJ 0) tt te H1 acc Q:=by
 refine ZG Pv h0 (fun ys H p=>⟨⟨xs,hl _ _ _ (8:) p,Nat.le_refl _⟩,hd ys H p⟩) fun i ys H hi p=>⟨⟨xs,xs[i],hl _ _ _ (Nat.le_of_lt hi) p,List.getElem?_eq_getElem hi⟩,?_⟩
 rintro x H3 ⟨rfl,hx⟩ as has
 obtain ⟨a0,rfl⟩ : ∃ a0,as=[a0]:=List.length_eq_one_iff.mp has
 exact ⟨⟨[some x],rfl,rfl⟩,hs i x ys _ hi (hx xs (hl _ _ _ (Nat.le_of_lt hi) p)) p⟩
theorem Yp {lo:Int} {n:Nat} (Pv:Nat→List V→Hp→Prop) (h0:Pv 0 [] (upd H1 acc (.lst [])))
 (hs:∀ i ys H,i < n→Pv i ys H→tt (some (.int (lo + i)) :: cs) H (Nw n Pv acc i te (some (.int (lo + i)) :: cs))) (hd:∀ ys H,Pv n ys H→Q H):WO (Itr lo n) 1 cs (QJ 0) tt te H1 acc Q:=by
 refine ZG Pv h0 (fun ys H p=>⟨Nat.le_refl _,hd ys H p⟩) fun i ys H hi p=>⟨hi,?_⟩
 rintro x H3 ⟨rfl,rfl⟩ as has
 obtain ⟨a0,rfl⟩ : ∃ a0,as=[a0]:=List.length_eq_one_iff.mp has
 exact ⟨⟨[some _],rfl,rfl⟩,hs i ys _ hi p⟩
theorem NN {as:St} (h:as.length=2):∃ a0 a1,as=[a0,a1]:=by
 match as,h with
 | [a0,a1],_=>exact ⟨a0,a1,rfl⟩
theorem VY (Pv:Nat→List V→Hp→Prop) (h0:Pv 0 [] (upd H1 acc (.lst []))) (hl:∀ i ys H,i≤xs.length→Pv i ys H→SqL K H a xs)
 (hs:∀ i x ys H,i < xs.length→xs[i]?=some x→Pv i ys H→∃ p u v,x=.ref p∧SqT K H p [u,v]∧tt (some u :: some v :: cs) H (Nw xs.length Pv acc i te (some u :: some v :: cs))) (hd:∀ ys H,Pv xs.length ys H→Q H):WO (Itl K a) 2 cs (PU K 2 (Wz (QJ 0) (Wz (QJ 1) Pe))) tt te H1 acc Q:=by
 refine ZG Pv h0 (fun ys H p=>⟨⟨xs,hl _ _ _ (8:) p,Nat.le_refl _⟩,hd ys H p⟩) fun i ys H hi p=>⟨⟨xs,xs[i],hl _ _ _ (Nat.le_of_lt hi) p,List.getElem?_eq_getElem hi⟩,?_⟩
 rintro x H3 ⟨rfl,hx⟩ as has
 obtain ⟨a0,a1,rfl⟩:=NN has
 obtain ⟨q,u,v,rfl,hq,h⟩:=hs i x ys _ hi (hx xs (hl _ _ _ (Nat.le_of_lt hi) p)) p
 exact ⟨q,[u,v],rfl,hq,rfl,u,[v],rfl,v,[],rfl,rfl,⟨[some u,some v],rfl,rfl⟩,h⟩
end
end L2
namespace L2
open PySem PySem.Spec PyProof.Rows
section
variable {κ:Type} [DecidableEq κ]
def ZM (kvs:List (κ × V)) (k:κ):Option V:=(kvs.find? fun kv=>decide (kv.1=k)).map (·.2)
def UC (kvs:List (κ × V)) (k:κ) (v:V):List (κ × V) :=
 if (kvs.any fun kv=>decide (kv.1=k))=true then kvs.map (fun kv=>if kv.1=k then (kv.1,v) else kv) else kvs ++ [(k,v)]
theorem ZZ {p:κ × V} {r:List (κ × V)} {k:κ} (e:p.1=k):ZM (p :: r) k=some p.2:=by simp [ZM,List.find?_cons,e]
theorem ZP {p:κ × V} {r:List (κ × V)} {k:κ} (e:¬ p.1=k):ZM (p :: r) k=ZM r k:=by simp [ZM,List.find?_cons,e]
theorem Jl (k:κ):∀ kvs:List (κ × V),(kvs.any fun kv=>decide (kv.1=k))=(ZM kvs k).isSome
 | []=>rfl
 | p :: r=>by
  rw [List.any_cons]
  by_cases e:p.1=k
  ·simp only [ZZ e,decide_eq_true e,Bool.true_or,Option.isSome_some]
  ·rw [ZP e,decide_eq_false e,Bool.false_or];exact Jl k r
theorem UD (kvs:List (κ × V)) (k:κ) (v:V):(UC kvs k v).length≤kvs.length + 1:=by
 unfold UC
 split
 ·rw [List.length_map];lia
 ·rw [List.length_append,List.length_cons,List.length_nil];lia
theorem W2 {kvs:List (κ × V)} {k:κ} (v:V) (h:ZM kvs k=none):UC kvs k v=kvs ++ [(k,v)]:=by
 unfold UC
 rw [Jl,h]
 exact if_neg (by decide)
theorem RelO.isSome_eq {o:Option V} {u:Option Value} (r:RelO o u):o.isSome=u.isSome:=by
 cases o with
 | none=>cases u with
  | none=>rfl
  | some _=>exact (show False from r).elim
 | some _=>cases u with
  | none=>exact (show False from r).elim
  | some _=>rfl
theorem RelO.getD {o:Option V} {u:Option Value} {d:V} {d':Value} (r:RelO o u) (rd:RelV d d'):RelV (o.getD d) (u.getD d'):=by
 cases o with
 | none=>cases u with
  | none=>exact rd
  | some _=>exact (show False from r).elim
 | some _=>cases u with
  | none=>exact (show False from r).elim
  | some _=>exact r
theorem KV.val {kvs:List (κ × V)} {vs:List (κ × Value)} (r:KV kvs vs) (k:κ):RelO (ZM kvs k) (valueAt vs k):=by
 unfold KV at r
 induction r with
 | nil=>exact True.intro
 | @cons p q ps qs h t ih =>
  obtain ⟨h1,h2⟩:=h
  by_cases e:p.1=k
  ·have e':q.1=k:=h1.symm.trans e
   have b:valueAt (q :: qs) k=some q.2:=by simp [valueAt,List.find?_cons,e']
   rw [ZZ e,b];exact h2
  ·have e':¬ q.1=k:=fun z=>e (h1.trans z)
   have b:valueAt (q :: qs) k=valueAt qs k:=by simp [valueAt,List.find?_cons,e']
   rw [ZP e,b];exact ih
theorem KV.any {kvs:List (κ × V)} {vs:List (κ × Value)} (r:KV kvs vs) (k:κ):(kvs.any fun kv=>decide (kv.1=k))=vs.any fun kv=>decide (kv.1=k):=by
 unfold KV at r
 induction r with
 | nil=>rfl
 | cons h t ih=>rw [List.any_cons,List.any_cons,ih,h.1]
theorem KV.repl {kvs:List (κ × V)} {vs:List (κ × Value)} (r:KV kvs vs) (k:κ) {y:V} {u:Value} (ry:RelV y u) :
 KV (kvs.map fun kv=>if kv.1=k then (kv.1,y) else kv) (vs.map fun kv=>if kv.1=k then (kv.1,u) else kv):=by
 unfold KV at r ⊢
 induction r with
 | nil=>exact .nil
 | @cons p q ps qs h t ih =>
  rw [List.map_cons,List.map_cons]
  refine .cons ?_ ih
  obtain ⟨h1,h2⟩:=h
  by_cases e:p.1=k
  ·rw [if_pos e,if_pos (h1.symm.trans e)];exact ⟨h1,ry⟩
  ·rw [if_neg e,if_neg (fun z=>e (h1.trans z))];exact ⟨h1,h2⟩
theorem KV.put {kvs:List (κ × V)} {vs:List (κ × Value)} (r:KV kvs vs) (k:κ) {y:V} {u:Value} (ry:RelV y u):KV (UC kvs k y) (stored vs k u):=by
 unfold UC stored
 rw [r.any k]
 by_cases e:(vs.any fun kv=>decide (kv.1=k))=true
 ·rw [if_pos e,if_pos e];exact r.repl k ry
 ·rw [if_neg e,if_neg e];exact Paired.snoc r ⟨rfl,ry⟩
theorem KV.length {kvs:List (κ × V)} {vs:List (κ × Value)} (r:KV kvs vs):kvs.length=vs.length:=Paired.length r
end
theorem Jy {P:Program} {w:World} {k:Key} {u:Value} (r:RelV (kV k) u):(QD P w).is k u=true:=by
 cases k with
 | inl i=>obtain ⟨t,e⟩:=(show ∃ t,u=Value.int i t from r);subst e;exact WD P w i t
 | inr x=>obtain ⟨t,e⟩:=(show ∃ t,u=Value.str x t from r);subst e;exact WI P w x t
theorem JW {P:Program} {w:World}:∀ {ks:List Key} {us:List Value},Vals (ks.map kV) us→ItemsAre (QD P w) ks us
 | [],_,r=>by rw [List.map_nil] at r;cases r;exact .nil
 | k :: ks,_,r=>by
  rw [List.map_cons] at r
  cases r with
  | cons h t=>exact .cons (Jy h) (JW t)
abbrev KT (H:Hp):List (List Key × V)→List (List Key × Addr × Value)→Prop:=Paired fun p q=>p.1=q.1∧H q.2.1=some (.tup (p.1.map kV))∧RelV p.2 q.2.2
theorem KT.val {H:Hp} {kvs:List (List Key × V)} {xs:List (List Key × Addr × Value)} (r:KT H kvs xs) (k:List Key):RelO (ZM kvs k) ((atKey xs k).map (·.2)):=by
 induction r with
 | nil=>exact True.intro
 | @cons p q ps qs h t ih =>
  obtain ⟨h1,_,h2⟩:=h
  by_cases e:p.1=k
  ·have e':q.1=k:=h1.symm.trans e
   have b:atKey (q :: qs) k=some q.2:=by simp [atKey,List.find?_cons,e']
   rw [ZZ e,b];exact h2
  ·have e':¬ q.1=k:=fun z=>e (h1.trans z)
   have b:atKey (q :: qs) k=atKey qs k:=by simp [atKey,List.find?_cons,e']
   rw [ZP e,b];exact ih
theorem KT.repl {H:Hp} {kvs:List (List Key × V)} {xs:List (List Key × Addr × Value)} (r:KT H kvs xs) (k:List Key) {y:V} {u:Value} (ry:RelV y u) :
 KT H (kvs.map fun kv=>if kv.1=k then (kv.1,y) else kv) (xs.map (putAt k u)):=by
 induction r with
 | nil=>exact .nil
 | @cons p q ps qs h t ih =>
  rw [List.map_cons,List.map_cons]
  refine .cons ?_ ih
  obtain ⟨h1,h2,h3⟩:=h
  unfold putAt
  by_cases e:p.1=k
  ·rw [if_pos e,if_pos (h1.symm.trans e)];exact ⟨h1,h2,ry⟩
  ·rw [if_neg e,if_neg (fun z=>e (h1.trans z))];exact ⟨h1,h2,h3⟩
theorem KT.put {H:Hp} {kvs:List (List Key × V)} {xs:List (List Key × Addr × Value)} (r:KT H kvs xs) (k:List Key) {b:Addr} {y:V} {u:Value} (hb:H b=some (.tup (k.map kV))) (ry:RelV y u) :
 KT H (UC kvs k y) (storedH xs k b u):=by
 have e:(kvs.any fun kv=>decide (kv.1=k))=(atKey xs k).isSome:=by
  rw [Jl,(r.val k).isSome_eq,Option.isSome_map]
 unfold UC storedH
 rw [e]
 by_cases q:(atKey xs k).isSome=true
 ·rw [if_pos q,if_pos q];exact r.repl k ry
 ·rw [if_neg q,if_neg q];exact Paired.snoc r ⟨rfl,hb,ry⟩
theorem KT.keeps {H H':Hp} {kvs:List (List Key × V)} {xs:List (List Key × Addr × Value)} (r:KT H kvs xs) (ht:∀ b ys,H b=some (.tup ys)→H' b=some (.tup ys)):KT H' kvs xs :=
 Paired.mapP r fun _ _ z=>⟨z.1,ht _ _ z.2.1,z.2.2⟩
section
variable {P:Program} {w:World} {H:Hp} {h:Heap} {a:Addr}
theorem OR {u:HO} (ok:HOk P w H h) (e:Rd H a u):ObjOk P w H h a u:=e.ok ok
theorem Jq {kvs:List (Key × V)} (ok:HOk P w H h) (e:Rd H a (.dK kvs)):kvs.length≤sizeLine∧(a == sysModules)=false∧∃ vs,KV kvs vs∧h.DictOf (QD P w) a vs :=
 show ObjOk P w H h a (.dK kvs) from OR ok e
theorem RI {kvs:List (Key × V)} (ok:HOk P w H h) (e:H a=some (.dK kvs)):kvs.length≤sizeLine∧(a == sysModules)=false∧∃ vs,KV kvs vs∧h.DictOf (QD P w) a vs:=Jq ok (.inl e)
theorem Uh {ks:List Key} (ok:HOk P w H h) (e:H a=some (.tup (ks.map kV))):(tupleKind (QD P w)).is h ks a:=by
 obtain ⟨_,its,r,o,h1,h2,n,h3⟩:=(show ObjOk P w H h a (.tup (ks.map kV)) from ok a _ e)
 exact ⟨o,its.toArray,n,h1,h2,h3,by simpa using JW r⟩
theorem JB {kvs:List (List Key × V)} (ok:HOk P w H h) (e:Rd H a (.dT kvs)):kvs.length≤sizeLine∧(a == sysModules)=false ∧
 ∃ xs,KT H kvs xs∧h.DictOfH (tupleKind (QD P w)) a xs:=by
 obtain ⟨z,y,xs,r,o,es,ep,h1,h2,h3,h4,h5⟩:=(show ObjOk P w H h a (.dT kvs) from OR ok e)
 refine ⟨z,y,xs,r,o,es,ep,h1,h2,h3,h4,fun x hx=>?_,h5⟩
 have all:∀ {l:List (List Key × V)} {m:List (List Key × Addr × Value)},KT H l m→∀ x ∈ m,(tupleKind (QD P w)).is h x.1 x.2.1:=by
  intro l m q
  induction q with
  | nil=>intro x hx;exact nomatch hx
  | @cons p q ps qs hq t ih =>
   intro x hx
   rcases List.mem_cons.mp hx with e | hx
   ·subst e
    exact Uh ok (by rw [← hq.1];exact hq.2.1)
   ·exact ih x hx
 exact all r x hx
theorem Ml {kvs:List (List Key × V)} (ok:HOk P w H h) (e:H a=some (.dT kvs)):kvs.length≤sizeLine∧(a == sysModules)=false ∧
 ∃ xs,KT H kvs xs∧h.DictOfH (tupleKind (QD P w)) a xs:=JB ok (.inl e)
end
def DGet (H:Hp) (a:Addr) (y:V) (r:Option V):Prop :=
 (∃ kvs k,Rd H a (.dK kvs)∧y=kV k∧r=ZM kvs k)∨∃ kvs k b,Rd H a (.dT kvs)∧y=.ref b∧H b=some (.tup (k.map kV))∧r=ZM kvs k
def DPut (H:Hp) (a:Addr) (y v:V) (H':Hp):Prop :=
 (∃ kvs k,H a=some (.dK kvs)∧y=kV k∧kvs.length < sizeLine∧H'=upd H a (.dK (UC kvs k v))) ∨
 ∃ kvs k b,H a=some (.dT kvs)∧y=.ref b∧H b=some (.tup (k.map kV))∧kvs.length < sizeLine∧H'=upd H a (.dT (UC kvs k v))
theorem DGet.k {H:Hp} {a:Addr} {kvs:List (Key × V)} {k:Key} (e:H a=some (.dK kvs)):DGet H a (kV k) (ZM kvs k):=.inl ⟨kvs,k,.inl e,rfl,rfl⟩
theorem DGet.t {H:Hp} {a b:Addr} {kvs:List (List Key × V)} {k:List Key} (e:H a=some (.dT kvs)) (eb:H b=some (.tup (k.map kV))):DGet H a (.ref b) (ZM kvs k):=.inr ⟨kvs,k,b,.inl e,rfl,eb,rfl⟩
theorem DPut.t {H:Hp} {a b:Addr} {kvs:List (List Key × V)} {k:List Key} {v:V} (e:H a=some (.dT kvs)) (eb:H b=some (.tup (k.map kV))) (hl:kvs.length < sizeLine) :
 DPut H a (.ref b) v (upd H a (.dT (UC kvs k v))):=.inr ⟨kvs,k,b,e,rfl,eb,hl,rfl⟩
section
variable {X:Cx} {pins:List (11:)} {σ:St} {H:Hp} {s:Shared} {a:Addr} {y v:V} {u r:Value} {o:Option V} {A:Around} {E:Value→Shared→Prop}
theorem Inv.big (I:Inv X pins σ H s):sysModules < s.heap.objs.size:=by
 have h:mainGlobals < s.heap.objs.size:=(I.mod.glob.keeps I.bk).lt
 exact Nat.lt_trans (by decide) h
theorem G0 {Q:Value→Shared→Prop} (hu:A.units + 1 < cLine) (I:Inv X pins σ H s) (g:DGet H a y (some v)) (ry:RelV y u) (h:∀ w' s',Inv X pins σ H s'→RelV v w'→Q w' s') :
 wpAny (5:) A (getItem (.ref a) u) Q E s:=by
 rcases g with ⟨kvs,k,e,ey,l⟩ | ⟨kvs,k,b,e,ey,eb,l⟩
 ·subst ey
  obtain ⟨z,hd,vs,rel,dd⟩:=Jq I.hok e
  obtain ⟨w',hw,rw'⟩:=RelO.some_of (v:=v) (o:=valueAt vs k) (by rw [l];exact rel.val k)
  exact wpAny_getItem_of (Jy ry) dd.mapOf hw (h w' _ (I.tok _) rw')
 ·subst ey
  cases (show u=Value.ref b from ry)
  obtain ⟨z,hd,xs,rel,dd⟩:=JB I.hok e
  obtain ⟨w',hw,rw'⟩:=RelO.some_of (v:=v) (o:=(atKey xs k).map (·.2)) (by rw [l];exact rel.val k)
  obtain ⟨p,hp,hp2⟩:=Option.map_eq_some_iff.mp hw
  refine wpAny_getItem_heap (tupleKind_room_in1 hu) (Uh I.hok eb) dd hp ?_
  rw [hp2]
  exact h w' _ (I.tok _) rw'
theorem N4 {Q:Value→Shared→Prop} (hu:A.units + 1 < cLine) (I:Inv X pins σ H s) (g:DGet H a y o) (ry:RelV y u) (h:∀ s',Inv X pins σ H s'→Q (.bool (!o.isSome)) s') :
 wpAny (5:) A (compareOp .NotIn u (.ref a)) Q E s:=by
 rcases g with ⟨kvs,k,e,ey,l⟩ | ⟨kvs,k,b,e,ey,eb,l⟩
 ·subst ey
  obtain ⟨z,hd,vs,rel,dd⟩:=Jq I.hok e
  refine wpAny_notIn_of (Jy ry) hd dd.mapOf ?_
  rw [← (rel.val k).isSome_eq,← l]
  exact h _ (I.tok _)
 ·subst ey
  cases (show u=Value.ref b from ry)
  obtain ⟨z,hd,xs,rel,dd⟩:=JB I.hok e
  refine wpAny_notIn_heap (tupleKind_room_in1 hu) (Uh I.hok eb) hd dd ?_
  have q:=(rel.val k).isSome_eq
  rw [Option.isSome_map] at q
  rw [← q,← l]
  exact h _ (I.tok _)
theorem Gv {h':Heap} {t':Nat} {ob:HO} (I:Inv X pins σ H s) (mu:Mut (H a)) (hs:Heap.SameBut a s.heap h') (he:∃ q,h'.get? a=some q) (new:ObjOk X.prog X.w (upd H a ob) h' a ob) :
 Inv X pins σ (upd H a ob) { s with heap:=h',toks:=t' } :=
 I.write (x:=a) (e:=a) mu (.inl rfl) (fun b q hb z=>(hs.2 b hb).trans z) he new
theorem L3 {P:Program} {w:World} {H':Hp} {h':Heap} {kvs:List (Key × V)} {vs:List (Key × Value)} (z:kvs.length≤sizeLine) (hd:(a == sysModules)=false) (rel:KV kvs vs) (dd:h'.DictOf (QD P w) a vs) :
 ObjOk P w H' h' a (.dK kvs):=⟨z,hd,vs,rel,dd⟩
theorem G5 {H':Hp} {Q:Unit→Shared→Prop} (hu:A.units + 1 < cLine) (I:Inv X pins σ H s) (g:DPut H a y v H') (ry:RelV y u) (rv:RelV v r) (h:∀ s',Inv X pins σ H' s'→Q () s') :
 wpAny (5:) A (setItem (.ref a) u r) Q E s:=by
 rcases g with ⟨kvs,k,e,ey,l,eH⟩ | ⟨kvs,k,b,e,ey,eb,l,eH⟩
 ·subst ey eH
  obtain ⟨z,hd,vs,rel,dd⟩:=RI I.hok e
  have hz:vs.length≤sizeLine:=by rw [← rel.length];exact z
  have hl:(UC kvs k v).length≤sizeLine:=by have:=UD kvs k v;lia
  refine wpAny_setItem_pairs (hsz:=hz) (Jy ry) dd fun h' dd' hs=>h _ ?_
  have he:∃ q,h'.get? a=some q:=let ⟨q,_,_,hq,_⟩:=dd';⟨q,hq⟩
  exact Gv I (by rw [e];exact True.intro) hs he (L3 hl hd (rel.put k rv) dd')
 ·subst ey eH
  cases (show u=Value.ref b from ry)
  obtain ⟨z,hd,xs,rel,dd⟩:=Ml I.hok e
  have hz:xs.length≤sizeLine:=by rw [← Paired.length rel];exact z
  have hl:(UC kvs k v).length≤sizeLine:=by have:=UD kvs k v;lia
  refine wpAny_setItem_heap (hsz:=hz) (tupleKind_room_in1 hu) (Uh I.hok eb) dd fun h' dd' hs=>h _ ?_
  obtain ⟨q,es,ep,hq,h2,h3,h4,_,h5⟩:=dd'
  refine Gv I (by rw [e];exact True.intro) hs ⟨q,hq⟩ ⟨hl,hd,_,(rel.put k eb rv).keeps fun c ys ec=>?_,q,es,ep,hq,h2,h3,h4,h5⟩
  rw [Ql (ne_of ec e (fun z=>nomatch z))]
  exact ec
end
section
variable {X:Cx} {pins:List (11:)} {σ:St} {H:Hp} {s:Shared} {a:Addr} {kvs:List (Key × V)} {k:Key} {u:Value} {A:Around} {E:Value→Shared→Prop}
end
def Sk (i:Expr):Prop:=∀ ov iv,subscripted i false ov iv=operate [ov,iv] (getItem ov iv)
theorem Oe {prog:Program} {w:World} {A:Around} {E:Value→Shared→Prop} {s:Shared} {env:Env} {value slice:Expr} {pos:Pos} {T id:String} {Q:Value→Shared→Prop}
 (hl:typeLookup (.type T) "__getitem__" = pure (some (.builtin id))) (hs:Sk slice)
 (h:wpAny (model prog w) A (eval value env) (fun o s₁=>wpAny (model prog w) A (eval slice env) (fun i s₂=>s₂.TypeIs o T∧wpAny (model prog w) A (getItem o i) Q E s₂) E s₁) E s) :
 wpAny (model prog w) A (eval (.Subscript value slice pos) env) Q E s:=by
 refine Subscript_ (wpAny_mono h (fun o s₁ h₁=>wpAny_mono h₁ (fun i s₂ h₂=>?_) fun _ _ x=>x) fun _ _ x=>x)
 obtain ⟨hT,h₂⟩:=h₂
 unfold subscriptTail
 refine wpAny_bind ?_
 rw [getitemInPython_of_ne hT.not_modules]
 refine wpAny_bind (wpAny_specialOf hT hl ?_)
 have fin:wpAny (model prog w) A (subscripted slice false o i) (fun r s₃=>wpAny (model prog w) A (letTemporaryGo value o r >>= fun _=>pure r) Q E s₃) E s₂:=by
  rw [hs o i]
  exact wpAny_operating (wpAny_mono h₂ (fun r s₃ h₃=>wpAny_bind (wpAny_letTemporaryGo (wpAny_pure h₃))) fun _ _ x=>x)
 first
  | exact wpAny_pure (wpAny_bind fin)
  | exact wpAny_bind (wpAny_pure (wpAny_bind fin))
  | exact wpAny_bind fin
theorem WF {X:Cx} {pins:List (11:)} {σ:St} {H:Hp} {s:Shared} {a:Addr} {y:V} {o:Option V} (I:Inv X pins σ H s) (g:DGet H a y o):s.TypeIs (.ref a) "dict" := by
 rcases g with ⟨kvs,k,e,_,_⟩ | ⟨kvs,k,b,e,_,_,_⟩
 ·obtain ⟨_,_,vs,_,dd⟩:=Jq I.hok e
  exact dd.typeIs
 ·obtain ⟨_,_,xs,_,dd⟩:=JB I.hok e
  exact dd.typeIs
def Sb (td ty:TE):TE:=fun σ H Q=>td σ H fun x H1=>ty σ H1 fun y H2=>∃ a v,x=.ref a∧DGet H2 a y (some v)∧Q v H2
def N2 (ty td:TE):TE:=fun σ H Q=>ty σ H fun y H1=>td σ H1 fun x H2=>∃ a o,x=.ref a∧DGet H2 a y o∧Q (.bl (!o.isSome)) H2
def Rx (td ty tv:TE):TS:=fun D σ H=>tv σ H fun v H1=>td σ H1 fun x H2=>ty σ H2 fun y H3=>∃ a H4,x=.ref a∧DPut H3 a y v H4∧D.nx σ H4
section
variable {X:Cx} {o i e value:Expr} {pos pos' tpos:Pos} {td ty tv:TE}
theorem UX (hu:X.A.units + 1 < cLine) (ho:PE X o td) (hi:PE X i ty) (hs:Sk i):PE X (.Subscript o i pos) (Sb td ty):=by
 intro pins s σ H Q I h
 refine Oe PySem.F.slot_dict_getitem.lookup hs (thn (ho pins s σ H _ I h) fun u s1 ⟨x,H1,I1,rx,q1⟩=>thn (hi pins s1 σ H1 _ I1 q1) fun iv s2 ⟨y,H2,I2,ry,a,v,ex,g,q2⟩=>?_)
 subst ex
 obtain rfl:u=Value.ref a:=rx
 exact ⟨WF I2 g,G0 hu I2 g ry fun w' s3 I3 rw'=>⟨v,H2,I3,rw',q2⟩⟩
theorem JT (hu:X.A.units + 1 < cLine) (hi:PE X i ty) (ho:PE X o td):PC X .NotIn i o (N2 ty td):=by
 intro pins s σ H Q I h
 refine thn (hi pins s σ H _ I h) fun iv s1 ⟨y,H1,I1,ry,q1⟩=>thn (ho pins s1 σ H1 _ I1 q1) fun u s2 ⟨x,H2,I2,rx,a,ov,ex,g,q2⟩=>?_
 subst ex
 obtain rfl:u=Value.ref a:=rx
 exact N4 hu I2 g ry fun s3 I3=>⟨.bl (!ov.isSome),H2,I3,rfl,q2⟩
theorem VZ (hu:X.A.units + 1 < cLine) (ho:PE X o td) (hi:PE X i ty) (hv:PE X value tv) (hs:swapsWith value (some (.Subscript o i pos')) pos.line X.env=pure false) :
 PS X (.Assign [.Subscript o i pos'] value pos) (Rx td ty tv):=by
 intro pins s σ H D I h
 refine wpAny_Assign_Subscript (thn (hv pins s σ H _ I h) fun r s1 ⟨v,H1,I1,rv,q1⟩=>thn (ho pins s1 σ H1 _ I1 q1) fun u s2 ⟨x,H2,I2,rx,q2⟩=>thn (hi pins s2 σ H2 _ I2 q2) fun iv s3 ⟨y,H3,I3,ry,a,H4,ex,g,q3⟩=>?_) hs
 subst ex
 obtain rfl:u=Value.ref a:=rx
 exact G5 hu I3 g ry rv fun s4 I4=>⟨σ,H4,I4,q3⟩
end
theorem Lr {P:Program} {w:World} {H:Hp} (h:Heap) (hb:sysModules < h.objs.size):ObjOk P w H (h.push { cls:=.type "dict", data:=.dict #[] }) h.objs.size (.dT []) :=
 ⟨Nat.zero_le _,beq_eq_false_iff_ne.mpr (Ne.symm (Nat.ne_of_lt hb)),[],.nil,_,#[],0,Heap.get?_push_size _ rfl,⟨rfl,rfl,rfl⟩,rfl,rfl,List.nodup_nil⟩
def Ph:TE:=fun _ H Q=>∀ p,H p=none→Q (.ref p) (upd H p (.dT []))
section
variable {X:Cx} {pos:Pos}
theorem WZ:PE X (.Dict [] [] pos) Ph:=fun pins s σ H Q I h =>
 wpAny_Dict_empty ⟨.ref s.heap.objs.size,_,I.laid (a:=s.heap.objs.size) (o:=.dT []) (t':=s.toks) (fun _ _ q=>Heap.get?_push_of_some _ q) (8:) (Lr s.heap I.big),rfl,h _ (I.hok.fresh (8:))⟩
end
structure M1 (X:Cx) (o:Expr) (m:Str) (apos:Pos) (e:Expr) (cpos:Pos):Prop where
 base:attributeBase o m X.env (eval o X.env)=eval o X.env
 few:((backTo cpos (starEach [e] X.env)).all (fun x=>!x.1) && (backToKw cpos (keywordEach [] X.env)).all (fun x=>x.1.isSome)
  && decide (([e]:List Expr).length + ([]:List Keyword).length + (if ([]:List Keyword).isEmpty then 0 else 1) < 30))=true
 line:(apos.endLine == cpos.line)=true
 trees:backTo cpos (starEach [e] X.env)=[(false,eval e X.env)]
structure M2 (X:Cx) (o:Expr) (m:Str) (apos:Pos) (e f:Expr) (cpos:Pos):Prop where
 base:attributeBase o m X.env (eval o X.env)=eval o X.env
 few:((backTo cpos (starEach [e,f] X.env)).all (fun x=>!x.1) && (backToKw cpos (keywordEach [] X.env)).all (fun x=>x.1.isSome)
  && decide (([e,f]:List Expr).length + ([]:List Keyword).length + (if ([]:List Keyword).isEmpty then 0 else 1) < 30))=true
 line:(apos.endLine == cpos.line)=true
 trees:backTo cpos (starEach [e,f] X.env)=[(false,eval e X.env),(false,eval f X.env)]
def IsD (H:Hp) (a:Addr):Prop:=(∃ kvs,Rd H a (.dK kvs))∨∃ kvs,Rd H a (.dT kvs)
theorem Lo {X:Cx} {pins:List (11:)} {σ:St} {H:Hp} {s:Shared} {a:Addr} (I:Inv X pins σ H s) (d:IsD H a) :
 s.TypeIs (.ref a) "dict" ∧ (∀ b,Value.ref a=.ref b→∃ ob,s.heap.get? b=some ob∧ob.dict=none)∧(a == sysModules)=false:=by
 rcases d with ⟨kvs,e⟩ | ⟨kvs,e⟩
 ·obtain ⟨_,hd,vs,_,dd⟩:=Jq I.hok e
  refine ⟨dd.typeIs,fun b q=>?_,hd⟩
  cases q
  obtain ⟨ob,_,_,h1,h2,_⟩:=dd
  exact ⟨ob,h1,h2.2.1⟩
 ·obtain ⟨_,hd,xs,_,dd⟩:=JB I.hok e
  refine ⟨dd.typeIs,fun b q=>?_,hd⟩
  cases q
  obtain ⟨ob,_,_,h1,h2,_⟩:=dd
  exact ⟨ob,h1,h2.2.1⟩
section
variable {X:Cx} {pins:List (11:)} {σ:St} {H:Hp} {s:Shared} {a:Addr} {y d:V} {u r:Value} {o:Option V} {A:Around} {E:Value→Shared→Prop}
theorem Py {Q:Value→Shared→Prop} (hu:A.units + 1 < cLine) (I:Inv X pins σ H s) (g:DGet H a y o) (ry:RelV y u) (h:∀ w' s',Inv X pins σ H s'→RelV (o.getD .non) w'→Q w' s') :
 wpAny (5:) A (call (.builtin "dict.get") [.ref a,u]) Q E s:=by
 rcases g with ⟨kvs,k,e,ey,l⟩ | ⟨kvs,k,b,e,ey,eb,l⟩
 ·subst ey
  obtain ⟨z,hd,vs,rel,dd⟩:=Jq I.hok e
  refine call_meetsIn PySem.F.slot_dict_get dd.typeIs PySem.F.entry_dict_get (PySem.F.args_dict_get_2 _ _) (meets_dict_get (QD X.prog X.w) a (Jy ry) hd) ⟨_,dd.mapOf,h _ _ (I.tok _) ?_⟩
  rw [l]
  exact (rel.val k).getD rfl
 ·subst ey
  cases (show u=Value.ref b from ry)
  obtain ⟨z,hd,xs,rel,dd⟩:=JB I.hok e
  refine call_meetsIn PySem.F.slot_dict_get dd.typeIs PySem.F.entry_dict_get (PySem.F.args_dict_get_2 _ _) (meetsH_dict_get (tupleKind (QD X.prog X.w)) a b hd) ⟨tupleKind_room_in1 hu,k,xs,Uh I.hok eb,dd,h _ _ (I.tok _) ?_⟩
  rw [l]
  exact (rel.val k).getD rfl
theorem O1 {Q:Value→Shared→Prop} (hu:A.units + 1 < cLine) (I:Inv X pins σ H s) (g:DGet H a y o) (ry:RelV y u) (rd:RelV d r) (h:∀ w' s',Inv X pins σ H s'→RelV (o.getD d) w'→Q w' s') :
 wpAny (5:) A (call (.builtin "dict.get") [.ref a,u,r]) Q E s:=by
 rcases g with ⟨kvs,k,e,ey,l⟩ | ⟨kvs,k,b,e,ey,eb,l⟩
 ·subst ey
  obtain ⟨z,hd,vs,rel,dd⟩:=Jq I.hok e
  refine call_meetsIn PySem.F.slot_dict_get dd.typeIs PySem.F.entry_dict_get (PySem.F.args_dict_get_3 _ _ _) (meets_dict_get_default (QD X.prog X.w) a (Jy ry) hd r) ⟨_,dd.mapOf,h _ _ (I.tok _) ?_⟩
  rw [l]
  exact (rel.val k).getD rd
 ·subst ey
  cases (show u=Value.ref b from ry)
  obtain ⟨z,hd,xs,rel,dd⟩:=JB I.hok e
  refine call_meetsIn PySem.F.slot_dict_get dd.typeIs PySem.F.entry_dict_get (PySem.F.args_dict_get_3 _ _ _) (meetsH_dict_get_default (tupleKind (QD X.prog X.w)) a b hd r) ⟨tupleKind_room_in1 hu,k,xs,Uh I.hok eb,dd,h _ _ (I.tok _) ?_⟩
  rw [l]
  exact (rel.val k).getD rd
end
def PJ (td ty:TE):TE:=fun σ H Q=>td σ H fun x H1=>∃ a,x=.ref a∧IsD H1 a∧ty σ H1 fun y H2=>∃ o,DGet H2 a y o∧Q (o.getD .non) H2
def PL (td ty tx:TE):TE:=fun σ H Q=>td σ H fun x H1=>∃ a,x=.ref a∧IsD H1 a∧ty σ H1 fun y H2=>tx σ H2 fun z H3=>∃ o,DGet H3 a y o∧Q (o.getD z) H3
section
variable {X:Cx} {o e f:Expr} {apos cpos:Pos} {td ty tx:TE}
theorem Lj (hu:X.A.units + 1 < cLine) (ho:PE X o td) (he:PE X e ty) (m:M1 X o "get" apos e cpos):PE X (.Call (.Attribute o "get" apos) [e] [] cpos) (PJ td ty):=by
 intro pins s σ H Q I h
 refine wpAny_Call_method m.base m.few m.line PySem.F.plainAttrs_dict PySem.F.slot_dict_get PySem.F.type_dict_get (thn (ho pins s σ H _ I h) fun u s1 ⟨x,H1,I1,rx,a,ex,d,q1⟩=>?_)
 subst ex
 obtain rfl:u=Value.ref a:=rx
 obtain ⟨t1,t2,_⟩:=Lo I1 d
 refine ⟨t1,t2,?_⟩
 rw [m.trees]
 refine Calls.callWith_builtin rfl (Calls.evalArgs_plain (Calls.spliced_cons (thn (he pins s1 σ H1 _ I1 q1) fun iv s2 ⟨y,H2,I2,ry,ov,g,q2⟩=>Calls.spliced_nil ?_)))
 exact Py hu I2 g ry fun w' s3 I3 rw'=>⟨_,H2,I3,rw',q2⟩
theorem LJ (hu:X.A.units + 1 < cLine) (ho:PE X o td) (he:PE X e ty) (hf:PE X f tx) (m:M2 X o "get" apos e f cpos):PE X (.Call (.Attribute o "get" apos) [e,f] [] cpos) (PL td ty tx):=by
 intro pins s σ H Q I h
 refine wpAny_Call_method m.base m.few m.line PySem.F.plainAttrs_dict PySem.F.slot_dict_get PySem.F.type_dict_get (thn (ho pins s σ H _ I h) fun u s1 ⟨x,H1,I1,rx,a,ex,d,q1⟩=>?_)
 subst ex
 obtain rfl:u=Value.ref a:=rx
 obtain ⟨t1,t2,_⟩:=Lo I1 d
 refine ⟨t1,t2,?_⟩
 rw [m.trees]
 refine Calls.callWith_builtin rfl (Calls.evalArgs_plain (Calls.spliced_cons (thn (he pins s1 σ H1 _ I1 q1) fun iv s2 ⟨y,H2,I2,ry,q2⟩ =>
  Calls.spliced_cons (thn (hf pins s2 σ H2 _ I2 q2) fun fv s3 ⟨z,H3,I3,rz,ov,g,q3⟩=>Calls.spliced_nil ?_))))
 exact O1 hu I3 g ry rz fun w' s4 I4 rw'=>⟨_,H3,I4,rw',q3⟩
end
section
variable {X:Cx} {pins:List (11:)} {σ:St} {H:Hp} {s:Shared} {a:Addr} {kvs:List (Key × V)} {A:Around} {E:Value→Shared→Prop}
end
section
variable {X:Cx} {pins:List (11:)} {σ:St} {H:Hp} {s:Shared} {a:Addr} {y:V} {u:Value} {A:Around} {E:Value→Shared→Prop}
end
end L2
namespace Srt
open PySem PySem.W PyProof.Rows
variable {α β:Type} {O:KeyOrd} {key:Nat→O.α} {n:Nat}
def Ok (O:KeyOrd) (key:Nat→O.α) (n:Nat) (Q:α→Prop):KasT α→Prop
 | .ret a=>Q a
 | .ask i j k=>i < n∧j < n∧Ok O key n Q (k (O.blt (key i) (key j)))
theorem Ok.bind {t:KasT α} {f:α→KasT β} {Q:β→Prop}:Ok O key n (fun a=>Ok O key n Q (f a)) t→Ok O key n Q (t.bind f):=by
 induction t with
 | ret a=>exact id
 | ask i j k ih=>exact fun h=>⟨h.1,h.2.1,ih _ h.2.2⟩
theorem Ok.wp {cmp:Nat→Nat→(Bool→Shared→Prop)→Shared→Prop} {s:Shared} (hc:∀ i j C,i < n→j < n→C (O.blt (key i) (key j)) s→cmp i j C s) {G:α→Shared→Prop} {Q:α→Prop} (hq:∀ a,Q a→G a s) {t:KasT α}:Ok O key n Q t→t.kasWp cmp G s:=by
 induction t with
 | ret a=>exact hq a
 | ask i j k ih=>exact fun h=>hc i j _ h.1 h.2.1 (ih _ h.2.2)
def Pm (n:Nat) (p:Array Nat):Prop:=p.toList.Perm (List.range n)
theorem Pm.size {p:Array Nat} (h:Pm n p):p.size=n:=by
 have:=h.length_eq
 simpa using this
theorem Pm.lt {p:Array Nat} (h:Pm n p) {i:Nat} (hi:i < n):p.getD i 0 < n:=by
 have hs:i < p.size:=by rw [h.size];exact hi
 have e:p.getD i 0=p[i]:=by simp [Array.getD,hs]
 rw [e]
 have:p[i] ∈ p.toList:=by simp
 exact List.mem_range.mp (h.mem_iff.mp this)
theorem Pm.of {p q:Array Nat} (h:Pm n p) (e:q.Perm p):Pm n q:=(Array.perm_iff_toList_perm.mp e).trans h
variable (key) in
def kk (p:Array Nat) (i:Nat):O.α:=key (p.getD i 0)
theorem Yr {p q:Array Nat} {i j:Nat} (h:p[i]?=q[j]?):kk key p i=kk key q j:=by
 unfold kk
 rw [Array.getD_eq_getD_getElem?,Array.getD_eq_getD_getElem?,h]
variable (key) in
def Up (p:Array Nat) (k:Nat):Prop:=∀ i j,i≤j→j < k→O.kle (kk key p i) (kk key p j)
variable (key) in
def GR (p:Array Nat) (k:Nat):Prop:=∀ i j,i≤j→j < k→O.kle (kk key p j) (kk key p i)
theorem Vq {p:Array Nat} {i j:Nat} (hj:j≤p.size) (k:Nat):kk key (kas_rev p i j) k=if i≤k∧k < j then kk key p (i + j - 1 - k) else kk key p k:=by
 have e:=getElem?_mirror_all (xs:=p) (i:=i) hj k
 unfold kas_rev
 by_cases h:i≤k∧k < j
 ·rw [if_pos h] at e ⊢;exact Yr e
 ·rw [if_neg h] at e ⊢;exact Yr e
theorem Jv {p:Array Nat} {i j:Nat} (hj:j≤p.size) (heq:∀ k,i≤k→k < j→kk key p k=kk key p (j - 1)) (k:Nat):kk key (kas_rev p i j) k=kk key p k:=by
 rw [Vq hj]
 by_cases h:i≤k∧k < j
 ·rw [if_pos h,heq _ (10:) (10:),heq k h.1 h.2]
 ·rw [if_neg h]
theorem Pm.rev {p:Array Nat} (h:Pm n p) (i j:Nat):Pm n (kas_rev p i j):=h.of (mirror_perm _ _ _ _)
theorem On {p:Array Nat} {m:Nat} (h1:1≤m) (hs:Up key p m) (h:O.kle (kk key p (m - 1)) (kk key p m)):Up key p (m + 1):=fun i j hij hj=>by
 by_cases hjm:j < m
 ·exact hs i j hij hjm
 ·have:j=m:=by lia
  subst this
  by_cases hi:i=j
  ·subst hi;exact KeyOrd.kle_refl _
  ·exact KeyOrd.kle_trans (hs i (j - 1) (10:) (10:)) h
theorem Yu {p:Array Nat} {m:Nat} (h1:1≤m) (hs:GR key p m) (h:O.kle (kk key p m) (kk key p (m - 1))):GR key p (m + 1):=fun i j hij hj=>by
 by_cases hjm:j < m
 ·exact hs i j hij hjm
 ·have:j=m:=by lia
  subst this
  by_cases hi:i=j
  ·subst hi;exact KeyOrd.kle_refl _
  ·exact KeyOrd.kle_trans h (hs i (j - 1) (10:) (10:))
theorem VC {p:Array Nat} (hP:Pm n p) {Q:Nat→Prop}:∀ (f m:Nat),1≤m→m + f≤n→Up key p m→(∀ m',m≤m'→m'≤m + f→Up key p m'→(m'=m + f∨O.klt (kk key p m') (kk key p (m' - 1)))→Q m')→Ok O key n Q (kas_asc p f m)
 | 0,m,_,_,hs,h=>h m (8:) (8:) hs (.inl rfl)
 | f + 1,m,h1,hn,hs,h=>by
  refine ⟨hP.lt (10:),hP.lt (10:),?_⟩
  show Ok O key n Q (if O.blt (kk key p m) (kk key p (m - 1))=true then .ret m else kas_asc p f (m + 1))
  cases hb:O.blt (kk key p m) (kk key p (m - 1)) with
  | true =>
   rw [if_pos rfl]
   exact h m (8:) (10:) hs (.inr hb)
  | false =>
   rw [if_neg Bool.false_ne_true]
   exact VC hP f (m + 1) (10:) (10:) (On h1 hs hb) fun m' a b c d=>h m' (10:) (10:) c (by rcases d with d | d;exact .inl (10:);exact .inr d)
variable (key) in
def P1 (p:Array Nat) (m q:Nat):Prop:=q + 1≤m∧∀ i,m - (q + 1)≤i→i < m→kk key p i=kk key p (m - 1)
theorem UW {Q:Array Nat × Nat × Nat→Prop}:∀ (f:Nat) (p:Array Nat) (m q:Nat),Pm n p→1≤m→m + f≤n→GR key p m→P1 key p m q →
 (∀ p' m' q',Pm n p'→m≤m'→m'≤m + f→GR key p' m'→P1 key p' m' q'→Q (p',m',q'))→Ok O key n Q (kas_desc f p m q)
 | 0,p,m,q,hP,_,_,hs,ht,h=>h p m q hP (8:) (8:) hs ht
 | f + 1,p,m,q,hP,h1,hn,hs,ht,h=>by
  have hsz:=hP.size
  refine ⟨hP.lt (10:),hP.lt (10:),?_⟩
  show Ok O key n Q (if O.blt (kk key p m) (kk key p (m - 1))=true then (if q > 0 then kas_desc f (kas_rev p (m - (q + 1)) m) (m + 1) 0 else kas_desc f p (m + 1) 0)
   else .ask (p.getD (m - 1) 0) (p.getD m 0) fun d=>if d=true then .ret (p,m,q) else kas_desc f p (m + 1) (q + 1))
  have one:∀ p':Array Nat,P1 key p' (m + 1) 0:=fun p'=>⟨by lia,fun i a b=>by congr 1;lia⟩
  cases hb:O.blt (kk key p m) (kk key p (m - 1)) with
  | true =>
   rw [if_pos rfl]
   have hd:=Yu h1 hs (KeyOrd.kle_of_klt hb)
   by_cases hq:q > 0
   ·rw [if_pos hq]
    have e:=Jv (key:=key) (p:=p) (i:=m - (q + 1)) (j:=m) (10:) ht.2
    refine UW f _ (m + 1) 0 (hP.rev _ _) (10:) (10:) (fun i j a b=>by rw [e,e];exact hd i j a b) (one _) fun p' m' q' a b c d g=>h p' m' q' a (10:) (10:) d g
   ·rw [if_neg hq]
    exact UW f p (m + 1) 0 hP (10:) (10:) hd (one _) fun p' m' q' a b c d g=>h p' m' q' a (10:) (10:) d g
  | false =>
   rw [if_neg Bool.false_ne_true]
   refine ⟨hP.lt (10:),hP.lt (10:),?_⟩
   show Ok O key n Q (if O.blt (kk key p (m - 1)) (kk key p m)=true then .ret (p,m,q) else kas_desc f p (m + 1) (q + 1))
   cases hc:O.blt (kk key p (m - 1)) (kk key p m) with
   | true =>
    rw [if_pos rfl]
    exact h p m q hP (8:) (10:) hs ht
   | false =>
    rw [if_neg Bool.false_ne_true]
    have he:kk key p m=kk key p (m - 1):=KeyOrd.kle_antisymm hc hb
    refine UW f p (m + 1) (q + 1) hP (10:) (10:) (Yu h1 hs hc) ⟨by have:=ht.1;lia,fun i a b=>?_⟩ fun p' m' q' a b c d g=>h p' m' q' a (10:) (10:) d g
    rw [Nat.add_sub_cancel]
    by_cases hi:i=m
    ·rw [hi]
    ·rw [he];exact ht.2 i (10:) (10:)
theorem Gp {p:Array Nat} {m:Nat} (hP:Pm n p) (h1:1≤m) (hm:m≤n) (hs:GR key p m) {Q:Nat × Array Nat→Prop} (h:∀ m' p',Pm n p'→1≤m'→m'≤n→Up key p' m'→Q (m',p')):Ok O key n Q (kas_tail3 m n p):=by
 have hsz:=hP.size
 refine Ok.bind (VC (hP.rev 0 m) (n - m) m h1 (10:) (fun i j hij hj=>?_) fun m' a b c _=>h m' _ (hP.rev 0 m) (10:) (10:) c)
 rw [Vq (10:),Vq (10:),if_pos (10:),if_pos (10:)]
 exact hs _ _ (10:) (10:)
theorem UI {p:Array Nat} {m:Nat} (hP:Pm n p) (h1:1≤m) (hm:m + 1≤n) (hs:GR key p (m + 1)) {Q:Nat × Array Nat→Prop} (h:∀ m' p',Pm n p'→1≤m'→m'≤n→Up key p' m'→Q (m',p')):Ok O key n Q (kas_descPart m n p):=by
 refine Ok.bind (UW (n - (m + 1)) p (m + 1) 0 hP (10:) (10:) hs ⟨by lia,fun i a b=>by congr 1;lia⟩ fun p' m' q' a b c d g=>?_)
 have hsz:=a.size
 show Ok O key n Q (if q' > 0 then kas_tail3 m' n (kas_rev p' (m' - (q' + 1)) m') else kas_tail3 m' n p')
 by_cases hq:q' > 0
 ·rw [if_pos hq]
  have e:=Jv (key:=key) (p:=p') (i:=m' - (q' + 1)) (j:=m') (10:) g.2
  exact Gp (a.rev _ _) (10:) (10:) (fun i j x y=>by rw [e,e];exact d i j x y) h
 ·rw [if_neg hq]
  exact Gp a (10:) (10:) d h
theorem Nb {p:Array Nat} (hP:Pm n p) (h1:1≤n) {Q:Nat × Array Nat→Prop} (h:∀ m' p',Pm n p'→1≤m'→m'≤n→Up key p' m'→Q (m',p')):Ok O key n Q (kas_count n p):=by
 have hsz:=hP.size
 refine Ok.bind (VC hP (n - 1) 1 (8:) (10:) (fun i j a b=>?_) fun m a b c d=>?_)
 ·have:i=j:=by lia
  subst this;exact KeyOrd.kle_refl _
 ·show Ok O key n Q (if (m == n)=true then .ret (m,p) else if m > 1 then .ask (p.getD 0 0) (p.getD (m - 1) 0) fun c=>if c=true then .ret (m,p) else kas_descPart m n (kas_rev p 0 m) else kas_descPart m n p)
  by_cases hm:m=n
  ·rw [if_pos (by simpa using hm)]
   exact h m p hP a (10:) c
  ·rw [if_neg (by simpa using hm)]
   have hlt:O.klt (kk key p m) (kk key p (m - 1)):=by
    rcases d with d | d
    ·exact absurd (10:) hm
    ·exact d
   by_cases hg:m > 1
   ·rw [if_pos hg]
    refine ⟨hP.lt (10:),hP.lt (10:),?_⟩
    show Ok O key n Q (if O.blt (kk key p 0) (kk key p (m - 1))=true then .ret (m,p) else kas_descPart m n (kas_rev p 0 m))
    cases hb:O.blt (kk key p 0) (kk key p (m - 1)) with
    | true =>
     rw [if_pos rfl]
     exact h m p hP a (10:) c
    | false =>
     rw [if_neg Bool.false_ne_true]
     have hall:∀ k,0≤k→k < m→kk key p k=kk key p (m - 1):=fun k _ hk =>
      KeyOrd.kle_antisymm (c k (m - 1) (10:) (10:)) (KeyOrd.kle_trans hb (c 0 k (10:) hk))
     have e:=Jv (key:=key) (p:=p) (i:=0) (j:=m) (10:) hall
     refine UI (hP.rev _ _) (10:) (10:) (Yu (10:) (fun i j x y=>?_) ?_) h
     ·rw [e,e,hall i (10:) (10:),hall j (10:) y];exact KeyOrd.kle_refl _
     ·rw [e,e];exact KeyOrd.kle_of_klt hlt
   ·rw [if_neg hg]
    have:m=1:=by lia
    subst this
    refine UI hP (8:) (10:) (Yu (8:) (fun i j x y=>?_) (KeyOrd.kle_of_klt hlt)) h
    have:i=j:=by lia
    subst this;exact KeyOrd.kle_refl _
theorem Jm {p:Array Nat} {k:Nat} (hP:Pm n p) (hk:k < n) (hs:Up key p k) {Q:Nat→Prop}
 (h:∀ l,l≤k→(∀ i,i < l→O.kle (kk key p i) (kk key p k))→(∀ i,l≤i→i < k→O.klt (kk key p k) (kk key p i))→Q l):∀ (f l r:Nat),l≤r→r≤k→r - l≤f →
  (∀ i,i < l→O.kle (kk key p i) (kk key p k))→(∀ i,r≤i→i < k→O.klt (kk key p k) (kk key p i))→Ok O key n Q (kas_place p k f l r)
 | 0,l,r,a,b,c,d,e=>by
  have:l=r:=by lia
  subst this
  exact h l b d e
 | f + 1,l,r,a,b,c,d,e=>by
  show Ok O key n Q (if l ≥ r then .ret l else .ask (p.getD k 0) (p.getD ((l + r) / 2) 0) fun c=>if c=true then kas_place p k f l ((l + r) / 2) else kas_place p k f ((l + r) / 2 + 1) r)
  by_cases hge:l ≥ r
  ·rw [if_pos hge]
   have:l=r:=by lia
   subst this
   exact h l b d e
  ·rw [if_neg hge]
   refine ⟨hP.lt hk,hP.lt (10:),?_⟩
   show Ok O key n Q (if O.blt (kk key p k) (kk key p ((l + r) / 2))=true then kas_place p k f l ((l + r) / 2) else kas_place p k f ((l + r) / 2 + 1) r)
   cases hb:O.blt (kk key p k) (kk key p ((l + r) / 2)) with
   | true =>
    rw [if_pos rfl]
    exact Jm hP hk hs h f l ((l + r) / 2) (10:) (10:) (10:) d fun i x y=>KeyOrd.klt_of_klt_of_kle hb (hs _ _ x y)
   | false =>
    rw [if_neg Bool.false_ne_true]
    exact Jm hP hk hs h f ((l + r) / 2 + 1) r (10:) b (10:) (fun i x=>KeyOrd.kle_trans (hs i ((l + r) / 2) (10:) (10:)) hb) e
theorem Xh {p:Array Nat} {k d:Nat} (hs:k < p.size) (hd:d≤k) (i:Nat):kk key (bubble p k d) i=if i=k - d then kk key p k else if k - d < i∧i≤k then kk key p (i - 1) else kk key p i:=by
 have e:=getElem?_bubble hs d hd i
 by_cases h1:i=k - d
 ·rw [if_pos h1] at e ⊢;exact Yr e
 ·rw [if_neg h1] at e ⊢
  by_cases h2:k - d < i∧i≤k
  ·rw [if_pos h2] at e ⊢;exact Yr e
  ·rw [if_neg h2] at e ⊢;exact Yr e
theorem Mw {Q:Array Nat→Prop}:∀ (f:Nat) (p:Array Nat) (k:Nat),Pm n p→1≤k→k + f=n→Up key p k→(∀ p',Pm n p'→Up key p' n→Q p')→Ok O key n Q (kas_bin f p k)
 | 0,p,k,hP,_,hn,hs,h=>h p hP (by rw [← hn];exact hs)
 | f + 1,p,k,hP,h1,hn,hs,h=>by
  have hsz:=hP.size
  have hk:k < n:=by lia
  refine Ok.bind (Jm hP hk hs (fun l a b c=>?_) k 0 k (Nat.zero_le _) (8:) (10:) (fun i x=>by lia) fun i x y=>by lia)
  refine Mw f _ (k + 1) (hP.of (bubble_perm _ _ _)) (10:) (10:) (fun i j hij hj=>?_) h
  rw [Xh (10:) (10:),Xh (10:) (10:),show k - (k - l)=l by lia]
  repeat' split
  all_goals first
   | (exfalso;lia)
   | exact KeyOrd.kle_refl _
   | exact b _ (10:)
   | exact KeyOrd.kle_of_klt (c _ (10:) (10:))
   | exact hs _ _ (10:) (10:)
theorem sort_ok (h1:1≤n) {Q:Array Nat→Prop} (h:∀ p,Pm n p→Up key p n→Q p):Ok O key n Q (kas_sort n):=by
 have hP:Pm n (List.toArray (List.range n)):=List.Perm.refl _
 refine Ok.bind (Nb hP h1 fun m p a b c d=>?_)
 show Ok O key n Q (if m < n then kas_bin (n - max m 1) p (max m 1) else .ret p)
 have hm:max m 1=m:=by lia
 by_cases hlt:m < n
 ·rw [if_pos hlt,hm]
  exact Mw (n - m) p m a b (10:) d h
 ·rw [if_neg hlt]
  have:m=n:=by lia
  subst this
  exact h p a d
end Srt
namespace L2
open PySem PySem.Spec PyProof.Rows PySem.W
section
variable {prog:Program} {w:World} {A:Around} {E:Value→Shared→Prop} {s:Shared}
end
section
variable {X:Cx}
end
end L2
namespace L2
open PySem PySem.Spec PyProof.Rows PySem.W
section
variable {prog:Program} {w:World} {A:Around} {E:Value→Shared→Prop} {s:Shared}
theorem M0 {a:Addr} {vs:List Value} {n:Nat} {P:PySem.Fin→Shared→Prop} (O:KeyOrd) (key:Nat→O.α) (κ:SortKind) (ho:s.heap.get? a=some (seqObj "list" vs.toArray n)) (h64:vs.length < 64)
 (hk:∀ (s':Shared) (Q:SortKind→Shared→Prop),(∀ b o,b≠a→s.heap.get? b=some o→s'.heap.get? b=some o)→2≤vs.length→Q κ s'→wpAny (model prog w) A (keyKind' vs.toArray) Q E s')
 (hc:∀ (s':Shared) (i j:Nat) (C:Bool→Shared→Prop),(∀ b o,b≠a→s.heap.get? b=some o→s'.heap.get? b=some o)→i < vs.length→j < vs.length→C (O.blt (key i) (key j)) s'→wpAny (model prog w) A (keyLt' κ (vs.getD i Value.none) (vs.getD j Value.none)) C (fun _ _=>False) s')
 (h:∀ p:Array Nat,Srt.Pm vs.length p→Srt.Up (O:=O) key p vs.length→P (.done (.ret .none)) { s with heap:=sortedHeap s.heap a vs (p.toList.map fun i=>vs.getD i Value.none).toArray }) :
 wpAny (model prog w) A (Builtin.«list.sort» ⟨[.ref a],[]⟩) P E s:=by
 have hal:a < s.heap.objs.size:=Heap.lt_size ho
 rw [list_sort_plain]
 refine wpAny_bind (listItems_at ho rfl ?_)
 refine wpAny_bind (listUpdate_at ho rfl ?_ (by rw [List.size_toArray,sizeLine_eq];lia) (Nat.zero_le _))
 obtain ⟨e1,ho1⟩ : ∃ e1,(s.heap.update a (Obj.mapSeq fun _=>(#[]:Array Value))).get? a=some (seqObj "list" #[] e1):=⟨_,get?_update_seq ho fun _=>#[]⟩
 refine wpAny_bind (seqEpoch_at ho1 rfl (wpAny_bind (wpAny_newTuple ?_ (by show vs.length≤_;rw [sizeLine_eq];lia))))
 refine wpAny_bind (wpAny_newList (wpAny_holding ?_) (Nat.zero_le _))
 have keep:∀ b o,b≠a→s.heap.get? b=some o→(((s.heap.update a (Obj.mapSeq fun _=>(#[]:Array Value))).push (seqObj "tuple" vs.toArray 0)).push (seqObj "list" #[] 0)).get? b=some o:=fun b o hb e =>
  Heap.get?_push_of_some _ (Heap.get?_push_of_some _ ((Heap.get?_update_ne _ _ _ _ hb).trans e))
 have ho6:(((s.heap.update a (Obj.mapSeq fun _=>(#[]:Array Value))).push (seqObj "tuple" vs.toArray 0)).push (seqObj "list" #[] 0)).get? a=some (seqObj "list" #[] e1):=Heap.get?_push_of_some _ (Heap.get?_push_of_some _ ho1)
 show wpAny (model prog w) A _ P E { s with heap:=((s.heap.update a (Obj.mapSeq fun _=>(#[]:Array Value))).push (seqObj "tuple" vs.toArray 0)).push (seqObj "list" #[] 0) }
 dsimp only
 have hz:vs.toArray.size=vs.length:=List.size_toArray
 by_cases h2:vs.toArray.size < 2
 ·rw [if_pos h2,if_pos h2]
  refine wpAny_bind (wpAny_pure ?_)
  rw [StateT.run_pure]
  refine wpAny_bind (wpAny_pure ?_)
  dsimp only
  refine wpAny_bind (seqEpoch_at ho6 rfl ?_)
  have e2:(arrOf (SortSt.mk' general' (vs.toArray.zip vs.toArray) #[] 7 none)).map (·.2)=vs.toArray:=by
   show (vs.toArray.zip vs.toArray).map (·.2)=vs.toArray
   apply Array.toList_inj.mp
   rw [Array.toList_map,Array.toList_zip]
   exact List.map_snd_zip (8:)
  rw [e2]
  refine wpAny_bind (listUpdate_at ho6 rfl ?_ (hsz2:=by show vs.toArray.size≤_;rw [sizeLine_eq];lia))
  simp only [bne_self_eq_false,Bool.false_eq_true,if_false]
  have:=h (List.range vs.length).toArray (List.Perm.refl _) (fun i j hij hj=>by
   have:i=j:=by lia
   subst this
   exact O.irrefl _)
  have e3:((List.range vs.length).toArray.toList.map fun i=>vs.getD i Value.none)=vs:=by
   apply List.ext_getElem (by simp)
   intro i a b
   simp at a
   simp [a]
  rw [e3] at this
  exact wpAny_pure this
 ·rw [if_neg h2,if_neg h2]
  refine wpAny_bind ?_
  refine hk { s with heap:=((s.heap.update a (Obj.mapSeq fun _=>(#[]:Array Value))).push (seqObj "tuple" vs.toArray 0)).push (seqObj "list" #[] 0) } _ keep (10:) ?_
  refine wpAny_bind (wpAny_mono (kat_run (Q:=fun st' s'=>∃ p:Array Nat,Srt.Pm vs.length p∧Srt.Up (O:=O) key p vs.length∧(arrOf st').map (·.2)=(p.toList.map fun i=>vs.getD i Value.none).toArray∧failedOf st'=none ∧
   s'={ s with heap:=((s.heap.update a (Obj.mapSeq fun _=>(#[]:Array Value))).push (seqObj "tuple" vs.toArray 0)).push (seqObj "list" #[] 0) })
   (G:=fun p s'=>Srt.Pm vs.length p∧Srt.Up (O:=O) key p vs.length∧s'={ s with heap:=((s.heap.update a (Obj.mapSeq fun _=>(#[]:Array Value))).push (seqObj "tuple" vs.toArray 0)).push (seqObj "list" #[] 0) })
   (vs:=vs) (ks:=vs) rfl (10:) (10:) (fun p st' s' hsz har hfl hg=>?_) ?_) (fun r s' hq=>?_) fun _ _ e=>e)
  ·obtain ⟨hP,hU,es⟩:=hg
   exact ⟨p,hP,hU,kat_snds rfl har,hfl,es⟩
  ·refine Srt.Ok.wp (O:=O) (key:=key) (n:=vs.length) (fun i j C hi hj hC=>?_) (Q:=fun p=>Srt.Pm vs.length p∧Srt.Up (O:=O) key p vs.length) (fun p hp=>⟨hp.1,hp.2,rfl⟩) (Srt.sort_ok (10:) fun p a b=>⟨a,b⟩)
   exact hc { s with heap:=((s.heap.update a (Obj.mapSeq fun _=>(#[]:Array Value))).push (seqObj "tuple" vs.toArray 0)).push (seqObj "list" #[] 0) } i j C keep hi hj hC
  ·obtain ⟨p,o1,o2,o3,o4,rfl⟩:=hq
   obtain ⟨⟨⟩,st'⟩:=r
   dsimp only at o3 o4 ⊢
   refine wpAny_bind (seqEpoch_at ho6 rfl ?_)
   rw [o3]
   refine wpAny_bind (listUpdate_at ho6 rfl ?_ (hsz2:=by show (p.toList.map fun i=>vs.getD i Value.none).toArray.size≤_;rw [List.size_toArray,List.length_map,o1.length_eq,List.length_range,sizeLine_eq];lia))
   rw [o4]
   simp only [bne_self_eq_false,Bool.false_eq_true,if_false]
   exact wpAny_pure (h p o1 o2)
theorem VD {l:Addr} {vs:List Value} {Q:Value→Shared→Prop} (O:KeyOrd) (key:Nat→O.α) (κ:SortKind) (hl:s.heap.IsList l vs.toArray) (h64:vs.length < 64)
 (hk:∀ (s':Shared) (E':Value→Shared→Prop) (Q:SortKind→Shared→Prop),(∀ b o,s.heap.get? b=some o→s'.heap.get? b=some o)→2≤vs.length→Q κ s'→wpAny (model prog w) A.in1.in1 (keyKind' vs.toArray) Q E' s')
 (hc:∀ (s':Shared) (i j:Nat) (C:Bool→Shared→Prop),(∀ b o,s.heap.get? b=some o→s'.heap.get? b=some o)→i < vs.length→j < vs.length→C (O.blt (key i) (key j)) s'→wpAny (model prog w) A.in1.in1 (keyLt' κ (vs.getD i Value.none) (vs.getD j Value.none)) C (fun _ _=>False) s')
 (h:∀ p:Array Nat,Srt.Pm vs.length p→Srt.Up (O:=O) key p vs.length→Q (.ref (s.heap.objs.size + 1)) { s with heap:=sortedAll s.heap vs (p.toList.map fun i=>vs.getD i Value.none).toArray }) :
 wpAny (model prog w) A (call (.builtin "sorted") [.ref l]) Q E s:=by
 refine Calls.call_function_entry kind_sorted plain_sorted entry_sorted (args_sorted1 _) ?_
 unfold Builtin.«sorted»
 refine wpAny_bind (m:=checkCount "sorted" 1 1 _) (wpAny_pure ?_)
 refine wpAny_bind (collect_list hl ?_ (by rw [sizeLine_eq];lia))
 refine wpAny_bind (wpAny_newList ?_ (by rw [sizeLine_eq];lia))
 have hsz:((s.heap.push (seqObj "list" #[] 0)).update s.heap.objs.size (Obj.mapSeq (· ++ vs.toArray))).objs.size=s.heap.objs.size + 1:=by rw [Heap.size_update,size_push']
 have hoL:(((s.heap.push (seqObj "list" #[] 0)).update s.heap.objs.size (Obj.mapSeq (· ++ vs.toArray))).push (seqObj "list" vs.toArray 0)).get? (s.heap.objs.size + 1)=some (seqObj "list" vs.toArray 0):=by
  rw [← hsz];exact Heap.get?_push_size _ rfl
 have keep:∀ b o,s.heap.get? b=some o→(((s.heap.push (seqObj "list" #[] 0)).update s.heap.objs.size (Obj.mapSeq (· ++ vs.toArray))).push (seqObj "list" vs.toArray 0)).get? b=some o:=fun b o e=>by
  have hlt:b < s.heap.objs.size:=Heap.lt_size e
  exact Heap.get?_push_of_some _ ((Heap.get?_update_ne _ _ _ _ (Nat.ne_of_lt hlt)).trans (Heap.get?_push_of_some _ e))
 show wpAny _ _ _ _ _ { s with heap:=((s.heap.push (seqObj "list" #[] 0)).update s.heap.objs.size (Obj.mapSeq (· ++ vs.toArray))).push (seqObj "list" vs.toArray 0) }
 rw [hsz]
 refine wpAny_bind (wpAny_holding (wpAny_call_entry slot_list_sort ⟨_,hoL,rfl⟩ entry_list_sort ?_ (args_list_sort _)))
 have old:∀ (s':Shared),(∀ b o,b≠s.heap.objs.size + 1→(((s.heap.push (seqObj "list" #[] 0)).update s.heap.objs.size (Obj.mapSeq (· ++ vs.toArray))).push (seqObj "list" vs.toArray 0)).get? b=some o→s'.heap.get? b=some o)→∀ b o,s.heap.get? b=some o→s'.heap.get? b=some o:=fun s' h b o e=>by
  have hlt:b < s.heap.objs.size:=Heap.lt_size e
  exact h b o (fun z=>by rw [z] at hlt;exact absurd hlt (Nat.not_lt.mpr (Nat.le_succ _))) (keep b o e)
 refine M0 (A:=A.in1.in1) O key κ hoL h64 (fun s' Q' hs h2 hq=>hk s' _ Q' (old s' hs) h2 hq) (fun s' i j C hs hi hj hC=>hc s' i j C (old s' hs) hi hj hC) fun p o1 o2=>⟨_,rfl,wpAny_pure ⟨_,rfl,h p o1 o2⟩⟩
theorem NQ {x y:Addr} {fx sx fy sy:Value} {b:Bool} {C:Bool→Shared→Prop} (hx:s.heap.IsTuple x [fx,sx].toArray) (hy:s.heap.IsTuple y [fy,sy].toArray)
 (hne:x≠y→SeqAt.EqAt A s fx fy false∧wpAny (model prog w) A (oneLt' b fx fy) C (fun _ _=>False) s) (heq:x=y→SeqAt.EqAt A s fx fx true∧SeqAt.EqAt A s sx sx true∧C false s) :
 wpAny (model prog w) A (keyLt' (tuples' b) (.ref x) (.ref y)) C E s:=by
 obtain ⟨ox,gx,cx,nx,dx⟩:=hx
 obtain ⟨oy,gy,cy,ny,dy⟩:=hy
 refine kat_lt gx dx gy dy ?_
 by_cases h:x=y
 ·subst h
  obtain rfl:=Option.some.inj (gx.symm.trans gy)
  rw [dx] at dy
  injection dy with e1 e2
  have e3:[fx,sx]=[fy,sy]:=by simpa using congrArg Array.toList e1
  injection e3 with e4 e5
  injection e5 with e6 e7
  subst e4 e6
  obtain ⟨q1,q2,q3⟩:=heq rfl
  show KatLex prog w A b _ C [(fx,fx),(sx,sx)] 0 s
  refine kat_cons (q1 _ _ _ _ (kat_yes (kat_cons (q2 _ _ _ _ (kat_yes (kat_nil ?_))))))
  exact q3
 ·obtain ⟨q1,q2⟩:=hne h
  show KatLex prog w A b _ C [(fx,fy),(sx,sy)] 0 s
  refine kat_cons (q1 _ _ _ _ (kat_no ?_))
  have:(b && (0:Nat) == 0)=b:=by simp
  rw [this]
  exact q2
end
theorem NL {α:Type} {O:KeyOrd} {ts:List α} {d:α} {key:α→O.α} {p:Array Nat} (hP:Srt.Pm ts.length p) (hU:Srt.Up (O:=O) (fun i=>key (ts.getD i d)) p ts.length) :
 (p.toList.map fun i=>ts.getD i d).Perm ts∧(p.toList.map fun i=>ts.getD i d).Pairwise fun x y=>O.blt (key y) (key x)=false:=by
 constructor
 ·have h1:=List.Perm.map (fun i=>ts.getD i d) hP
  have e:(List.range ts.length).map (fun i=>ts.getD i d)=ts:=by
   apply List.ext_getElem (by simp)
   intro i a b
   simp at a
   simp [a]
  rwa [e] at h1
 ·rw [List.pairwise_iff_getElem]
  intro i j hi hj hij
  have hsz:=hP.size
  simp only [List.length_map,Array.length_toList] at hi hj
  have:=hU i j (Nat.le_of_lt hij) (10:)
  unfold KeyOrd.kle Srt.kk at this
  have ei:p.getD i 0=p[i]:=by simp [Array.getD,hi]
  have ej:p.getD j 0=p[j]:=by simp [Array.getD,hj]
  rw [ei,ej] at this
  simpa using this
theorem IsTuple.keeps {h h':Heap} {a:Addr} {xs:Array Value} (k:∀ b o,h.get? b=some o→h'.get? b=some o) (x:h.IsTuple a xs):h'.IsTuple a xs:=by
 obtain ⟨o,e,r⟩:=x
 exact ⟨o,k _ _ e,r⟩
section
variable {prog:Program} {w:World} {A:Around} {E:Value→Shared→Prop} {s:Shared}
end
section
variable {X:Cx}
theorem Ui {α:Type} {f:α→Addr}:∀ {ts:List α} {us:List Value},Vals (ts.map fun t=>V.ref (f t)) us→us=ts.map fun t=>Value.ref (f t)
 | [],_,.nil=>rfl
 | t :: ts,_,.cons r rr=>by
  have e:_=Value.ref (f t):=r
  rw [List.map_cons,← Ui rr,← e]
theorem JV {α:Type} {f:α→Addr}:∀ ts:List α,Vals (ts.map fun t=>V.ref (f t)) (ts.map fun t=>Value.ref (f t))
 | []=>.nil
 | t :: ts=>.cons rfl (JV ts)
end
end L2
namespace L2
open PySem PySem.Spec PyProof.Rows
theorem Zf:plainId "dict.update.loop" = true:=by decide +kernel
theorem Yi:entryFor table "dict.update.loop" = some Builtin.«dict.update.loop»:=entryFor_of_tree (by kernel_rfl)
theorem JG:typeLookup (.type "list") "keys" = pure none:=by rw [typeLookup_type,builtinLookup_eq_fast];kernel_rfl
section
variable {prog:Program} {w:World} {A:Around} {E:Value→Shared→Prop} {s:Shared}
theorem GB {a:Addr} {xs:Array Value} {k:Nat} {sl:Array (Option Value)} {Q:Option Value→Shared→Prop} (hx:s.heap.get? a=some { cls:=.type "list", dict:=none,data:=.seq xs k,slots:=sl }) (hA:A.handled=none)
 (h:∀ h' tk,(∀ b o,s.heap.get? b=some o→h'.get? b=some o)→Q none { s with heap:=h',toks:=tk }):wpAny (model prog w) A (getAttr? (.ref a) "keys") Q E s:=by
 obtain ⟨hp,g,d,tk,os⟩:=s
 have hT:∀ tk',(⟨hp,g,d,tk',os⟩ : Shared).TypeIs (.ref a) "list" := fun _=>⟨_,hx,rfl⟩
 have f1:=sub_AttributeError
 have f3:=F.slot_list_getattribute.lookup
 have f4:=F.slot_list_getattribute.bind (.ref a)
 have f5:=am_list_getattr_none
 unfold getAttr? getAttrBy? getAttrBy
 repeat (any_goals (first | assumption | exact hT _ | ((with_reducible show wpAny _ _ (call (Value.builtin "list.__getattribute__") _ _) _ _ _);refine call_meets F.slot_list_getattribute (hT _) am_entry_list_getattribute (F.args_list_getattribute_2 _ _) (meets_getattribute_miss_list a xs k sl "keys" _ JG (0:)) ⟨hx,hA,fun h' tk' e hx'=>?_⟩) | wp_step))
 obtain ⟨t',u',he⟩:=hx'.there
 show wpAny _ _ (getattributeRaised _ _ _ _ _ _ _) _ _ _
 unfold getattributeRaised
 repeat (any_goals (first | assumption | wp_step))
 exact h _ _ hx'.keeps
theorem JC {h:Heap} {a b:Addr} {o u:Obj} (ha:h.get? a=some o) (hb:h.get? b=some u) (hc:o.cls≠u.cls):a≠b:=fun e=>by
 subst e
 rw [ha] at hb
 exact hc (congrArg Obj.cls (Option.some.inj hb))
def ZR (kvs:List (Key × Value)):List (Key × Value)→List (Key × Value)
 | []=>kvs
 | p :: r=>ZR (stored kvs p.1 p.2) r
theorem Wo {R:Result→Shared→Prop} {l d it:Addr} {items:Array Value} (hA:A.handled=none) (hli:l≠it) (hd0:(d == sysModules)=false):∀ (ps:List (Key × Value)) (i:Nat) (s:Shared) (kvs:List (Key × Value)),i + ps.length=items.size→s.heap.IsListIter it l i→s.heap.IsList l items→s.heap.DictOf (QD prog w) d kvs→kvs.length + ps.length≤sizeLine →
 (∀ (j:Nat) (q:Key × Value),ps[j]?=some q→∃ p u,items[i + j]?=some (.ref p)∧(QD prog w).is q.1 u=true∧s.heap.IsTuple p #[u,q.2]) →
 (∀ h' tk,h'.DictOf (QD prog w) d (ZR kvs ps)→(∀ b o,b≠it→b≠d→s.heap.get? b=some o→h'.get? b=some o)→R (.ok (.ret .none)) { s with heap:=h',toks:=tk }) →
 codeAny (model prog w) A (.builtin "dict.update.loop" ⟨[.ref d,.ref it,rawInt (i:Int),.none],[]⟩) R s
 | [],i,s,kvs,hk,hit,hL,hD,hz,hp,hR=>by
  have W:=Walks.list (prog:=prog) (w:=w) (A:=A.in1) hA it l hli items
  have hin:i=items.size:=by simpa using hk
  subst hin
  refine codeAny_builtin Yi ?_
  rw [Around.under_plainId Zf _]
  show wpAny _ A.in1 (pyNext (.ref it) >>= _) _ _ s
  refine wpAny_bind (W.done s _ _ ⟨hit,hL⟩ fun h' tk hk'=>?_)
  show wpAny _ A.in1 (Builtin.Dict.addKeywords d [] >>= _) _ _ _
  refine wpAny_bind (wpAny_pure (wpAny_pure ?_))
  have hdi:d≠it:=by
   obtain ⟨o,es,ep,ho,hc,_⟩:=hD
   obtain ⟨o2,ho2,hc2,_⟩:=hit
   exact JC ho ho2 (by rw [hc.1,hc2];intro z;injection z with z;exact absurd z (by decide))
  exact hR h' tk (hD.extBut (b:=it) (fun a o hne e=>hk' a o (by simpa using hne) e) hdi) (fun b o h1 _ e=>hk' b o (by simpa using h1) e)
 | q :: ps,i,s,kvs,hk,hit,hL,hD,hz,hp,hR=>by
  have W:=Walks.list (prog:=prog) (w:=w) (A:=A.in1) hA it l hli items
  obtain ⟨p,u,hip,hku,hpt⟩:=hp 0 q rfl
  rw [Nat.add_zero] at hip
  have hlt:i < items.size:=by rw [List.length_cons] at hk;lia
  have hdi:d≠it:=by
   obtain ⟨o,es,ep,ho,hc,_⟩:=hD
   obtain ⟨o2,ho2,hc2,_⟩:=hit
   exact JC ho ho2 (by rw [hc.1,hc2];intro z;injection z with z;exact absurd z (by decide))
  have hdl:d≠l:=by
   obtain ⟨o,es,ep,ho,hc,_⟩:=hD
   obtain ⟨o2,ho2,hc2,_⟩:=hL
   exact JC ho ho2 (by rw [hc.1,hc2];intro z;injection z with z;exact absurd z (by decide))
  have hpi:∀ {p:Addr} {xs:Array Value},s.heap.IsTuple p xs→p≠it∧p≠d:=fun {p xs} ht=>by
   obtain ⟨o,ho,hc,_⟩:=ht
   obtain ⟨o2,ho2,hc2,_⟩:=id hit
   obtain ⟨o3,es,ep,ho3,hc3,_⟩:=id hD
   exact ⟨JC ho ho2 (by rw [hc,hc2];intro z;injection z with z;exact absurd z (by decide)),JC ho ho3 (by rw [hc,hc3.1];intro z;injection z with z;exact absurd z (by decide))⟩
  refine codeAny_builtin Yi ?_
  rw [Around.under_plainId Zf _]
  show wpAny _ A.in1 (pyNext (.ref it) >>= _) _ _ s
  refine wpAny_bind (W.item i s _ _ hlt ⟨hit,hL⟩ fun v h' tk hP hst' hk'=>?_)
  obtain rfl:v=.ref p:=Option.some.inj ((show items[i]?=some v from hP).symm.trans hip)
  have hk2:∀ b o,b≠it→s.heap.get? b=some o→h'.get? b=some o:=fun b o hb e=>hk' b o (by simpa using hb) e
  have hpt':h'.IsTuple p #[u,q.2]:=by
   obtain ⟨o,ho,r⟩:=id hpt
   exact ⟨o,hk2 _ _ (hpi hpt).1 ho,r⟩
  obtain ⟨o,ho,hc,n,hdat⟩:=id hpt'
  refine wpAny_bind (wpAny_holding ?_)
  refine wpAny_bind (wpAny_tryCatch ?_)
  unfold Builtin.Dict.pairItems
  refine wpAny_bind (wpAny_typeOf (T:="tuple") (s:={ s with heap:=h',toks:=tk }) ⟨o,ho,hc⟩ ?_)
  rw [if_pos (0:)]
  refine wpAny_bind ?_
  show wpAny _ A.in1 (load p >>= _) _ _ _
  refine wpAny_bind (wpAny_load ho ?_)
  rw [hdat]
  refine wpAny_pure (wpAny_pure ?_)
  have hD':h'.DictOf (QD prog w) d kvs:=hD.extBut (b:=it) (fun a o hne e=>hk2 a o hne e) hdi
  refine wpAny_holding (wpAny_dictSet_pairs (s:={ s with heap:=h',toks:=tk }) hku hD' (fun h'' hD'' hs=>?_) (by rw [List.length_cons] at hz;lia))
  have hit2:h''.IsListIter it l (i + 1):=by
   obtain ⟨o,ho,r⟩:=hst'.1
   exact ⟨o,(hs.2 it (Ne.symm hdi)).trans ho,r⟩
  have hL2:h''.IsList l items:=by
   obtain ⟨o,ho,r⟩:=hst'.2
   exact ⟨o,(hs.2 l (Ne.symm hdl)).trans ho,r⟩
  have keep2:∀ b o,b≠it→b≠d→s.heap.get? b=some o→h''.get? b=some o:=fun b o h1 h2 e=>(hs.2 b h2).trans (hk2 b o h1 e)
  have hlen:(stored kvs q.1 q.2).length≤kvs.length + 1:=by
   unfold stored
   split
   ·rw [List.length_map];lia
   ·rw [List.length_append];simp
  refine wpAny_pure ⟨plainId_quiet Zf _,?_⟩
  refine Wo hA hli hd0 ps (i + 1) _ (stored kvs q.1 q.2) (by rw [List.length_cons] at hk;lia) hit2 hL2 hD'' (by rw [List.length_cons] at hz;lia) (fun j r hj=>?_) fun h3 tk3 hD3 hk3=>?_
  ·obtain ⟨p',u',e1,e2,e3⟩:=hp (j + 1) r (by simpa using hj)
   refine ⟨p',u',by rw [← e1];congr 1;lia,e2,?_⟩
   obtain ⟨o,ho,rr⟩:=id e3
   exact ⟨o,keep2 _ _ (hpi e3).1 (hpi e3).2 ho,rr⟩
  ·exact hR h3 tk3 hD3 fun b o h1 h2 e=>hk3 b o h1 h2 (keep2 b o h1 h2 e)
theorem Vv {l:Addr} {items:Array Value} {ps:List (Key × Value)} {Q:Value→Shared→Prop} (hA:A.handled=none) (hb:sysModules < s.heap.objs.size) {ol:Obj} {nl:Nat} (hl:s.heap.get? l=some ol) (hlc:ol.cls=.type "list") (hld:ol.dict=none) (hlt:ol.data=.seq items nl) (hz:ps.length≤sizeLine) (hn:ps.length=items.size)
 (hp:∀ (j:Nat) (q:Key × Value),ps[j]?=some q→∃ p u,items[j]?=some (.ref p)∧(QD prog w).is q.1 u=true∧s.heap.IsTuple p #[u,q.2])
 (h:∀ h' tk,h'.DictOf (QD prog w) s.heap.objs.size (ZR [] ps)→(∀ b o,s.heap.get? b=some o→h'.get? b=some o)→Q (.ref s.heap.objs.size) { s with heap:=h',toks:=tk }) :
 wpAny (model prog w) A (call (.type "dict") [.ref l]) Q E s:=by
 refine callType_codes (Q₁:=fun obj s₁=>obj=.ref s.heap.objs.size∧s₁={ s with heap:=s.heap.push { cls:=.type "dict", data:=.dict #[] } }) F.kt_called_dict (F.kt_typeCall_dict_1 _) F.entry_dict_init (kt_code_dict_new _ ⟨rfl,rfl⟩) ?_
 rintro obj s₁ ⟨rfl,rfl⟩
 have hnew:(s.heap.push { cls:=.type "dict", data:=.dict #[] }).DictOf (QD prog w) s.heap.objs.size []:=Heap.DictOf.new s.heap
 have hl1:(s.heap.push { cls:=.type "dict", data:=.dict #[] }).get? l=some ol:=Heap.get?_push_of_some _ hl
 have hT:({ s with heap:=s.heap.push { cls:=.type "dict", data:=.dict #[] } }:Shared).TypeIs (.ref l) "list" := ⟨_,hl1,hlc⟩
 obtain ⟨c1,d1,t1,s1⟩:=ol
 simp only at hlc hld hlt
 subst hlc hld hlt
 refine ⟨hnew.typeIs,F.args_dict_init_2 _ _,?_⟩
 unfold Builtin.«dict.__init__»
 refine wpAny_bind ?_
 unfold Builtin.Dict.selfAndRest
 refine wpAny_bind (wpAny_notOrdered_dict hnew.typeIs ?_)
 show wpAny _ _ (pure (s.heap.objs.size,[Value.ref l])) _ _ _
 refine wpAny_pure ?_
 show wpAny _ _ (Builtin.Dict.updateFrom "dict.__init__" s.heap.objs.size (.ref l) [] .none) _ _ _
 unfold Builtin.Dict.updateFrom
 refine wpAny_bind (wpAny_typeOf hT ?_)
 rw [if_pos (by decide)]
 refine wpAny_bind (GB hl1 hA fun h2 tk2 hk2=>?_)
 simp only [Option.isNone_none,if_true]
 refine wpAny_bind (wpAny_rule ?_)
 have hL2:h2.IsList l items:=⟨_,hk2 _ _ hl1,rfl,nl,rfl⟩
 refine wpAny_bind (wpAny_pyIter_list (s:={ s with heap:=h2,toks:=tk2 }) hL2 ?_)
 have hlt2:l < h2.objs.size:=Heap.lt_size (hk2 _ _ hl1)
 have hsz2:s.heap.objs.size < h2.objs.size:=by
  obtain ⟨o,es,ep,ho,_⟩:=id hnew
  exact Heap.lt_size (hk2 _ _ ho)
 have hD2:h2.DictOf (QD prog w) s.heap.objs.size []:=by
  obtain ⟨o,es,ep,ho,r⟩:=id hnew
  exact ⟨o,es,ep,hk2 _ _ ho,r⟩
 have old:∀ b o,s.heap.get? b=some o→h2.get? b=some o:=fun b o e=>hk2 b o (Heap.get?_push_of_some _ e)
 refine wpAny_pure ⟨plainId_quiet Zf _,Wo (A:=A.in1) (it:=h2.objs.size) (l:=l) (items:=items) hA (Nat.ne_of_lt hlt2) (beq_eq_false_iff_ne.mpr (Ne.symm (Nat.ne_of_lt hb))) ps 0 _ [] (by simpa using hn) ⟨_,Heap.get?_push_size _ rfl,rfl,rfl⟩ (hL2.push _) (hD2.push _) (by simpa using hz) (fun j q hq=>?_) fun h' tk hD hk=>⟨rfl,?_⟩⟩
 ·obtain ⟨p,u,e1,e2,o,ho,r⟩:=hp j q hq
  exact ⟨p,u,by rw [Nat.zero_add];exact e1,e2,o,Heap.get?_push_of_some _ (old _ _ ho),r⟩
 ·refine h h' tk hD fun b o e=>hk b o ?_ ?_ (Heap.get?_push_of_some _ (old b o e))
  ·exact Nat.ne_of_lt (Heap.lt_size (old b o e))
  ·exact Nat.ne_of_lt (Heap.lt_size e)
end
theorem Vi {kvs:List (Key × Value)} {k:Key} {v:Value} (h:k ∉ kvs.map (·.1)):stored kvs k v=kvs ++ [(k,v)]:=by
 unfold stored
 rw [if_neg]
 intro z
 obtain ⟨kv,h1,h2⟩:=List.any_eq_true.mp z
 exact h (List.mem_map.mpr ⟨kv,h1,of_decide_eq_true h2⟩)
theorem Uc:∀ (ps kvs:List (Key × Value)),((kvs ++ ps).map (·.1)).Nodup→ZR kvs ps=kvs ++ ps
 | [],kvs,_=>by simp [ZR]
 | p :: r,kvs,h=>by
  have hn:p.1 ∉ kvs.map (·.1):=fun hm=>by
   rw [List.map_append,List.nodup_append] at h
   exact h.2.2 _ hm _ (by simp) rfl
  show ZR (stored kvs p.1 p.2) r=_
  rw [Vi hn]
  have e:kvs ++ [(p.1,p.2)] ++ r=kvs ++ p :: r:=by simp
  rw [Uc r _ (by rw [e];exact h),e]
theorem WT {X:Cx} {pins:List (11:)} {σ:St} {H:Hp} {s:Shared} (I:Inv X pins σ H s):∀ ts:List (Addr × Str × V),(∀ t ∈ ts,SqT X.K H t.1 [.str t.2.1,t.2.2]) →
 ∃ ps:List (Key × Value),KV (ts.map fun t=>((Sum.inr t.2.1:Key),t.2.2)) ps∧∀ (j:Nat) (q:Key × Value),ps[j]?=some q→∃ p u,(ts.map fun t=>Value.ref t.1)[j]?=some (.ref p)∧(QD X.prog X.w).is q.1 u=true∧s.heap.IsTuple p #[u,q.2]
 | [],_=>⟨[],.nil,fun j q h=>by simp at h⟩
 | t :: r,h=>by
  obtain ⟨ps,h1,h2⟩:=WT I r fun u hu=>h u (List.mem_cons_of_mem _ hu)
  obtain ⟨its,rv,p,_⟩:=I.tuple (h t List.mem_cons_self)
  obtain ⟨u,v,rfl,ru,rv'⟩:=rv.two
  refine ⟨(Sum.inr t.2.1,v) :: ps,.cons ⟨rfl,rv'⟩ h1,fun j q hj=>?_⟩
  cases j with
  | zero =>
   have:q=(Sum.inr t.2.1,v):=by simpa using hj.symm
   subst this
   exact ⟨t.1,u,rfl,Jy (k:=Sum.inr t.2.1) ru,p⟩
  | succ j =>
   obtain ⟨p',u',e1,e2,e3⟩:=h2 j q (by simpa using hj)
   exact ⟨p',u',by simpa using e1,e2,e3⟩
theorem KV.keys' {kvs:List (Key × V)} {ps:List (Key × Value)} (r:KV kvs ps):ps.map (·.1)=kvs.map (·.1):=by
 induction r with
 | nil=>rfl
 | cons h _ ih=>rw [List.map_cons,List.map_cons,ih,h.1]
section
variable {X:Cx}
theorem Yb (hc:X.calm=true):Zv X (.type "dict") (fun xs H Q=>∃ (l:Addr) (ts:List (Addr × Str × V)),xs=[.ref l]∧SqL X.K H l (ts.map fun t=>V.ref t.1)∧(∀ t ∈ ts,SqT X.K H t.1 [.str t.2.1,t.2.2])∧(ts.map fun t=>t.2.1).Nodup∧ts.length≤1000 ∧
 ∀ d,H d=none→Q (.ref d) (upd H d (.dK (ts.map fun t=>((Sum.inr t.2.1:Key),t.2.2))))):=by
 intro pins s σ H xs us Q I r h
 obtain ⟨l,ts,rfl,hl,ht,hnd,hz,q⟩:=h
 cases r with
 | cons r rr =>
  cases rr
  obtain rfl:_=Value.ref l:=r
  obtain ⟨its,rv,⟨o,n,e,c,dn,dt⟩,_⟩:=I.list hl
  obtain rfl:=Ui rv
  obtain ⟨ps,hkv,hps⟩:=WT I ts ht
  have hlen:ps.length=ts.length:=by have:=hkv.length;rw [List.length_map] at this;exact this.symm
  have hz1:ps.length≤sizeLine:=by rw [hlen,sizeLine_eq];lia
  refine Vv (I.ok.hd hc) I.big e c dn dt hz1 (by rw [List.size_toArray,List.length_map];exact hlen) (fun j q hq=>by simpa using hps j q hq) fun h' tk hD hk=>?_
  have hk1:((([]:List (Key × Value)) ++ ps).map (·.1)).Nodup:=by
   rw [List.nil_append,KV.keys' hkv,List.map_map]
   have e2:(ts.map ((fun x:Key × V=>x.1) ∘ fun t=>((Sum.inr t.2.1:Key),t.2.2)))=(ts.map fun t=>t.2.1).map (Sum.inr:Str→Key):=by rw [List.map_map];rfl
   rw [e2]
   exact List.Pairwise.map _ (fun a b hne z=>hne (by injection z)) hnd
  rw [Uc ps [] hk1,List.nil_append] at hD
  have hfr:=I.hok.fresh (Nat.le_refl s.heap.objs.size)
  refine ⟨.ref s.heap.objs.size,_,I.laid (a:=s.heap.objs.size) (o:=.dK (ts.map fun t=>((Sum.inr t.2.1:Key),t.2.2))) (t':=tk) hk (8:) (L3 (by rw [List.length_map,sizeLine_eq];lia) (beq_eq_false_iff_ne.mpr (Ne.symm (Nat.ne_of_lt I.big))) hkv hD),rfl,q _ hfr⟩
end
end L2
namespace L2
open PySem PySem.Spec PyProof.Rows
section
variable {X:Cx} {tg:Expr}
end
end L2
namespace TM
inductive Tree (α:Type) where
 | node (name:α) (mark:Int) (bs:List (Tree α))
variable {α:Type}
def Tree.bs:Tree α→List (Tree α)
 | .node _ _ bs=>bs
def atT:Tree α→List Int→Option (Tree α)
 | t,[]=>some t
 | t,i :: r=>if 0≤i then (match t.bs[i.toNat]? with
  | some b=>atT b r
  | none=>none) else none
structure Rows (α:Type) where
 n:Nat
 nm:Nat→α
 mr:Nat→Int
 up:Nat→Nat
variable {R:Rows α}
section
variable {K:Nat→List Int} {B:Nat→Tree α} {o0:Tree α}
def it (R:Rows α):Nat→Nat→Nat
 | 0,s=>s
 | j + 1,s=>R.up (it R j s)
variable {B':Nat→Tree α} {o:Tree α} {s:Nat}
end
end TM
namespace L2
open PySem PySem.Spec PyProof.Rows TM
theorem SqT.put {K:Fg} {H:Hp} {a d:Addr} {xs ys:List V} {o:HO} (h:SqT K H a xs) (hd:H d=some (.lst ys)):SqT K (upd H d o) a xs:=by
 rcases h with (h | ⟨ob,h⟩) | h
 ·exact .inl (.inl (by rw [Ql (ne_of h hd (15:))];exact h))
 ·exact .inl (.inr ⟨ob,by rw [Ql (ne_of h hd (15:))];exact h⟩)
 ·exact .inr h
end L2
namespace TM
variable {α:Type}
mutual
def sz:Tree α→Nat
 | .node _ _ bs=>1 + szs bs
def szs:List (Tree α)→Nat
 | []=>0
 | t :: r=>sz t + szs r
end
mutual
def lv:Tree α→Nat
 | .node _ _ bs=>1 + lvs bs
def lvs:List (Tree α)→Nat
 | []=>0
 | t :: r=>max (lv t) (lvs r)
end
mutual
def pl:Tree α→List (List Int)
 | .node _ _ bs=>[] :: pls 0 bs
def pls:Nat→List (Tree α)→List (List Int)
 | _,[]=>[]
 | i,t :: r=>(pl t).map (List.cons (i:Int)) ++ pls (i + 1) r
end
theorem JD (t:Tree α):sz t=1 + szs t.bs:=by cases t;simp [sz,Tree.bs]
theorem ZC (t:Tree α):lv t=1 + lvs t.bs:=by cases t;simp [lv,Tree.bs]
theorem Rz {ts:List (Tree α)} {t:Tree α} (h:t ∈ ts):sz t≤szs ts:=by
 induction ts with
 | nil=>cases h
 | cons u r ih =>
  simp only [szs]
  rcases List.mem_cons.mp h with rfl | h
  ·lia
  ·have:=ih h;lia
theorem V2 {ts:List (Tree α)} {t:Tree α} (h:t ∈ ts):lv t≤lvs ts:=by
 induction ts with
 | nil=>cases h
 | cons u r ih =>
  simp only [lvs]
  rcases List.mem_cons.mp h with rfl | h
  ·lia
  ·have:=ih h;lia
open HT (OD)
variable {R:Rows α} {K:Nat→List Int} {B:Nat→Tree α} {o0:Tree α}
end TM
namespace TT
open TM PySem
inductive Lab where
 | call (m b:Int)
 | put (nm:Str) (kept:Bool) (add:Int)
abbrev Tm:=Tree Lab
def QW (m b:Int):Tm:=.node (.call m b) 0 []
def lcl:Lab→List (Int × Int)
 | .call m b=>[(m,b)]
 | .put _ _ _=>[]
def lab:Tm→Lab
 | .node l _ _=>l
mutual
def cls:Tm→List (Int × Int)
 | .node l _ bs=>lcl l ++ R4 bs
def R4:List Tm→List (Int × Int)
 | []=>[]
 | t :: r=>cls t ++ R4 r
end
def hdF (f:Int→Int→Tm):Lab→List Tm→Tm
 | .call m b,_=>f m b
 | .put n k a,ts=>.node (.put n k a) 0 ts
mutual
def sub (f:Int→Int→Tm):Tm→Tm
 | .node l _ bs=>hdF f l (Rm f bs)
def Rm (f:Int→Int→Tm):List Tm→List Tm
 | []=>[]
 | t :: r=>sub f t :: Rm f r
end
def look (t:Tm) (p:List Int):List (Int × Int):=match atT t p with
 | some u=>lcl (lab u)
 | none=>[]
variable {R:Rows Lab}
variable {B B':Nat→Tm} {f:Int→Int→Tm}
end TT
namespace L2
open PySem PyProof.Rows TM TT
abbrev YA:Str:=Str.ofString "call"
abbrev PUT:Str:=Str.ofString "put"
mutual
inductive TmV (K:Fg) (H:Hp):V→Tm→Prop where
 | call {a:Addr} {m b:Int}:SqT K H a [.str YA,.int m,.int b]→TmV K H (.ref a) (.node (.call m b) 0 [])
 | put {a b:Addr} {vs:List V} {ts:List Tm} {n:Str} {k:Bool} {ad:Int}:SqT K H a [.str PUT,.str n,.bl k,.int ad,.ref b]→SqT K H b vs→TmAll K H vs ts→vs.length≤1000→TmV K H (.ref a) (.node (.put n k ad) 0 ts)
inductive TmAll (K:Fg) (H:Hp):List V→List Tm→Prop where
 | nil:TmAll K H [] []
 | cons {v:V} {vs:List V} {t:Tm} {ts:List Tm}:TmV K H v t→TmAll K H vs ts→TmAll K H (v :: vs) (t :: ts)
end
mutual
theorem TmV.mono {K:Fg} {H H':Hp} (k:∀ a xs,SqT K H a xs→SqT K H' a xs):∀ {v:V} {t:Tm},TmV K H v t→TmV K H' v t
 | _,_,.call h=>.call (k _ _ h)
 | _,_,.put h1 h2 h3 h4=>.put (k _ _ h1) (k _ _ h2) (TmAll.mono k h3) h4
theorem TmAll.mono {K:Fg} {H H':Hp} (k:∀ a xs,SqT K H a xs→SqT K H' a xs):∀ {vs:List V} {ts:List Tm},TmAll K H vs ts→TmAll K H' vs ts
 | _,_,.nil=>.nil
 | _,_,.cons h t=>.cons (TmV.mono k h) (TmAll.mono k t)
end
theorem TmAll.length {K:Fg} {H:Hp}:∀ {vs:List V} {ts:List Tm},TmAll K H vs ts→vs.length=ts.length
 | _,_,.nil=>rfl
 | _,_,.cons _ t=>by rw [List.length_cons,List.length_cons,TmAll.length t]
theorem TmAll.get {K:Fg} {H:Hp}:∀ {vs:List V} {ts:List Tm} {i:Nat} {t:Tm},TmAll K H vs ts→ts[i]?=some t→∃ v,vs[i]?=some v∧TmV K H v t
 | _,_,_,_,.nil,e=>by simp at e
 | _,_,0,_,.cons h _,e=>by simp at e;subst e;exact ⟨_,rfl,h⟩
 | _,_,i + 1,t,.cons _ r,e=>by
  obtain ⟨v,h1,h2⟩:=TmAll.get (i:=i) (t:=t) r (by simpa using e)
  exact ⟨v,by simpa using h1,h2⟩
theorem TmAll.append {K:Fg} {H:Hp}:∀ {vs ws:List V} {ts us:List Tm},TmAll K H vs ts→TmAll K H ws us→TmAll K H (vs ++ ws) (ts ++ us)
 | _,_,_,_,.nil,h=>h
 | _,_,_,_,.cons a t,h=>.cons a (TmAll.append t h)
def tdl:Lab→List PyData→PyData
 | .call m b,_=>.tuple [.str YA,.int m,.int b]
 | .put n k a,ds=>.tuple [.str PUT,.str n,.bool k,.int a,.tuple ds]
mutual
def tmd:Tm→PyData
 | .node l _ bs=>tdl l (Jb bs)
def Jb:List Tm→List PyData
 | []=>[]
 | t :: r=>tmd t :: Jb r
end
mutual
theorem TmV.rd {K:Fg} {H:Hp}:∀ {v:V} {t:Tm},TmV K H v t→RdV K H v (tmd t)
 | _,_,.call h=>by
  simp only [tmd,tdl]
  exact .tup h (.cons (.str _) (.cons (.int _) (.cons (.int _) .nil)))
 | _,_,.put h1 h2 h3 _=>by
  simp only [tmd,tdl]
  exact .tup h1 (.cons (.str _) (.cons (.str _) (.cons (.bl _) (.cons (.int _) (.cons (.tup h2 (TmAll.rd h3)) .nil)))))
theorem TmAll.rd {K:Fg} {H:Hp}:∀ {vs:List V} {ts:List Tm},TmAll K H vs ts→RdAll K H vs (Jb ts)
 | _,_,.nil=>by simp only [Jb];exact .nil
 | _,_,.cons h t=>by simp only [Jb];exact .cons (TmV.rd h) (TmAll.rd t)
end
def MOk (d:Nat) (t:Tm):Prop:=(tmd t).canLay0=true∧(tmd t).depth≤d
theorem MOk.mono {d e:Nat} {t:Tm} (h:MOk d t) (hd:d≤e):MOk e t:=⟨h.1,Nat.le_trans h.2 hd⟩
theorem Y5 {d:Nat}:∀ ts:List Tm,(∀ t ∈ ts,MOk d t)→PyData.canLayAll0 (Jb ts)=true∧PyData.depthAll (Jb ts)≤d
 | [],_=>by simp [Jb,PyData.canLayAll0,PyData.depthAll]
 | t :: r,h=>by
  obtain ⟨h1,h2⟩:=h t List.mem_cons_self
  obtain ⟨h3,h4⟩:=Y5 r fun u hu=>h u (List.mem_cons_of_mem _ hu)
  simp only [Jb,PyData.canLayAll0,PyData.depthAll,h1,h3,Bool.and_self,true_and]
  lia
theorem LR:PyData.strOk YA=true:=by decide +kernel
theorem Ni:PyData.strOk PUT=true:=by decide +kernel
theorem Os (m b:Int) (mk:Int) (bs:List Tm):MOk 1 (.node (.call m b) mk bs):=by
 constructor
 ·simp only [tmd,tdl,PyData.canLay0,PyData.canLayAll0,LR,Bool.and_self]
 ·simp only [tmd,tdl,PyData.depth,PyData.depthAll];lia
theorem LM {d:Nat} {n:Str} {k:Bool} {a mk:Int} {ts:List Tm} (hn:PyData.strOk n=true) (h:∀ t ∈ ts,MOk d t):MOk (d + 2) (.node (.put n k a) mk ts):=by
 obtain ⟨h1,h2⟩:=Y5 ts h
 constructor
 ·simp only [tmd,tdl,PyData.canLay0,PyData.canLayAll0,h1,hn,Ni,Bool.and_self]
 ·simp only [tmd,tdl,PyData.depth,PyData.depthAll]
  lia
end L2
namespace L2
open PySem PySem.Spec PyProof.Rows PySem.W
section
variable {X:Cx}
end
@[reducible] def strOrd:KeyOrd:=⟨List Nat,fun a b=>decide (a < b),fun a=>strKind.irrefl a,fun a b c=>strKind.trans a b c,fun a b c=>strKind.negTrans a b c,fun a b=>strKind.total a b⟩
abbrev PNx:=Addr × Str × Addr × List Str
def PairN (h:Heap) (t:PNx):Prop:=∃ (tk:Tok) (as:List Addr),h.IsTuple t.1 [Value.str t.2.1 tk,Value.ref t.2.2.1].toArray∧Reads h (.ref t.2.2.1) (.tuple (t.2.2.2.map PyData.str)) as
theorem PairN.keeps {h h':Heap} {t:PNx} (k:∀ b o,h.get? b=some o→h'.get? b=some o) (x:PairN h t):PairN h' t:=by
 obtain ⟨tk,as,h1,h2⟩:=x
 exact ⟨tk,as,IsTuple.keeps k h1,Reads.keeps k h2⟩
theorem XC {K:Fg} {H:Hp}:∀ p:List Str,RdAll K H (p.map V.str) (p.map PyData.str)
 | []=>.nil
 | i :: r=>.cons (.str i) (XC r)
theorem Jr:∀ p:List Str,(∀ x ∈ p,PyData.strOk x=true)→PyData.canLayAll0 (p.map PyData.str)=true
 | [],_=>by simp [PyData.canLayAll0]
 | i :: r,h=>by simp only [List.map_cons,PyData.canLayAll0,PyData.canLay0,Jr r fun x hx=>h x (List.mem_cons_of_mem _ hx),h i List.mem_cons_self,Bool.and_self]
theorem Jg {h:Heap}:∀ {ts:List PNx},(∀ t ∈ ts,PairN h t)→∃ fs:List Value,KatTups h (ts.map fun t=>Value.ref t.1) fs∧(∀ v ∈ fs,∃ x t,v=Value.str x t)∧fs.length=ts.length
 | [],_=>⟨[],KatTups.nil,fun v hv=>(nomatch hv),rfl⟩
 | t :: r,ht=>by
  obtain ⟨tk,as,⟨o,go,gc,n,gd⟩,_⟩:=ht t List.mem_cons_self
  obtain ⟨fs,h1,h2,h3⟩:=Jg fun u hu=>ht u (List.mem_cons_of_mem _ hu)
  refine ⟨Value.str t.2.1 tk :: fs,KatTups.cons go gc gd rfl h1,fun v hv=>?_,by simp [h3]⟩
  rcases List.mem_cons.mp hv with rfl | hv
  ·exact ⟨_,_,rfl⟩
  ·exact h2 v hv
section
variable {prog:Program} {w:World} {A:Around} {E:Value→Shared→Prop} {s:Shared}
theorem MK {t u:PNx} {C:Bool→Shared→Prop} (ht:PairN s.heap t) (hu:PairN s.heap u) (hok:∀ x ∈ t.2.2.2,PyData.strOk x=true) (hd:t.1≠u.1→t.2.1≠u.2.1) (hA:A.units + 2 < cLine) (h:C (decide (t.2.1.cps.toList < u.2.1.cps.toList)) s):wpAny (model prog w) A (keyLt' (tuples' true) (.ref t.1) (.ref u.1)) C E s:=by
 obtain ⟨tk,as,h1,h4⟩:=ht
 obtain ⟨tk2,as2,g1,g4⟩:=hu
 have lay:(PyData.tuple (t.2.2.2.map PyData.str)).canLay0=true:=by simp only [PyData.canLay0];exact Jr _ hok
 have dep:(PyData.tuple (t.2.2.2.map PyData.str)).depth≤1:=by simp only [PyData.depth,YI];lia
 refine NQ h1 g1 (fun hne=>?_) (fun heq=>?_)
 ·refine ⟨?_,oneLt_str h⟩
  have e:=(eqGives_str t.2.1 u.2.1 tk tk2).at A s
  have:(t.2.1 == u.2.1)=false:=by simpa using hd hne
  rw [this] at e
  exact e
 ·refine ⟨?_,?_,?_⟩
  ·have e:=(eqGives_str t.2.1 t.2.1 tk tk).at A s
   simpa using e
  ·have e:=SeqAt.eqAt_reads _ _ A s _ _ _ _ h4 h4 lay lay (10:)
   rw [ZE _ lay] at e
   exact e
  ·have e1:t.2.1=u.2.1:=by
    obtain ⟨o,e,_,n,d⟩:=h1
    obtain ⟨o2,e2,_,n2,d2⟩:=g1
    rw [heq,e2] at e
    cases e
    rw [d] at d2
    injection d2 with z1 z2
    have z3:[Value.str t.2.1 tk,Value.ref t.2.2.1]=[Value.str u.2.1 tk2,Value.ref u.2.2.1]:=by simpa using congrArg Array.toList z1
    injection z3 with z4 z5
    injection z4
   rw [← e1,decide_eq_false (List.lt_irrefl _)] at h
   exact h
end
section
variable {X:Cx}
theorem Uf (hu:X.A.units + 4 < cLine):Zv X (.builtin "sorted") (fun xs H Q=>∃ (l:Addr) (ts:List PNx),xs=[.ref l]∧SqL X.K H l (ts.map fun t=>V.ref t.1)∧(∀ t ∈ ts,SqT X.K H t.1 [.str t.2.1,.ref t.2.2.1]∧SqT X.K H t.2.2.1 (t.2.2.2.map V.str)∧∀ x ∈ t.2.2.2,PyData.strOk x=true)∧(ts.map fun t=>t.2.1).Nodup∧ts.length < 64 ∧
 ∀ (out:List PNx) p,out.Perm ts→(out.Pairwise fun x y=>¬ y.2.1.cps.toList < x.2.1.cps.toList)→H p=none→Q (.ref p) (upd H p (.lst (out.map fun t=>V.ref t.1)))):=by
 intro pins s σ H xs us Q I r h
 obtain ⟨l,ts,rfl,hl,ht,hnd,h64,q⟩:=h
 cases r with
 | cons r rr =>
  cases rr
  obtain rfl:_=Value.ref l:=r
  obtain ⟨its,rv,p,_⟩:=I.list hl
  obtain rfl:=Ui rv
  have hP:∀ t ∈ ts,PairN s.heap t:=fun t htm=>by
   obtain ⟨h1,h2,_⟩:=ht t htm
   obtain ⟨its1,r1,p1,_⟩:=I.tuple h1
   obtain ⟨u,v,rfl,ru,rv⟩:=r1.two
   cases (show v=Value.ref _ from rv)
   obtain ⟨tk,rfl⟩:=(show ∃ tk,u=Value.str _ tk from ru)
   obtain ⟨as,q4⟩:=(RdV.tup h2 (XC _)).reads I (show RelV (.ref t.2.2.1) (.ref t.2.2.1) from rfl)
   exact ⟨tk,as,p1,q4⟩
  let d:PNx:=(0,⟨#[]⟩,0,[])
  have gd:∀ i,i < ts.length→(ts.map fun t=>Value.ref t.1).getD i Value.none=.ref (ts.getD i d).1:=fun i hi=>by simp [List.getD_eq_getElem?_getD,hi]
  have md:∀ i,i < ts.length→ts.getD i d ∈ ts:=fun i hi=>by simp [List.getD_eq_getElem?_getD,hi]
  have ek:(Value.type "str" != Value.type "tuple")=true:=by decide +kernel
  refine VD strOrd (fun i=>(ts.getD i d).2.1.cps.toList) (tuples' true) p.isList (by simpa using h64) (fun s' E' Q' hs h2 hq=>?_) (fun s' i j C hs hi hj hC=>?_) fun pp o1 o2=>?_
  ·obtain ⟨fs,f1,f2,f3⟩:=Jg (h:=s'.heap) fun t htm=>(hP t htm).keeps hs
   refine kat_kind (T:=.type "str") f1 (by rw [f3];rw [List.length_map] at h2;lia) (fun v hv=>?_) (0:) (by rw [ek];exact hq)
   obtain ⟨x,t,rfl⟩:=f2 v hv
   exact .now
  ·rw [List.length_map] at hi hj
   rw [gd i hi,gd j hj]
   refine MK ((hP _ (md i hi)).keeps hs) ((hP _ (md j hj)).keeps hs) (ht _ (md i hi)).2.2 (fun hne he=>hne ?_) (by show X.A.units + 1 + 1 + 2 < cLine;lia) hC
   have hij:i=j:=by
    have a1:(ts.map fun t=>t.2.1)[i]'(by simpa using hi)=(ts.getD i d).2.1:=by simp [List.getD_eq_getElem?_getD,hi]
    have a2:(ts.map fun t=>t.2.1)[j]'(by simpa using hj)=(ts.getD j d).2.1:=by simp [List.getD_eq_getElem?_getD,hj]
    exact (List.getElem_inj hnd).mp (a1.trans (he.trans a2.symm))
   rw [hij]
  ·rw [List.length_map] at o1 o2
   obtain ⟨w1,w2⟩:=NL (O:=strOrd) (ts:=ts) (d:=d) (key:=fun t=>t.2.1.cps.toList) o1 o2
   have em:(pp.toList.map fun i=>(ts.map fun t=>Value.ref t.1).getD i Value.none)=(pp.toList.map fun i=>ts.getD i d).map fun t=>Value.ref t.1:=by
    rw [List.map_map]
    refine List.map_congr_left fun i hi=>?_
    exact gd i (List.mem_range.mp (o1.mem_iff.mp hi))
   rw [em]
   generalize pp.toList.map (fun i=>ts.getD i d)=out at w1 w2
   obtain ⟨e,he⟩:=sortedAll_at s.heap (ts.map fun t=>Value.ref t.1) (out.map fun t=>Value.ref t.1).toArray
   have hfr:H (s.heap.objs.size + 1)=none:=I.hok.fresh (Nat.le_succ _)
   refine ⟨.ref (s.heap.objs.size + 1),_,I.laid (t':=s.toks) (o:=.lst (out.map fun t=>V.ref t.1)) (fun b o g=>sortedAll_old g) (Nat.le_succ _) ?_,rfl,q out _ w1 (w2.imp fun h=>by simpa using h) hfr⟩
   exact ⟨by rw [List.length_map,w1.length_eq,sizeLine_eq];lia,_,e,JV out,he⟩
end
end L2
namespace L2
open PySem PySem.Spec PyProof.Rows
section
variable {prog:Program} {w:World} {A:Around} {E:Value→Shared→Prop} {s:Shared} {it t:Addr} {i:Nat} {its:Array Value} {x:Value} {Q:Value→Shared→Prop}
theorem Wb (hi:s.heap.IsTupleIter it t i) (ht:s.heap.IsTuple t its) (hx:its[i]?=some x) (q:∀ h',h'.IsTupleIter it t (i + 1)→Heap.SameBut it s.heap h'→Q x { s with heap:=h' }) :
 wpAny (model prog w) A (Builtin.SmallTypes.nextOf (.ref it)) Q E s:=by
 obtain ⟨oi,gi,ci,di⟩:=id hi
 obtain ⟨ot,gt,_,nt,dt⟩:=ht
 unfold Builtin.SmallTypes.nextOf
 refine wpAny_bind (wpAny_callSpecial?_slot (name:=Str.ofString "__next__") hi.typeIs F.slot_tuple_iterator_next (wpAny_call_entry F.slot_tuple_iterator_next hi.typeIs F.entry_tuple_iterator_next ?_ (F.args_tuple_iterator_next_1 _)))
 show wpAny _ _ (field (.ref it) 0 >>= _) _ _ s
 refine wpAny_bind (wpAny_field gi di (x:=.ref t) rfl ?_)
 show wpAny _ _ (if (Value.ref t == Value.none)=true then _ else _) _ _ s
 rw [if_neg (show ¬ ((Value.ref t == Value.none)=true) from Bool.false_ne_true)]
 show wpAny _ _ (field (.ref it) 1 >>= _) _ _ s
 refine wpAny_bind (wpAny_field gi di (x:=.int i 0) rfl ?_)
 show wpAny _ _ (seqItems? (.ref t) >>= _) _ _ s
 refine wpAny_bind (wpAny_seqItems gt dt ?_)
 simp only [Int.toNat_natCast,hx]
 refine wpAny_bind (wpAny_setField gi di (by simp) (wpAny_pure ⟨x,rfl,wpAny_pure (q _ ⟨_,Heap.get?_update_self _ gi (Obj.isFreed_of_fields (Obj.data_mapFields di _)),(Obj.cls_mapFields ..).trans ci,?_⟩ (Heap.SameBut.update ..))⟩))
 rw [Obj.data_mapFields di];simp [rawInt]
theorem UH (hh:A.handled=none) (hi:s.heap.IsTupleIter it t i) (ht:s.heap.IsTuple t its) (hx:its[i]?=none)
 (q:∀ h' e,Heap.ExtBut it s.heap h'→(∃ o,h'.get? e=some o∧o.cls=.type "StopIteration")→E (.ref e) { s with heap:=h' }):wpAny (model prog w) A (Builtin.SmallTypes.nextOf (.ref it)) Q E s:=by
 obtain ⟨oi,gi,ci,di⟩:=id hi
 obtain ⟨ot,gt,_,nt,dt⟩:=ht
 unfold Builtin.SmallTypes.nextOf
 refine wpAny_bind (wpAny_callSpecial?_slot (name:=Str.ofString "__next__") hi.typeIs F.slot_tuple_iterator_next (wpAny_call_entry F.slot_tuple_iterator_next hi.typeIs F.entry_tuple_iterator_next ?_ (F.args_tuple_iterator_next_1 _)))
 show wpAny _ _ (field (.ref it) 0 >>= _) _ _ s
 refine wpAny_bind (wpAny_field gi di (x:=.ref t) rfl ?_)
 show wpAny _ _ (if (Value.ref t == Value.none)=true then _ else _) _ _ s
 rw [if_neg (show ¬ ((Value.ref t == Value.none)=true) from Bool.false_ne_true)]
 show wpAny _ _ (field (.ref it) 1 >>= _) _ _ s
 refine wpAny_bind (wpAny_field gi di (x:=.int i 0) rfl ?_)
 show wpAny _ _ (seqItems? (.ref t) >>= _) _ _ s
 refine wpAny_bind (wpAny_seqItems gt dt ?_)
 simp only [Int.toNat_natCast,hx]
 refine wpAny_bind (wpAny_rule (wpAny_bind (wpAny_setField gi di (by simp) ?_)))
 show wpAny _ _ (newExc (.type "StopIteration") [] >>= _) _ _ _
 simp only [newExc,newTuple]
 refine wpAny_bind (wpAny_bind (wpAny_newObj_type (wpAny_bind (m:=firstArgMember _ _) (wpAny_of_eq (a:=Value.none) (by first | rfl | (simp only [firstArgMember];rfl)) (wpAny_newObj_type ?_ (by size_fits)))) (by size_fits)))
 simp only [raiseNew]
 refine wpAny_bind (wpAny_handled ?_)
 first | rw [show A.in1.handled=none from hh] | rw [hh]
 exact wpAny_bind (wpAny_pure (wpAny_throw (q _ _ (((Heap.SameBut.update ..).extBut.push _).push _) ⟨_,Heap.get?_push_size _ rfl,rfl⟩)))
theorem GP (hh:A.handled=none) (hne:t≠it):Draws prog w A it [it,t] its.size (fun i v=>its[i]?=some v) (fun i h=>h.IsTupleIter it t i∧h.IsTuple t its) where
 live:=fun _ _ st=>let ⟨o,ho,_⟩:=st.1;⟨o,ho⟩
 frame:=fun _ _ _ st hk=>⟨st.1.at fun o e=>hk it (by simp) o e,let ⟨o,ho,r⟩:=st.2;⟨o,hk t (by simp) o ho,r⟩⟩
 item:=fun i s Q E hi st hQ=>Wb st.1 st.2 (x:=its[i]) (by simp [hi]) fun h' hit' hs'=>hQ _ h' s.toks (by simp [hi]) ⟨hit',st.2.extBut hs'.extBut hne⟩ hs'
 done:=fun s Q E st hE=>UH hh st.1 st.2 (by simp) hE
end
theorem GI (t:Addr) (its:Array Value) (n:Nat) (dct:Option Addr) (sl:Array (Option Value)) :
 Meets (Builtin.«enumerate.__new__» ⟨[.type "enumerate", .ref t],[]⟩) (fun _ R s=>s.heap.get? t=some { cls:=.type "tuple", dict:=dct,data:=.seq its n,slots:=sl } ∧
  R (.ok (.ret (.ref (s.heap.push { cls:=.type "tuple_iterator", data:=.fields #[.ref t,.int 0 0] }).objs.size)))
   { s with heap:=(s.heap.push { cls:=.type "tuple_iterator", data:=.fields #[.ref t,.int 0 0] }).push { cls:=.type "enumerate", data:=.fields #[.none,.bool false,.ref s.heap.objs.size,rawInt 0,.none,.none] } }) :=
 .of_wp fun prog w A R s h=>by
  obtain ⟨hp,g,d,tk,os⟩:=s
  obtain ⟨hl,h⟩:=h
  have hsub:=sub_enumerate
  have hT:Heap.IsTuple (Shared.heap ⟨hp,g,d,tk,os⟩) t its:=⟨_,hl,rfl,n,rfl⟩
  wp_walk using AutoSeq1.wpAny_loadPart' hl
  refine wpAny_stack_any fun st=>wpAny_pure ?_
  split
  ·rename_i c _ _ _ _ _
   cases (c == Value.type "enumerate") <;> (wp_walk using AutoSeq1.wpAny_loadPart' hl,wpAny_pyIter_tuple hT;exact ⟨_,rfl,h⟩)
  ·wp_walk using AutoSeq1.wpAny_loadPart' hl,wpAny_pyIter_tuple hT
   exact ⟨_,rfl,h⟩
theorem W6 {prog:Program} {w:World} {A:Around} {E:Value→Shared→Prop} {s:Shared} {t:Addr} {its:Array Value} {Q:Value→Shared→Prop} (hT:s.heap.IsTuple t its)
 (h:∀ h',IsEnum h' (s.heap.objs.size + 1) s.heap.objs.size 0 .none→h'.IsTupleIter s.heap.objs.size t 0→h'.objs.size=s.heap.objs.size + 2 →
  (∀ b o,s.heap.get? b=some o→h'.get? b=some o)→Q (.ref (s.heap.objs.size + 1)) { s with heap:=h' }) :
 wpAny (model prog w) A (call (.type "enumerate") [.ref t]) Q E s:=by
 obtain ⟨⟨c,dct,dt,sl⟩,hl,hc,n,hd⟩:=hT
 simp only at hc hd
 subst hc hd
 refine callType_new F.called_enumerate (by decide) (F.typeCall_enumerate_1 _) (F.newCall_enumerate_1 _) (fun obj=>F.args_object_init_2 obj _) F.entry_enumerate_new (GI t its n dct sl) ⟨hl,?_⟩
 have hz:(s.heap.push { cls:=.type "tuple_iterator", data:=.fields #[.ref t,.int 0 0] }).objs.size=s.heap.objs.size + 1:=Heap.size_push ..
 have he:=Heap.get?_push_size (s.heap.push { cls:=.type "tuple_iterator", data:=.fields #[.ref t,.int 0 0] }) (o:={ cls:=.type "enumerate", data:=.fields #[.none,.bool false,.ref s.heap.objs.size,rawInt 0,.none,.none] }) rfl
 show _∧_
 rw [hz] at he ⊢
 exact ⟨⟨_,he,rfl⟩,h _ he ⟨_,Heap.get?_push_of_some _ (Heap.get?_push_size _ rfl),rfl,rfl⟩ (by rw [Heap.size_push,hz]) fun b o y=>Heap.get?_push_of_some _ (Heap.get?_push_of_some _ y)⟩
def Ite (K:Fg) (a:Addr):It :=
 ⟨fun i H=>∃ xs x,SqT K H a xs∧xs[i]?=some x,fun i H x H'=>∃ p v,H p=none∧x=.ref p∧H'=upd H p (.tup [.int (i:Int),v])∧∀ xs,SqT K H a xs→xs[i]?=some v,fun i H=>∃ xs,SqT K H a xs∧xs.length≤i⟩
theorem G6 {P:Program} {w:World} {K:Fg} {elts:List Expr} {k1:Nat} {pos:Pos} (a e it:Addr) (hei:e≠it) :
 Turn P w K (.Tuple elts k1 pos) (Ite K a) [e,it] e (fun i h=>(∃ old,IsEnum h e it (i:Nat) old)∧h.IsTupleIter it a i) where
 mem:=by simp
 obj:=fun i h st c hc=>by
  obtain ⟨⟨old,he⟩,hi⟩:=st
  simp only [List.mem_cons,List.mem_nil_iff,or_false] at hc
  rcases hc with rfl | rfl
  ·exact ⟨_,he,fun v z=>by have z':Data.fields _=Data.cell v:=z;cases z'⟩
  ·obtain ⟨o,g,c,d⟩:=hi;exact ⟨o,g,fun v z=>by rw [d] at z;cases z⟩
 keep:=fun i h h' st k=>by
  obtain ⟨⟨old,he⟩,hi⟩:=st
  exact ⟨⟨old,k e (by simp) _ he⟩,hi.at fun o g=>k it (by simp) o g⟩
 item:=by
  intro X hP hw hK hc i pins s σ H E I hf st hg
  subst hP hw hK
  obtain ⟨⟨old,he⟩,hi⟩:=st
  obtain ⟨xs,x,hq,hx⟩:=hg
  obtain ⟨its,rv,p,hz⟩:=I.tuple hq
  obtain ⟨u,hu,ru⟩:=rv.get hx
  have pt:s.heap.IsTuple a its.toArray:=p
  obtain ⟨oa,ga,ca,na,da⟩:=id pt
  have hae:a≠e:=fun z=>by
   subst z
   have hE:s.heap.get? a=some _:=he
   rw [hE] at ga
   cases ga
   exact absurd (Value.type.inj ca) (by decide)
  have hai:a≠it:=fun z=>by
   subst z
   obtain ⟨o,g,c,d⟩:=hi
   rw [g] at ga
   cases ga
   rw [c] at ca
   exact absurd (Value.type.inj ca) (by decide)
  have hlt:i < its.toArray.size:=by
   have:=(List.getElem?_eq_some_iff.mp hu).1
   simpa using this
  refine wpAny_pyNext_enum_itemD (GP (prog:=X.prog) (w:=X.w) (A:=X.A.in1) (it:=it) (t:=a) (its:=its.toArray) (I.ok.hd hc) hai) he ⟨hi,pt⟩ hlt hei (by simp only [List.mem_cons,List.mem_nil_iff,or_false,not_or];exact ⟨hei,Ne.symm hae⟩) fun y h' tk hy ho hst ht hsz hk=>?_
  have hyu:y=u:=by
   have:its.toArray[i]?=some u:=by simpa using hu
   exact Option.some.inj (hy.symm.trans this)
  subst hyu
  refine ⟨.ref s.heap.objs.size,rfl,wpAny_letOwnedTupleGo_enum (s:={ s with heap:=h',toks:=tk + 1 }) ho fun h'' he'' hs'=>?_⟩
  have lt:∀ {c o},s.heap.get? c=some o→c≠s.heap.objs.size:=fun g=>Nat.ne_of_lt (Heap.lt_size g)
  have hse:s.heap.objs.size≠e:=Ne.symm (lt he)
  have hch:∀ c ∈ [e,it],Um X pins H c:=hf
  have I2:Inv X pins σ (upd H s.heap.objs.size (.tup [.int (i:Int),x])) { s with heap:=h'',toks:=tk + 1 }:=by
   refine I.turnedNew (ch:=[e,it]) (fun c o hc g=>?_) hch (8:) ⟨by show 2≤sizeLine;decide,[.int (i:Int) tk,y],.cons ⟨tk,rfl⟩ (.cons ru .nil),⟨_,(hs'.2 _ hse).trans ht,rfl,_,rfl⟩⟩
   simp only [List.mem_cons,List.mem_nil_iff,or_false,not_or] at hc
   exact (hs'.2 c hc.1).trans (hk c o hc.1 hc.2 g)
  have hfr:∀ c ∈ [e,it],upd H s.heap.objs.size (.tup [.int (i:Int),x]) c=none:=fun c hc=>by
   have:c≠s.heap.objs.size:=by
    have hc':=hc
    simp only [List.mem_cons,List.mem_nil_iff,or_false] at hc'
    rcases hc' with rfl | rfl
    ·exact lt he
    ·obtain ⟨o,g,_⟩:=hi;exact lt g
   rw [Ql this];exact (hf c hc).1
  exact ⟨.ref s.heap.objs.size,_,I2,rfl,⟨s.heap.objs.size,x,I.fresh,rfl,rfl,fun ys hys=>by rw [I.tuple_inj hys hq];exact hx⟩,⟨⟨_,he''⟩,hst.1.extBut hs'.extBut (Ne.symm hei)⟩,hfr⟩
 done:=by
  intro X hP hw hK hc i pins s σ H E I hf st hg
  subst hP hw hK
  obtain ⟨⟨old,he⟩,hi⟩:=st
  obtain ⟨xs,hq,hx⟩:=hg
  obtain ⟨its,rv,p,hz⟩:=I.tuple hq
  have pt:s.heap.IsTuple a its.toArray:=p
  have hlen:=rv.length
  have hn:its.toArray.size≤i:=by simp;lia
  have hT:s.TypeIs (.ref e) "enumerate" := ⟨_,he,rfl⟩
  unfold pyNext
  refine wpAny_bind (wpAny_attempt (wpAny_callSpecial?_slot (name:=Str.ofString "__next__") hT F.slot_enumerate_next (wpAny_call_entry F.slot_enumerate_next hT F.entry_enumerate_next ?_ (F.args_enumerate_next_1 _))))
  show wpAny _ _ (field (.ref e) 2 >>= _) _ _ _
  refine wpAny_bind (wpAny_field he rfl (x:=.ref it) rfl ?_)
  refine wpAny_bind (UH (A:=X.A.in1) (I.ok.hd hc) hi pt (Array.getElem?_eq_none hn) fun h' y he' hy=>?_)
  obtain ⟨o,ho,hcl⟩:=hy
  refine wpAny_bind (wpAny_isInstance (T:="StopIteration") (b:=true) ⟨o,ho,hcl⟩ isSubtype_stop ?_)
  refine wpAny_pure ⟨rfl,I.turnedL (t':=s.toks) (ch:=[e,it]) (fun c u hc' g=>he' c u (fun z=>hc' (by rw [z];simp)) g) hf⟩
 self:=fun _ _ _ _ _ st h=>wpAny_pyIter_enum st.1.choose_spec h
section
variable {X:Cx} {elts:List Expr} {k1:Nat} {tpos:Pos}
def P9 (K:Fg) (ta:TA):TI:=fun σ H R=>ta σ H fun vs H1=>∃ a xs,vs=[.ref a]∧SqT K H1 a xs∧R (Ite K a) H1
theorem Ox {e1:Expr} {ta:TA} {p pos:Pos} (hg:Gl X "enumerate") (hm:X.mg "enumerate" = none) (ha:PA X [e1] ta) (hb:bootBuiltins "enumerate" = some (.type "enumerate"):=by decide +kernel) (hs:starEach [e1] X.env=[(false,eval e1 X.env)]:=by rfl) :
 PI X (.Tuple elts k1 tpos) (.Call (.Name "enumerate" p) [e1] [] pos) (P9 X.K ta):=by
 intro pins s σ H R I h
 refine Call_ (UB I hg hm hb (PyProof.Rows.callWith_type1 (thn (ha pos pins s σ H _ I h) fun us s1 ⟨vs,H1,I1,r1,q1⟩=>?_) hs rfl))
 obtain ⟨a,xs,e,hq,q⟩:=q1
 subst e
 cases r1 with
 | cons r rr =>
  cases rr
  obtain rfl:_=Value.ref a:=r
  obtain ⟨its,rv,pt,_⟩:=I1.tuple hq
  refine W6 (show s1.heap.IsTuple a its.toArray from pt) fun h' he hi hsz hk=>?_
  refine wpAny_pyIter_enum he ?_
  have I2:Inv X pins σ H1 { s1 with heap:=h' }:=I1.kept (t':=s1.toks) hk
  refine ⟨s1.heap.objs.size + 1,[s1.heap.objs.size + 1,s1.heap.objs.size],_,_,H1,rfl,I2,G6 a (s1.heap.objs.size + 1) s1.heap.objs.size (nne (10:)),⟨⟨_,he⟩,hi⟩,fun c hc=>?_,q⟩
  have hle:@LE.le Nat _ s1.heap.objs.size c:=by
   simp only [List.mem_cons,List.mem_nil_iff,or_false] at hc
   rcases hc with rfl | rfl <;> lia
  exact I1.fpOk hle (I1.hok.fresh hle)
theorem Mm {K:Fg} {a:Addr} {xs:List V} {g:TG} {tb:TS} {D:Ends} {σ:St} {H:Hp} (Pv:Nat→St→Hp→Prop) (h0:Pv 0 σ H) (hl:∀ i σ H,i≤xs.length→Pv i σ H→SqT K H a xs)
 (hs:∀ i v p σ H,xs[i]?=some v→H p=none→Pv i σ H→g (.ref p) σ (upd H p (.tup [.int (i:Int),v])) fun σ2 H2=>tb { D with nx:=Pv (i + 1),ct:=Pv (i + 1),bk:=D.nx } σ2 H2) (hd:∀ σ H,Pv xs.length σ H→D.nx σ H) :
 ∃ W:Nat→Nat→St→Hp→Prop,(∃ m,W 0 m σ H)∧∀ i m σ H,W i m σ H →
  ((Ite K a).stop i H∧D.nx σ H)∨((Ite K a).go i H∧∃ N:St→Hp→Prop,(∀ σ' H',N σ' H'→∃ m',m' < m∧W (i + 1) m' σ' H')∧∀ x H',(Ite K a).yld i H x H'→g x σ H' fun σ2 H2=>tb { D with nx:=N,ct:=N,bk:=D.nx } σ2 H2):=by
 refine ⟨fun i m σ H=>m=xs.length - i∧i≤xs.length∧Pv i σ H,⟨xs.length - 0,rfl,Nat.zero_le _,h0⟩,?_⟩
 rintro i m σ H ⟨rfl,hi,p⟩
 have hq:=hl i σ H hi p
 by_cases h:i < xs.length
 ·refine .inr ⟨⟨xs,xs[i],hq,List.getElem?_eq_getElem h⟩,Pv (i + 1),fun σ' H' p'=>⟨xs.length - (i + 1),by lia,rfl,h,p'⟩,?_⟩
  rintro x H' ⟨p',v,hp,rfl,rfl,hv⟩
  exact hs i v p' σ H (hv xs hq) hp p
 ·have e:i=xs.length:=by lia
  subst e
  exact .inl ⟨⟨xs,hq,Nat.le_refl _⟩,hd σ H p⟩
end
end L2
namespace L2
open PySem PySem.Spec PyProof.Rows
section
variable {prog:Program} {w:World} {A:Around} {E:Value→Shared→Prop} {s:Shared}
end
section
variable {X:Cx} {elts:List Expr} {k1:Nat} {tpos:Pos}
end
end L2
namespace L2
open PySem PySem.Spec PyProof.Rows
theorem No (xs:List V) (k:Nat):cutV xs (some (k:Int)) none=xs.drop k:=by
 unfold cutV
 rw [HT.sIx_none,HT.sIx_nat]
 by_cases h:k≤xs.length
 ·rw [Nat.min_eq_left h]
  exact List.take_of_length_le (by rw [List.length_drop];lia)
 ·rw [Nat.min_eq_right (10:),List.drop_of_length_le (8:),List.drop_of_length_le (10:),List.take_nil]
theorem M3 (xs:List V) (k:Nat):cutV xs none (some (k:Int))=xs.take k:=by
 unfold cutV
 rw [HT.sIx_none,HT.sIx_nat,List.drop_zero,Nat.sub_zero]
 by_cases h:k≤xs.length
 ·rw [Nat.min_eq_left h]
 ·rw [Nat.min_eq_right (10:),List.take_of_length_le (8:),List.take_of_length_le (10:)]
theorem Ou {n k:Nat} (h:k < n):ixN n (k:Int)=some k:=by
 unfold ixN
 rw [if_pos (10:),if_pos (10:)];simp
theorem Q3:sizeLine=16777216:=by decide
theorem Zy {n:Nat} (h:n≤5000):n≤sizeLine:=by rw [Q3];lia
end L2
namespace K9
open PySem L2 TM
mutual
def isT (f:Str→Str→Option (List Str)):Tree Str→Str→Bool
 | .node n _ bs,k=>match f k n with
  | none=>false
  | some ss=>decide (ss.length=bs.length) && P7 f bs ss
def P7 (f:Str→Str→Option (List Str)):List (Tree Str)→List Str→Bool
 | [],ss=>ss.isEmpty
 | b :: bs,ss=>match ss with
  | []=>false
  | s :: r=>isT f b s && P7 f bs r
end
mutual
def td:Tree Str→PyData
 | .node n m bs=>.tuple [.str n,.int m,.tuple (tds bs)]
def tds:List (Tree Str)→List PyData
 | []=>[]
 | t :: r=>td t :: tds r
end
abbrev KdT:=Addr × Str × Addr × List PNx
def RowAt (K:Fg) (H:Hp) (t:PNx):Prop:=SqT K H t.1 [.str t.2.1,.ref t.2.2.1]∧SqT K H t.2.2.1 (t.2.2.2.map V.str)
def RowsL (K:Fg) (H:Hp) (lr:Addr) (rs:List PNx):Prop:=SqL K H lr (rs.map fun t=>V.ref t.1)∧∀ t ∈ rs,RowAt K H t
def WoodAt (K:Fg) (H:Hp) (w:Addr) (ks:List KdT):Prop:=SqL K H w (ks.map fun k=>V.ref k.1)∧∀ k ∈ ks,SqT K H k.1 [.str k.2.1,.ref k.2.2.1]∧RowsL K H k.2.2.1 k.2.2.2
theorem RowAt.same {K:Fg} {H H':Hp} {t:PNx} (g:Same H H') (h:RowAt K H t):RowAt K H' t:=⟨g.seqT h.1,g.seqT h.2⟩
theorem RowsL.same {K:Fg} {H H':Hp} {lr:Addr} {rs:List PNx} (g:Same H H') (h:RowsL K H lr rs):RowsL K H' lr rs:=⟨g.seq h.1,fun t ht=>(h.2 t ht).same g⟩
theorem WoodAt.same {K:Fg} {H H':Hp} {w:Addr} {ks:List KdT} (g:Same H H') (h:WoodAt K H w ks):WoodAt K H' w ks:=⟨g.seq h.1,fun k hk=>⟨g.seqT (h.2 k hk).1,(h.2 k hk).2.same g⟩⟩
structure RowsOk (rs:List PNx):Prop where
 nd:(rs.map fun t=>t.2.1).Nodup
 len:rs.length≤10
 nm:∀ r ∈ rs,PyData.strOk r.2.1=true
 kn:∀ r ∈ rs,∀ x ∈ r.2.2.2,PyData.strOk x=true
 kl:∀ r ∈ rs,r.2.2.2.length≤4
structure WoodOk (ks:List KdT):Prop where
 nd:(ks.map fun k=>k.2.1).Nodup
 len:ks.length≤10
 rows:∀ k ∈ ks,RowsOk k.2.2.2
def Zx (ks:List KdT) (kind:Str):List PNx:=((ks.find? fun k=>decide (k.2.1=kind)).map fun k=>k.2.2.2).getD []
def QL (ks:List KdT) (kind name:Str):Option (List Str):=((Zx ks kind).find? fun r=>decide (r.2.1=name)).map fun r=>r.2.2.2
theorem Y8 {α:Type} (f:α→Str) (g:α→V) (z:Str):∀ l:List α,ZM (l.map fun x=>((Sum.inr (f x):Key),g x)) (Sum.inr z)=(l.find? fun x=>decide (f x=z)).map g
 | []=>rfl
 | x :: r=>by
  rw [List.map_cons,List.find?_cons]
  by_cases e:f x=z
  ·rw [ZZ (p:=((Sum.inr (f x):Key),g x)) (by rw [e]),decide_eq_true e];rfl
  ·rw [ZP (p:=((Sum.inr (f x):Key),g x)) (fun q=>e (by injection q)),decide_eq_false e]
   exact Y8 f g z r
def SJ (K:Fg) (H:Hp) (v:V):Option (List Str)→Prop
 | none=>v=.non
 | some ss=>∃ b,v=.ref b∧SqT K H b (ss.map V.str)
end K9
namespace K11
open PySem L2 TM TT K9
def kpl:Lab→Bool
 | .call _ _=>false
 | .put _ k _=>k
mutual
def kp:Tm→Bool
 | .node l _ bs=>kpl l || kps bs
def kps:List Tm→Bool
 | []=>false
 | t :: r=>kp t || kps r
end
end K11
namespace L2
open PySem PySem.Spec PyProof.Rows PySem.W
section
variable {prog:Program} {w:World} {A:Around} {E:Value→Shared→Prop} {s:Shared}
end
section
variable {X:Cx}
end
end L2
namespace L2
open PySem PySem.Spec PyProof.Rows
section
variable {prog:Program} {w:World} {A:Around} {E:Value→Shared→Prop} {s:Shared}
end
section
variable {X:Cx} {elts:List Expr} {k1:Nat} {tpos:Pos}
end
end L2
namespace L2
open PySem PySem.Spec PyProof.Rows PySem.W
theorem Y9:∀ {ss:List Str} {us:List Value},Vals (ss.map V.str) us→StrsAre us ss
 | [],_,.nil=>.nil
 | x :: r,_,.cons h t=>by
  obtain ⟨k,rfl⟩:=(show ∃ t,_=Value.str x t from h)
  exact .cons x k (Y9 t)
section
variable {X:Cx}
theorem VX:MtR X "str.join" (fun x vs H Q=>∃ (sep:Str) (l:Addr) (ss:List Str),x=.str sep∧vs=[.ref l]∧SqL X.K H l (ss.map V.str)∧(ss.map (·.length)).sum + ss.length * sep.length≤16777216∧Q (.str (Txt.join sep ss)) H):=by
 intro pins s σ H x xs v us Q I rx rv h
 obtain ⟨sep,l,ss,rfl,rfl,hl,hz,q⟩:=h
 obtain ⟨t,rfl⟩:=(show ∃ t,v=Value.str sep t from rx)
 obtain ⟨u,rfl,ru⟩:=rv.one
 obtain rfl:u=Value.ref l:=ru
 obtain ⟨its,r,p,_⟩:=I.list hl
 exact join_list p.isList (Y9 r) hz fun t' k=>⟨.str _,H,I.tok _,⟨_,rfl⟩,q⟩
end
section
variable {prog:Program} {w:World} {A:Around} {E:Value→Shared→Prop} {s:Shared}
end
section
variable {X:Cx} {tg:Expr}
end
end L2
namespace K68
open PySem L2 TM TT K9 K11
def top (i:Nat):Stmt:=PySem.Challenge.pw_turnery_k68_terms_too_great.main.body.getD i (.Pass ⟨0,0,0,0⟩)
abbrev PB:Stmt:=top 6
abbrev sCO:Stmt:=top 7
abbrev Ji:Stmt:=top 8
abbrev Vc:Stmt:=top 9
abbrev PH:Stmt:=top 11
abbrev XT:Stmt:=top 12
abbrev Xu:Stmt:=top 14
abbrev Gu:Stmt:=top 15
abbrev MH:Stmt:=top 16
abbrev Vy:Stmt:=top 18
abbrev P3:Stmt:=top 20
abbrev OT:Stmt:=top 21
abbrev Wc:Stmt:=top 24
abbrev Yy:Stmt:=top 29
abbrev Wd:Stmt:=top 30
abbrev Lp:Stmt:=top 33
abbrev W5:Stmt:=top 34
abbrev Vd:Stmt:=top 35
abbrev Vm:Stmt:=top 36
abbrev MV:Stmt:=top 37
abbrev Vk:Stmt:=top 38
abbrev Mg:Stmt:=top 39
abbrev Gs:Stmt:=top 40
abbrev XN:Stmt:=top 41
abbrev Ve:Stmt:=top 42
abbrev LZ:Stmt:=top 43
abbrev LS:Stmt:=top 44
abbrev JH:Stmt:=top 45
abbrev ZW:Stmt:=top 46
abbrev sOn:Stmt:=top 47
abbrev Yl:Stmt:=top 48
abbrev NU:Stmt:=top 49
abbrev Ow:Stmt:=top 50
abbrev XE:Stmt:=top 51
abbrev Wr:Stmt:=top 52
structure Gm (mg:Str→Option Value):Prop where
 len:mg "len" = none
 isi:mg "isinstance" = none
 int:mg "int" = none
 boo:mg "bool" = none
 str:mg "str" = none
 tup:mg "tuple" = none
 lst:mg "list" = none
 rng:mg "range" = none
 zip:mg "zip" = none
 dct:mg "dict" = none
 srt:mg "sorted" = none
 rev:mg "reversed" = none
 enu:mg "enumerate" = none
theorem Zd {K:Fg} {H:Hp} {v:V} {t:Tm} (h:TmV K H v t):(∃ a m b,v=.ref a∧t=QW m b∧SqT K H a [.str YA,.int m,.int b]) ∨
 ∃ a b vs n k ad,v=.ref a∧t=.node (.put n k ad) 0 t.bs∧SqT K H a [.str PUT,.str n,.bl k,.int ad,.ref b]∧SqT K H b vs∧TmAll K H vs t.bs∧vs.length≤1000:=by
 cases h with
 | call h=>exact .inl ⟨_,_,_,rfl,rfl,h⟩
 | put h1 h2 h3 h4=>exact .inr ⟨_,_,_,_,_,_,rfl,rfl,h1,h2,h3,h4⟩
def ZS (K:Fg):Sp:=fun vs H Q _=>∃ (a:Addr) (z:Str) (r:List V),vs=[.ref a]∧SqT K H a (.str z :: r)∧Q (.bl (decide (z=YA))) H
def Yo (K:Fg):Sp:=fun vs H Q _=>∃ (w:Addr) (kind:Str) (ks:List KdT) (k:KdT),vs=[.ref w,.str kind]∧WoodAt K H w ks∧WoodOk ks∧ks.find? (fun k=>decide (k.2.1=kind))=some k∧∀ (H':Hp),Same H H'→Q (.ref k.2.2.1) H'
def Vz (K:Fg):Sp:=fun vs H Q _=>∃ (a:Addr) (ns:List Int) (k:Int),vs=[.ref a,.int k]∧0≤k∧SqL K H a (ns.map V.int)∧∀ c:Int,Q (.int c) H
def UU:Sp:=fun vs H Q _=>∃ i:Int,vs=[.int i]∧Q (.bl true) H
abbrev MM:Int:=2147483647
def UV:Sp:=fun vs H Q _=>∃ (c k:Int),vs=[.int c,.int k]∧0≤k∧k < 1000000∧∀ x:Int,0≤x→x < MM→Q (.int x) H
def XH:Sp:=fun vs H Q _=>∃ c:Int,vs=[.int c]∧∀ x:Int,Q (.int x) H
section
variable {P:Program} {w:World} {K:Fg} {mg:Str→Option Value} {base:Heap} {f:Addr} {fd:FuncData}
theorem Su:FnScope ["term"] ["term"] (defScope PB):=(1:)
theorem PM (F:Fun K "is_call" "is_call" PB f fd):FnOk P w K mg base CX0 1 f fd ["term"] (ZS K):=by
 refine F.ok Su (13:) (3:)
 ·obtain ⟨a,z,r,rfl,_⟩:=h
  rfl
 obtain ⟨a,z,r,rfl,h1,q⟩:=h
 refine ⟨_,(Qk (Qq (Zr Zw (Qg Qi (pv 0) Qb (2:)) Qs (Qz _)))),?_⟩
 try dsimp only [QB,Cx.nox]
 refine ⟨_,rfl,a,_,0,.str z,rfl,rfl,h1,QY (j:=0) rfl,rfl,?_⟩
 show Q (.bl (decide (V.str z=V.str YA))) H
 by_cases e:z=YA
 ·rw [decide_eq_true e] at q
  rw [decide_eq_true (by rw [e])];exact q
 ·rw [decide_eq_false e] at q
  rw [decide_eq_false (fun h=>e (by injection h))];exact q
theorem Lm:FnScope ["wood", "kind"] ["wood", "kind"] (defScope XT):=(1:)
theorem GN (F:Fun K "rows_of" "rows_of" XT f fd) (G:Gm mg):FnOk P w K mg base CX0 1 f fd ["wood", "kind"] (Yo K):=by
 refine F.ok Lm (13:) (3:)
 ·obtain ⟨w,kind,ks,k,rfl,_⟩:=h
  rfl
 obtain ⟨wd,kind,ks,k0,rfl,hW,hO,hk0,q⟩:=h
 refine ⟨_,(Qk (Qq (LJ (YC hr) (QP (Yb rfl) rfl G.dct PyProof.Rows.boot_dict (Qa (pv 0) Qe)) (pv 1) (QZ Qe) ⟨rfl,rfl,rfl,rfl⟩))),?_⟩
 try dsimp only [QB,Cx.nox]
 have hlen:=hO.len
 refine ⟨_,rfl,wd,ks.map (fun k=>(k.1,k.2.1,V.ref k.2.2.1)),rfl,(by rw [List.map_map];exact hW.1),fun t ht=>?_,(by rw [List.map_map];exact hO.nd),(by rw [List.length_map];lia),fun d hd=>⟨d,rfl,.inl ⟨_,.inl Qd⟩,_,rfl,(17:),fun p hp=>⟨_,DGet.k (k:=Sum.inr kind) ((Qf hp _) _ _ Qd),?_⟩⟩⟩
 ·obtain ⟨k,hk,rfl⟩:=List.mem_map.mp ht
  exact (hW.2 k hk).1
 ·have g1:=Qf hd (.dK ((ks.map (fun k=>(k.1,k.2.1,V.ref k.2.2.1))).map fun t=>((Sum.inr t.2.1:Key),t.2.2)))
  have g2:=Qf hp (.lst [])
  have g12:=g1.trans g2
  have ev:ZM ((ks.map (fun k=>(k.1,k.2.1,V.ref k.2.2.1))).map fun t=>((Sum.inr t.2.1:Key),t.2.2)) (Sum.inr kind)=(ks.find? fun k=>decide (k.2.1=kind)).map fun k=>V.ref k.2.2.1:=by
   rw [List.map_map]
   exact Y8 (fun k:KdT=>k.2.1) (fun k=>V.ref k.2.2.1) kind ks
  rw [ev]
  rw [hk0]
  exact q _ g12
theorem OU:FnScope ["_law_script", "_law_k"] ["_law_script", "_law_k"] (defScope Lp):=(1:)
theorem NB (F:Fun K "_law_cell_at" "_law_cell_at" Lp f fd) (G:Gm mg):FnOk P w K mg base CX0 1 f fd ["_law_script", "_law_k"] (Vz K):=by
 refine F.ok OU (13:) (3:)
 ·obtain ⟨a,ns,k,rfl,_⟩:=h
  rfl
 obtain ⟨a,ns,k,rfl,hk0,hS,q⟩:=h
 obtain ⟨j,rfl⟩ : ∃ j:Nat,k=(j:Int):=⟨k.toNat,by lia⟩
 refine ⟨_,(Qh (QM (QA V6 (pv 1) (Qw QI rfl G.len PySem.boot_len (Qa (pv 0) Qe)) (Qz _)) (Qk (Qq (Qg Qn (pv 0) (pv 1) (2:)))) Qu)
  (Qk (Qq Qb))),?_⟩
 try dsimp only [QB,Cx.nox]
 refine ⟨_,rfl,_,rfl,a,_,rfl,.inl hS,_,_,rfl,rfl,_,rfl,XI (fun c=>?_) (fun c=>?_)⟩
 ·have c':(j:Int) < (((ns.map V.int).length:Nat):Int):=of_decide_eq_true c
  rw [List.length_map] at c'
  have hk:j < ns.length:=by lia
  exact ⟨_,rfl,_,rfl,a,_,j,.int ns[j],rfl,rfl,hS,QY (by rw [List.getElem?_map,List.getElem?_eq_getElem hk];rfl),q _⟩
 ·exact q 0
theorem Oo:FnScope ["_law_found"] ["_law_found"] (defScope Vk):=(1:)
theorem Ln (F:Fun K "_law_whole" "_law_whole" Vk f fd) (G:Gm mg):FnOk P w K mg base CX0 1 f fd ["_law_found"] UU:=by
 refine F.ok Oo (13:) (3:)
 ·obtain ⟨i,rfl,_⟩:=h
  rfl
 obtain ⟨i,rfl,q⟩:=h
 refine ⟨_,(Qk (Qq (Ur (Qw ZK rfl G.isi PyProof.Rows.boot_isinstance (Qa (pv 0) (Qa (ZH (v:=.ty "int") rfl G.int PyProof.Rows.boot_int rfl) Qe))) (Jd (PX (Qw ZK rfl G.isi PyProof.Rows.boot_isinstance (Qa (pv 0) (Qa (ZH (v:=.ty "bool") rfl G.boo PyProof.Rows.boot_bool rfl) Qe)))))))),?_⟩
 try dsimp only [QB,Cx.nox]
 exact ⟨_,rfl,_, "int", _,true,rfl,.int _,rfl,_,rfl,Q8 ⟨_,rfl,_, "bool", _,false,rfl,.int _,rfl,_,rfl,q⟩⟩
theorem Xx:FnScope ["_law_cell", "_law_k", "_law_number"] ["_law_cell", "_law_k"] (defScope W5):=(1:)
theorem Lv (F:Fun K "_law_mixed" "_law_mixed" W5 f fd):FnOk P w K mg base CX0 1 f fd ["_law_cell", "_law_k"] UV:=by
 refine F.ok Xx (13:) (3:)
 ·obtain ⟨c,k,rfl,_⟩:=h
  rfl
 obtain ⟨c,k,rfl,k0,k1,q⟩:=h
 refine ⟨_,(Qh (Qp (i:=2) Xx.nd rfl (12:) (Qo QR (Qo QN (pv 0) Qb) (Qo ZB Qb (Qo QR (pv 1) Qb))))
  (Qh (Qp (i:=2) Xx.nd rfl (12:) (Qo QN (Qo QR (Qo ZB (pv 2) (pv 2)) (Qo ZB Qb (pv 1))) Qb))
  (Qk (Qq (Qo QN (Qo QR (Qo QR (Qo ZB (pv 2) (pv 2)) (Qo ZB Qb (pv 1))) Qb) Qb))))),?_⟩
 try dsimp only [QB,Cx.nox]
 refine ⟨_,rfl,_,_,rfl,rfl,(by show (0:Int) < 2147483647;decide),_,rfl,_,_,rfl,rfl,_,_,rfl,rfl,.inl ⟨by decide,by decide⟩,_,_,rfl,rfl,?_⟩
 dsimp only
 have a0:0≤c % 2147483647:=Int.emod_nonneg _ (by decide)
 have a1:c % 2147483647 < 2147483647:=Int.emod_lt_of_pos _ (by decide)
 generalize hx:c % 2147483647 + 48271 * (k + 1)=x
 refine ⟨_,rfl,_,rfl,_,_,rfl,rfl,.inl ⟨by lia,by lia⟩,_,rfl,_,_,rfl,rfl,.inl ⟨by decide,by decide⟩,_,_,rfl,rfl,_,_,rfl,rfl,(by show (0:Int) < 2147483647;decide),?_⟩
 dsimp only
 generalize hy:(x * x + 69621 * k) % 2147483647=y
 have b0:0≤y:=by rw [← hy];exact Int.emod_nonneg _ (by decide)
 have b1:y < 2147483647:=by rw [← hy];exact Int.emod_lt_of_pos _ (by decide)
 refine ⟨_,rfl,_,rfl,_,_,rfl,rfl,.inl ⟨by lia,by lia⟩,_,rfl,_,_,rfl,rfl,.inl ⟨by decide,by decide⟩,_,_,rfl,rfl,_,_,rfl,rfl,_,_,rfl,rfl,(by show (0:Int) < 2147483647;decide),?_⟩
 exact q _ (Int.emod_nonneg _ (by decide)) (Int.emod_lt_of_pos _ (by decide))
theorem Oq:FnScope ["_law_cell"] ["_law_cell"] (defScope Vm):=(1:)
theorem Mq (F:Fun K "_law_great" "_law_great" Vm f fd):FnOk P w K mg base CX0 1 f fd ["_law_cell"] XH:=by
 refine F.ok Oq (13:) (3:)
 ·obtain ⟨c,rfl,_⟩:=h
  rfl
 obtain ⟨c,rfl,q⟩:=h
 refine ⟨_,(Qk (Qq (Qo Yd (Qo QN (pv 0) (Qo QR (Qo ZB Qb (Qo LW Qb Qb)) Qb)) (Qo LW Qb Qb)))),?_⟩
 try dsimp only [QB,Cx.nox]
 exact ⟨_,rfl,_,_,rfl,rfl,⟨by decide,by decide,by decide⟩,_,_,rfl,rfl,.inl ⟨by decide,by decide⟩,_,_,rfl,rfl,_,_,rfl,rfl,(by show (0:Int) < 2 * 10 ^ 58 + 1;decide),_,_,rfl,rfl,⟨by decide,by decide,by decide⟩,_,_,rfl,rfl,q _⟩
end
end K68
namespace K68
open PySem L2 TM TT K9 K11
theorem WM (cs:List Nat):Txt.join (S []) (cs.map fun c=>S [c])=S cs:=by
 unfold Txt.join
 cases cs with
 | nil=>rfl
 | cons x r =>
  have h:∀ (r:List Nat) (a:List Nat),(r.map fun c=>S [c]).foldl (fun acc p=>acc ++ (S []).cps ++ p.cps) (S a).cps=(S (a ++ r)).cps:=by
   intro r
   induction r with
   | nil=>intro a;simp
   | cons y r ih =>
    intro a
    rw [List.map_cons,List.foldl_cons]
    have e:(S a).cps ++ (S []).cps ++ (S [y]).cps=(S (a ++ [y])).cps:=by simp [S]
    rw [e,ih,List.append_assoc];rfl
  have:=h r [x]
  show (⟨(r.map fun c=>S [c]).foldl (fun acc p=>acc ++ (S []).cps ++ p.cps) (S [x]).cps⟩ : Str)=_
  rw [this];rfl
abbrev Wg:Str:=Str.ofString "abcdefghijklmnopqrstuvwxyz"
def ZN:List Nat:=[97,98,99,100,101,102,103,104,105,106,107,108,109,110,111,112,113,114,115,116,117,118,119,120,121,122]
theorem MX:Wg=S ZN:=by decide +kernel
theorem Nr:Wg.cps.toList=ZN:=by rw [MX,L7]
theorem Wi:Str.ofString "" = S []:=by decide +kernel
def Nm (z:Str):Prop:=PyData.strOk z=true
theorem Nm.of {u:List Nat} (h:∀ c ∈ u,c < 128):Nm (S u):=by
 unfold Nm PyData.strOk
 rw [Array.all_eq_true_iff_forall_mem]
 intro c hc
 have:c ∈ u:=by simpa [S] using hc
 have:=h c this
 simp;lia
theorem ME {i j:Nat} (hi:i < 26) (hj:j < 26) (e:ZN.getD i 0=ZN.getD j 0):i=j:=by
 have hn:ZN.Nodup:=by decide
 have h1:ZN.getD i 0=ZN[i]'hi:=by rw [List.getD_eq_getElem?_getD,List.getElem?_eq_getElem (show i < ZN.length from hi)];rfl
 have h2:ZN.getD j 0=ZN[j]'hj:=by rw [List.getD_eq_getElem?_getD,List.getElem?_eq_getElem (show j < ZN.length from hj)];rfl
 rw [h1,h2] at e
 exact (List.getElem_inj hn).mp e
theorem WH {i:Nat} (hi:i < 26):ZN.getD i 0 ∈ ZN∧ZN[i]?=some (ZN.getD i 0):=by
 have hl:i < ZN.length:=hi
 have e:ZN.getD i 0=ZN[i]:=by rw [List.getD_eq_getElem?_getD,List.getElem?_eq_getElem hl];rfl
 rw [e]
 exact ⟨List.getElem_mem hl,List.getElem?_eq_getElem hl⟩
theorem VB:∀ c ∈ ZN,c < 128:=by decide
def code (j:Nat):Nat:=ZN.getD j 0
abbrev ON (K:Fg):V→List V→Hp→VK→Prop:=fun x vs H Q=>∃ (sep:Str) (l:Addr) (ss:List Str),x=.str sep∧vs=[.ref l]∧SqL K H l (ss.map V.str)∧(ss.map (·.length)).sum + ss.length * sep.length≤16777216∧Q (.str (Txt.join sep ss)) H
abbrev NV (bs:List Nat):List V:=bs.map fun (b:Nat)=>V.int (b:Int)
theorem Pb {X:Cx} {K:Fg} {o e:Expr} {es:List Expr} {to:TE} {t:TA} {name:Str} {apos cpos:Pos} {T id:String} {r:V→List V→Hp→VK→Prop} (hK:X.K=K) (pa:PlainAttrs T) (slot:Slot T name id) (hty:typeOf (.builtin id)=pure (.type "method_descriptor")) (hm:MtR X id r) (ho:PE X o to) (ha:PA X (e :: es) t)
 (hbase:attributeBase o name X.env (eval o X.env)=eval o X.env:=by rfl)
 (hfew:((backTo cpos (starEach (e :: es) X.env)).all (fun x=>!x.1) && (backToKw cpos (keywordEach [] X.env)).all (fun x=>x.1.isSome)
  && decide ((e :: es).length + ([]:List Keyword).length + (if ([]:List Keyword).isEmpty then 0 else 1) < 30))=true:=by rfl)
 (hline:(apos.endLine == cpos.line)=true:=by rfl) (hs:starEach (e :: es) X.env=(false,eval e X.env) :: starEach es X.env:=by rfl) (hplain:(backTo cpos (starEach es X.env)).any (·.1)=false:=by rfl) :
 PE X (.Call (.Attribute o name apos) (e :: es) [] cpos) (tBM K T r to t):=by
 subst hK
 exact Jw pa slot hty hm ho ha hbase hfew hline hs hplain
theorem MY {X:Cx} {K:Fg} {tg l:Expr} {tl:TE} (hK:X.K=K) (hl:PE X l tl):PI X tg l (OP K tl):=by
 subst hK
 exact Q4 hl
theorem Xo {α:Type} (g:Nat→α) (n:Nat) (h:∀ i j,i < n→j < n→g i=g j→i=j):((List.range n).map g).Nodup:=by
 rw [List.Nodup,List.pairwise_map]
 refine (List.nodup_range (n:=n)).imp_of_mem fun {a b} ha hb hne e=>hne (h a b (List.mem_range.mp ha) (List.mem_range.mp hb) e)
theorem VW {bs:List Nat} (h:∀ b ∈ bs,b < 26):PyData.strOk (S (bs.map code))=true:=Nm.of fun c hc=>by
 obtain ⟨b,hb,rfl⟩:=List.mem_map.mp hc
 exact VB _ (WH (h b hb)).1
theorem JA {cs:List Nat} (h:cs.length≤8):((cs.map fun c=>S [c]).map (·.length)).sum + (cs.map fun c=>S [c]).length * (S []).length≤16777216:=by
 have e:((cs.map fun c=>S [c]).map (·.length))=cs.map fun _=>1:=by
  rw [List.map_map]
  exact List.map_congr_left fun c _=>by simp [MF]
 have e2:(cs.map fun _=>1).sum=cs.length:=by
  clear e h
  induction cs with
  | nil=>rfl
  | cons x r ih=>rw [List.map_cons,List.sum_cons,ih,List.length_cons];lia
 rw [e,e2,MF]
 simp only [List.length_nil,Nat.mul_zero]
 lia
theorem Pz {y:Nat} (hy:y < 26):atI Wg.cps.toList ((y:Nat):Int)=some (code y):=by rw [Nr];exact QY (WH hy).2
def Wj (K:Fg):Sp:=fun vs H Q _=>∃ c:Int,vs=[.int c]∧∀ (l:Addr) (H':Hp) (ns:List Str),Same H H'→H' l=some (.lst (ns.map V.str))→ns.length=8→ns.Nodup→(∀ n ∈ ns,PyData.strOk n=true)→Q (.ref l) H'
section
variable {P:Program} {w:World} {K:Fg} {mg:Str→Option Value} {base:Heap} {f:Addr} {fd:FuncData}
theorem ZI:FnScope ["_law_cell", "_law_letters", "_law_base", "_law_width", "_law_spot", "_law_names_here", "_law_k", "_law_moved"] ["_law_cell"] (defScope Vd):=(1:)
theorem MS (F:Fun K "_law_names" "_law_names" Vd f fd) (G:Gm mg) (RM:Fn P w K mg base 1 "_law_mixed" ["_law_cell", "_law_k"] UV):FnOk P w K mg base CX0 2 f fd ["_law_cell"] (Wj K):=by
 refine F.ok ZI (13:) (3:)
 ·obtain ⟨c,rfl,_⟩:=h
  rfl
 obtain ⟨c,rfl,q⟩:=h
 refine ⟨_,(Qh (Qp (i:=1) ZI.nd rfl (Or.inr rfl) Qs)
  (Qh (Qp (i:=2) ZI.nd rfl (Or.inr rfl) (QT (CompG.many (xs:=["_law_j"]) (caps:=["_law_cell"]) (cap:=[0]) (cs:=[_]) rfl rfl (0:) (0:) (0:) (0:) (0:) (0:) rfl rfl rfl) rfl (Zp rfl G.rng (Qa (Qb) Qe)) (ZL (CompG.many (xs:=["_law_j"]) (caps:=["_law_cell"]) (cap:=[0]) (cs:=[_]) rfl rfl (0:) (0:) (0:) (0:) (0:) (0:) rfl rfl rfl)) (fun _ _ _ _=>Q6) (fun _ _ _ _=>Qo (r:=rI (fun _ j=>0 < j) fun i j=>.int (i % j)) QN (Qt RM hr (Qa (pv 1) (Qa (pv 0) Qe))) Qb)))
  (Qh (QM (QA Zw (Qo QN (Qo Q1 (pv 0) Qb) Qb) Qb (Qz _)) (Qk (Qq (QT (CompG.many (xs:=["_law_k"]) (caps:=["_law_base", "_law_letters"]) (cap:=[2,1]) (cs:=[_,_]) rfl rfl (0:) (0:) (0:) (0:) (0:) (0:) rfl rfl rfl) rfl (Zp rfl G.rng (Qa (Qb) Qe)) (ZL (CompG.many (xs:=["_law_k"]) (caps:=["_law_base", "_law_letters"]) (cap:=[2,1]) (cs:=[_,_]) rfl rfl (0:) (0:) (0:) (0:) (0:) (0:) rfl rfl rfl)) (fun _ _ _ _=>Q6)
   (fun _ _ _ _=>Pb (K:=K) (r:=ON K) rfl PySem.F.plainAttrs_str PySem.F.slot_str_join PySem.F.type_str_join VX Qs (Qa (QT (CompG.many (xs:=["_law_j"]) (caps:=["_law_letters"]) (cap:=[2]) (cs:=[_]) rfl rfl (0:) (0:) (0:) (0:) (0:) (0:) rfl rfl rfl) rfl (MY (K:=K) rfl (Yt (r:=R7 K) Gx (pv 1) YR (YT (Qo (r:=rI0 fun i j=>.int (i + j)) QR (pv 0) Qb)))) (ZL (CompG.many (xs:=["_law_j"]) (caps:=["_law_letters"]) (cap:=[2]) (cs:=[_]) rfl rfl (0:) (0:) (0:) (0:) (0:) (0:) rfl rfl rfl)) (fun _ _ _ _=>Q6) (fun _ _ _ _=>Qg Nf (pv 1) (pv 0) (2:))) Qe))))) Qu)
  (Qh (Qp (i:=3) ZI.nd rfl (12:) (Qo QR Qb (Qo QN (pv 0) Qb)))
  (Qh (Qp (i:=4) ZI.nd rfl (12:) (Qo QN (Qo Q1 (pv 0) Qb) (pv 3)))
  (Qh (Qp (i:=5) ZI.nd rfl (12:) (QZ Qe))
  (Qh (Zc PassesOwn.never rfl (Zp rfl G.rng (Qa (Qb) Qe)) (Qr (i:=6) ZI.nd rfl (12:)) (Qh (Qp (i:=7) ZI.nd rfl (12:) (Yt Gx (pv 2) YR (YT (pv 3))))
  (Qh (Us (Qo QN (Qo QR (Qg Qn (pv 7) (pv 4) (2:)) (pv 6)) Qb) (P2 (pv 7) (pv 4) Ma))
  (Qk (Q0 (Jw PySem.F.plainAttrs_list PySem.F.slot_list_append PySem.F.type_list_append Zz (pv 5) (Qa (Jw (r:=ON K) PySem.F.plainAttrs_str PySem.F.slot_str_join PySem.F.type_str_join VX Qs (Qa (QT (CompG.many (xs:=["_law_j"]) (caps:=["_law_letters"]) (cap:=[1]) (cs:=[_]) rfl rfl (0:) (0:) (0:) (0:) (0:) (0:) rfl rfl rfl) rfl (Q4 (pv 7)) (ZL (CompG.many (xs:=["_law_j"]) (caps:=["_law_letters"]) (cap:=[1]) (cs:=[_]) rfl rfl (0:) (0:) (0:) (0:) (0:) (0:) rfl rfl rfl)) (fun _ _ _ _=>Q6) (fun _ _ _ _=>Qg Nf (pv 1) (pv 0) (2:))) Qe)) Qe)))))))
  (Qk (Qq (pv 5)))))))))),?_⟩
 try dsimp only [QB,Cx.nox]
 have eL:Str.ofString "abcdefghijklmnopqrstuvwxyz" = Wg:=rfl
 refine ⟨8,rfl,by decide,by decide,fun lb hlb=>?_⟩
 refine Yp (lo:=0) (n:=8) (cs:=[some (.int c)]) (tt:=fun _ H Q=>Q true H) (fun j ys H'=>∃ bs:List Nat,ys=NV bs∧bs.length=j∧(∀ b ∈ bs,b < 26)∧H' lb=some (.lst ys)∧Same H H')
  ⟨[],rfl,rfl,fun b hb=>(nomatch hb),Qd,Qf hlb _⟩ ?_ ?_
 ·rintro j ys H' hj ⟨bs,rfl,hbl,hb26,hy,g⟩
  refine Q8 ⟨_,rfl,_,rfl,c,0 + (j:Int),rfl,by lia,by lia,fun x x0 x1=>⟨_,_,rfl,rfl,(by show (0:Int) < 26;decide),?_⟩⟩
  have y0:0≤x % 26:=Int.emod_nonneg _ (by decide)
  have y1:x % 26 < 26:=Int.emod_lt_of_pos _ (by decide)
  refine QK hj hy (by rw [List.length_map];lia) ⟨bs ++ [(x % 26).toNat],?_,by rw [List.length_append,List.length_singleton,hbl],fun b hb=>?_,Qd,fun z u e=>?_⟩
  ·unfold NV
   rw [List.map_append]
   show _ ++ [V.int (x % 26)]=_ ++ [V.int (((x % 26).toNat:Nat):Int)]
   rw [Int.toNat_of_nonneg y0]
  ·rcases List.mem_append.mp hb with hb | hb
   ·exact hb26 b hb
   ·have:b=(x % 26).toNat:=by simpa using hb
    rw [this];lia
  ·rw [Ql (Qj e hlb)];exact g _ _ e
 rintro ys H1 ⟨bs,rfl,hbl,hb26,hlb1,g1⟩
 have word:∀ (us:List Nat) (l2 lu:Addr) (Hx:Hp) (R:Hp→Prop),Hx l2=none→Hx lu=some (.lst (NV us))→us.length≤8→(∀ b ∈ us,b < 26) →
  (∀ H',Same Hx H'→H' l2=some (.lst (((us.map code).map fun c=>S [c]).map V.str))→R H')→WO (Itl K lu) 1 [some (.str Wg)] (QJ 0) (fun _ H Q=>Q true H) (tOp Rl (UP 1) (UP 0)) Hx l2 R:=by
  intro us l2 lu Hx R h2 hu hul hu26 hR
  have hne:lu≠l2:=fun z=>by rw [z,h2] at hu;cases hu
  refine U1 (K:=K) (xs:=NV us) (cs:=[some (.str Wg)]) (fun m ys H'=>ys=(((us.take m).map code).map fun c=>S [c]).map V.str∧H' l2=some (.lst ys)∧Same Hx H')
   ⟨rfl,Qd,Qf h2 _⟩ ?_ ?_ ?_
  ·rintro m ys H' _ ⟨_,_,g⟩
   exact SqL.of (g _ _ hu)
  ·rintro m x ys H' hm hx ⟨rfl,hy,g⟩
   have hml:m < us.length:=by simpa using hm
   obtain rfl:x=.int ((us[m]:Nat):Int):=by
    rw [List.getElem?_map,List.getElem?_eq_getElem hml] at hx
    exact (Option.some.inj hx).symm
   have hlt:=hu26 _ (List.getElem_mem hml)
   refine Q8 ⟨_,rfl,_,rfl,Wg,_,_,rfl,rfl,(by rw [MX,MF];exact Zy (by decide)),Pz hlt,?_⟩
   refine QK hm hy (by simp only [List.length_map,List.length_take];lia) ⟨?_,Qd,fun z u e=>?_⟩
   ·rw [List.take_add_one,List.getElem?_eq_getElem hml]
    simp only [Option.toList_some,List.map_append,List.map_cons,List.map_nil]
    rfl
   ·rw [Ql (Qj e h2)];exact g _ _ e
  ·rintro ys H' ⟨rfl,hy,g⟩
   rw [List.length_map,List.take_length] at hy
   exact hR H' g hy
 refine ⟨_,rfl,_,_,rfl,rfl,⟨by decide,by decide⟩,_,_,rfl,rfl,(by show (0:Int) < 4;decide),rfl,_,rfl,XI (fun _=>?_) (fun _=>?_)⟩
 ·refine ⟨8,rfl,by decide,by decide,fun ln hln=>?_⟩
  refine Yp (lo:=0) (n:=8) (cs:=[some (.ref lb),some (.str Wg)]) (tt:=fun _ H Q=>Q true H) (fun j ys H'=>ys=((List.range j).map fun k=>S ((bs.take (k + 1)).map code)).map V.str∧H' ln=some (.lst ys)∧Same H1 H')
   ⟨rfl,Qd,Qf hln _⟩ ?_ ?_
  ·rintro j ys H' hj ⟨rfl,hy,g⟩
   refine Q8 ⟨rfl,_,rfl,_,rfl,_,_,rfl,rfl,_,rfl,lb,_,rfl,SqL.of (g _ _ hlb1),fun ps hps=>⟨ps,rfl,⟨_,SqL.of Qd⟩,fun l2 hl2=>?_⟩⟩
   have ecut:cutV (NV bs) none (some (0 + (j:Int)+1))=NV (bs.take (j + 1)):=by
    rw [show (0:Int)+(j:Int)+1=((j + 1:Nat):Int) by lia,M3];unfold NV;rw [List.map_take]
   have kp:=Qf hps (.lst (cutV (NV bs) none (some (0 + (j:Int)+1))))
   refine word (bs.take (j + 1)) l2 ps _ _ hl2 (by rw [← ecut];exact Qd) (by rw [List.length_take];lia) (fun b hb=>hb26 b (List.mem_of_mem_take hb)) fun H3 g3 h3=>?_
   have k3:=kp.trans g3
   refine ⟨S [],l2,_,by rw [← Wi],rfl,SqL.of h3,JA (by rw [List.length_map,List.length_take];lia),?_⟩
   rw [WM]
   refine QK hj (k3 _ _ hy) (by simp only [List.length_map,List.length_range];lia) ⟨?_,Qd,fun z u e=>?_⟩
   ·rw [List.range_succ,List.map_append,List.map_append];rfl
   ·rw [Ql (Qj e hln)];exact k3 _ _ (g _ _ e)
  ·rintro ys H' ⟨rfl,hy,g⟩
   refine q ln H' _ (g1.trans g) hy (by simp) (Xo _ 8 fun i j hi hj e=>?_) fun x hx=>?_
   ·have:=congrArg List.length (OL e)
    simp only [List.length_map,List.length_take] at this
    lia
   ·obtain ⟨k,_,rfl⟩:=List.mem_map.mp hx
    exact VW fun b hb=>hb26 b (List.mem_of_mem_take hb)
 have w0:0≤c % 8:=Int.emod_nonneg _ (by decide)
 have w1:c % 8 < 8:=Int.emod_lt_of_pos _ (by decide)
 refine ⟨_,rfl,_,_,rfl,rfl,(by show (0:Int) < 8;decide),_,_,rfl,rfl,?_⟩
 dsimp only
 obtain ⟨wi,hwi⟩ : ∃ wi:Nat,1 + c % 8=(wi:Int):=⟨(1 + c % 8).toNat,by lia⟩
 rw [hwi]
 have hwi0:0 < wi:=by lia
 have hwi8:wi≤8:=by lia
 refine ⟨_,rfl,_,_,rfl,rfl,⟨by decide,by decide⟩,_,rfl,_,_,rfl,rfl,(by show (0:Int) < (wi:Int);lia),?_⟩
 dsimp only
 have s0:0≤c / 8 % (wi:Int):=Int.emod_nonneg _ (10:)
 have s1:c / 8 % (wi:Int) < (wi:Int):=Int.emod_lt_of_pos _ (10:)
 obtain ⟨sp,hsp⟩ : ∃ sp:Nat,c / 8 % (wi:Int)=(sp:Int):=⟨(c / 8 % (wi:Int)).toNat,by lia⟩
 rw [hsp]
 have hspw:sp < wi:=by lia
 obtain ⟨bw,hbw⟩ : ∃ bw,bw=bs.take wi:=⟨_,rfl⟩
 have hbwl:bw.length=wi:=by rw [hbw,List.length_take];lia
 have hbw26:∀ b ∈ bw,b < 26:=fun b hb=>hb26 b (List.mem_of_mem_take (by rw [← hbw];exact hb))
 have hspl:sp < bw.length:=by lia
 refine ⟨(17:),fun ln hln=>?_⟩
 refine ⟨8,rfl,by decide,by decide,?_⟩
 refine Xm (lo:=0) (n:=8) (fun j σ H'=>∃ c6 c7:Option V,σ=[some (.int c),some (.str Wg),some (.ref lb),some (.int (wi:Int)),some (.int (sp:Int)),some (.ref ln),c6,c7]∧Same H1 H'∧H' ln=some (.lst (((List.range j).map fun k=>S ((bw.set sp ((bw[sp]+k) % 26)).map code)).map V.str)))
  ⟨none,none,rfl,Qf hln _,Qd⟩ ?_ ?_
 ·rintro j σ H' hj ⟨c6,c7,rfl,g,hy⟩
  refine ⟨_,rfl,_,rfl,_,rfl,lb,_,rfl,SqL.of (g _ _ hlb1),fun lm hlm=>?_⟩
  have ecut:cutV (NV bs) none (some (wi:Int))=NV bw:=by rw [M3,hbw];unfold NV;rw [List.map_take]
  have km:=Qf hlm (.lst (cutV (NV bs) none (some (wi:Int))))
  have hlm2:upd H' lm (.lst (cutV (NV bs) none (some (wi:Int)))) lm=some (.lst (NV bw)):=by rw [← ecut];exact Qd
  have hlnm:ln≠lm:=fun z=>by rw [← z,hy] at hlm;cases hlm
  generalize upd H' lm (.lst (cutV (NV bs) none (some (wi:Int))))=H2 at km hlm2
  have hat:atI (NV bw) (sp:Int)=some (.int ((bw[sp]:Nat):Int)):=QY (by rw [List.getElem?_map,List.getElem?_eq_getElem hspl];rfl)
  refine ⟨_,rfl,_,rfl,lm,_,_,_,rfl,rfl,SqL.of hlm2,hat,_,rfl,_,_,rfl,rfl,_,_,rfl,rfl,(by show (0:Int) < 26;decide),_,rfl,_,rfl,lm,NV bw,(sp:Int),sp,rfl,rfl,hlm2,Ou (by rw [List.length_map];exact hspl),?_⟩
  have hset:(NV bw).set sp (.int ((((bw[sp]:Nat):Int)+(0 + (j:Int))) % 26))=NV (bw.set sp ((bw[sp]+j) % 26)):=by
   unfold NV
   rw [List.map_set]
   congr 2
   lia
  rw [hset]
  have hln3:upd H2 lm (.lst (NV (bw.set sp ((bw[sp]+j) % 26)))) ln=some (.lst (((List.range j).map fun k=>S ((bw.set sp ((bw[sp]+k) % 26)).map code)).map V.str)):=by rw [Ql hlnm];exact km _ _ hy
  refine ⟨_,rfl,.inl ⟨rfl,_,SqL.of hln3⟩,rfl,_,rfl,lm,rfl,⟨_,SqL.of Qd⟩,fun l2 hl2=>?_⟩
  have hml:∀ b ∈ bw.set sp ((bw[sp]+j) % 26),b < 26:=fun b hb=>by
   rcases List.mem_or_eq_of_mem_set hb with hb | hb
   ·exact hbw26 b hb
   ·rw [hb];exact Nat.mod_lt _ (by decide)
  refine word _ l2 lm _ _ hl2 Qd (by rw [List.length_set];lia) hml fun H4 g4 h4=>?_
  refine ⟨S [],l2,_,by rw [← Wi],rfl,SqL.of h4,JA (by rw [List.length_map,List.length_set];lia),?_⟩
  rw [WM]
  refine ⟨ln,_,_,rfl,rfl,g4 _ _ hln3,by simp only [List.length_map,List.length_range,Q3];lia,_,_,rfl,fun z u e=>?_,?_⟩
  ·rw [Ql (Qj e hln)]
   refine g4 _ _ ?_
   have hz:z≠lm:=fun y=>by rw [y] at e;rw [g _ _ e] at hlm;cases hlm
   rw [Ql hz]
   exact km _ _ (g _ _ e)
  ·rw [Qd,List.range_succ,List.map_append,List.map_append];rfl
 ·rintro σ H' ⟨c6,c7,rfl,g,hy⟩
  refine ⟨_,rfl,q ln H' _ (g1.trans g) hy (by simp) (Xo _ 8 fun i j hi hj e=>?_) fun x hx=>?_⟩
  ·have e2:=congrArg (fun l=>l[sp]?) (OL e)
   simp only [List.getElem?_map,List.getElem?_set_self hspl,Option.map_some] at e2
   have e3:=ME (Nat.mod_lt _ (by decide)) (Nat.mod_lt _ (by decide)) (Option.some.inj e2)
   lia
  ·obtain ⟨k,_,rfl⟩:=List.mem_map.mp hx
   refine VW fun b hb=>?_
   rcases List.mem_or_eq_of_mem_set hb with hb | hb
   ·exact hbw26 b hb
   ·rw [hb];exact Nat.mod_lt _ (by decide)
end
end K68
namespace L2
open PySem
def SameX (x:Addr) (H H':Hp):Prop:=∀ b u,b≠x→H b=some u→H' b=some u
theorem SameX.refl (x:Addr) (H:Hp):SameX x H H:=fun _ _ _ e=>e
theorem SameX.trans {x:Addr} {H H1 H2:Hp} (a:SameX x H H1) (b:SameX x H1 H2):SameX x H H2:=fun c u n e=>b c u n (a c u n e)
theorem SameX.of {x:Addr} {H H':Hp} (h:Same H H'):SameX x H H':=fun b u _ e=>h b u e
theorem SameX.upd {x:Addr} {H:Hp} {o:HO}:SameX x H (upd H x o):=fun b u n e=>by rw [Ql n];exact e
structure InsAt (H:Hp) (x:Addr):Prop where
 ex:∃ C dx fs,H x=some (.ins C dx fs)
theorem InsAt.seqT {K:Fg} {x:Addr} {H H':Hp} {a:Addr} {xs:List V} (i:InsAt H x) (g:SameX x H H') (h:SqT K H a xs):SqT K H' a xs:=by
 obtain ⟨C,dx,fs,hx⟩:=i.ex
 rcases h with (h | ⟨o,h⟩) | h
 ·exact .inl (.inl (g _ _ (ne_of h hx (15:)) h))
 ·exact .inl (.inr ⟨o,g _ _ (ne_of h hx (15:)) h⟩)
 ·exact .inr h
theorem InsAt.seq {K:Fg} {x:Addr} {H H':Hp} {a:Addr} {xs:List V} (i:InsAt H x) (g:SameX x H H') (h:SqL K H a xs):SqL K H' a xs:=by
 obtain ⟨C,dx,fs,hx⟩:=i.ex
 rcases h with (h | ⟨o,h⟩) | h
 ·exact .inl (.inl (g _ _ (ne_of h hx (15:)) h))
 ·exact .inl (.inr ⟨o,g _ _ (ne_of h hx (15:)) h⟩)
 ·exact .inr h
theorem InsAt.lst {x:Addr} {H H':Hp} {a:Addr} {xs:List V} (i:InsAt H x) (g:SameX x H H') (h:H a=some (.lst xs)):H' a=some (.lst xs):=by
 obtain ⟨C,dx,fs,hx⟩:=i.ex
 exact g _ _ (ne_of h hx (15:)) h
theorem InsAt.dK {x:Addr} {H H':Hp} {a:Addr} {xs:List (Key × V)} (i:InsAt H x) (g:SameX x H H') (h:H a=some (.dK xs)):H' a=some (.dK xs):=by
 obtain ⟨C,dx,fs,hx⟩:=i.ex
 exact g _ _ (ne_of h hx (15:)) h
theorem Q7 {f g:Str} {v y:V} {r:List (Str × V)} (h:¬ g=f):Zg f v ((g,y) :: r)=(g,y) :: Zg f v r:=by
 show (if g=f then _ else _)=_
 rw [if_neg h]
theorem V1 {f:Str} {v y:V} {r:List (Str × V)}:Zg f v ((f,y) :: r)=(f,v) :: r:=by
 show (if f=f then _ else _)=_
 rw [if_pos rfl]
end L2
namespace K68
open PySem L2 TM TT K9 K11
def U0 (K:Fg):Sp:=fun vs H Q _=>∃ (w:Addr) (ks:List KdT) (k0:KdT),vs=[.ref w]∧WoodAt K H w ks∧ks[0]?=some k0∧∀ (p b:Addr) (H':Hp),Same H H'→SqT K H' p [.str (S []),.ref b]→SqT K H' b [.str k0.2.1]→Q (.ref p) H'
def LvAt (K:Fg) (H:Hp) (sp:Addr) (L:Int):Prop:=∃ (n:Int) (vd:V) (row kk:Addr) (nm:Str) (xs:List V),SqT K H sp [.int n,vd,.ref row]∧SqT K H row [.str nm,.ref kk]∧SqT K H kk xs∧L=n + (if 0 < xs.length then 1 else 0)
def Ge (K:Fg):Sp:=fun vs H Q _=>∃ (fa sp:Addr) (y:V) (L:Int),vs=[.ref fa]∧SqT K H fa [.ref sp,y]∧LvAt K H sp L∧Q (.int L) H
abbrev WW:Stmt:=inClass (top 22) 0
abbrev YY:Stmt:=inClass (top 22) 1
abbrev J0:Stmt:=inClass (top 22) 2
abbrev sMD:Stmt:=inClass (top 22) 3
abbrev sMF:Stmt:=inClass (top 22) 4
def Y6 (tu kb st wt:Addr) (fv:V):List (Str × V):=[("turning", .ref tu),("kinds_below", .ref kb),("steps", .ref st),("waiting", .ref wt),("fault", fv)]
theorem Ww (tu kb st wt:Addr) (fv v:V):Zg "fault" v (Y6 tu kb st wt fv)=Y6 tu kb st wt v:=by
 unfold Y6
 rw [Q7 (0:),Q7 (0:),Q7 (0:),Q7 (0:),V1]
def KbAt (K:Fg) (H:Hp) (kb:Addr) (ks:List KdT):Prop:=∃ l:List (KdT × Addr),l.map (·.1)=ks∧H kb=some (.dK (l.map fun q=>((Sum.inr q.1.2.1:Key),V.ref q.2))) ∧
 ∀ q ∈ l,H q.2=some (.dK (q.1.2.2.2.map fun r=>((Sum.inr r.2.1:Key),V.ref r.2.2.1)))∧∀ r ∈ q.1.2.2.2,SqT K H r.2.2.1 (r.2.2.2.map V.str)
theorem KbAt.insX {K:Fg} {H H':Hp} {x kb:Addr} {ks:List KdT} (i:InsAt H x) (g:SameX x H H') (h:KbAt K H kb ks):KbAt K H' kb ks:=by
 obtain ⟨l,e,h1,h2⟩:=h
 exact ⟨l,e,i.dK g h1,fun q hq=>⟨i.dK g (h2 q hq).1,fun r hr=>i.seqT g ((h2 q hq).2 r hr)⟩⟩
theorem KbAt.same {K:Fg} {H H':Hp} {kb:Addr} {ks:List KdT} (g:Same H H') (h:KbAt K H kb ks):KbAt K H' kb ks:=by
 obtain ⟨l,e,h1,h2⟩:=h
 exact ⟨l,e,g _ _ h1,fun q hq=>⟨g _ _ (h2 q hq).1,fun r hr=>g.seqT ((h2 q hq).2 r hr)⟩⟩
theorem KbAt.get {K:Fg} {H:Hp} {kb:Addr} {ks:List KdT} (h:KbAt K H kb ks) {kind:Str} (hk:∃ k ∈ ks,k.2.1=kind) (name:Str):∃ (d:Addr) (o:Option V),DGet H kb (.str kind) (some (.ref d))∧IsD H d∧DGet H d (.str name) o∧SJ K H (o.getD .non) (QL ks kind name):=by
 obtain ⟨l,e,h1,h2⟩:=h
 have ef:ks.find? (fun k=>decide (k.2.1=kind))=(l.find? fun q=>decide (q.1.2.1=kind)).map (·.1):=by rw [← e,List.find?_map];rfl
 cases eq:l.find? fun q=>decide (q.1.2.1=kind) with
 | none =>
  rw [eq] at ef
  obtain ⟨k,hk,ek⟩:=hk
  have:=List.find?_eq_none.mp ef k hk
  simp [ek] at this
 | some q =>
  rw [eq] at ef
  obtain ⟨g1,g2⟩:=h2 q (List.mem_of_find?_eq_some eq)
  have v1:=DGet.k (k:=Sum.inr kind) h1
  rw [Y8 (fun q:KdT × Addr=>q.1.2.1) (fun q=>V.ref q.2) kind l,eq] at v1
  have v2:=DGet.k (k:=Sum.inr name) g1
  rw [Y8 (fun r:PNx=>r.2.1) (fun r=>V.ref r.2.2.1) name q.1.2.2.2] at v2
  refine ⟨q.2,_,v1,.inl ⟨_,.inl g1⟩,v2,?_⟩
  have er:Zx ks kind=q.1.2.2.2:=by unfold Zx;rw [ef];rfl
  unfold QL
  rw [er]
  cases eq2:q.1.2.2.2.find? fun r=>decide (r.2.1=name) with
  | none=>exact rfl
  | some r=>exact ⟨_,rfl,g2 r (List.mem_of_find?_eq_some eq2)⟩
theorem LvAt.mono {K:Fg} {H H':Hp} {sp:Addr} {L:Int} (k:∀ a xs,SqT K H a xs→SqT K H' a xs) (h:LvAt K H sp L):LvAt K H' sp L:=by
 obtain ⟨n,vd,row,kk,nm,xs,h1,h2,h3,e⟩:=h
 exact ⟨n,vd,row,kk,nm,xs,k _ _ h1,k _ _ h2,k _ _ h3,e⟩
structure DmT (K:Fg) (mg:Str→Option Value) (C:Addr):Prop where
 cl:Cls K C
 nT:NoAttr K C "turning"
 nK:NoAttr K C "kinds_below"
 nS:NoAttr K C "steps"
 nW:NoAttr K C "waiting"
 nF:NoAttr K C "fault"
 mgC:mg "Demands" = some (.ref C)
section
variable {P:Program} {w:World} {K:Fg} {mg:Str→Option Value} {base:Heap} {f:Addr} {fd:FuncData}
theorem Og:FnScope ["wood"] ["wood"] (defScope Vy):=(1:)
theorem LK (F:Fun K "row_above" "row_above" Vy f fd):FnOk P w K mg base CX0 1 f fd ["wood"] (U0 K):=by
 refine F.ok Og (13:) (3:)
 ·obtain ⟨w,ks,k0,rfl,_⟩:=h
  rfl
 obtain ⟨wd,ks,k0,rfl,hW,hk0,q⟩:=h
 refine ⟨_,(Qk (Qq (QC (Qa (Qs) (Qa ((QC (Qa (Qg Qi (Qg Qn (pv 0) Qb (2:)) Qb (2:)) Qe))) Qe))))),?_⟩
 try dsimp only [QB,Cx.nox]
 have hat:atI (ks.map fun k=>V.ref k.1) 0=some (.ref k0.1):=QY (j:=0) (by rw [List.getElem?_map,hk0];rfl)
 refine ⟨_,rfl,wd,_,0,_,rfl,rfl,hW.1,hat,k0.1,_,0,_,rfl,rfl,(hW.2 k0 (List.mem_of_getElem? hk0)).1,rfl,(by show 1≤sizeLine;decide),fun b hb=>⟨(9:),fun p hp=>?_⟩⟩
 have k1:=Qf hb (.tup [.str k0.2.1])
 have k2:=Qf hp (.tup [.str (Str.ofString ""),.ref b])
 refine q p b _ (k1.trans k2) ?_ (k2.seqT (SqT.of Qd))
 rw [← Wi]
 exact SqT.of Qd
theorem OI:FnScope ["fault", "spot"] ["fault"] (defScope OT):=(1:)
theorem OY (F:Fun K "levels_needed" "levels_needed" OT f fd) (G:Gm mg):FnOk P w K mg base CX0 1 f fd ["fault"] (Ge K):=by
 refine F.ok OI (13:) (3:)
 ·obtain ⟨fa,sp,y,L,rfl,_⟩:=h
  rfl
 obtain ⟨fa,sp,y,L,rfl,hfa,⟨n,vd,row,kk,nm,xs,h1,h2,h3,rfl⟩,q⟩:=h
 refine ⟨_,(Qh (Qp (i:=1) OI.nd rfl (12:) (Qg Qi (pv 0) Qb (2:)))
  (Qk (Qq (Qo QR (Qg Qi (pv 1) Qb (2:)) (WN (QA WY (Qw QI rfl G.len PySem.boot_len (Qa (Qg Qi (Qg Qi (pv 1) Qb (2:)) Qb (2:)) Qe)) Qb (Qz _)) Qb Qb))))),?_⟩
 try dsimp only [QB,Cx.nox]
 refine ⟨_,rfl,fa,_,0,_,rfl,rfl,hfa,rfl,?_⟩
 refine ⟨_,rfl,sp,_,0,_,rfl,rfl,h1,rfl,_,rfl,sp,_,2,_,rfl,rfl,h1,rfl,row,_,1,_,rfl,rfl,h2,rfl,kk,xs,rfl,.inr h3,_,_,rfl,rfl,_,rfl,?_⟩
 by_cases hx:0 < xs.length
 ·rw [if_pos hx] at q
  refine Z9 (show (((xs.length:Nat):Int) > 0) by lia) ⟨_,_,rfl,rfl,q⟩
 ·rw [if_neg hx] at q
  refine Z0 (show ¬ (((xs.length:Nat):Int) > 0) by lia) ⟨_,_,rfl,rfl,q⟩
end
end K68
namespace K68
open PySem L2 TM TT K9 K11
abbrev RK:=Str→Str→Option (List Str)
abbrev Dd:=Int × Str
def dmd (f:RK):Nat→Tm→Str→List Dd
 | 0,_,_=>[]
 | n + 1,t,k=>match lab t with
  | .call m _=>[(m,k)]
  | .put nm _ _=>match f k nm with
   | some ss=>if ss.length=t.bs.length then (t.bs.zip ss).flatMap fun p=>dmd f n p.1 p.2 else []
   | none=>[]
def okk (f:RK):Nat→Tm→Str→Prop
 | 0,_,_=>False
 | n + 1,t,k=>match lab t with
  | .call _ _=>True
  | .put nm _ _=>∃ ss,f k nm=some ss∧ss.length=t.bs.length∧∀ p ∈ t.bs.zip ss,okk f n p.1 p.2
def TmB (nm:Nat):Nat→Tm→Prop
 | 0,_=>False
 | d + 1,t=>(∀ m b,lab t=.call m b→0≤m∧m < (nm:Int))∧t.bs.length≤100∧∀ b ∈ t.bs,TmB nm d b
def Y7 (ds:List Dd) (d:Dd):List Dd:=if d ∈ ds then ds else ds ++ [d]
def YM (ds l:List Dd):List Dd:=l.foldl Y7 ds
theorem Wv (ds l r:List Dd):YM ds (l ++ r)=YM (YM ds l) r:=List.foldl_append ..
theorem Ng {ds:List Dd} {d e:Dd}:e ∈ Y7 ds d ↔ e ∈ ds∨e=d:=by
 unfold Y7
 by_cases h:d ∈ ds
 ·rw [if_pos h]
  exact ⟨.inl,fun z=>z.elim id fun z=>by rw [z];exact h⟩
 ·rw [if_neg h];simp
theorem ZF {e:Dd}:∀ {l ds:List Dd},e ∈ YM ds l ↔ e ∈ ds∨e ∈ l
 | [],ds=>by simp [YM]
 | d :: l,ds=>by
  show e ∈ YM (Y7 ds d) l ↔ _
  rw [ZF,Ng,List.mem_cons,or_assoc]
theorem Va {ds:List Dd} {d:Dd} (h:ds.Nodup):(Y7 ds d).Nodup:=by
 unfold Y7
 by_cases e:d ∈ ds
 ·rw [if_pos e];exact h
 ·rw [if_neg e]
  exact List.nodup_append.mpr ⟨h,by simp,fun a ha b hb=>by
   have:b=d:=by simpa using hb
   subst this
   exact fun z=>e (by rw [← z];exact ha)⟩
theorem WL:∀ {l ds:List Dd},∃ r,YM ds l=ds ++ r
 | [],ds=>⟨[],by simp [YM]⟩
 | d :: l,ds=>by
  obtain ⟨r,e⟩:=WL (l:=l) (ds:=Y7 ds d)
  by_cases h:d ∈ ds
  ·have e1:Y7 ds d=ds:=if_pos h
   rw [e1] at e
   exact ⟨r,by show YM (Y7 ds d) l=_;rw [e1];exact e⟩
  ·have e1:Y7 ds d=ds ++ [d]:=if_neg h
   rw [e1] at e
   exact ⟨d :: r,by show YM (Y7 ds d) l=_;rw [e1,e,List.append_assoc];rfl⟩
structure WG (ks:List KdT):Prop where
 ok:WoodOk ks
 cl:∀ k ∈ ks,∀ r ∈ k.2.2.2,∀ s ∈ r.2.2.2,∃ k' ∈ ks,k'.2.1=s
theorem Mi {ks:List KdT} (hW:WG ks) {kind name s:Str} {ss:List Str} (e:QL ks kind name=some ss) (hs:s ∈ ss):∃ k ∈ ks,k.2.1=s:=by
 unfold QL at e
 cases er:(Zx ks kind).find? fun r=>decide (r.2.1=name) with
 | none=>rw [er] at e;cases e
 | some r =>
  rw [er] at e
  have h1:r.2.2.2=ss:=by simpa using e
  have hm:=List.mem_of_find?_eq_some er
  unfold Zx at hm
  cases ek:ks.find? fun k=>decide (k.2.1=kind) with
  | none=>rw [ek] at hm;cases hm
  | some k =>
   rw [ek] at hm
   exact hW.cl k (List.mem_of_find?_eq_some ek) r hm s (by rw [h1];exact hs)
def DOk (nm:Nat) (ks:List KdT) (d:Dd):Prop:=0≤d.1∧d.1 < (nm:Int)∧∃ k ∈ ks,k.2.1=d.2
theorem Mt {α:Type} [DecidableEq α]:∀ {l r:List α},l.Nodup→(∀ x ∈ l,x ∈ r)→l.length≤r.length
 | [],_,_,_=>Nat.zero_le _
 | x :: l,r,hn,hs=>by
  rw [List.nodup_cons] at hn
  have h1:=hs x List.mem_cons_self
  have h2:l.length≤(r.erase x).length:=Mt hn.2 fun y hy=>by
   have hy':=hs y (List.mem_cons_of_mem _ hy)
   have ne:y≠x:=fun e=>hn.1 (by rw [← e];exact hy)
   exact (List.mem_erase_of_ne ne).mpr hy'
  rw [List.length_erase_of_mem h1] at h2
  have:=List.length_pos_of_mem h1
  simp only [List.length_cons];lia
theorem J8 {nm:Nat} {ks:List KdT} {ds:List Dd} (hn:ds.Nodup) (h:∀ d ∈ ds,DOk nm ks d):ds.length≤nm * ks.length:=by
 have:=Mt (l:=ds) (r:=(List.range nm).flatMap fun i=>ks.map fun k=>(((i:Nat):Int),k.2.1)) hn fun d hd=>by
  obtain ⟨h1,h2,k,hk,e⟩:=h d hd
  refine List.mem_flatMap.mpr ⟨d.1.toNat,List.mem_range.mpr (10:),List.mem_map.mpr ⟨k,hk,?_⟩⟩
  rw [e,Int.toNat_of_nonneg h1]
 have e:∀ n:Nat,((List.range n).flatMap fun i=>ks.map fun k=>(((i:Nat):Int),k.2.1)).length=n * ks.length:=fun n=>by
  induction n with
  | zero=>simp
  | succ n ih=>rw [List.range_succ,List.flatMap_append,List.length_append,ih,Nat.succ_mul];simp
 rw [e] at this
 exact this
def SameD (x st wt:Addr) (H H':Hp):Prop:=∀ b u,b≠x→b≠st→b≠wt→H b=some u→H' b=some u
theorem SameD.refl (x st wt:Addr) (H:Hp):SameD x st wt H H:=fun _ _ _ _ _ e=>e
theorem SameD.trans {x st wt:Addr} {H H1 H2:Hp} (a:SameD x st wt H H1) (b:SameD x st wt H1 H2):SameD x st wt H H2:=fun c u n1 n2 n3 e=>b c u n1 n2 n3 (a c u n1 n2 n3 e)
theorem SameD.of {x st wt:Addr} {H H':Hp} (h:Same H H'):SameD x st wt H H':=fun b u _ _ _ e=>h b u e
def FvO (K:Fg) (H:Hp) (fv:V):Prop:=fv=.non∨∃ fa sp y L,fv=.ref fa∧SqT K H fa [.ref sp,y]∧LvAt K H sp L
def StpOk (K:Fg) (H:Hp) (v:V):Prop:=∃ a sp y z n vd row,v=.ref a∧SqT K H a [.ref sp,y,z]∧SqT K H sp [.int n,vd,.ref row]
structure DmS (K:Fg) (C:Addr) (nm:Nat) (ks:List KdT) (H:Hp) (x dx tu kb st wt:Addr) (fv:V) (ds:List Dd):Prop where
 hx:H x=some (.ins C dx (Y6 tu kb st wt fv))
 hst:∃ kvs:List (Dd × V),kvs.map (·.1)=ds∧H st=some (.dT (kvs.map fun q=>([Sum.inl q.1.1,Sum.inr q.1.2],q.2)))∧∀ q ∈ kvs,StpOk K H q.2
 hwt:∃ ws:List (Addr × Dd),ws.map (·.2)=ds∧H wt=some (.lst (ws.map fun q=>V.ref q.1))∧∀ q ∈ ws,H q.1=some (.tup [.int q.2.1,.str q.2.2])
 nd:ds.Nodup
 dk:∀ d ∈ ds,DOk nm ks d
 fo:FvO K H fv
theorem FvO.mono {K:Fg} {H H':Hp} {fv:V} (k:∀ a xs,SqT K H a xs→SqT K H' a xs) (h:FvO K H fv):FvO K H' fv:=by
 rcases h with h | ⟨fa,sp,y,L,e,h1,h2⟩
 ·exact .inl h
 ·exact .inr ⟨fa,sp,y,L,e,k _ _ h1,h2.mono k⟩
theorem StpOk.mono {K:Fg} {H H':Hp} {v:V} (k:∀ a xs,SqT K H a xs→SqT K H' a xs) (h:StpOk K H v):StpOk K H' v:=by
 obtain ⟨a,sp,y,z,n,vd,row,e,h1,h2⟩:=h
 exact ⟨a,sp,y,z,n,vd,row,e,k _ _ h1,k _ _ h2⟩
section
variable {K:Fg} {C:Addr} {nm:Nat} {ks:List KdT} {H H':Hp} {x dx tu kb st wt:Addr} {fv:V} {ds:List Dd}
theorem DmS.tup (D:DmS K C nm ks H x dx tu kb st wt fv ds) (g:SameD x st wt H H') {a:Addr} {xs:List V} (h:H a=some (.tup xs)):H' a=some (.tup xs):=by
 obtain ⟨kvs,_,h1,_⟩:=D.hst
 obtain ⟨ws,_,h2,_⟩:=D.hwt
 exact g _ _ (ne_of h D.hx (15:)) (ne_of h h1 (by intro z;cases z)) (ne_of h h2 (by intro z;cases z)) h
theorem DmS.dKs (D:DmS K C nm ks H x dx tu kb st wt fv ds) (g:SameD x st wt H H') {a:Addr} {xs:List (Key × V)} (h:H a=some (.dK xs)):H' a=some (.dK xs):=by
 obtain ⟨kvs,_,h1,_⟩:=D.hst
 obtain ⟨ws,_,h2,_⟩:=D.hwt
 exact g _ _ (ne_of h D.hx (15:)) (ne_of h h1 (by intro z;cases z)) (ne_of h h2 (by intro z;cases z)) h
theorem DmS.seqT (D:DmS K C nm ks H x dx tu kb st wt fv ds) (g:SameD x st wt H H') {a:Addr} {xs:List V} (h:SqT K H a xs):SqT K H' a xs:=by
 obtain ⟨kvs,_,h1,_⟩:=D.hst
 obtain ⟨ws,_,h2,_⟩:=D.hwt
 rcases h with (h | ⟨o,h⟩) | h
 ·exact .inl (.inl (D.tup g h))
 ·exact .inl (.inr ⟨o,g _ _ (ne_of h D.hx (15:)) (ne_of h h1 (by intro z;cases z)) (ne_of h h2 (by intro z;cases z)) h⟩)
 ·exact .inr h
theorem DmS.kbAt (D:DmS K C nm ks H x dx tu kb st wt fv ds) (g:SameD x st wt H H') {kb':Addr} {ks':List KdT} (h:KbAt K H kb' ks'):KbAt K H' kb' ks':=by
 obtain ⟨l,e,h1,h2⟩:=h
 exact ⟨l,e,D.dKs g h1,fun q hq=>⟨D.dKs g (h2 q hq).1,fun r hr=>D.seqT g ((h2 q hq).2 r hr)⟩⟩
theorem DmS.same (D:DmS K C nm ks H x dx tu kb st wt fv ds) (g:Same H H'):DmS K C nm ks H' x dx tu kb st wt fv ds:=by
 obtain ⟨kvs,a1,a2,a3⟩:=D.hst
 obtain ⟨ws,b1,b2,b3⟩:=D.hwt
 exact ⟨g _ _ D.hx,⟨kvs,a1,g _ _ a2,fun q hq=>(a3 q hq).mono fun _ _=>g.seqT⟩,⟨ws,b1,g _ _ b2,fun q hq=>g _ _ (b3 q hq)⟩,D.nd,D.dk,D.fo.mono fun _ _=>g.seqT⟩
theorem DmS.fault (D:DmS K C nm ks H x dx tu kb st wt fv ds) {fv':V} (h:FvO K H fv'):DmS K C nm ks (upd H x (.ins C dx (Y6 tu kb st wt fv'))) x dx tu kb st wt fv' ds∧SameD x st wt H (upd H x (.ins C dx (Y6 tu kb st wt fv'))):=by
 have g:SameD x st wt H (upd H x (.ins C dx (Y6 tu kb st wt fv'))):=fun b u n _ _ e=>by rw [Ql n];exact e
 obtain ⟨kvs,a1,a2,a3⟩:=id D.hst
 obtain ⟨ws,b1,b2,b3⟩:=id D.hwt
 refine ⟨⟨Qd,⟨kvs,a1,?_,fun q hq=>(a3 q hq).mono fun _ _=>D.seqT g⟩,⟨ws,b1,?_,fun q hq=>D.tup g (b3 q hq)⟩,D.nd,D.dk,h.mono fun _ _=>D.seqT g⟩,g⟩
 ·rw [Ql (ne_of a2 D.hx (15:))];exact a2
 ·rw [Ql (ne_of b2 D.hx (15:))];exact b2
end
theorem Oj {d e:Dd} (h:([Sum.inl d.1,Sum.inr d.2]:List Key)=[Sum.inl e.1,Sum.inr e.2]):d=e:=by
 injection h with h1 h2
 injection h2 with h2
 injection h1 with h1
 injection h2 with h2
 exact Prod.ext h1 h2
theorem Vr (d:Dd):∀ kvs:List (Dd × V),ZM (kvs.map fun q=>(([Sum.inl q.1.1,Sum.inr q.1.2]:List Key),q.2)) [Sum.inl d.1,Sum.inr d.2]=(kvs.find? fun q=>decide (q.1=d)).map (·.2)
 | []=>rfl
 | q :: r=>by
  rw [List.map_cons,List.find?_cons]
  by_cases e:q.1=d
  ·rw [ZZ (p:=(([Sum.inl q.1.1,Sum.inr q.1.2]:List Key),q.2)) (by rw [e]),decide_eq_true e];rfl
  ·rw [ZP (p:=(([Sum.inl q.1.1,Sum.inr q.1.2]:List Key),q.2)) (fun z=>e (Oj z)),decide_eq_false e]
   exact Vr d r
def Nu (K:Fg) (C:Addr):Sp:=fun vs H Q _=>∃ (nm:Nat) (ks:List KdT) (x dx tu kb st wt sp fa:Addr) (y fv:V) (ds:List Dd) (L:Int),vs=[.ref x,.ref fa]∧DmS K C nm ks H x dx tu kb st wt fv ds∧SqT K H fa [.ref sp,y]∧LvAt K H sp L ∧
 ∀ (H':Hp) (fv':V),SameD x st wt H H'→DmS K C nm ks H' x dx tu kb st wt fv' ds→fv'≠.non→Q .non H'
def O9 (K:Fg) (C:Addr):Sp:=fun vs H Q _=>∃ (nm:Nat) (ks:List KdT) (x dx tu kb st wt dp:Addr) (sv fv:V) (ds:List Dd) (d:Dd),vs=[.ref x,.ref dp,sv]∧DmS K C nm ks H x dx tu kb st wt fv ds∧H dp=some (.tup [.int d.1,.str d.2])∧StpOk K H sv∧DOk nm ks d∧nm * ks.length≤1000 ∧
 ∀ (H':Hp),SameD x st wt H H'→DmS K C nm ks H' x dx tu kb st wt fv (Y7 ds d)→Q .non H'
section
variable {P:Program} {w:World} {K:Fg} {mg:Str→Option Value} {base:Heap} {f:Addr} {fd:FuncData} {C:Addr}
theorem SK:FnScope ["self", "fault"] ["self", "fault"] (defScope sMF):=(1:)
theorem Sy (F:Fun K "meet_fault" "Demands.meet_fault" sMF f fd) (T:DmT K mg C) (RL:Fn P w K mg base 1 "levels_needed" ["fault"] (Ge K)):FnOk P w K mg base CX0 2 f fd ["self", "fault"] (Nu K C):=by
 refine F.ok SK (13:) (3:)
 ·obtain ⟨nm,ks,x,dx,tu,kb,st,wt,sp,fa,y,fv,ds,L,rfl,_⟩:=h
  rfl
 obtain ⟨nm,ks,x,dx,tu,kb,st,wt,sp,fa,y,fv,ds,L,rfl,D,hfa,hL,hQ⟩:=h
 refine ⟨_,(Qk (QM (PW.pt (pw_or (XB (LU (Zj (pv 0) rfl))) (pw_or1 (QA V6 (Qt RL hr (Qa (pv 1) Qe)) (Qt RL hr (Qa (Zj (pv 0) rfl) Qe)) (Qz _))))) (Qk (Yh (pv 0) (pv 1) rfl)) Qu)),?_⟩
 try dsimp only [QB,Cx.nox]
 have hx:=D.hx
 refine ⟨_,rfl,x,C,dx,_,_,rfl,hx,T.cl,T.nF,rfl,_,rfl,?_⟩
 have new:=D.fault (fv':=.ref fa) (.inr ⟨fa,sp,y,L,rfl,hfa,hL⟩)
 rcases id D.fo with rfl | ⟨fa',sp',y',L',rfl,h1,h2⟩
 ·refine Z9 rfl ⟨_,rfl,_,rfl,x,C,dx,_,rfl,hx,T.cl,T.nF,(by show 5 < 1000;decide),?_⟩
  rw [Ww]
  exact hQ _ _ new.2 new.1 (fun z=>nomatch z)
 ·refine Z0 (fun z=>nomatch z) ⟨_,rfl,fa,sp,y,L,rfl,hfa,hL,_,rfl,x,C,dx,_,_,rfl,hx,T.cl,T.nF,rfl,fa',sp',y',L',rfl,h1,h2,_,_,rfl,rfl,_,rfl,XI (fun _=>?_) (fun _=>?_)⟩
  ·refine ⟨_,rfl,_,rfl,x,C,dx,_,rfl,hx,T.cl,T.nF,(by show 5 < 1000;decide),?_⟩
   rw [Ww]
   exact hQ _ _ new.2 new.1 (fun z=>nomatch z)
  ·exact hQ H _ (SameD.refl _ _ _ _) D (fun z=>nomatch z)
theorem SZ:FnScope ["self", "demand", "step"] ["self", "demand", "step"] (defScope sMD):=(1:)
theorem P5 (F:Fun K "meet_demand" "Demands.meet_demand" sMD f fd) (T:DmT K mg C):FnOk P w K mg base CX0 2 f fd ["self", "demand", "step"] (O9 K C):=by
 refine F.ok SZ (13:) (3:)
 ·obtain ⟨nm,ks,x,dx,tu,kb,st,wt,dp,sv,fv,ds,d,rfl,_⟩:=h
  rfl
 obtain ⟨nm,ks,x,dx,tu,kb,st,wt,dp,sv,fv,ds,d,rfl,D,hdp,hsv,hd,hnm,hQ⟩:=h
 refine ⟨_,(Qk (QM (XB (JT (YC hr) (pv 1) (Zj (pv 0) rfl))) (Qh (VZ (YC hr) (Zj (pv 0) rfl) (pv 1) (pv 2) rfl)
  (Qk (Q0 (Jw PySem.F.plainAttrs_list PySem.F.slot_list_append PySem.F.type_list_append Zz (Zj (pv 0) rfl) (Qa (pv 1) Qe))))) Qu)),?_⟩
 try dsimp only [QB,Cx.nox]
 have hx:=D.hx
 obtain ⟨kvs,a1,a2,a3⟩:=id D.hst
 obtain ⟨ws,b1,b2,b3⟩:=id D.hwt
 have hlen:=J8 D.nd D.dk
 have hkl:kvs.length=ds.length:=by rw [← a1,List.length_map]
 have hwl:ws.length=ds.length:=by rw [← b1,List.length_map]
 have hdp':H dp=some (.tup (([Sum.inl d.1,Sum.inr d.2]:List Key).map kV)):=hdp
 have ev:=Vr d kvs
 refine ⟨_,rfl,_,rfl,x,C,dx,_,_,rfl,hx,T.cl,T.nS,rfl,st,_,rfl,DGet.t a2 hdp',?_⟩
 rw [ev]
 cases ef:kvs.find? fun q=>decide (q.1=d) with
 | some q =>
  have hin:d ∈ ds:=by
   rw [← a1]
   refine List.mem_map.mpr ⟨q,List.mem_of_find?_eq_some ef,?_⟩
   simpa using List.find?_some ef
  refine ⟨_,rfl,Zh ?_⟩
  refine hQ H (SameD.refl _ _ _ _) ?_
  rw [show Y7 ds d=ds from if_pos hin]
  exact D
 | none =>
  have hni:d ∉ ds:=fun z=>by
   rw [← a1] at z
   obtain ⟨q,hq,e⟩:=List.mem_map.mp z
   have:=List.find?_eq_none.mp ef q hq
   simp [e] at this
  have hvn:ZM (kvs.map fun q=>(([Sum.inl q.1.1,Sum.inr q.1.2]:List Key),q.2)) [Sum.inl d.1,Sum.inr d.2]=none:=by rw [ev,ef];rfl
  have hput:=DPut.t (v:=sv) a2 hdp' (by rw [List.length_map,Q3];lia)
  rw [W2 sv hvn] at hput
  have ekv:kvs.map (fun q=>(([Sum.inl q.1.1,Sum.inr q.1.2]:List Key),q.2)) ++ [([Sum.inl d.1,Sum.inr d.2],sv)]=(kvs ++ [(d,sv)]).map fun q=>(([Sum.inl q.1.1,Sum.inr q.1.2]:List Key),q.2):=by rw [List.map_append];rfl
  rw [ekv] at hput
  have nxs:x≠st:=(ne_of hx a2 (15:))
  have nws:wt≠st:=(ne_of b2 a2 (15:))
  have nwx:wt≠x:=(ne_of b2 hx (15:))
  refine ⟨_,rfl,Q8 ⟨_,rfl,_,rfl,x,C,dx,_,_,rfl,hx,T.cl,T.nS,rfl,_,rfl,st,_,rfl,hput,?_⟩⟩
  generalize hH1:upd H st (.dT ((kvs ++ [(d,sv)]).map fun q=>(([Sum.inl q.1.1,Sum.inr q.1.2]:List Key),q.2)))=H1
  have hx1:H1 x=some (.ins C dx (Y6 tu kb st wt fv)):=by rw [← hH1,Ql nxs];exact hx
  have hw1:H1 wt=some (.lst (ws.map fun q=>V.ref q.1)):=by rw [← hH1,Ql nws];exact b2
  have hs1:H1 st=some (.dT ((kvs ++ [(d,sv)]).map fun q=>(([Sum.inl q.1.1,Sum.inr q.1.2]:List Key),q.2))):=by rw [← hH1];exact Qd
  have g1:SameD x st wt H H1:=fun b u _ n _ e=>by rw [← hH1,Ql n];exact e
  refine ⟨_,rfl,x,C,dx,_,_,rfl,hx1,T.cl,T.nW,rfl,.inl ⟨rfl,_,SqL.of hw1⟩,_,rfl,wt,_,_,rfl,rfl,hw1,(by rw [List.length_map,Q3];lia),?_⟩
  have g2:SameD x st wt H (upd H1 wt (.lst (ws.map (fun q=>V.ref q.1) ++ [.ref dp]))):=fun b u n1 n2 n3 e=>by rw [Ql n3];exact g1 b u n1 n2 n3 e
  refine hQ _ g2 ?_
  have ead:Y7 ds d=ds ++ [d]:=if_neg hni
  have nd:=Va (d:=d) D.nd
  rw [ead] at nd ⊢
  refine ⟨by rw [Ql (Ne.symm nwx)];exact hx1,⟨kvs ++ [(d,sv)],by rw [List.map_append,a1];rfl,by rw [Ql (Ne.symm nws)];exact hs1,fun q hq=>?_⟩,⟨ws ++ [(dp,d)],by rw [List.map_append,b1];rfl,by rw [Qd,List.map_append];rfl,fun q hq=>?_⟩,nd,fun e he=>?_,D.fo.mono fun _ _=>D.seqT g2⟩
  ·rcases List.mem_append.mp hq with z | z
   ·exact (a3 q z).mono fun _ _=>D.seqT g2
   ·have:q=(d,sv):=by simpa using z
    rw [this]
    exact hsv.mono fun _ _=>D.seqT g2
  ·rcases List.mem_append.mp hq with z | z
   ·exact D.tup g2 (b3 q z)
   ·have:q=(dp,d):=by simpa using z
    rw [this]
    exact D.tup g2 hdp
  ·rcases List.mem_append.mp he with z | z
   ·exact D.dk e z
   ·have:e=d:=by simpa using z
    rw [this];exact hd
end
end K68
namespace K68
open PySem L2 TM TT K9 K11
def YJ (K:Fg) (C:Addr) (n:Nat):Sp:=fun vs H Q _=>∃ (nm:Nat) (ks:List KdT) (x dx tu kb st wt sp pl:Addr) (fv v:V) (kind:Str) (p:List Int) (t:Tm) (L:Int) (ds:List Dd),vs=[.ref x,.ref sp,.ref pl,v,.str kind]∧DmS K C nm ks H x dx tu kb st wt fv ds∧KbAt K H kb ks∧WG ks∧LvAt K H sp L∧SqT K H pl (p.map V.int)∧p.length + n≤100∧TmV K H v t∧TmB nm n t∧(∃ k ∈ ks,k.2.1=kind)∧nm * ks.length≤1000 ∧
 ∀ (H':Hp) (fv':V),SameD x st wt H H'→DmS K C nm ks H' x dx tu kb st wt fv' (YM ds (dmd (QL ks) n t kind))→(fv'=.non ↔ fv=.non∧okk (QL ks) n t kind)→Q .non H'
section
variable {P:Program} {w:World} {K:Fg} {mg:Str→Option Value} {base:Heap} {f:Addr} {fd:FuncData} {C:Addr}
theorem Xy:FnScope ["self", "spot", "place", "term", "kind", "kinds", "number", "part"] ["self", "spot", "place", "term", "kind"] (defScope J0):=(1:)
theorem Oy {n:Nat} (F:Fun K "look" "Demands.look" J0 f fd) (G:Gm mg) (T:DmT K mg C) (RC:Fn P w K mg base 1 "is_call" ["term"] (ZS K)) {fM:Addr} {fdM:FuncData} (mM:Meth K C "meet_fault" fM) (FM:FnOk P w K mg base CX0 2 fM fdM ["self", "fault"] (Nu K C)) (bM:Binds K fdM ["self", "fault"] [])
 {fD:Addr} {fdD:FuncData} (mD:Meth K C "meet_demand" fD) (FD:FnOk P w K mg base CX0 2 fD fdD ["self", "demand", "step"] (O9 K C)) (bD:Binds K fdD ["self", "demand", "step"] [])
 (mL:Meth K C "look" f) (FL:FnOk P w K mg base CX0 (n + 2) f fd ["self", "spot", "place", "term", "kind"] (YJ K C n)) (bL:Binds K fd ["self", "spot", "place", "term", "kind"] []):FnOk P w K mg base CX0 (n + 3) f fd ["self", "spot", "place", "term", "kind"] (YJ K C (n + 1)):=by
 refine F.ok Xy (13:) (3:)
 ·obtain ⟨nm,ks,x,dx,tu,kb,st,wt,sp,pl,fv,v,kind,p,t,L,ds,rfl,_⟩:=h
  rfl
 obtain ⟨nm,ks,x,dx,tu,kb,st,wt,sp,pl,fv,v,kind,p,t,L,ds,rfl,D,hkb,hWG,hL,hpl,hpn,hv,hB,hkind,hnk,hQ⟩:=h
 have hr2:Room 2 _:=hr.mono (10:)
 have hrn:Room (n + 2) _:=hr
 refine ⟨_,(Qh (QM (QV (Qt RC hr (Qa (pv 3) Qe) (10:))) (Qh (Q0 (Yw (pv 0) T.cl mD FD hr2 bD .nil YF (Qa ((QC (Qa (Qg Qi (pv 3) Qb (2:)) (Qa (pv 4) Qe)))) (Qa ((QC (Qa (pv 1) (Qa (pv 2) (Qa (Qg Qi (pv 3) Qb (2:)) Qe))))) Qe))))
  (Qk (Gw))) Qu)
  (Qh (Qp (i:=5) Xy.nd rfl (12:) (Lj (YC hr) (UX (YC hr) (Zj (pv 0) rfl) (pv 4) (2:)) (Qg Qi (pv 3) Qb (2:)) ⟨rfl,rfl,rfl,rfl⟩))
  (Qh (QM (PW.pt (pw_or (XB (LU (pv 5))) (pw_or1 (QA M5 (Qw QI rfl G.len PySem.boot_len (Qa (pv 5) Qe)) (Qw QI rfl G.len PySem.boot_len (Qa (Qg Qi (pv 3) Qb (2:)) Qe)) (Qz _))))) (Qh (Q0 (Yw (pv 0) T.cl mM FM hr2 bM .nil YF (Qa ((QC (Qa (pv 1) (Qa (pv 2) Qe)))) Qe)))
  (Qk (Gw))) Qu)
  (Qk (Zc PassesOwn.never rfl (Ox rfl G.enu (Qa (Qg Qi (pv 3) Qb (2:)) Qe)) (Zt rfl (Qv (Qr (i:=6) Xy.nd rfl (12:)) (Qv (Qr (i:=7) Xy.nd rfl (12:)) Za)))
   (Qk (Q0 (Yw (pv 0) T.cl mL FL hrn bL .nil YF (Qa (pv 1) (Qa (Qo YW (pv 2) (QC (Qa (pv 6) Qe))) (Qa (pv 7) (Qa (Qg Qi (pv 5) (pv 6) (2:)) Qe)))))))))))),?_⟩
 try dsimp only [QB,Cx.nox]
 have hx:=D.hx
 obtain ⟨hB1,hB2,hB3⟩:=hB
 rcases Zd hv with ⟨a,mo,b,rfl,rfl,h1⟩ | ⟨a,b,bs,nm',k',ad',rfl,et,h1,h2,h3,h4⟩
 ·refine ⟨_,rfl,a,YA,_,rfl,h1,_,rfl,Z9 rfl ?_⟩
  refine ⟨_,rfl,x,dx,_,rfl,hx,rfl,_,rfl,a,_,1,_,rfl,rfl,h1,rfl,_,rfl,(9:),fun dp hdp=>?_⟩
  have g1:=Qf hdp (.tup [.int mo,.str kind])
  refine ⟨_,rfl,_,rfl,_,rfl,a,_,2,_,rfl,rfl,g1.seqT h1,rfl,(16:),fun sa hsa=>?_⟩
  have g2:=Qf hsa (.tup [.ref sp,.ref pl,.int b])
  have g12:=g1.trans g2
  obtain ⟨n0,vd,row,kk,nm0,xs0,l1,_,_,_⟩:=id hL
  refine ⟨nm,ks,x,dx,tu,kb,st,wt,dp,.ref sa,fv,ds,(mo,kind),rfl,D.same g12,g2 _ _ Qd,⟨sa,sp,.ref pl,.int b,n0,vd,row,rfl,SqT.of Qd,g12.seqT l1⟩,⟨(hB1 mo b rfl).1,(hB1 mo b rfl).2,hkind⟩,hnk,fun H' g D'=>?_⟩
  refine hQ H' fv ((SameD.of g12).trans g) ?_ ⟨fun z=>⟨z,trivial⟩,fun z=>z.1⟩
  exact D'
 have enl:lab t=.put nm' k' ad':=by rw [et];rfl
 refine ⟨_,rfl,a,PUT,_,rfl,h1,_,rfl,Z0 (0:) ?_⟩
 have hlen:=h3.length
 obtain ⟨d,o,hd,hdD,hdo,hrow⟩:=hkb.get hkind nm'
 refine ⟨_,rfl,x,C,dx,_,_,rfl,hx,T.cl,T.nK,rfl,_,rfl,kb,.ref d,rfl,hd,d,rfl,hdD,_,rfl,a,_,1,_,rfl,rfl,h1,rfl,o,hdo,?_⟩
 have fault:dmd (QL ks) (n + 1) t kind=[]→¬ okk (QL ks) (n + 1) t kind→∀ pp,H pp=none→Nu K C (.ref x :: ([.ref pp] ++ [])) (upd H pp (.tup [.ref sp,.ref pl])) (fun _ H'=>Q .non H') E0:=fun hd0 hno pp hpp=>by
  have g:=Qf hpp (.tup [.ref sp,.ref pl])
  refine ⟨nm,ks,x,dx,tu,kb,st,wt,sp,pp,.ref pl,fv,ds,L,rfl,D.same g,SqT.of Qd,hL.mono fun _ _=>g.seqT,fun H' fv' gx D' hf=>?_⟩
  refine hQ H' fv' ((SameD.of g).trans gx) ?_ ⟨fun z=>absurd z hf,fun z=>absurd z.2 hno⟩
  rw [hd0]
  exact D'
 cases er:QL ks kind nm' with
 | none =>
  rw [er] at hrow
  have hd0:dmd (QL ks) (n + 1) t kind=[]:=by rw [dmd,enl];dsimp only;rw [er]
  have hno:¬ okk (QL ks) (n + 1) t kind:=fun z=>by
   rw [okk,enl] at z
   obtain ⟨ss,g1,_⟩:=z
   rw [er] at g1;cases g1
  rw [show o.getD .non=.non from hrow]
  exact ⟨_,rfl,_,rfl,Z9 rfl ⟨_,rfl,x,dx,_,rfl,hx,rfl,_,rfl,_,rfl,(9:),fun pp hpp=>fault hd0 hno pp hpp⟩⟩
 | some ss =>
  rw [er] at hrow
  obtain ⟨kk,ekk,hkk⟩:=hrow
  rw [ekk]
  refine ⟨_,rfl,_,rfl,Z0 (fun z=>nomatch z) ⟨_,rfl,kk,_,rfl,.inr hkk,_,rfl,a,_,4,_,rfl,rfl,h1,rfl,b,_,rfl,.inr h2,rfl,_,rfl,?_⟩⟩
  by_cases hl:ss.length=t.bs.length
  ·refine Na (by rw [List.length_map,hl,hlen]) ?_
   have edm:dmd (QL ks) (n + 1) t kind=(t.bs.zip ss).flatMap fun p=>dmd (QL ks) n p.1 p.2:=by rw [dmd,enl];dsimp only;rw [er];dsimp only;rw [if_pos hl]
   have eok:okk (QL ks) (n + 1) t kind ↔ ∀ p ∈ t.bs.zip ss,okk (QL ks) n p.1 p.2:=by
    rw [okk,enl]
    dsimp only
    rw [er]
    exact ⟨fun ⟨ss',e1,e2,e3⟩=>by obtain rfl:=Option.some.inj e1;exact e3,fun z=>⟨ss,rfl,hl,z⟩⟩
   rw [edm] at hQ
   refine ⟨_,rfl,a,_,4,_,rfl,rfl,h1,rfl,b,bs,rfl,h2,?_⟩
   refine Mm (K:=K) (xs:=bs) (fun i σ H'=>∃ (c6 c7:Option V) (fv':V),σ=[some (.ref x),some (.ref sp),some (.ref pl),some (.ref a),some (.str kind),some (.ref kk),c6,c7]∧SameD x st wt H H'∧DmS K C nm ks H' x dx tu kb st wt fv' (YM ds (((t.bs.zip ss).take i).flatMap fun p=>dmd (QL ks) n p.1 p.2)) ∧
    (fv'=.non ↔ fv=.non∧∀ p ∈ (t.bs.zip ss).take i,okk (QL ks) n p.1 p.2))
    ⟨none,none,fv,rfl,SameD.refl _ _ _ _,D,⟨fun z=>⟨z,fun p hp=>by simp at hp⟩,fun z=>z.1⟩⟩ ?_ ?_ ?_
   ·rintro i σ H' _ ⟨c6,c7,fv',_,g,_⟩
    exact D.seqT g h2
   ·rintro i u pp σ H' hu hpp ⟨c6,c7,fv',rfl,g,D',hiff⟩
    have hib:i < bs.length:=(List.getElem?_eq_some_iff.mp hu).1
    have hit:i < t.bs.length:=by lia
    have his:i < ss.length:=by lia
    obtain ⟨cv,hcv,hct⟩:=h3.get (List.getElem?_eq_getElem hit)
    obtain rfl:cv=u:=Option.some.inj (hcv.symm.trans hu)
    have ez:(t.bs.zip ss)[i]?=some (t.bs[i],ss[i]):=by
     rw [List.getElem?_eq_getElem (by rw [List.length_zip];lia),List.getElem_zip]
    have gp:=Qf hpp (.tup [.int (i:Int),cv])
    have g1:=g.trans (SameD.of gp)
    have hx1:=gp _ _ D'.hx
    refine ⟨pp,_,rfl,SqT.of Qd,rfl,_,_,rfl,_,_,rfl,rfl,?_⟩
    refine ⟨_,rfl,x,dx,_,rfl,hx1,rfl,_,rfl,_,rfl,_,rfl,(by show 1≤sizeLine;decide),fun p1 hp1=>?_⟩
    have g2':=Qf hp1 (.tup [.int (i:Int)])
    have g2:=g1.trans (SameD.of g2')
    refine ⟨pl,p1,p.map V.int,[.int (i:Int)],rfl,rfl,D.seqT g2 hpl,SqT.of Qd,(by rw [List.length_map,Q3];simp only [List.length_singleton];lia),fun p2 H3 g3' hp2=>?_⟩
    have ecat:p.map V.int ++ [V.int (i:Int)]=(p ++ [(i:Int)]).map V.int:=by rw [List.map_append];rfl
    rw [ecat] at hp2
    have g3:=g2.trans (SameD.of g3')
    have gpp:=gp.trans (g2'.trans g3')
    refine ⟨_,rfl,_,rfl,_,rfl,kk,_,_,.str ss[i],rfl,rfl,D.seqT g3 hkk,QY (by rw [List.getElem?_map,List.getElem?_eq_getElem his];rfl),?_⟩
    refine ⟨nm,ks,x,dx,tu,kb,st,wt,sp,p2,fv',cv,ss[i],p ++ [(i:Int)],t.bs[i],L,_,rfl,D'.same gpp,D.kbAt g3 hkb,hWG,hL.mono fun _ _=>D.seqT g3,hp2,by rw [List.length_append,List.length_singleton];lia,hct.mono fun _ _=>D.seqT g3,hB3 _ (List.getElem_mem hit),Mi hWG er (List.getElem_mem his),hnk,fun H4 fv4 g4 D4 hiff4=>?_⟩
    refine ⟨_,_,fv4,rfl,g3.trans g4,?_,?_⟩
    ·rw [List.take_add_one,ez,List.flatMap_append,Wv]
     simpa using D4
    ·rw [List.take_add_one,ez,hiff4,hiff,and_assoc]
     refine and_congr_right fun _=>⟨fun ⟨e1,e2⟩ q hq=>?_,fun z=>⟨fun q hq=>z q (List.mem_append_left _ hq),z (t.bs[i],ss[i]) (List.mem_append_right _ (by simp))⟩⟩
     rcases List.mem_append.mp hq with z | z
     ·exact e1 q z
     ·have:q=(t.bs[i],ss[i]):=by simpa using z
      rw [this];exact e2
   ·rintro σ H' ⟨c6,c7,fv',rfl,g,D',hiff⟩
    have et2:(t.bs.zip ss).take bs.length=t.bs.zip ss:=List.take_of_length_le (by rw [List.length_zip];lia)
    rw [et2] at D' hiff
    exact hQ H' fv' g D' (hiff.trans (and_congr_right fun _=>eok.symm))
  ·have hd0:dmd (QL ks) (n + 1) t kind=[]:=by rw [dmd,enl];dsimp only;rw [er];dsimp only;rw [if_neg hl]
   have hno:¬ okk (QL ks) (n + 1) t kind:=fun z=>by
    rw [okk,enl] at z
    obtain ⟨ss',g1,g2,_⟩:=z
    rw [er] at g1
    obtain rfl:=Option.some.inj g1
    exact hl g2
   have e2:(!decide (V.int (((ss.map V.str).length:Nat):Int)=V.int ((bs.length:Nat):Int)))=true:=by
    rw [List.length_map,decide_eq_false]
    ·rfl
    ·intro z
     injection z with z
     lia
   rw [e2]
   exact Q8 ⟨_,rfl,x,dx,_,rfl,hx,rfl,_,rfl,_,rfl,(9:),fun pp hpp=>fault hd0 hno pp hpp⟩
theorem GA {k:Nat}:FnOk P w K mg base CX0 k f fd ["self", "spot", "place", "term", "kind"] (YJ K C 0):=by
 have no:∀ vs H Q E,¬ YJ K C 0 vs H Q E:=fun vs H Q E h=>by
  obtain ⟨nm,ks,x,dx,tu,kb,st,wt,sp,pl,fv,v,kind,p,t,L,ds,_,_,_,_,_,_,_,_,h0,_⟩:=h
  exact h0
 exact ⟨fun vs H Q E h=>absurd h (no vs H Q E),fun A outer s H args us vs Q E _ _ _ _ h=>absurd h (no vs H Q E)⟩
theorem Wu (F:Fun K "look" "Demands.look" J0 f fd) (G:Gm mg) (T:DmT K mg C) (RC:Fn P w K mg base 1 "is_call" ["term"] (ZS K)) {fM:Addr} {fdM:FuncData} (mM:Meth K C "meet_fault" fM) (FM:FnOk P w K mg base CX0 2 fM fdM ["self", "fault"] (Nu K C)) (bM:Binds K fdM ["self", "fault"] [])
 {fD:Addr} {fdD:FuncData} (mD:Meth K C "meet_demand" fD) (FD:FnOk P w K mg base CX0 2 fD fdD ["self", "demand", "step"] (O9 K C)) (bD:Binds K fdD ["self", "demand", "step"] [])
 (mL:Meth K C "look" f) (bL:Binds K fd ["self", "spot", "place", "term", "kind"] []):∀ n:Nat,FnOk P w K mg base CX0 (n + 2) f fd ["self", "spot", "place", "term", "kind"] (YJ K C n)
 | 0=>GA
 | n + 1=>Oy F G T RC mM FM bM mD FD bD mL (Wu F G T RC mM FM bM mD FD bD mL bL n) bL
end
end K68
namespace K68
open PySem L2 TM TT K9 K11
def fl1 (tu:Addr):List (Str × V):=[("turning", .ref tu)]
def fl2 (tu kb:Addr):List (Str × V):=[("turning", .ref tu),("kinds_below", .ref kb)]
def fl3 (tu kb st:Addr):List (Str × V):=[("turning", .ref tu),("kinds_below", .ref kb),("steps", .ref st)]
def fl4 (tu kb st wt:Addr):List (Str × V):=[("turning", .ref tu),("kinds_below", .ref kb),("steps", .ref st),("waiting", .ref wt)]
theorem f1 (tu:Addr):Zg "turning" (.ref tu) []=fl1 tu:=rfl
theorem f2 (tu kb:Addr):Zg "kinds_below" (.ref kb) (fl1 tu)=fl2 tu kb:=by
 unfold fl1
 rw [Q7 (0:)];rfl
theorem f3 (tu kb st:Addr):Zg "steps" (.ref st) (fl2 tu kb)=fl3 tu kb st:=by
 unfold fl2
 rw [Q7 (0:),Q7 (0:)];rfl
theorem f4 (tu kb st wt:Addr):Zg "waiting" (.ref wt) (fl3 tu kb st)=fl4 tu kb st wt:=by
 unfold fl3
 rw [Q7 (0:),Q7 (0:),Q7 (0:)];rfl
theorem f5 (tu kb st wt:Addr):Zg "fault" .non (fl4 tu kb st wt)=Y6 tu kb st wt .non:=by
 unfold fl4
 rw [Q7 (0:),Q7 (0:),Q7 (0:),Q7 (0:)];rfl
abbrev Mo (K:Fg):List V→Hp→VK→Prop:=fun xs H Q=>∃ (l:Addr) (ts:List (Addr × Str × V)),xs=[.ref l]∧SqL K H l (ts.map fun t=>V.ref t.1)∧(∀ t ∈ ts,SqT K H t.1 [.str t.2.1,t.2.2])∧(ts.map fun t=>t.2.1).Nodup∧ts.length≤1000 ∧
 ∀ d,H d=none→Q (.ref d) (upd H d (.dK (ts.map fun t=>((Sum.inr t.2.1:Key),t.2.2))))
theorem WoodAt.insX {K:Fg} {H H':Hp} {x wd:Addr} {ks:List KdT} (i:InsAt H x) (g:SameX x H H') (h:WoodAt K H wd ks):WoodAt K H' wd ks :=
 ⟨i.seq g h.1,fun k hk=>⟨i.seqT g (h.2 k hk).1,i.seq g (h.2 k hk).2.1,fun t ht=>⟨i.seqT g ((h.2 k hk).2.2 t ht).1,i.seqT g ((h.2 k hk).2.2 t ht).2⟩⟩⟩
abbrev MoT:=Addr × Str × Addr × List V × List Tm
def Ss (K:Fg) (H:Hp) (m:MoT):Prop:=SqT K H m.1 [.str m.2.1,.ref m.2.2.1]∧SqL K H m.2.2.1 m.2.2.2.1∧TmAll K H m.2.2.2.1 m.2.2.2.2
structure TuAt (K:Fg) (H:Hp) (tu wd:Addr) (sv:V) (lm:Addr) (ks:List KdT) (t0:Tm) (ms:List MoT):Prop where
 tu:SqT K H tu [.ref wd,sv,.ref lm]
 wd:WoodAt K H wd ks
 st:TmV K H sv t0
 lm:SqL K H lm (ms.map fun m=>V.ref m.1)
 mo:∀ m ∈ ms,Ss K H m
theorem TuAt.insX {K:Fg} {H H':Hp} {x tu wd lm:Addr} {sv:V} {ks:List KdT} {t0:Tm} {ms:List MoT} (i:InsAt H x) (g:SameX x H H') (h:TuAt K H tu wd sv lm ks t0 ms):TuAt K H' tu wd sv lm ks t0 ms :=
 ⟨i.seqT g h.tu,WoodAt.insX i g h.wd,h.st.mono fun _ _=>i.seqT g,i.seq g h.lm,fun m hm=>⟨i.seqT g (h.mo m hm).1,i.seq g (h.mo m hm).2.1,(h.mo m hm).2.2.mono fun _ _=>i.seqT g⟩⟩
theorem TuAt.same {K:Fg} {H H':Hp} {tu wd lm:Addr} {sv:V} {ks:List KdT} {t0:Tm} {ms:List MoT} (g:Same H H') (h:TuAt K H tu wd sv lm ks t0 ms):TuAt K H' tu wd sv lm ks t0 ms :=
 ⟨g.seqT h.tu,h.wd.same g,h.st.mono fun _ _=>g.seqT,g.seq h.lm,fun m hm=>⟨g.seqT (h.mo m hm).1,g.seq (h.mo m hm).2.1,(h.mo m hm).2.2.mono fun _ _=>g.seqT⟩⟩
structure TuOk (ks:List KdT) (nm n:Nat) (t0:Tm) (ms:List MoT):Prop where
 wo:WoodOk ks
 cn:ms.length=nm
 st:TmB nm n t0
 kd:∀ m ∈ ms,∃ k ∈ ks,k.2.1=m.2.1
 ru:∀ m ∈ ms,(Zx ks m.2.1).length=m.2.2.2.2.length
 tb:∀ m ∈ ms,∀ t ∈ m.2.2.2.2,TmB nm n t
theorem Uy {ks:List KdT} {kind:Str} (h:∃ k ∈ ks,k.2.1=kind):∃ k,ks.find? (fun k=>decide (k.2.1=kind))=some k∧Zx ks kind=k.2.2.2∧k ∈ ks:=by
 cases e:ks.find? fun k=>decide (k.2.1=kind) with
 | none =>
  obtain ⟨k,hk,ek⟩:=h
  have:=List.find?_eq_none.mp e k hk
  simp [ek] at this
 | some k=>exact ⟨k,rfl,by unfold Zx;rw [e];rfl,List.mem_of_find?_eq_some e⟩
def Yx (ms:List MoT) (i:Int):List Tm:=((ms[i.toNat]?).map fun m=>m.2.2.2.2).getD []
def dR (f:RK) (n:Nat) (ms:List MoT) (d:Dd):List Dd:=(Yx ms d.1).flatMap fun t=>dmd f n t d.2
def okR (f:RK) (n:Nat) (ms:List MoT) (d:Dd):Prop:=∀ t ∈ Yx ms d.1,okk f n t d.2
structure Dem (f:RK) (n:Nat) (t0:Tm) (k0:Str) (ms:List MoT) (ds:List Dd):Prop where
 st:∀ e ∈ dmd f n t0 k0,e ∈ ds
 go:∀ d ∈ ds,∀ e ∈ dR f n ms d,e ∈ ds
 lt:∀ S:Dd→Prop,(∀ e ∈ dmd f n t0 k0,S e)→(∀ d,S d→∀ e ∈ dR f n ms d,S e)→∀ e ∈ ds,S e
def R9 (K:Fg) (C:Addr) (n:Nat):Sp:=fun vs H Q _=>∃ (nm:Nat) (ks ks1:List KdT) (x dx tu kb st wt dp wd lm:Addr) (sv fv:V) (t0:Tm) (ms:List MoT) (ds:List Dd) (d:Dd),vs=[.ref x,.ref dp]∧DmS K C nm ks H x dx tu kb st wt fv ds∧KbAt K H kb ks∧WG ks∧H dp=some (.tup [.int d.1,.str d.2])∧d ∈ ds∧nm * ks.length≤1000∧n≤100∧TuOk ks1 nm n t0 ms∧(∀ H',SameD x st wt H H'→TuAt K H' tu wd sv lm ks1 t0 ms) ∧
 ∀ (H':Hp) (fv':V),SameD x st wt H H'→DmS K C nm ks H' x dx tu kb st wt fv' (YM ds (dR (QL ks) n ms d))→(fv'=.non ↔ fv=.non∧okR (QL ks) n ms d)→Q .non H'
def Lc (K:Fg) (C:Addr) (n:Nat):Sp:=fun vs H Q _=>∃ (nm:Nat) (x dx tu wd lm wo:Addr) (sv:V) (ks1 ks:List KdT) (k01 k00:KdT) (t0:Tm) (ms:List MoT),vs=[.ref x,.ref tu,.ref wo]∧H x=some (.ins C dx [])∧TuAt K H tu wd sv lm ks1 t0 ms∧TuOk ks1 nm n t0 ms∧ks1[0]?=some k01∧WoodAt K H wo ks∧WG ks∧ks[0]?=some k00∧nm * ks.length≤1000∧n≤100 ∧
 ∀ (H':Hp) (kb st wt:Addr) (fv:V) (ds:List Dd),SameX x H H'→H' x=some (.ins C dx (Y6 tu kb st wt fv))→Dem (QL ks) n t0 k00.2.1 ms ds→(fv=.non ↔ okk (QL ks) n t0 k00.2.1∧∀ d ∈ ds,okR (QL ks) n ms d)→Q .non H'
section
variable {P:Program} {w:World} {K:Fg} {mg:Str→Option Value} {base:Heap} {f:Addr} {fd:FuncData} {C:Addr}
theorem Ls:FnScope ["self", "demand", "names", "mode", "row", "rule"] ["self", "demand"] (defScope YY):=(1:)
theorem Rr {n:Nat} (F:Fun K "look_by" "Demands.look_by" YY f fd) (G:Gm mg) (T:DmT K mg C) (RO:Fn P w K mg base 1 "rows_of" ["wood", "kind"] (Yo K)) {fL:Addr} {fdL:FuncData} (mL:Meth K C "look" fL) (FL:FnOk P w K mg base CX0 (n + 2) fL fdL ["self", "spot", "place", "term", "kind"] (YJ K C n)) (bL:Binds K fdL ["self", "spot", "place", "term", "kind"] []) :
 FnOk P w K mg base CX0 (n + 3) f fd ["self", "demand"] (R9 K C n):=by
 refine F.ok Ls (13:) (3:)
 ·obtain ⟨nm,ks,ks1,x,dx,tu,kb,st,wt,dp,wd,lm,sv,fv,t0,ms,ds,d,rfl,_⟩:=h
  rfl
 obtain ⟨nm,ks,ks1,x,dx,tu,kb,st,wt,dp,wd,lm,sv,fv,t0,ms,ds,d,rfl,D,hkb,hWG,hdp,hd,hnk,hn,hO,hT,hQ⟩:=h
 have hrn:Room (n + 2) _:=hr
 refine ⟨_,(Qh (Qp (i:=2) Ls.nd rfl (12:) (Qo QR (Qg Qi (Qg Qi (UX (YC hr) (Zj (pv 0) rfl) (pv 1) (2:)) Qb (2:)) Qb (2:)) Qb))
  (Qh (Qp (i:=3) Ls.nd rfl (12:) (Qg Qn (Qg Qi (Zj (pv 0) rfl) Qb (2:)) (Qg Qi (pv 1) Qb (2:)) (2:)))
  (Qk (Zc PassesOwn.never rfl (Vj rfl G.zip (Qa (Qt RO hr (Qa (Qg Qi (Zj (pv 0) rfl) Qb (2:)) (Qa (Qg Qi (pv 3) Qb (2:)) Qe)) (10:)) (Qa (Qg Qi (pv 3) Qb (2:)) Qe))) (Zt rfl (Qv (Qr (i:=4) Ls.nd rfl (12:)) (Qv (Qr (i:=5) Ls.nd rfl (12:)) Za)))
   (Qk (Q0 (Yw (pv 0) T.cl mL FL hrn bL .nil YF (Qa ((QC (Qa (pv 2) (Qa (pv 1) (Qa (pv 4) Qe))))) (Qa (QC Qe) (Qa (pv 5) (Qa (Qg Qi (pv 1) Qb (2:)) Qe))))))))))),?_⟩
 try dsimp only [QB,Cx.nox]
 have hx:=D.hx
 obtain ⟨kvs,a1,a2,a3⟩:=id D.hst
 have hdp':H dp=some (.tup (([Sum.inl d.1,Sum.inr d.2]:List Key).map kV)):=hdp
 have ev:=Vr d kvs
 have hdk:=D.dk d hd
 cases ef:kvs.find? fun q=>decide (q.1=d) with
 | none =>
  rw [← a1] at hd
  obtain ⟨q,hq,e⟩:=List.mem_map.mp hd
  have:=List.find?_eq_none.mp ef q hq
  simp [e] at this
 | some q =>
  obtain ⟨sa,sp0,y0,z0,n0,vd0,row0,eq2,s1,s2⟩:=a3 q (List.mem_of_find?_eq_some ef)
  rw [ef] at ev
  have hget:=DGet.t a2 hdp'
  rw [ev,show (some q).map (·.2)=some q.2 from rfl,eq2] at hget
  have hT0:=hT H (SameD.refl _ _ _ _)
  refine ⟨_,rfl,x,C,dx,_,_,rfl,hx,T.cl,T.nS,rfl,_,rfl,st,_,rfl,hget,sa,_,0,_,rfl,rfl,s1,rfl,sp0,_,0,_,rfl,rfl,s2,rfl,_,_,rfl,rfl,?_⟩
  obtain ⟨i,hi⟩ : ∃ i:Nat,d.1=(i:Int):=⟨d.1.toNat,(Int.toNat_of_nonneg hdk.1).symm⟩
  have hil:i < ms.length:=by have:=hdk.2.1;rw [hO.cn];lia
  have hmm:=List.getElem_mem hil
  have em:Yx ms d.1=ms[i].2.2.2.2:=by unfold Yx;rw [hi,Int.toNat_natCast,List.getElem?_eq_getElem hil];rfl
  have hat:atI (ms.map fun m=>V.ref m.1) d.1=some (.ref ms[i].1):=by rw [hi];exact QY (by rw [List.getElem?_map,List.getElem?_eq_getElem hil];rfl)
  refine ⟨_,rfl,x,C,dx,_,_,rfl,hx,T.cl,T.nT,rfl,tu,_,2,_,rfl,rfl,hT0.tu,rfl,_,rfl,dp,_,0,_,rfl,rfl,SqT.of hdp,rfl,lm,_,_,_,rfl,rfl,hT0.lm,hat,?_⟩
  obtain ⟨m1,m2,m3⟩:=hT0.mo _ hmm
  obtain ⟨kd,hkf,erow,hkm⟩:=Uy (hO.kd _ hmm)
  have hru:=hO.ru _ hmm
  rw [erow] at hru
  refine ⟨_,rfl,x,C,dx,_,_,rfl,hx,T.cl,T.nT,rfl,tu,_,0,_,rfl,rfl,hT0.tu,rfl,_,rfl,_,_,0,_,rfl,rfl,m1,rfl,wd,_,ks1,kd,rfl,hT0.wd,hO.wo,hkf,fun H1 g1=>?_⟩
  have hT1:=hT H1 (SameD.of g1)
  obtain ⟨m1',m2',m3'⟩:=hT1.mo _ hmm
  have hml:=m3'.length
  have hxl:(kd.2.2.2.map fun t=>V.ref t.1).length=ms[i].2.2.2.1.length:=by rw [List.length_map,hru,hml]
  refine ⟨_,rfl,_,_,1,_,rfl,rfl,m1',rfl,kd.2.2.1,ms[i].2.2.1,_,_,rfl,(hT1.wd.2 kd hkm).2.1,m2',?_⟩
  rw [okR,em] at hQ
  rw [dR,em] at hQ
  refine XX (K:=K) (xs:=kd.2.2.2.map fun t=>V.ref t.1) (ys:=ms[i].2.2.2.1) hxl (fun j σ H'=>∃ (c4 c5:Option V) (fv':V),σ=[some (.ref x),some (.ref dp),some (.int (n0 + 1)),some (.ref ms[i].1),c4,c5]∧SameD x st wt H H'∧DmS K C nm ks H' x dx tu kb st wt fv' (YM ds ((ms[i].2.2.2.2.take j).flatMap fun t=>dmd (QL ks) n t d.2))∧(fv'=.non ↔ fv=.non∧∀ t ∈ ms[i].2.2.2.2.take j,okk (QL ks) n t d.2))
   ⟨none,none,fv,rfl,SameD.of g1,D.same g1,⟨fun z=>⟨z,fun t ht=>by simp at ht⟩,fun z=>z.1⟩⟩ ?_ ?_ ?_
  ·rintro j σ H' _ ⟨c4,c5,fv',_,g,_⟩
   have hT':=hT H' g
   exact ⟨(hT'.wd.2 kd hkm).2.1,(hT'.mo _ hmm).2.1⟩
  ·rintro j u v p σ H' hu hv hp ⟨c4,c5,fv',rfl,g,D',hiff⟩
   have hj:j < kd.2.2.2.length:=by
    have:=(List.getElem?_eq_some_iff.mp hu).1
    rwa [List.length_map] at this
   have hjt:j < ms[i].2.2.2.2.length:=by lia
   obtain rfl:u=.ref kd.2.2.2[j].1:=by
    rw [List.getElem?_map,List.getElem?_eq_getElem hj] at hu
    exact (Option.some.inj hu).symm
   have gp:=Qf hp (.tup [.ref kd.2.2.2[j].1,v])
   have g1':=g.trans (SameD.of gp)
   refine ⟨p,_,rfl,SqT.of Qd,rfl,_,_,rfl,_,_,rfl,rfl,?_⟩
   refine ⟨_,rfl,x,dx,_,rfl,gp _ _ D'.hx,rfl,_,rfl,_,rfl,_,rfl,(16:),fun sp hsp=>⟨(17:),fun pl hpl=>?_⟩⟩
   have g2':=Qf hsp (.tup [.int (n0 + 1),.ref dp,.ref kd.2.2.2[j].1])
   have g3':=Qf hpl (.tup [])
   have gpp:=gp.trans (g2'.trans g3')
   have g3:=g.trans (SameD.of gpp)
   have hT3:=hT _ g3
   obtain ⟨r1,r2⟩:=(hT3.wd.2 kd hkm).2.2 _ (List.getElem_mem hj)
   obtain ⟨cv,hcv,hct⟩:=(hT3.mo _ hmm).2.2.get (List.getElem?_eq_getElem hjt)
   obtain rfl:cv=v:=Option.some.inj (hcv.symm.trans hv)
   refine ⟨_,rfl,_,rfl,dp,_,1,_,rfl,rfl,SqT.of (D.tup g3 hdp),rfl,?_⟩
   refine ⟨nm,ks,x,dx,tu,kb,st,wt,sp,pl,fv',cv,d.2,[],ms[i].2.2.2.2[j],_,_,rfl,D'.same gpp,D.kbAt g3 hkb,hWG,⟨n0 + 1,.ref dp,_,_,_,_,g3'.seqT (SqT.of Qd),r1,r2,rfl⟩,SqT.of Qd,by simpa using hn,hct,hO.tb _ hmm _ (List.getElem_mem hjt),hdk.2.2,hnk,fun H4 fv4 g4 D4 hiff4=>?_⟩
   refine ⟨_,_,fv4,rfl,g3.trans g4,?_,?_⟩
   ·rw [List.take_add_one,List.getElem?_eq_getElem hjt,List.flatMap_append,Wv]
    simpa using D4
   ·rw [List.take_add_one,List.getElem?_eq_getElem hjt,hiff4,hiff,and_assoc]
    refine and_congr_right fun _=>⟨fun ⟨e1,e2⟩ q hq=>?_,fun z=>⟨fun q hq=>z q (List.mem_append_left _ hq),z ms[i].2.2.2.2[j] (List.mem_append_right _ (by simp))⟩⟩
    rcases List.mem_append.mp hq with z | z
    ·exact e1 q z
    ·have:q=ms[i].2.2.2.2[j]:=by simpa using z
     rw [this];exact e2
  ·rintro σ H' ⟨c4,c5,fv',rfl,g,D',hiff⟩
   rw [List.length_map,hru,List.take_length] at D' hiff
   exact hQ H' fv' g D' hiff
end
end K68
namespace L2
open PySem
theorem VM {c:TT} {tb:TS} {D:Ends} {σ:St} {H:Hp} (J:Nat→St→Hp→Prop) (m0:Nat) (h0:J m0 σ H)
 (hs:∀ m σ H,J m σ H→c σ H fun b H1=>if b=true then tb { D with nx:=fun σ' H'=>∃ m',m' < m∧J m' σ' H',ct:=fun σ' H'=>∃ m',m' < m∧J m' σ' H',bk:=D.nx } σ H1 else D.nx σ H1)
 (mono:∀ σ H (Q Q':Bool→Hp→Prop),(∀ b H1,Q b H1→Q' b H1)→c σ H Q→c σ H Q'):Lw c tb D σ H:=by
 refine ⟨J,⟨m0,h0⟩,?_⟩
 intro m σ H p
 refine mono σ H _ _ (fun b H1 q=>?_) (hs m σ H p)
 cases b with
 | true=>exact ⟨_,fun σ' H' ⟨m',l,p'⟩=>⟨m',l,p'⟩,q⟩
 | false=>exact q
end L2
namespace K68
open PySem L2 TM TT K9 K11
section
variable {P:Program} {w:World} {K:Fg} {mg:Str→Option Value} {base:Heap} {f:Addr} {fd:FuncData} {C:Addr}
theorem Vo:FnScope ["self", "turning", "wood", "done"] ["self", "turning", "wood"] (defScope WW):=(1:)
theorem Np {n:Nat} (F:Fun K "__init__" "Demands.__init__" WW f fd) (G:Gm mg) (T:DmT K mg C) (RA:Fn P w K mg base 1 "row_above" ["wood"] (U0 K)) {fL:Addr} {fdL:FuncData} (mL:Meth K C "look" fL) (FL:FnOk P w K mg base CX0 (n + 2) fL fdL ["self", "spot", "place", "term", "kind"] (YJ K C n)) (bL:Binds K fdL ["self", "spot", "place", "term", "kind"] [])
 {fB:Addr} {fdB:FuncData} (mB:Meth K C "look_by" fB) (FB:FnOk P w K mg base CX0 (n + 3) fB fdB ["self", "demand"] (R9 K C n)) (bB:Binds K fdB ["self", "demand"] []) :
 FnOk P w K mg base CX0 (n + 4) f fd ["self", "turning", "wood"] (Lc K C n):=by
 refine F.ok Vo (13:) (3:)
 ·obtain ⟨nm,x,dx,tu,wd,lm,wo,sv,ks1,ks,k01,k00,t0,ms,rfl,_⟩:=h
  rfl
 obtain ⟨nm,x,dx,tu,wd,lm,wo,sv,ks1,ks,k01,k00,t0,ms,rfl,hx,hTu,hO,hk01,hWo,hWF,hk00,hnk,hn,hQ⟩:=h
 have hr3:Room (n + 3) _:=hr
 have hrn:Room (n + 2) _:=hr3.mono (10:)
 have htu:=hTu.tu
 have hW1:=hTu.wd
 have hsv:=hTu.st
 refine ⟨_,(Qh (Yh (pv 0) (pv 1) rfl)
  (Qh (Yh (pv 0) (QP (Yb rfl) rfl G.dct PyProof.Rows.boot_dict (Qa (QT (CompG.many (xs:=["kind", "rows"]) (caps:=[]) (cap:=[]) (cs:=[]) rfl rfl (0:) (0:) (0:) (0:) (0:) (0:) rfl rfl rfl) rfl (Q4 (pv 2)) (OH (CompG.many (xs:=["kind", "rows"]) (caps:=[]) (cap:=[]) (cs:=[]) rfl rfl (0:) (0:) (0:) (0:) (0:) (0:) rfl rfl rfl) rfl) (fun _ _ _ _=>Q6) (fun _ _ _ _=>(QC (Qa (pv 0) (Qa (QP (r:=Mo K) (Yb rfl) rfl G.dct PyProof.Rows.boot_dict (Qa (pv 1) Qe)) Qe))))) Qe)) rfl)
  (Qh (Yh (pv 0) WZ rfl)
  (Qh (Yh (pv 0) (QZ Qe) rfl)
  (Qh (Yh (pv 0) Uj rfl)
  (Qh (Q0 (Yw (pv 0) T.cl mL FL hrn bL .nil YF (Qa ((QC (Qa (Qb) (Qa (Uj) (Qa (Qt RA hr (Qa (Qg Qi (pv 1) Qb (2:)) Qe) (10:)) Qe))))) (Qa (QC Qe) (Qa (Qg Qi (pv 1) Qb (2:)) (Qa (Qg Qi (Qg Qn (pv 2) Qb (2:)) Qb (2:)) Qe))))))
  (Qh (Qp (i:=3) Vo.nd rfl (12:) Qb)
  (Qk (W0 PassesOwn.never (QA V6 (pv 3) (Qw QI rfl G.len PySem.boot_len (Qa (Zj (pv 0) rfl) Qe)) (Qz _)) (Qh (Q0 (Yw (pv 0) T.cl mB FB hr3 bB .nil YF (Qa (Qg Qn (Zj (pv 0) rfl) (pv 3) (2:)) Qe)))
  (Qk (Pj (i:=3) Vo.nd rfl (12:) Qb Pc)))))))))))),?_⟩
 try dsimp only [QB,Cx.nox]
 have i0:InsAt H x:=⟨_,_,_,hx⟩
 refine ⟨_,rfl,_,rfl,x,C,dx,_,rfl,hx,T.cl,T.nT,(by show 0 < 1000;decide),?_⟩
 rw [f1]
 have g1:SameX x H (upd H x (.ins C dx (fl1 tu))):=SameX.upd
 generalize hH1:upd H x (.ins C dx (fl1 tu))=H1 at g1 ⊢
 have hx1:H1 x=some (.ins C dx (fl1 tu)):=by rw [← hH1];exact Qd
 have hWo1:=WoodAt.insX i0 g1 hWo
 have hnkd:=hWF.ok.nd
 have hkl:=hWF.ok.len
 refine ⟨_,rfl,wo,rfl,⟨_,hWo1.1⟩,fun acc hacc=>?_⟩
 refine VY (K:=K) (xs:=ks.map fun k=>V.ref k.1) (cs:=[]) (tt:=fun _ H Q=>Q true H) (te:=O5 (Yj (UP 0) (Yj (tCB (Mo K) (Yj (UP 1) Wl)) Wl))) (fun i ys H'=>∃ l:List (KdT × Addr × Addr),ys=l.map (fun q=>V.ref q.2.1)∧l.map (·.1)=ks.take i∧(∀ q ∈ l,SqT K H' q.2.1 [.str q.1.2.1,.ref q.2.2]∧H' q.2.2=some (.dK (q.1.2.2.2.map fun r=>((Sum.inr r.2.1:Key),V.ref r.2.2.1))))∧H' acc=some (.lst ys)∧Same H1 H')
  ⟨[],rfl,rfl,fun q hq=>(nomatch hq),Qd,Qf hacc _⟩ ?_ ?_ ?_
 ·rintro i ys H' _ ⟨l,_,_,_,_,g⟩
  exact g.seq hWo1.1
 ·rintro i y ys H' hi hy ⟨l,rfl,hl1,hl2,hya,g⟩
  have hik:i < ks.length:=by rw [List.length_map] at hi;exact hi
  obtain rfl:y=.ref ks[i].1:=by
   rw [List.getElem?_map,List.getElem?_eq_getElem hik] at hy
   exact (Option.some.inj hy).symm
  have hkm:=List.getElem_mem hik
  obtain ⟨hk1,hkr⟩:=(hWo1.same g).2 _ hkm
  have hro:=hWF.ok.rows _ hkm
  have hrl:=hro.len
  have hll:l.length=i:=by
   have:=congrArg List.length hl1
   rw [List.length_map,List.length_take] at this
   lia
  refine ⟨ks[i].1,_,_,rfl,hk1,Q8 ⟨_,rfl,_,rfl,ks[i].2.2.1,ks[i].2.2.2.map (fun r=>(r.1,r.2.1,V.ref r.2.2.1)),rfl,(by rw [List.map_map];exact hkr.1),fun t ht=>?_,(by rw [List.map_map];exact hro.nd),(by rw [List.length_map];lia),fun d hd=>⟨(9:),fun p2 hp2=>?_⟩⟩⟩
  ·obtain ⟨r,hr,rfl⟩:=List.mem_map.mp ht
   exact (hkr.2 r hr).1
  have ed:(ks[i].2.2.2.map (fun r=>(r.1,r.2.1,V.ref r.2.2.1))).map (fun t=>((Sum.inr t.2.1:Key),t.2.2))=ks[i].2.2.2.map fun r=>((Sum.inr r.2.1:Key),V.ref r.2.2.1):=by rw [List.map_map];rfl
  rw [ed] at hp2 ⊢
  have e1:=Qf hd (.dK (ks[i].2.2.2.map fun r=>((Sum.inr r.2.1:Key),V.ref r.2.2.1)))
  have e2:=Qf hp2 (.tup [.str ks[i].2.1,.ref d])
  have e12:=e1.trans e2
  have hya2:=e12 _ _ hya
  have hda:d≠acc:=fun z=>by rw [z,hya] at hd;cases hd
  refine QK (ys:=l.map fun q=>V.ref q.2.1) hi hya2 (by rw [List.length_map];lia) ⟨l ++ [(ks[i],p2,d)],by simp,?_,fun q hq=>?_,Qd,fun b u e=>by rw [Ql (Qj e hacc)];exact e12 _ _ (g _ _ e)⟩
  ·rw [List.map_append,hl1,List.take_add_one,List.getElem?_eq_getElem hik];rfl
  ·rcases List.mem_append.mp hq with z | z
   ·obtain ⟨a1,a2⟩:=hl2 q z
    refine ⟨(e12.seqT a1).put hya2,?_⟩
    rw [Ql (ne_of (e12 _ _ a2) hya2 (15:))]
    exact e12 _ _ a2
   ·have:q=(ks[i],p2,d):=by simpa using z
    rw [this]
    refine ⟨SqT.put (SqT.of Qd) hya2,?_⟩
    show upd _ acc _ d=_
    rw [Ql hda]
    exact e2 _ _ Qd
 rintro ys H2 ⟨l,rfl,hl1,hl2,hya,g2⟩
 rw [List.length_map,List.take_length] at hl1
 have hll:l.length=ks.length:=by
  have:=congrArg List.length hl1
  rwa [List.length_map] at this
 refine ⟨acc,l.map (fun q=>(q.2.1,q.1.2.1,V.ref q.2.2)),rfl,(by rw [List.map_map];exact SqL.of hya),fun t ht=>?_,?_,(by rw [List.length_map];lia),fun kb hkb=>?_⟩
 ·obtain ⟨q,hq,rfl⟩:=List.mem_map.mp ht
  exact (hl2 q hq).1
 ·rw [List.map_map]
  have:(l.map ((fun t:Addr × Str × V=>t.2.1) ∘ fun q:KdT × Addr × Addr=>(q.2.1,q.1.2.1,V.ref q.2.2)))=ks.map fun k=>k.2.1:=by rw [← hl1,List.map_map];rfl
  rw [this]
  exact hnkd
 have ed:(l.map (fun q:KdT × Addr × Addr=>(q.2.1,q.1.2.1,V.ref q.2.2))).map (fun t=>((Sum.inr t.2.1:Key),t.2.2))=(l.map fun q=>(q.1,q.2.2)).map fun q=>((Sum.inr q.1.2.1:Key),V.ref q.2):=by rw [List.map_map,List.map_map];rfl
 rw [ed]
 have g3:=Qf hkb (.dK ((l.map fun q=>(q.1,q.2.2)).map fun q=>((Sum.inr q.1.2.1:Key),V.ref q.2)))
 have g13:=g2.trans g3
 have hkb3:KbAt K (upd H2 kb (.dK ((l.map fun q=>(q.1,q.2.2)).map fun q=>((Sum.inr q.1.2.1:Key),V.ref q.2)))) kb ks:=by
  refine ⟨l.map fun q=>(q.1,q.2.2),by rw [List.map_map];exact hl1,Qd,fun q hq=>?_⟩
  obtain ⟨q',hq',rfl⟩:=List.mem_map.mp hq
  refine ⟨g3 _ _ (hl2 q' hq').2,fun r hr=>?_⟩
  have hqk:q'.1 ∈ ks:=by rw [← hl1];exact List.mem_map.mpr ⟨q',hq',rfl⟩
  exact g13.seqT (((hWo1.2 _ hqk).2.2 r hr).2)
 generalize upd H2 kb (.dK ((l.map fun q=>(q.1,q.2.2)).map fun q=>((Sum.inr q.1.2.1:Key),V.ref q.2)))=H3 at g3 g13 hkb3 ⊢
 have hx3:=g13 _ _ hx1
 have i3:InsAt H3 x:=⟨_,_,_,hx3⟩
 refine ⟨_,rfl,x,C,dx,_,rfl,hx3,T.cl,T.nK,(by show 1 < 1000;decide),?_⟩
 rw [f2]
 have g4':SameX x H3 (upd H3 x (.ins C dx (fl2 tu kb))):=SameX.upd
 generalize hH4:upd H3 x (.ins C dx (fl2 tu kb))=H4 at g4' ⊢
 have hx4:H4 x=some (.ins C dx (fl2 tu kb)):=by rw [← hH4];exact Qd
 refine fun st hst=>⟨_,rfl,x,C,dx,_,rfl,(Qf hst _) _ _ hx4,T.cl,T.nS,(by show 2 < 1000;decide),?_⟩
 rw [f3]
 have g5:=Qf hst (.dT [])
 have g6':SameX x (upd H4 st (.dT [])) (upd (upd H4 st (.dT [])) x (.ins C dx (fl3 tu kb st))):=SameX.upd
 have g36:SameX x H3 (upd (upd H4 st (.dT [])) x (.ins C dx (fl3 tu kb st))):=g4'.trans ((SameX.of g5).trans g6')
 generalize hH6:upd (upd H4 st (.dT [])) x (.ins C dx (fl3 tu kb st))=H6 at g36 ⊢
 have hx6:H6 x=some (.ins C dx (fl3 tu kb st)):=by rw [← hH6];exact Qd
 refine ⟨(17:),fun wt hwt=>⟨_,rfl,x,C,dx,_,rfl,(Qf hwt _) _ _ hx6,T.cl,T.nW,(by show 3 < 1000;decide),?_⟩⟩
 rw [f4]
 have g7:=Qf hwt (.lst [])
 have hwx:wt≠x:=fun z=>by rw [z,hx6] at hwt;cases hwt
 have g8':SameX x (upd H6 wt (.lst [])) (upd (upd H6 wt (.lst [])) x (.ins C dx (fl4 tu kb st wt))):=SameX.upd
 have g38:SameX x H3 (upd (upd H6 wt (.lst [])) x (.ins C dx (fl4 tu kb st wt))):=g36.trans ((SameX.of g7).trans g8')
 have hwt8:upd (upd H6 wt (.lst [])) x (.ins C dx (fl4 tu kb st wt)) wt=some (.lst []):=by rw [Ql hwx];exact Qd
 generalize hH8:upd (upd H6 wt (.lst [])) x (.ins C dx (fl4 tu kb st wt))=H8 at g38 hwt8 ⊢
 have hx8:H8 x=some (.ins C dx (fl4 tu kb st wt)):=by rw [← hH8];exact Qd
 refine ⟨_,rfl,x,C,dx,_,rfl,hx8,T.cl,T.nF,(by show 4 < 1000;decide),?_⟩
 rw [f5]
 have g9':SameX x H8 (upd H8 x (.ins C dx (Y6 tu kb st wt .non))):=SameX.upd
 have g39:=g38.trans g9'
 have hwt9:upd H8 x (.ins C dx (Y6 tu kb st wt .non)) wt=some (.lst []):=by rw [Ql hwx];exact hwt8
 generalize hH9:upd H8 x (.ins C dx (Y6 tu kb st wt .non))=H9 at g39 hwt9 ⊢
 have hx9:H9 x=some (.ins C dx (Y6 tu kb st wt .non)):=by rw [← hH9];exact Qd
 have i9:InsAt H9 x:=⟨_,_,_,hx9⟩
 have g09:SameX x H H9:=g1.trans ((SameX.of g13).trans g39)
 refine ⟨_,rfl,x,dx,_,rfl,hx9,rfl,_,rfl,tu,_,0,_,rfl,rfl,i0.seqT g09 htu,rfl,wd,ks1,k01,rfl,WoodAt.insX i0 g09 hW1,hk01,fun rw kk H10 g10 hrw hkk=>⟨(16:),fun sp hsp=>⟨(17:),fun pl hpl=>?_⟩⟩⟩
 have g11:=Qf hsp (.tup [.int 0,.non,.ref rw])
 have g12:=Qf hpl (.tup [])
 have g9c:=g10.trans (g11.trans g12)
 have g0c:SameX x H _:=g09.trans (SameX.of g9c)
 have hat:atI (ks.map fun k=>V.ref k.1) 0=some (.ref k00.1):=QY (j:=0) (by rw [List.getElem?_map,hk00];rfl)
 have hWoc:=WoodAt.insX i0 g0c hWo
 refine ⟨_,rfl,tu,_,1,_,rfl,rfl,i0.seqT g0c htu,rfl,_,rfl,wo,_,0,_,rfl,rfl,hWoc.1,hat,k00.1,_,0,_,rfl,rfl,(hWoc.2 k00 (List.mem_of_getElem? hk00)).1,rfl,?_⟩
 have hspc:SqT K (upd (upd H10 sp (.tup [.int 0,.non,.ref rw])) pl (.tup [])) sp [.int 0,.non,.ref rw]:=g12.seqT (SqT.of Qd)
 have hrwc:=(g11.trans g12).seqT hrw
 have hkkc:=(g11.trans g12).seqT hkk
 have hst9:H9 st=some (.dT []):=by
  have n1:st≠x:=fun z=>by rw [z,hx4] at hst;cases hst
  have n2:st≠wt:=fun z=>by
   rw [← z,← hH6,Ql n1] at hwt
   rw [show upd H4 st (.dT []) st=some (.dT []) from Qd] at hwt
   cases hwt
  rw [← hH9,Ql n1,← hH8,Ql n1,Ql n2,← hH6,Ql n1]
  exact Qd
 have D0:DmS K C nm ks H9 x dx tu kb st wt .non []:=⟨hx9,⟨[],rfl,hst9,fun q hq=>(nomatch hq)⟩,⟨[],rfl,hwt9,fun q hq=>(nomatch hq)⟩,List.nodup_nil,fun d hd=>(nomatch hd),.inl rfl⟩
 have nSt:H st=none:=by
  cases e:H st with
  | none=>rfl
  | some u =>
   have n1:st≠x:=fun z=>by rw [z,hx4] at hst;cases hst
   have:=(g1.trans ((SameX.of g13).trans g4')) st u n1 e
   rw [hst] at this;cases this
 have nWt:H wt=none:=by
  cases e:H wt with
  | none=>rfl
  | some u =>
   have:=(g1.trans ((SameX.of g13).trans g36)) wt u hwx e
   rw [hwt] at this;cases this
 refine ⟨nm,ks,x,dx,tu,kb,st,wt,sp,pl,.non,sv,k00.2.1,[],t0,_,[],rfl,D0.same g9c,(hkb3.insX i3 g39).same g9c,hWF,⟨0,.non,rw,kk,S [],_,hspc,hrwc,hkkc,rfl⟩,SqT.of Qd,by simpa using hn,hsv.mono fun _ _=>i0.seqT g0c,hO.st,⟨k00,List.mem_of_getElem? hk00,rfl⟩,hnk,fun H' fv' gx D' hiff=>?_⟩
 have old:∀ {H''},SameD x st wt H' H''→SameX x H H'':=fun {H''} g b u nb e=>g b u nb (Qj e nSt) (Qj e nWt) (gx b u nb (Qj e nSt) (Qj e nWt) (g0c b u nb e))
 have stab:∀ {H''},SameD x st wt H' H''→∀ H3,SameD x st wt H'' H3→TuAt K H3 tu wd sv lm ks1 t0 ms:=fun {H''} g H3 g3=>hTu.insX i0 (old (g.trans g3))
 have hkb':=(D0.same g9c).kbAt gx ((hkb3.insX i3 g39).same g9c)
 refine VM (fun m σ H''=>∃ (j:Nat) (fv:V) (ds:List Dd),σ=[some (.ref x),some (.ref tu),some (.ref wo),some (.int (j:Int))]∧SameD x st wt H' H''∧DmS K C nm ks H'' x dx tu kb st wt fv ds∧j≤ds.length∧m + j=nm * ks.length + 1 ∧
  (∀ e ∈ dmd (QL ks) n t0 k00.2.1,e ∈ ds)∧(∀ (i:Nat) d,i < j→ds[i]?=some d→∀ e ∈ dR (QL ks) n ms d,e ∈ ds)∧(∀ S:Dd→Prop,(∀ e ∈ dmd (QL ks) n t0 k00.2.1,S e)→(∀ d,S d→∀ e ∈ dR (QL ks) n ms d,S e)→∀ e ∈ ds,S e) ∧
  (fv=.non ↔ okk (QL ks) n t0 k00.2.1∧∀ (i:Nat) d,i < j→ds[i]?=some d→okR (QL ks) n ms d)) (nm * ks.length + 1)
  ⟨0,fv',_,rfl,SameD.refl _ _ _ _,D',Nat.zero_le _,rfl,fun e he=>ZF.mpr (.inr he),fun i d hi=>absurd hi (Nat.not_lt_zero _),fun S h1 _ e he=>h1 e ((ZF.mp he).elim (fun z=>nomatch z) id),hiff.trans ⟨fun z=>⟨z.2,fun i d hi=>absurd hi (Nat.not_lt_zero _)⟩,fun z=>⟨rfl,z.1⟩⟩⟩ ?_ ?_
 ·rintro m σ H'' ⟨j,fv,ds,rfl,g,D,hj,hm,c1,c2,c3,c4⟩
  obtain ⟨ws,b1,b2,b3⟩:=id D.hwt
  have hlen:=J8 D.nd D.dk
  have hwl:ws.length=ds.length:=by rw [← b1,List.length_map]
  refine ⟨_,rfl,_,rfl,x,C,dx,_,_,rfl,D.hx,T.cl,T.nW,rfl,wt,_,rfl,.inl (SqL.of b2),_,_,rfl,rfl,_,rfl,XI (fun c=>?_) (fun c=>?_)⟩
  ·have c':(j:Int) < (((ws.map fun q=>V.ref q.1).length:Nat):Int):=of_decide_eq_true c
   rw [List.length_map] at c'
   have hjw:j < ws.length:=by lia
   have hjd:j < ds.length:=by lia
   have hdj:ds[j]?=some ws[j].2:=by rw [← b1,List.getElem?_map,List.getElem?_eq_getElem hjw];rfl
   refine ⟨_,rfl,x,dx,_,rfl,D.hx,rfl,_,rfl,x,C,dx,_,_,rfl,D.hx,T.cl,T.nW,rfl,_,rfl,wt,_,_,_,rfl,rfl,SqL.of b2,QY (by rw [List.getElem?_map,List.getElem?_eq_getElem hjw];rfl),?_⟩
   refine ⟨nm,ks,ks1,x,dx,tu,kb,st,wt,ws[j].1,wd,lm,sv,fv,t0,ms,ds,ws[j].2,rfl,D,D'.kbAt g hkb',hWF,b3 _ (List.getElem_mem hjw),List.mem_of_getElem? hdj,hnk,hn,hO,stab g,fun H3 fv3 g3 D3 hiff3=>?_⟩
   obtain ⟨r,er⟩:=WL (ds:=ds) (l:=dR (QL ks) n ms ws[j].2)
   have hpre:∀ i:Nat,i≤j→(YM ds (dR (QL ks) n ms ws[j].2))[i]?=ds[i]?:=fun i hi=>by rw [er,List.getElem?_append_left (10:)]
   refine ⟨_,rfl,_,_,rfl,rfl,m - 1,by lia,j + 1,fv3,_,rfl,g.trans g3,D3,?_,by lia,fun e he=>ZF.mpr (.inl (c1 e he)),fun i d hi hd e he=>?_,fun S s1 s2 e he=>?_,?_⟩
   ·rw [er,List.length_append];lia
   ·rw [hpre i (10:)] at hd
    rcases Nat.lt_or_ge i j with z | z
    ·exact ZF.mpr (.inl (c2 i d z hd e he))
    ·obtain rfl:i=j:=by lia
     rw [hdj] at hd
     obtain rfl:=Option.some.inj hd
     exact ZF.mpr (.inr he)
   ·have hds:=c3 S s1 s2
    rcases ZF.mp he with z | z
    ·exact hds e z
    ·exact s2 _ (hds _ (List.mem_of_getElem? hdj)) e z
   ·rw [hiff3,c4,and_assoc]
    refine and_congr_right fun _=>⟨fun ⟨e1,e2⟩ i d hi hd=>?_,fun z=>⟨fun i d hi hd=>z i d (10:) (by rw [hpre i (10:)];exact hd),z j _ (10:) (by rw [hpre j (8:)];exact hdj)⟩⟩
    rw [hpre i (10:)] at hd
    rcases Nat.lt_or_ge i j with z | z
    ·exact e1 i d z hd
    ·obtain rfl:i=j:=by lia
     rw [hdj] at hd
     obtain rfl:=Option.some.inj hd
     exact e2
  ·have c':¬ ((j:Int) < (((ws.map fun q=>V.ref q.1).length:Nat):Int)):=fun z=>c (decide_eq_true z)
   rw [List.length_map] at c'
   have hje:ds.length≤j:=by lia
   refine hQ H'' kb st wt fv ds (old g) D.hx ⟨c1,fun d hd e he=>?_,c3⟩ (c4.trans (and_congr_right fun _=>⟨fun z d hd=>?_,fun z i d _ hd=>z d (List.mem_of_getElem? hd)⟩))
   ·obtain ⟨i,hi,ei⟩:=List.getElem_of_mem hd
    exact c2 i d (10:) (by rw [List.getElem?_eq_getElem hi,ei]) e he
   ·obtain ⟨i,hi,ei⟩:=List.getElem_of_mem hd
    exact z i d (10:) (by rw [List.getElem?_eq_getElem hi,ei])
 ·intro σ H Q Q' hm h
  obtain ⟨v1,h1,v2,h2,x1,x2,x3,x4,x5,h3,h4,h5,h6,h7,x6,x7,h8,h9,x8,x9,h10,h11,x10,h12,h13⟩:=h
  exact ⟨v1,h1,v2,h2,x1,x2,x3,x4,x5,h3,h4,h5,h6,h7,x6,x7,h8,h9,x8,x9,h10,h11,x10,h12,hm _ _ h13⟩
end
end K68
namespace L2
open PySem PySem.Spec PyProof.Rows
def NY (e:Expr):Arguments:=match e with
 | .Lambda a _ _ _=>a
 | _=>{ posonlyargs:=[],args:=[],vararg:=none,kwonlyargs:=[],kw_defaults:=[],kwarg:=none,defaults:=[] }
def Gg (e:Expr):Expr:=match e with
 | .Lambda _ b _ _=>b
 | _=>e
def QG (e:Expr):Scope:=match e with
 | .Lambda _ _ s _=>s
 | _=>{ kind:=.function,names:=[],isGenerator:=false,isCoroutine:=false }
def W9 (e:Expr):Pos:=match e with
 | .Lambda _ _ _ p=>p
 | _=>⟨0,0,0,0⟩
def Sv (s:Stmt):Expr:=match (defBody s).getLast? with
 | some (.Return (some e) _)=>e
 | _=>.Name "" ⟨0,0,0,0⟩
def Sx (e:Expr) (i:Nat):Expr:=match e with
 | .Call _ as _ _=>as.getD i e
 | _=>e
def GO (f:Addr) (fd:FuncData):HO:=.ext fun h=>h.get? f=some { cls:=.type "function", data:=.func fd }
def Mv (c:Addr) (qual:Str):HO:=.ext fun h=>h.CodeRec (.ref c) qual
def TbS (H:Hp) (T:Addr) (pos:Pos) (qual:Str):Prop:=H T=some (.tbl #[])∨∃ c,H T=some (.tbl #[rawInt pos.line,rawInt pos.col,.ref c])∧H c=some (Mv c qual)
theorem TbS.at {H:Hp} {T:Addr} {pos:Pos} {qual:Str} (h:TbS H T pos qual):∃ ps,H T=some (.tbl ps):=by
 rcases h with h | ⟨c,h,_⟩
 ·exact ⟨_,h⟩
 ·exact ⟨_,h⟩
theorem TbS.same {H H':Hp} {T:Addr} {pos:Pos} {qual:Str} (g:Same H H') (h:TbS H T pos qual):TbS H' T pos qual:=by
 rcases h with h | ⟨c,h,h2⟩
 ·exact .inl (g _ _ h)
 ·exact .inr ⟨c,g _ _ h,g _ _ h2⟩
def XW (mg:Str→Option Value) (base:Heap):Prop:=∃ bm o,mg "__builtins__" = some (.ref bm)∧bm≠builtinsNs∧bm≠mainGlobals∧base.get? bm=some o∧o.cls=.type "module" ∧ o.dict=some builtinsNs∧o.data=.plain
section
variable {X:Cx}
theorem Gn {P:Program} {w:World} {H:Hp} {h:Heap} {f:Addr} {fd:FuncData} (e:h.get? f=some { cls:=.type "function", data:=.func fd }):ObjOk P w H h f (GO f fd):=⟨e,⟨_,e⟩,fun _ _ e1 k=>k _ e1⟩
theorem Nk {P:Program} {w:World} {H:Hp} {h:Heap} {c:Addr} {qual:Str} (e:h.CodeRec (.ref c) qual):ObjOk P w H h c (Mv c qual):=by
 refine ⟨e,?_,fun h1 h2 e1 k=>?_⟩
 ·obtain ⟨c',oc,vs,tq,z,hoc,_⟩:=e
  cases z
  exact ⟨_,hoc⟩
 ·obtain ⟨c',oc,vs,tq,z,hoc,r⟩:=e1
  cases z
  exact ⟨c,oc,vs,tq,rfl,k _ hoc,r⟩
end
end L2
namespace L2
open PySem PySem.Spec PyProof.Rows
section
variable {X:Cx}
end
section
variable {P:Program} {w:World} {K:Fg} {mg:Str→Option Value} {base:Heap}
theorem NR {x:Str} {f c T:Addr} {oc:Value} {od:Option Addr} {fd:FuncData} {sl:Array (Option Value)} (hn:PySem.W.nsIn K mainGlobals x=some (some (.ref f))) (lk:K.lookup f=some ⟨oc,od,.func fd,sl⟩) (h:PySem.W.tabIn K x=some (c,T)):fd.code=.ref c:=by
 unfold PySem.W.tabIn at h
 rw [hn] at h
 simp only [lk] at h
 split at h
 ·rename_i c2 hc
  split at h
  ·split at h
   ·cases h;exact hc
   ·cases h
  ·cases h
 ·cases h
end
end L2
namespace L2
open PySem PySem.Spec PyProof.Rows
theorem GY {P:Program} {w:World} {K:Fg} {mg mb:Str→Option Value} {k:Nat} {fa a:Addr} {fd:FuncData} {x:Str} {sp:Sp} {s₁:Shared} {vs:List Value} {ns:List Int} {Ts:List Addr}
 (KX:K.In s₁.heap) (hns:s₁.heap.Ns mainGlobals mg) (hb:s₁.heap.Ns builtinsNs mb) (hbb:∀ x:Str,x ≠ "__name__" → mb x=bootBuiltins x) (hlim:s₁.heap.NoLimit) (hg:s₁.gens=#[]) (hbt:XW mg s₁.heap)
 (hTs:∀ T ∈ Ts,s₁.heap.get? T=some { cls:=.none,data:=.fields #[] }∧isCodeTable s₁.heap T∧K.lookup T=none)
 (ha:s₁.heap.get? a=some { cls:=.type "list", data:=.seq vs.toArray }) (hi:IntsAre vs ns) (hl:ns.length≤sizeLine) (hr:Room k callerA)
 (F:∀ base:Heap,K.In base→base.Ns mainGlobals mg→XW mg base→FnOk P w K mg base CX0 k fa fd [x] sp) (hbind:∀ (s:Shared) (u:Value),BindsTo s fd ⟨[u],[]⟩ [(x,u)])
 (hsp:∀ H:Hp,SqL K H a (ns.map V.int)→(∀ T ∈ Ts,H T=some (.tbl #[]))→sp [.ref a] H (fun v _=>v=.bl true) fun _ _ _=>False) :
 codeAny (model P w) callerA (.call (.ref fa) ⟨[.ref a],[]⟩) (fun r s'=>r=.ok (.ret (.bool true))∧OldK s₁.heap s'.heap∧s'.os=s₁.os∧AllBare s'.gens) s₁:=by
 have rv:=Uq hi
 have lenV:=hi.length
 have core:∀ H:Hp,(∀ b,H b=none∨(b=a∧K.lookup a=none∧∃ o xs,H b=some (.frz o (.lst xs)))∨(b ∈ Ts∧H b=some (.tbl #[])))→SqL K H a (ns.map V.int)→(∀ T ∈ Ts,H T=some (.tbl #[]))→HOk P w H s₁.heap →
  codeAny (model P w) callerA (.call (.ref fa) ⟨[.ref a],[]⟩) (fun r s'=>r=.ok (.ret (.bool true))∧OldK s₁.heap s'.heap∧s'.os=s₁.os∧AllBare s'.gens) s₁:=by
  intro H hO hS hT hok
  have base_of:∀ {b:Addr} {o:Obj},s₁.heap.get? b=some o→H b=none→(YO s₁.heap H).get? b=some o:=fun e n=>WU e n
  have noA:∀ {b:Addr} {o:Obj},s₁.heap.get? b=some o→(∀ xs n,o.data≠.seq xs n)→(∀ xs,o.data≠.fields xs)→H b=none:=fun {b o} e d1 d2=>by
   rcases hO b with z | ⟨rfl,_⟩ | ⟨z,_⟩
   ·exact z
   ·rw [ha] at e;cases e
    exact absurd rfl (d1 _ _)
   ·rw [(hTs b z).1] at e;cases e
    exact absurd rfl (d2 _)
  have nsK:∀ {b:Addr} {m:Str→Option Value},s₁.heap.Ns b m→(YO s₁.heap H).Ns b m:=fun {b m} ⟨o,es,ep,e,d,r⟩=>⟨o,es,ep,base_of e (noA e (fun _ _ z=>by rw [d] at z;cases z) (fun _ z=>by rw [d] at z;cases z)),d,r⟩
  have hKb:K.In (YO s₁.heap H):=fun b o e=>base_of (KX b o e) (by
   rcases hO b with z | ⟨rfl,hk,_⟩ | ⟨z,_⟩
   ·exact z
   ·rw [hk] at e;cases e
   ·rw [(hTs b z).2.2] at e;cases e)
  have hBt:XW mg (YO s₁.heap H):=by
   obtain ⟨bm,o,b1,b2,b3,b4,b5,b6,b7⟩:=hbt
   exact ⟨bm,o,b1,b2,b3,base_of b4 (noA b4 (fun _ _ z=>by rw [b7] at z;cases z) (fun _ z=>by rw [b7] at z;cases z)),b5,b6,b7⟩
  have hM:Mod K mg (YO s₁.heap H):=⟨hKb,nsK hns,⟨mb,nsK hb,hbb⟩,let ⟨mc,h1,h2⟩:=hlim;⟨mc,nsK h1,h2⟩⟩
  have e0:Env0 P w K mg (YO s₁.heap H) callerA [] s₁ H:=⟨rfl,hM,fun b o e=>VN e,Nat.le_of_eq (JX _ _),trivial,fun b hb=>absurd (show b ∈ ([]:List Addr) from hb) (by simp),hok,.of_eq hg⟩
  refine codeAny_mono ((F _ hKb (nsK hns) hBt).run callerA [] s₁ H ⟨[.ref a],[]⟩ [.ref a] [.ref a] _ _ hr e0 (hbind s₁ (.ref a)) (.cons rfl .nil) (hsp H hS hT)) fun r s' h=>?_
  cases r with
  | error e=>exact h.elim
  | ok fl =>
   cases fl with
   | next=>exact False.elim h
   | brk=>exact False.elim h
   | cont=>exact False.elim h
   | ret u =>
    obtain ⟨v,H',os,bare,un,hok',r',q⟩:=h
    have q':v=.bl true:=q
    subst q'
    obtain rfl:u=Value.bool true:=r'
    refine ⟨rfl,⟨fun b o e=>?_,fun b o e=>un.there b o e (by simp)⟩,os,bare⟩
    rcases hO b with z | ⟨rfl,_,ob,xs,z⟩ | ⟨zT,z⟩
    ·exact .inl (un.keep b o e z (by intro z;exact absurd (show b ∈ ([]:List Addr) from z) (by simp)) (by simp))
    ·have z2:=un.frzs b ob _ z
     obtain ⟨e1,_⟩:=hok b _ z
     obtain ⟨e2,_⟩:=hok' b _ z2
     rw [e] at e1;cases e1
     exact .inl e2
    ·obtain ⟨more,z2⟩:=un.tbls b _ z
     have e2:s'.heap.get? b=some { cls:=.none,data:=.fields (#[] ++ more) }:=hok' b _ z2
     obtain ⟨t1,t2,_⟩:=hTs b zT
     rw [t1] at e;cases e
     exact .inr (.inl ⟨t2,rfl,#[],more,rfl,e2⟩)
 have haT:∀ T ∈ Ts,T≠a:=fun T hT z=>by
  have:=(hTs T hT).1
  rw [z,ha] at this;cases this
 cases hk:K.lookup a with
 | some o =>
  have e:=KX a o hk
  rw [ha] at e
  cases e
  refine core (fun b=>if b ∈ Ts then some (.tbl #[]) else none) (fun b=>?_) (.inr ⟨_,vs.toArray,_,hk,rfl,rfl,rfl,by rw [List.size_toArray,lenV];exact hl,by simpa using rv⟩) (fun T hT=>if_pos hT) (fun b u z=>?_)
  ·by_cases hb:b ∈ Ts
   ·exact .inr (.inr ⟨hb,if_pos hb⟩)
   ·exact .inl (if_neg hb)
  ·by_cases hb:b ∈ Ts
   ·have z':=(if_pos hb).symm.trans z
    cases z'
    exact (hTs b hb).1
   ·have z':=(if_neg hb).symm.trans z
    cases z'
 | none =>
  refine core (fun b=>if b=a then some (.frz { cls:=.type "list", data:=.seq vs.toArray } (.lst (ns.map V.int))) else if b ∈ Ts then some (.tbl #[]) else none) (fun b=>?_) (.inl (.inr ⟨{ cls:=.type "list", data:=.seq vs.toArray },if_pos rfl⟩)) (fun T hT=>(if_neg (haT T hT)).trans (if_pos hT)) (fun b u z=>?_)
  ·by_cases hb:b=a
   ·exact .inr (.inl ⟨hb,hk,_,_,if_pos hb⟩)
   ·by_cases hbT:b ∈ Ts
    ·exact .inr (.inr ⟨hbT,(if_neg hb).trans (if_pos hbT)⟩)
    ·exact .inl ((if_neg hb).trans (if_neg hbT))
  ·by_cases hb:b=a
   ·have z':=(if_pos hb).symm.trans z
    cases z'
    subst hb
    exact ⟨ha,by rw [List.length_map];exact hl,vs,_,rv,ha⟩
   ·have z1:=(if_neg hb).symm.trans z
    by_cases hbT:b ∈ Ts
    ·have z':=(if_pos hbT).symm.trans z1
     cases z'
     exact (hTs b hbT).1
    ·have z':=(if_neg hbT).symm.trans z1
     cases z'
structure TabAt (q:Program) (K:Fg) (x:Str) (c T:Addr):Prop where
 fnd:∃ d,(recsOf q).find? (fun e=>e.name == x)=some d
 tab:PySem.W.tabIn K x=some (c,T)
 hd:PySem.W.codeHdIn K c T=true
 no:K.lookup T=none
theorem walk_ofT {l:PySem.W.OpenLaw} {n k:Nat} {q:Program} {loose:List Str} {XP:(Str→Option Value)→Heap→Prop} {YP:World→Heap→Prop} {d:DefRec} {K:Params→Fg} {sp:World→Sp} {x:Str} {tabs:List (Str × Addr × Addr)}
 (hn:l.most=some n) (hn2:n≤sizeLine) (hdf:d.params.defaults=[]) (hr:Room k callerA)
 (hY:∀ (w:World) (h:Heap),YP w h→(K w.params).In h)
 (htab:∀ (w:World),∀ p ∈ tabs,TabAt q (K w.params) p.1 p.2.1 p.2.2)
 (F:∀ (w:World) (mg:Str→Option Value) (fa:Addr) (h:Heap),(K w.params).In h→h.Ns mainGlobals mg→mg d.name=some (.ref fa) →
  ∃ fd:FuncData,(∀ (s:Shared) (u:Value),BindsTo s fd ⟨[u],[]⟩ [(x,u)]) ∧
   ∀ base:Heap,(K w.params).In base→base.Ns mainGlobals mg→XW mg base→FnOk l.prog w (K w.params) mg base CX0 k fa fd [x] (sp w))
 (hsp:∀ (w:World) (H:Hp) (a:Addr) (ns:List Int),ns.length≤n→SqL (K w.params) H a (ns.map V.int)→(∀ p ∈ tabs,H p.2.2=some (.tbl #[]))→sp w [.ref a] H (fun v _=>v=.bl true) fun _ _ _=>False) :
 PySem.W.WalkO q loose XP YP l.row.toRowW d [] (fun f vs=>PySem.call f vs):=by
 refine Att.attach_call hn hdf fun w s₀ s₁ mg mb fa o pm cd doc a vs ns G Y ho hd hcd hmg hobj hints hlen hg=>?_
 have KX:=hY w _ Y
 obtain ⟨fd,hb,hF⟩:=F w mg fa _ KX G.T.g hmg
 have hbt:XW mg s₁.heap:=by
  obtain ⟨bm,ob,b1,b2,b3,b4,b5,b6⟩:=G.T.bmain
  have hbG:bm≠mainGlobals:=fun q=>by
   obtain ⟨o,es,ep,e,hd,_⟩:=G.T.g
   rw [q,e] at b3;cases b3;rw [hd] at b6;cases b6
  exact ⟨bm,ob,b1,b2,hbG,b3,b4,b5,b6⟩
 refine GY (Ts:=tabs.map fun p=>p.2.2) KX G.T.g G.T.b G.T.builtins G.T.nolimit hg hbt (fun T hT=>?_) hobj hints (Nat.le_trans hlen hn2) hr hF hb (fun H hS hT=>hsp w H a ns hlen hS fun p hp=>hT _ (List.mem_map.mpr ⟨p,hp,rfl⟩))
 obtain ⟨p,hp,rfl⟩:=List.mem_map.mp hT
 obtain ⟨⟨dd,hrec⟩,ht,_,hno⟩:=htab w p hp
 obtain ⟨hc,h0⟩:=PySem.W.tab_of G.T KX hrec ht
 exact ⟨h0,(hc.tab h0).isCodeTable,hno⟩
end L2
namespace L2
open PySem PySem.Spec PyProof.Rows
theorem ObjOk.there {P:Program} {w:World} {H:Hp} {h:Heap} {a:Addr} {o:HO} (x:ObjOk P w H h a o):∃ ob,h.get? a=some ob:=by
 cases o with
 | lst xs=>obtain ⟨_,_,_,_,e⟩:=x;exact ⟨_,e⟩
 | tup xs=>obtain ⟨_,_,_,_,e,_⟩:=x;exact ⟨_,e⟩
 | dK kvs=>obtain ⟨_,_,_,_,o,_,_,e,_⟩:=x;exact ⟨_,e⟩
 | dT kvs=>obtain ⟨_,_,_,_,o,_,_,e,_⟩:=x;exact ⟨_,e⟩
 | set S n=>obtain ⟨o,_,_,_,e,_⟩:=x;exact ⟨_,e⟩
 | ins C dx fs=>obtain ⟨_,_,_,e,_⟩:=x;exact ⟨_,e⟩
 | own y=>obtain ⟨_,e⟩:=x;exact ⟨_,e⟩
 | xd fs=>obtain ⟨_,⟨_,_,_,e,_⟩,_⟩:=x;exact ⟨_,e⟩
 | rng lo hi=>obtain ⟨_,_,_,e⟩:=x;exact ⟨_,e⟩
 | frz ob u=>obtain ⟨e,_⟩:=x;exact ⟨_,e⟩
 | tbl ps=>exact ⟨_,(show h.get? a=some _ from x)⟩
 | met f y=>exact ⟨_,(show h.get? a=some _ from x)⟩
 | ext φ=>obtain ⟨_,e,_⟩:=x;exact e
def Cov (B:Heap) (fs:List Addr) (H':Hp) (h h1:Heap):Prop:=∀ b o,h1.get? b=some o→(H' b≠none∨∃ o',h.get? b=some o')→b ∉ fs→B.get? b=some o
structure Flw (P:Program) (w:World) (outer:List Env) (H:Hp) (s:Shared) (a:Addr) (cls:Value) (H':Hp) (s':Shared):Prop where
 os:s'.os=s.os
 bare:AllBare s'.gens
 un:Un (frs outer) [] H H' s.heap s'.heap
 hok:HOk P w H' s'.heap
 fly:∃ B t,Heap.FlyingW B outer a cls (.ref t) s'.heap∧Cov B (frs outer) H' s.heap s'.heap
def CX1 (P:Program) (w:World):CXT:=fun outer H s E e s'=>∃ (a:Addr) (cls:Value) (H':Hp),e=.ref a∧Flw P w outer H s a cls H' s'∧E cls none H'
theorem OV {fs:List Addr} {H H':Hp} {h h1 h2 B:Heap} (u:Un fs [] H H' h h1) (cov:Cov B fs H' h h1) (st:B.StaysIn h2) (up:h1.UpToSlots h2) (hfs:∀ b ∈ fs,∀ o,h1.get? b=some o→∀ vs,o.data≠.fields vs):Un fs [] H H' h h2 where
 keep:=fun b o e n hb hx=>st _ _ (cov b o (u.keep b o e n hb hx) (.inr ⟨o,e⟩) hb)
 slot:=fun b o e n hb hx=>by
  obtain ⟨sl,e1⟩:=u.slot b o e n hb hx
  obtain ⟨sl2,e2⟩:=up b _ e1 (hfs b hb _ e1)
  exact ⟨sl2,e2⟩
 free:=u.free
 there:=fun b o e hx=>by
  obtain ⟨o1,e1⟩:=u.there b o e hx
  by_cases hb:b ∈ fs
  ·obtain ⟨sl2,e2⟩:=up b _ e1 (hfs b hb _ e1)
   exact ⟨_,e2⟩
  ·exact ⟨o1,st _ _ (cov b o1 e1 (.inr ⟨o,e⟩) hb)⟩
 tups:=u.tups
 frzs:=u.frzs
 tbls:=u.tbls
theorem Ob {P:Program} {w:World} {fs:List Addr} {H':Hp} {h h1 h2 B:Heap} (hok:HOk P w H' h1) (trk:∀ b ∈ fs,H' b=none) (cov:Cov B fs H' h h1) (st:B.StaysIn h2):HOk P w H' h2:=fun b u e=>by
 refine (hok b u e).stay (fun c v hc r=>?_) (fun _ r=>r) fun _ _ r=>r
 have hne:H' c≠none:=by
  rcases hc with rfl | hc
  ·rw [e];intro z;cases z
  ·rw [hc];intro z;cases z
 exact st _ _ (cov c v r (.inl hne) fun z=>hne (trk c z))
section
variable {X:Cx} {pins:List (11:)} {σ:St} {H H':Hp} {s s':Shared}
theorem Ug {B:Heap} {l:List Env} {h:Heap} (hl:h.FunFrames B l):∀ b ∈ frs l,∀ o,h.get? b=some o→∀ vs,o.data≠.fields vs:=fun b hb o e vs=>by
 obtain ⟨_,o',e',d⟩:=hl.mem hb
 rw [e] at e'
 cases e'
 exact d vs
theorem Gc (I:Inv X pins σ H s) (u:Un (frs X.stack) [] H H' s.heap s'.heap):∀ b ∈ frs X.stack,H' b=none:=fun b hb=>by
 obtain ⟨_,o,ho,_⟩:=I.stack.mem hb
 exact u.free b o ho (I.stkFree b hb) (by simp)
theorem Inv.flown {h2 B:Heap} (I:Inv X pins σ H s) (os:s'.os=s.os) (bare:AllBare s'.gens) (un:Un (frs X.stack) [] H H' s.heap s'.heap) (hok:HOk X.prog X.w H' s'.heap) (hfr:s'.heap.FunFrames B X.stack) (cov:Cov B (frs X.stack) H' s.heap s'.heap) (st:B.StaysIn h2) (up:s'.heap.UpToSlots h2) :
 Inv X pins σ H' { s' with heap:=h2 } :=
 I.call' (s':={ s' with heap:=h2 }) (ch:=[]) os (OV un cov st up (Ug hfr)) (Ob hok (Gc I un) cov st) bare (fun b z=>absurd z (by simp))
theorem Cov.out {B h2:Heap} {H0:Hp} {s0:Shared} (I:Inv X pins σ H s) (hH0:X.H₀=H0) (hs0:X.s₀=s0) (hex:X.ex=[]) (un:Un (frs X.stack) [] H H' s.heap s'.heap) (hok:HOk X.prog X.w H' s'.heap) (cov:Cov B (frs X.stack) H' s.heap s'.heap) (st:B.StaysIn h2):Cov B X.fs H' s0.heap h2:=fun b o e hb nb=>by
 have key:∃ o',s'.heap.get? b=some o'∧b ∉ frs X.stack∧(H' b≠none∨∃ o',s.heap.get? b=some o'):=by
  rcases hb with hb | ⟨o',hb⟩
  ·cases hH:H' b with
   | none=>exact absurd hH hb
   | some u =>
    obtain ⟨o',ho'⟩:=(hok b u hH).there
    refine ⟨o',ho',fun z=>?_,.inl (15:)⟩
    rw [Gc I un b z] at hH
    cases hH
  ·have h1:X.s₀.heap.get? b=some o':=by rw [hs0];exact hb
   obtain ⟨o1,e1⟩:=I.base.there b o' h1 (by rw [hex];simp)
   obtain ⟨o2,e2⟩:=un.there b o1 e1 (by simp)
   refine ⟨o2,e2,fun z=>?_,.inr ⟨o1,e1⟩⟩
   rcases List.mem_cons.mp (I.stkSub b z) with z | z
   ·rw [z] at h1
    exact absurd (Nat.lt_of_lt_of_le (Heap.lt_size h1) I.ok.above) (Nat.lt_irrefl _)
   ·exact nb z
 obtain ⟨o',h1,h2',h3⟩:=key
 have hB:=cov b o' h1 h3 h2'
 have:=st _ _ hB
 rw [e] at this
 cases this
 exact hB
end
section
variable {P:Program} {w:World} {K:Fg} {mg:Str→Option Value} {base:Heap} {N:List Str} {qual:Str} {scope:Scope} {f:Addr} {cd:Value} {A:Around} {outer:List Env} {s:Shared} {H:Hp} {E:XK}
theorem SC {E':XK} (k:∀ cls H',E' cls none H'→E cls none H'):YK (CX1 P w) (QB (CX1 P w) P w K mg base N qual scope f cd A outer s H E) E':=by
 intro pins σ H1 s1 e s' I h
 obtain ⟨a,cls,H',rfl,F,q⟩:=h
 obtain ⟨B,t,hfl,cov⟩:=F.fly
 show wpAny (model P w) (A.deeper (14:)) (leaving (14:) (.ref a)) _ _ s'
 refine wpAny_leaves_onW I.ok.frames rfl hfl fun h2 hfl2 up=>?_
 have J:=I.flown F.os F.bare F.un F.hok hfl.2.2.1 cov hfl2.1 up
 exact ⟨a,cls,H',rfl,⟨J.os,J.bare,J.base,J.hok,B,t,hfl2,Cov.out I rfl rfl rfl F.un F.hok cov hfl2.1⟩,k _ _ q⟩
theorem OW {pins:List (11:)} {σ:St} {H1:Hp} {s1:Shared} {a:Addr} {cls:Value} {args:List Value} {h':Heap} (I:Inv (QB (CX1 P w) P w K mg base N qual scope f cd A outer s H E) pins σ H1 s1) (hx:Heap.MadeExcOf s1.heap h' a cls args) (q:E cls none H1) :
 (QB (CX1 P w) P w K mg base N qual scope f cd A outer s H E).xe (.ref a) { s1 with heap:=h' }:=by
 show wpAny (model P w) (A.deeper (14:)) (leaving (14:) (.ref a)) _ _ _
 obtain ⟨stk,hstk⟩ : ∃ stk,stk=envOfC qual scope s.heap.objs.size f cd :: outer:=⟨_,rfl⟩
 have hfr:s1.heap.FunFrames (PySem.W.hideAll s1.heap (frs stk)) stk:=by
  have:=I.stack
  rw [hstk]
  exact PySem.W.funFrames_hide this fun env he b hb=>List.mem_filterMap.mpr ⟨env,he,hb⟩
 have cov:Cov (PySem.W.hideAll s1.heap (frs stk)) (frs stk) H1 s1.heap s1.heap:=fun b o e _ nb=>PySem.W.hideAll_get _ e nb
 refine wpAny_leaves_madeW (base:=PySem.W.hideAll s1.heap (frs stk)) (h:=s1.heap) I.ok.frames rfl (fun b o q=>PySem.W.of_hideAll _ q) (hstk ▸ hfr) hx fun h2 t hfl2 tup hbt up=>?_
 subst hstk
 have up':s1.heap.UpToSlots h2:=(Heap.UpToSlots.of_keeps hx.keeps).trans up
 have J:=I.flown (s':=s1) rfl I.bare Un.refl I.hok hfr cov hfl2.1 up'
 exact ⟨a,cls,H1,rfl,⟨J.os,J.bare,J.base,J.hok,_,t,hfl2,Cov.out (s':=s1) I rfl rfl rfl Un.refl I.hok cov hfl2.1⟩,q⟩
end
end L2
namespace L2
open PySem PySem.Spec PyProof.Rows
abbrev MG:List Value:=[.type "ValueError", .type "Exception", .type "BaseException", .type "object"]
theorem N3 {K:Fg} {h:Heap} {C:Addr} {bmB:List Value} {newId:String} (X:K.In h) (q:PySem.W.excIn K C bmB newId=true) :
 ∃ tl N nm qn bs hdct sn sub ab col dd k0 k1 k2 k3 k5 mN,h.get? C=some (excClassObj nm qn C N bs tl hdct sn sub ab col dd k0 k1 k2 k3 k5 newId)∧h.Ns N mN∧mN "__init__" = none∧OwnTail h bmB tl:=by
 unfold PySem.W.excIn at q
 split at q
 ·rename_i dd cd sl ho
  split at q
  ·rename_i C' bm k0 k1 k2 k3 n k5 hm hs
   simp only [Bool.and_eq_true,beq_iff_eq,Bool.not_eq_true'] at q
   obtain ⟨⟨⟨⟨⟨e1,e2⟩,hdel⟩,ht⟩,hok⟩,hni⟩:=q
   subst e1 e2
   obtain ⟨nm,bs,mro,ns,qn,hd,sn,sub,ab,col,del⟩:=cd
   dsimp only at hm hdel hok hni
   subst hm hdel
   have hsl:sl=#[k0,k1,k2,k3,some (.builtin n),k5]:=by
    obtain ⟨l⟩:=sl
    exact congrArg Array.mk hs
   subst hsl
   exact ⟨bm,ns,nm,qn,bs,hd,sn,sub,ab,col,dd,k0,k1,k2,k3,k5,_,X _ _ ho,.of_isNs (PySem.W.isNs_of_in X hok),PySem.W.nsMap_none_of_in X hok hni,PySem.W.tail_of_in X ht⟩
  ·cases q
 ·cases q
def Ps (C:Addr) (E:XK) (t:TA):TS:=fun D σ H=>t σ H fun vs H1=>vs.length≤sizeLine∧E (.ref C) none H1
section
variable {P:Program} {w:World} {K:Fg} {mg:Str→Option Value} {base:Heap} {N:List Str} {qual:Str} {scope:Scope} {f:Addr} {cd:Value} {A:Around} {outer:List Env} {s:Shared} {H:Hp} {E:XK}
theorem YZ {x:Str} {C:Addr} {newId Bn inN:String} {bmN:List Value} {e:Expr} {es:List Expr} {t:TA} {np cpos pos:Pos} (hm:mg x=some (.ref C)) (hq:PySem.W.excIn K C MG newId=true) (Fn:ExcBaseFacts Bn newId inN bmN) (hBn:MG.contains (.type Bn)=true)
 (ha:PA (QB (CX1 P w) P w K mg base N qual scope f cd A outer s H E) (e :: es) t) (hg:Gl (QB (CX1 P w) P w K mg base N qual scope f cd A outer s H E) x:=by rfl) (hd:(x == ("__debug__" : Str))=false:=by decide)
 (he:starEach (e :: es) (14:)=(false,eval e (14:)) :: starEach es (14:):=by rfl) (hpl:(backTo cpos (starEach es (14:))).any (·.1)=false:=by rfl) :
 PS (QB (CX1 P w) P w K mg base N qual scope f cd A outer s H E) (.Raise (some (.Call (.Name x np) (e :: es) [] cpos)) none pos) (Ps C E t):=by
 intro pins s1 σ H1 D I h
 obtain ⟨tl,N',nm,qn,bs,hdct,sn,sub,ab,col,dd,k0,k1,k2,k3,k5,mN,hC,hN,hni,T⟩:=N3 (h:=base) I.ok.mod.kin hq
 refine wpAny_Raise_call_subU (C:=C) (nm:=nm) (q:=qn) (N:=N') (bs:=bs) (bm:=tl) (hdct:=hdct) (sn:=sn) (sub:=sub) (ab:=ab) (col:=col) (dd:=dd) (k0:=k0) (k1:=k1) (k2:=k2) (k3:=k3) (k5:=k5)
  Fn hBn PySem.F.excBase_ValueError (mN:=mN) (T.hasType PySem.F.excBase_ValueError.hasBase) (I.ok.hd rfl) ?_ hni (Ye I hg hm ⟨rfl,?_⟩ hd)
 ·show (backTo cpos (starEach (e :: es) (14:))).any (·.1)=false
  rw [he]
  show (false || (backTo cpos (starEach es (14:))).any (·.1))=false
  rw [hpl];rfl
 ·have hw:=ha cpos pins s1 σ H1 _ I h
  show wpAny (model P w) (A.deeper (14:)) (evalArgs (.ref C) true (backTo cpos (starEach (e :: es) (14:))) []) _ _ s1
  have hw':wpAny (model P w) (A.deeper (14:)) (spliced (backTo cpos (starEach (e :: es) (14:)))) _ _ s1:=hw
  rw [he] at hw' ⊢
  refine Calls.evalArgs_plain (wpAny_mono hw' (fun us s2 h2=>?_) fun _ _ y=>y)
  obtain ⟨vs,H2,I2,r,hl,q⟩:=h2
  exact ⟨rfl,by rw [← r.length];exact hl,I2.bk _ _ hC,hN.keeps I2.bk,T.keeps I2.bk,fun h' a hx=>OW I2 hx q⟩
end
end L2
namespace L2
open PySem PySem.Spec PyProof.Rows
structure FnX (P:Program) (w:World) (K:Fg) (mg:Str→Option Value) (base:Heap) (k:Nat) (x:Str) (ps:List Str) (sp:Sp):Prop where
 ex:∃ (f:Addr) (fd:FuncData),FnOk P w K mg base (CX1 P w) k f fd ps sp∧Binds K fd ps []∧PySem.W.keepIn K (.ref f)=true∧mg x=some (.ref f)
def YE (X:Cx) (EE:St→XK):Prop:=∀ (pins:List (11:)) (σ:St) (H:Hp) (s:Shared) (e:Value) (s':Shared),Inv X pins σ H s→CX1 X.prog X.w X.stack H s (EE σ) e s'→X.xe e s'
def Pw (sp:Sp) (EE:St→XK) (t:TA):TE:=fun σ H Q=>t σ H fun vs H1=>sp vs H1 Q (EE σ)
section
variable {X:Cx}
theorem XL {k k':Nat} {x:Str} {ps:List Str} {sp:Sp} {EE:St→XK} {p pos:Pos} {e:Expr} {es:List Expr} {t:TA} (F:FnX X.prog X.w X.K X.mg X.base k x ps sp) (hr:Room k' X.A) (hx:YE X EE) (ha:PA X (e :: es) t) (hk:k≤k':=by decide) (hg:Gl X x:=by rfl)
 (hdb:(x == ("__debug__" : Str))=false:=by decide) (he:starEach (e :: es) X.env=(false,eval e X.env) :: starEach es X.env:=by rfl) (hpl:(backTo pos (starEach es X.env)).any (·.1)=false:=by rfl) :
 PE X (.Call (.Name x p) (e :: es) [] pos) (Pw sp EE t):=by
 obtain ⟨f,fd,h1,h2,h3,h4⟩:=F.ex
 intro pins s σ H Q I h
 refine wpAny_Call_Name_kw (Ye I hg h4 ?_ hdb)
 refine PySem.W.callWith_K (h₀:=X.base) I.ok.mod.kin h3 (thn (ha pos pins s σ H _ I h) fun us s1 ⟨vs,H1,I1,r,q⟩=>⟨I1.kIn,?_⟩) he hpl
 have hl:us.length=ps.length:=by rw [← r.length];exact h1.len _ _ _ _ q
 have hb:=h2 s1 us I1.kIn (by rw [List.append_nil];exact hl)
 rw [List.append_nil] at hb
 refine wpAny_call (codeAny_mono (h1.run X.A X.stack s1 H1 ⟨us,[]⟩ us vs Q (EE σ) (hr.mono hk) I1.env0 hb r q) fun r s' hq=>?_)
 cases r with
 | error e=>exact hx pins σ H1 s1 e s' I1 hq
 | ok fl =>
  cases fl with
  | ret u=>exact I1.after hq
  | next=>exact False.elim hq
  | brk=>exact False.elim hq
  | cont=>exact False.elim hq
end
section
variable {P:Program} {w:World} {K:Fg} {mg:Str→Option Value} {base:Heap} {N:List Str} {qual:Str} {scope:Scope} {f:Addr} {cd:Value} {A:Around} {outer:List Env} {s:Shared} {H:Hp} {E:XK}
theorem YQ {E':XK} (k:∀ cls H',E' cls none H'→E cls none H'):YE (QB (CX1 P w) P w K mg base N qual scope f cd A outer s H E) (fun _=>E'):=fun pins σ H1 s1 e s' I h=>SC k pins σ H1 s1 e s' I h
theorem Fun.okX {x:Str} {st:Stmt} {fd:FuncData} {ps:List Str} {k:Nat} {sp:Sp} (F:Fun K x qual st f fd) (S:FnScope N ps (defScope st)) (len:∀ vs H Q E,sp vs H Q E→vs.length=ps.length)
 (hbody:∀ (cdv:Value) (A:Around) (outer:List Env) (s:Shared) (H:Hp) (vs:List V) (Q:VK) (E:XK),Room k (A.deeper (envOfC qual (defScope st) s.heap.objs.size f cdv))→sp vs H Q E →
  ∃ t,PSs (QB (CX1 P w) P w K mg base N qual (defScope st) f cdv A outer s H E) (defBody st) t∧t { nx:=fun _ H'=>Q .non H',rt:=Q } (YD N vs) H):FnOk P w K mg base (CX1 P w) (k + 1) f fd ps sp:=by
 obtain ⟨oc,od,kV,doc,pm,an,cdv,ct,osl,rfl,lk,hcd⟩:=F.ex
 exact M7 lk hcd S len fun A outer s H vs Q E hr hsp=>hbody cdv A outer s H vs Q E hr hsp
theorem Fun.okXC {x:Str} {st:Stmt} {fd:FuncData} {ps:List Str} {k:Nat} {sp:Sp} {c T:Addr} (F:Fun K x qual st f fd) (hn:PySem.W.nsIn K mainGlobals x=some (some (.ref f))) (hT:PySem.W.tabIn K x=some (c,T)) (S:FnScope N ps (defScope st)) (len:∀ vs H Q E,sp vs H Q E→vs.length=ps.length)
 (hbody:∀ (A:Around) (outer:List Env) (s:Shared) (H:Hp) (vs:List V) (Q:VK) (E:XK),Room k (A.deeper (envOfC qual (defScope st) s.heap.objs.size f (.ref c)))→sp vs H Q E →
  ∃ t,PSs (QB (CX1 P w) P w K mg base N qual (defScope st) f (.ref c) A outer s H E) (defBody st) t∧t { nx:=fun _ H'=>Q .non H',rt:=Q } (YD N vs) H):FnOk P w K mg base (CX1 P w) (k + 1) f fd ps sp:=by
 obtain ⟨oc,od,kV,doc,pm,an,cdv,ct,osl,rfl,lk,hcd⟩:=F.ex
 have e:cdv=.ref c:=NR hn lk hT
 subst e
 exact M7 lk hcd S len fun A outer s H vs Q E hr hsp=>hbody A outer s H vs Q E hr hsp
end
abbrev Cx.pnd (X:Cx) (pins:List (11:)):Cx:={ X with pn:=X.pn ++ pins }
abbrev Cx.tryx (X:Cx) (pins:List (11:)) (EE:St→XK):Cx:={ X with pn:=X.pn ++ pins,xe:=fun e s'=>∃ pins' σ H s,Inv (X.pnd pins) pins' σ H s∧CX1 X.prog X.w X.stack H s (EE σ) e s' }
abbrev Cx.mrk (X:Cx) (a:Addr):Cx:={ X with A:=X.A.mark (some (.ref a)),calm:=false,xe:=fun _ _=>False }
section
variable {X:Cx} {pins:List (11:)} {σ:St} {H:Hp} {s:Shared} {EE:St→XK} {a:Addr}
theorem Inv.toTry (I:Inv X pins σ H s) (EE:St→XK):Inv (X.tryx pins EE) [] σ H s :=
 ⟨(6:),I.os,I.bare,I.base,I.loc,I.cell,I.free,I.freeC,fun p hp=>I.pin p (by simpa using hp),I.hok,I.len⟩
theorem Inv.ofTry {p2:List (11:)} (I:Inv (X.tryx pins EE) p2 σ H s):Inv X pins σ H s :=
 ⟨(6:),I.os,I.bare,I.base,I.loc,I.cell,I.free,I.freeC,fun p hp=>I.pin p (List.mem_append_left _ hp),I.hok,I.len⟩
theorem Inv.ofTryP {p2:List (11:)} (I:Inv (X.tryx pins EE) p2 σ H s):Inv (X.pnd pins) p2 σ H s :=
 ⟨(6:),I.os,I.bare,I.base,I.loc,I.cell,I.free,I.freeC,I.pin,I.hok,I.len⟩
theorem Inv.ofPnd {p2:List (11:)} (I:Inv (X.pnd pins) p2 σ H s):Inv X pins σ H s :=
 ⟨(6:),I.os,I.bare,I.base,I.loc,I.cell,I.free,I.freeC,fun p hp=>I.pin p (List.mem_append_left _ hp),I.hok,I.len⟩
theorem Inv.toMrk (I:Inv X pins σ H s) (a:Addr) (hf:(X.A.mark (some (.ref a))).frames=X.A.frames):Inv (X.mrk a) pins σ H s :=
 ⟨⟨I.ok.mod,I.ok.kind,I.ok.glob,I.ok.blt,I.ok.above,I.ok.inj,I.ok.has,I.ok.cab,fun z=>(nomatch z),hf.trans I.ok.frames,I.ok.stk,I.ok.exf,I.ok.bs,I.ok.bsz,I.ok.noex,I.ok.exfs,I.ok.funs,I.ok.frf⟩,I.os,I.bare,I.base,I.loc,I.cell,I.free,I.freeC,I.pin,I.hok,I.len⟩
theorem Inv.ofMrk (ok:X.Ok) (I:Inv (X.mrk a) pins σ H s):Inv X pins σ H s:=⟨ok,I.os,I.bare,I.base,I.loc,I.cell,I.free,I.freeC,I.pin,I.hok,I.len⟩
theorem SP.ofTry {D:Ends} {fl:Flow} {s':Shared} (h:SP (X.tryx pins EE) [] D fl s'):SP X pins D fl s':=by
 cases fl with
 | next=>obtain ⟨σ',H',I,q⟩:=h;exact ⟨σ',H',I.ofTry,q⟩
 | brk=>obtain ⟨σ',H',I,q⟩:=h;exact ⟨σ',H',I.ofTry,q⟩
 | cont=>obtain ⟨σ',H',I,q⟩:=h;exact ⟨σ',H',I.ofTry,q⟩
 | ret u=>obtain ⟨v,σ',H',I,r,q⟩:=h;exact ⟨v,σ',H',I.ofTry,r,q⟩
theorem SP.ofMrk {D:Ends} {fl:Flow} {s':Shared} (ok:X.Ok) (h:SP (X.mrk a) pins D fl s'):SP X pins D fl s':=by
 cases fl with
 | next=>obtain ⟨σ',H',I,q⟩:=h;exact ⟨σ',H',I.ofMrk ok,q⟩
 | brk=>obtain ⟨σ',H',I,q⟩:=h;exact ⟨σ',H',I.ofMrk ok,q⟩
 | cont=>obtain ⟨σ',H',I,q⟩:=h;exact ⟨σ',H',I.ofMrk ok,q⟩
 | ret u=>obtain ⟨v,σ',H',I,r,q⟩:=h;exact ⟨v,σ',H',I.ofMrk ok,r,q⟩
theorem SB:YE (X.tryx pins EE) EE:=fun p2 σ H s e s' I h=>⟨p2,σ,H,s,I.ofTryP,h⟩
end
end L2
namespace L2
open PySem PySem.Spec PyProof.Rows
def R3 (te:TE):TE:=fun σ H Q=>te σ H fun v H1=>∃ i:Int,v=.int i∧i.natAbs.log2 < 1920∧Q (.str (toString i)) H1
def O7 (t1 t2 t3:TE):TE:=fun σ H Q=>t1 σ H fun v1 H1=>∃ a:Str,v1=.str a∧a.length≤1000∧t2 σ H1 fun v2 H2=>∃ b:Str,v2=.str b∧b.length≤1000∧t3 σ H2 fun v3 H3=>∃ c:Str,v3=.str c∧c.length≤1000∧Q (.str (Str.empty ++ a ++ b ++ c)) H3
def Pi (t1 t2:TE):TE:=fun σ H Q=>t1 σ H fun v1 H1=>∃ a:Str,v1=.str a∧a.length≤1000∧t2 σ H1 fun v2 H2=>∃ b:Str,v2=.str b∧b.length≤1000∧Q (.str (Str.empty ++ a ++ b)) H2
section
variable {X:Cx} {e e1 e2 e3:Expr} {te t1 t2 t3:TE} {pos:Pos}
theorem Xw (he:PE X e te):PE X (.FormattedValue e (-1) none pos) (R3 te):=by
 intro pins s σ H Q I h
 refine PySem.wpAny_FormattedValue_plain (thn (he pins s σ H _ I h) fun u s1 ⟨x,H1,I1,r,i,ex,hd,q⟩=>?_)
 subst ex
 obtain ⟨t,rfl⟩:=r
 exact wpAny_formatField_int hd ⟨.str (toString i),H1,I1.tok _,⟨_,rfl⟩,q⟩
theorem WC (h1:PE X e1 t1) (h2:PE X e2 t2) (h3:PE X e3 t3):PE X (.JoinedStr [e1,e2,e3] pos) (O7 t1 t2 t3):=by
 intro pins s σ H Q I h
 refine wpAny_JoinedStr ?_
 have e0:(Str.empty).length=0:=rfl
 refine thn (h1 pins s σ H _ I h) fun u1 s1 ⟨x1,H1,I1,r1,a,ea,la,q1⟩=>?_
 subst ea
 obtain ⟨ta,rfl⟩:=r1
 refine ⟨a,ta,rfl,Zy (by rw [strLen_append];lia),?_⟩
 refine thn (h2 pins s1 σ H1 _ I1 q1) fun u2 s2 ⟨x2,H2,I2,r2,b,eb,lb,q2⟩=>?_
 subst eb
 obtain ⟨tb,rfl⟩:=r2
 refine ⟨b,tb,rfl,Zy (by rw [strLen_append,strLen_append];lia),?_⟩
 refine thn (h3 pins s2 σ H2 _ I2 q2) fun u3 s3 ⟨x3,H3,I3,r3,c,ec,lc,q3⟩=>?_
 subst ec
 obtain ⟨tc,rfl⟩:=r3
 refine ⟨c,tc,rfl,Zy (by rw [strLen_append,strLen_append,strLen_append];lia),Zy (by rw [strLen_append,strLen_append,strLen_append];lia),?_⟩
 exact ⟨.str (Str.empty ++ a ++ b ++ c),H3,I3.tok _,⟨_,rfl⟩,q3⟩
theorem Lh (h1:PE X e1 t1) (h2:PE X e2 t2):PE X (.JoinedStr [e1,e2] pos) (Pi t1 t2):=by
 intro pins s σ H Q I h
 refine wpAny_JoinedStr ?_
 have e0:(Str.empty).length=0:=rfl
 refine thn (h1 pins s σ H _ I h) fun u1 s1 ⟨x1,H1,I1,r1,a,ea,la,q1⟩=>?_
 subst ea
 obtain ⟨ta,rfl⟩:=r1
 refine ⟨a,ta,rfl,Zy (by rw [strLen_append];lia),?_⟩
 refine thn (h2 pins s1 σ H1 _ I1 q1) fun u2 s2 ⟨x2,H2,I2,r2,b,eb,lb,q2⟩=>?_
 subst eb
 obtain ⟨tb,rfl⟩:=r2
 refine ⟨b,tb,rfl,Zy (by rw [strLen_append,strLen_append];lia),Zy (by rw [strLen_append,strLen_append];lia),?_⟩
 exact ⟨.str (Str.empty ++ a ++ b),H2,I2.tok _,⟨_,rfl⟩,q2⟩
end
end L2
namespace L2
open PySem PySem.Spec PyProof.Rows
def Wx (h:Heap) (H:Hp) (l:List Addr):Heap:=PySem.W.hideAll h (trk h H ++ l)
theorem GC (h:Heap) (H:Hp) (l:List Addr):(Wx h H l).objs.size=h.objs.size:=PySem.W.hideAll_size _ _
theorem WP {h:Heap} {H:Hp} {l:List Addr} {b:Addr} {o:Obj} (e:h.get? b=some o) (n:H b=none) (m:b ∉ l):(Wx h H l).get? b=some o :=
 PySem.W.hideAll_get _ e fun hm=>by
  rcases List.mem_append.mp hm with hm | hm
  ·have q:(H b).isSome=true:=(List.mem_filter.mp hm).2
   rw [n] at q;simp at q
  ·exact m hm
theorem Xp {h:Heap} {H:Hp} {l:List Addr} {b:Addr} {o:Obj} (e:(Wx h H l).get? b=some o):h.get? b=some o∧H b=none∧b ∉ l:=by
 have e':h.get? b=some o:=PySem.W.of_hideAll (trk h H ++ l) e
 have no:∀ m:b ∈ trk h H ++ l,False:=fun m=>by
  have z:(Wx h H l).get? b=none:=PySem.W.hideAll_none (trk h H ++ l) m
  rw [z] at e;cases e
 refine ⟨e',?_,fun m=>no (List.mem_append_right _ m)⟩
 cases q:H b with
 | none=>rfl
 | some x=>exact (no (List.mem_append_left _ (List.mem_filter.mpr ⟨List.mem_range.mpr (Heap.lt_size e'),by simp [q]⟩))).elim
def Sub (g h:Heap):Prop:=∀ b o,g.get? b=some o→h.get? b=some o
theorem Mod.sub {K:Fg} {mg:Str→Option Value} {g h:Heap} (s:Sub g h) (m:Mod K mg g):Mod K mg h :=
 ⟨m.kin.keeps s,m.glob.keeps s,let ⟨mb,hb,q⟩:=m.blt;⟨mb,hb.keeps s,q⟩,m.nolimit.keeps s⟩
theorem Gq {h g base:Heap}:∀ {l:List Env},h.FunFrames base l→(∀ b ∈ frs l,g.get? b=none)→h.FunFrames g l
 | [],_,_=>trivial
 | env :: rest,hf,hn=>by
  obtain ⟨h1,⟨L,o,e1,e2,e3,e4⟩,r⟩:=hf
  refine ⟨h1,⟨L,o,e1,hn L ?_,e3,e4⟩,Gq r fun b hb=>hn b ?_⟩
  ·exact List.mem_filterMap.mpr ⟨env,List.mem_cons_self,e1⟩
  ·obtain ⟨e,he,q⟩:=List.mem_filterMap.mp hb
   exact List.mem_filterMap.mpr ⟨e,List.mem_cons_of_mem _ he,q⟩
theorem Env0.sub {P:Program} {w:World} {K:Fg} {mg:Str→Option Value} {base:Heap} {A:Around} {outer:List Env} {s:Shared} {H:Hp} (e:Env0 P w K mg base A outer s H):Sub base (Wx s.heap H (frs outer)):=fun b o h =>
 WP (e.bs b o h).1 (e.bs b o h).2 fun m=>by
  have:=(e.funs.mem m).1
  rw [h] at this;cases this
theorem Env0.big {P:Program} {w:World} {K:Fg} {mg:Str→Option Value} {base:Heap} {A:Around} {outer:List Env} {s:Shared} {H:Hp} (e:Env0 P w K mg base A outer s H):Env0 P w K mg (Wx s.heap H (frs outer)) A outer s H :=
 ⟨e.frames,e.mod.sub e.sub,fun b o h=>⟨(Xp h).1,(Xp h).2.1⟩,Nat.le_of_eq (GC _ _ _),Gq e.funs fun b hb=>by
  cases q:(Wx s.heap H (frs outer)).get? b with
  | none=>rfl
  | some o=>exact absurd hb (Xp q).2.2,e.frf,e.hok,e.bare⟩
def MZ (X:Cx) (σ:St) (g:Heap):Prop:=∀ (i:Nat) (x:Str) (v:V),X.N[i]?=some x→σ[i]?=some (some v)→X.env.scope.names.lookup x=some .cell→∃ c u,X.env.cells.lookup x=some c∧g.IsCell c (some u)∧RelV v u
section
variable {X:Cx} {pins:List (11:)} {σ:St} {H:Hp} {s:Shared}
theorem Inv.cells (I:Inv X pins σ H s) (hfn:∀ x,X.fn x=true):MZ X σ (Wx s.heap H (frs X.stack)):=by
 intro i x v h1 h2 h3
 obtain ⟨m,hns,hl⟩:=I.loc
 obtain ⟨u,rv,lk⟩:=hl i x v h1 h2 (.inr (.inl h3))
 rcases lk with ⟨k,_⟩ | ⟨_,c,hc,ic⟩
 ·have k':X.env.scope.names.lookup x=some .local:=k
  rw [h3] at k';cases k'
 refine ⟨c,u,hc,?_,rv⟩
 obtain ⟨o,ho,r⟩:=ic
 refine ⟨o,WP ho (I.freeC x c hc) (fun m=>?_),r⟩
 have hge:=I.ok.cab x c (hfn x) hc
 have lt:∀ b ∈ frs X.outer,b < X.s₀.heap.objs.size:=fun b hb=>by
  obtain ⟨_,o',ho',_⟩:=I.ok.funs.mem hb
  exact Heap.lt_size ho'
 rcases I.ok.stk with e | ⟨e,e2⟩
 ·rw [e] at m
  exact absurd (lt c m) (Nat.not_lt.mpr hge)
 ·rw [e] at m
  rcases List.mem_filterMap.mp m with ⟨env,he,hf⟩
  rcases List.mem_cons.mp he with rfl | he
  ·rw [e2] at hf
   obtain rfl:=Option.some.inj hf
   obtain ⟨o2,es,ep,h5,h6,_⟩:=hns
   rw [h5] at ho
   obtain rfl:=Option.some.inj ho
   rw [h6] at r
   cases r
  ·exact absurd (lt c (List.mem_filterMap.mpr ⟨env,he,hf⟩)) (Nat.not_lt.mpr hge)
end
abbrev Uv (qual:Str) (e:Expr) (cl:List (Str × Addr)) (pm:Value) (c:Addr) (ctv:Value):FuncData:=PySem.W.kla_fn "<lambda>" qual (NY e) (Gg e) (QG e) cl pm (.ref c) ctv
structure LamAtC (H:Hp) (f:Addr) (e:Expr) (cl:List (Str × Addr)):Prop where
 ex:∃ qual pm c ctv,H f=some (GO f (Uv qual e cl pm c ctv))∧H c=some (Mv c qual)
theorem LamAtC.same {H H':Hp} {f:Addr} {e:Expr} {cl:List (Str × Addr)} (g:Same H H') (h:LamAtC H f e cl):LamAtC H' f e cl:=by
 obtain ⟨q,pm,c,ctv,h1,h2⟩:=h.ex
 exact ⟨q,pm,c,ctv,g _ _ h1,g _ _ h2⟩
def Rj (T:Addr) (qual:Str) (e:Expr) (cl:List (Str × Addr)):TE:=fun σ H Q=>TbS H T (W9 e) qual∧∀ f H',SameX T H H'→H f=none→LamAtC H' f e cl→TbS H' T (W9 e) qual→Q (.ref f) H'
section
variable {X:Cx}
theorem Nt {cl:List (Str × Addr)} {a:Arguments} {b:Expr} {sc:Scope} {pos:Pos} {c T:Addr} (hcode:X.env.code=.ref c) (hC:PySem.W.codeHdIn X.K c T=true) (hB:XW X.mg X.base) (hcl:closureFor sc X.env=pure cl:=by rfl) (hdef:defaultsOf a X.env=([],[]):=by rfl) :
 PE X (.Lambda a b sc pos) (Rj T (X.env.qual ++ "<lambda>") (.Lambda a b sc pos) cl):=by
 intro pins s σ H Q I h
 obtain ⟨ht,q⟩:=h
 obtain ⟨ps0,hT⟩:=ht.at
 obtain ⟨bm,ob,b1,b2,b3,b4,b5,b6,b7⟩:=hB
 have hbT:bm≠T:=fun z=>by have:=(I.bs _ _ b4).2;rw [z,hT] at this;cases this
 have hg:s.heap.Ns mainGlobals X.mg:=I.mod.glob.keeps I.bk
 have hgT:mainGlobals≠T:=fun z=>by
  obtain ⟨o,es,ep,e,_⟩:=I.mod.glob
  have:=(I.bs _ _ e).2
  rw [z,hT] at this;cases this
 have hb:s.heap.BuiltinsAt X.mg T:=⟨bm,ob,b1,b2,b3,hbT,I.bk _ _ b4,b5,b6,b7⟩
 have hCd:PySem.W.CodeHd s.heap c T:=PySem.W.codeHd_of_K I.kIn hC
 have hLT:X.env.locals≠T:=fun z=>by have:=I.free;rw [z,hT] at this;cases this
 refine PySem.W.kla_eval hdef ?_
 rcases ht with h0 | ⟨c',h0,hc'⟩
 ·have hP:s.heap.get? T=some (PySem.W.tabObj #[]):=I.hok T _ h0
  refine PySem.W.kla_makeFunction (mg:=X.mg) hcl I.ok.glob hg hcode hCd hP trivial rfl hgT hb fun c' ctv h' tk hx hge hlt hrec htb=>?_
  obtain ⟨qual,hqual⟩ : ∃ qual,qual=X.env.qual ++ "<lambda>" := ⟨_,rfl⟩
  rw [← hqual] at hrec ⊢
  have hHc:H c'=none:=I.hok.fresh hge
  have hHf:H h'.objs.size=none:=I.hok.fresh (Nat.le_of_lt (Nat.lt_of_le_of_lt hge hlt))
  have nTc:T≠c':=Qj h0 hHc
  have nTf:T≠h'.objs.size:=Qj h0 hHf
  have ncf:c'≠h'.objs.size:=Nat.ne_of_lt hlt
  obtain ⟨fd,hfd⟩ : ∃ fd:FuncData,fd=Uv qual (.Lambda a b sc pos) cl ((X.mg "__name__").getD .none) c' ctv:=⟨_,rfl⟩
  have hob:PySem.W.kla_obj "<lambda>" qual a b sc cl ((X.mg "__name__").getD .none) c' ctv={ cls:=.type "function", data:=.func fd }:=by rw [hfd];rfl
  rw [hob]
  obtain ⟨ps,hps⟩ : ∃ ps:Array Value,ps=#[rawInt pos.line,rawInt pos.col,.ref c']:=⟨_,rfl⟩
  have htb':h'.get? T=some { cls:=.none,data:=.fields ps }:=by rw [hps];exact htb
  obtain ⟨H',hH'⟩ : ∃ H':Hp,H'=upd (upd (upd H T (.tbl ps)) c' (Mv c' qual)) h'.objs.size (GO h'.objs.size fd):=⟨_,rfl⟩
  have eF:H' h'.objs.size=some (GO h'.objs.size fd):=by rw [hH'];exact Qd
  have eC:H' c'=some (Mv c' qual):=by rw [hH',Ql ncf];exact Qd
  have eT:H' T=some (.tbl ps):=by rw [hH',Ql nTf,Ql nTc];exact Qd
  have eO:∀ x,x≠T→x≠c'→x≠h'.objs.size→H' x=H x:=fun x n1 n2 n3=>by rw [hH',Ql n3,Ql n2,Ql n1]
  have eK:∀ x u,H x=some u→x≠T→H' x=some u:=fun x u e n1=>by rw [eO x n1 (Qj e hHc) (Qj e hHf)];exact e
  have hpush:∀ x o,h'.get? x=some o→(h'.push { cls:=.type "function", data:=.func fd }).get? x=some o:=fun x o e=>Heap.get?_push_of_some _ e
  have J:Inv X pins σ H' { s with heap:=h'.push { cls:=.type "function", data:=.func fd },toks:=tk }:=by
   refine I.step (g':=s.gens) (d':=s.drawn) (ch:=[]) (fun _ z=>nomatch z) (fun x o _ _ _ e n=>?_) (fun x o _ _ _ e n=>?_) (fun x o _ e n=>?_) (fun x o _ e=>?_) (fun x xs e=>?_) (fun x o u e=>?_) (fun x qs e=>?_) (fun m hn=>?_) (fun x o e=>?_) I.bare
   ·exact hpush _ _ (hx _ _ (fun z=>by rw [z,hT] at n;cases n) e)
   ·exact ⟨o.slots,hpush _ _ (hx _ _ (fun z=>by rw [z,hT] at n;cases n) e)⟩
   ·have lx:=Heap.lt_size e
    rw [eO x (fun z=>by rw [z,hT] at n;cases n) (Nat.ne_of_lt (Nat.lt_of_lt_of_le lx hge)) (Nat.ne_of_lt (Nat.lt_trans (Nat.lt_of_lt_of_le lx hge) hlt))]
    exact n
   ·by_cases z:x=T
    ·exact ⟨_,hpush _ _ (z ▸ htb')⟩
    ·exact ⟨o,hpush _ _ (hx _ _ z e)⟩
   ·exact eK x _ e (ne_of e h0 (15:))
   ·exact eK x _ e (ne_of e h0 (15:))
   ·by_cases z:x=T
    ·subst z
     rw [h0] at e
     cases e
     exact ⟨ps,by rw [eT];simp⟩
    ·exact ⟨#[],by rw [eK x _ e z];simp⟩
   ·exact (hn.extBut hx hLT).push _
   ·by_cases z1:x=h'.objs.size
    ·subst z1
     rw [eF] at e
     cases e
     exact Gn (Heap.get?_push_size _ rfl)
    by_cases z2:x=c'
    ·subst z2
     rw [eC] at e
     cases e
     refine Nk ?_
     obtain ⟨c2,oc,vs,tq,z,hoc,r⟩:=hrec
     exact ⟨c2,oc,vs,tq,z,hpush _ _ hoc,r⟩
    by_cases z3:x=T
    ·subst z3
     rw [eT] at e
     cases e
     exact hpush _ _ htb'
    rw [eO x z3 z2 z1] at e
    refine (I.hok x o e).stay (fun y u hy r=>?_) (fun y r=>?_) fun y xs r=>?_
    ·refine hpush _ _ (hx _ _ (fun z=>?_) r)
     rcases hy with hy | hy
     ·exact z3 (hy.symm.trans z)
     ·rw [z,hT] at hy;cases hy
    ·exact eK y _ r (ne_of r h0 (15:))
    ·exact eK y _ r (ne_of r h0 (15:))
  refine ⟨.ref h'.objs.size,H',J,rfl,q h'.objs.size H' (fun x u n e=>eK x u e n) hHf ⟨qual,_,c',ctv,by rw [eF,hfd],eC⟩ ?_⟩
  refine .inr ⟨c',?_,by rw [← hqual];exact eC⟩
  rw [eT,hps];rfl
 ·have hP:s.heap.get? T=some (PySem.W.tabObj #[rawInt pos.line,rawInt pos.col,.ref c']):=I.hok T _ h0
  have hf:codeAmong pos (#[rawInt pos.line,rawInt pos.col,Value.ref c']:Array Value).toList=some (.ref c'):=by
   show (if ((pos.line:Int) == (pos.line:Int) && (pos.col:Int) == (pos.col:Int))=true then some (Value.ref c') else _)=_
   simp
  refine PySem.W.kla_makeFunctionHit (mg:=X.mg) hcl I.ok.glob hg hcode hCd hP trivial hf hb fun ctv h' tk hk hsz=>?_
  obtain ⟨qual,hqual⟩ : ∃ qual,qual=X.env.qual ++ "<lambda>" := ⟨_,rfl⟩
  rw [← hqual]
  have hHf:H h'.objs.size=none:=I.hok.fresh hsz
  refine ⟨.ref h'.objs.size,upd H h'.objs.size (GO h'.objs.size (Uv qual (.Lambda a b sc pos) cl ((X.mg "__name__").getD .none) c' ctv)),I.laid (t':=tk) (fun x o e=>Heap.get?_push_of_some _ (hk _ _ e)) hsz (Gn (Heap.get?_push_size _ rfl)),rfl,?_⟩
  have g:=Qf hHf (GO h'.objs.size (Uv qual (.Lambda a b sc pos) cl ((X.mg "__name__").getD .none) c' ctv))
  refine q h'.objs.size _ (SameX.of g) hHf ⟨qual,_,c',ctv,Qd,g _ _ (by rw [hqual];exact hc')⟩ (.inr ⟨c',g _ _ h0,g _ _ hc'⟩)
end
end L2
namespace L2
open PySem PySem.Spec PyProof.Rows
abbrev Wq (qual:Str) (scope:Scope) (cl:List (Str × Addr)) (L f:Addr) (cd:Value):Env:=newEnv scope L mainGlobals cl (qual ++ Str.ofString ".<locals>.") (some f) cd none builtinsNs
def cxL (CX:CXT) (P:Program) (w:World) (K:Fg) (mg:Str→Option Value) (base:Heap) (N:List Str) (qual:Str) (scope:Scope) (cl:List (Str × Addr)) (f:Addr) (cd:Value) (A:Around) (outer:List Env) (s:Shared) (H:Hp) (E:XK):Cx :=
 { prog:=P,w:=w,K:=K,mg:=mg,base:=base,A:=A.deeper (Wq qual scope cl s.heap.objs.size f cd),N:=N,s₀:=s,H₀:=H,env:=Wq qual scope cl s.heap.objs.size f cd,outer:=outer,stack:=Wq qual scope cl s.heap.objs.size f cd :: outer,ex:=[],fn:=fun _=>false,calm:=true,pn:=[],xe:=fun e s'=>wpAny (model P w) (A.deeper (Wq qual scope cl s.heap.objs.size f cd)) (leaving (Wq qual scope cl s.heap.objs.size f cd) e) (fun _ s''=>CX outer H s E e s'') (fun e' s''=>CX outer H s E e' s'') s' }
structure ClAt (base:Heap) (N:List Str) (cl:List (Str × Addr)) (vs:List V):Prop where
 len:vs.length=N.length
 val:∀ (i:Nat) (x:Str) (v:V),N[i]?=some x→vs[i]?=some v→∃ c u,cl.lookup x=some c∧base.IsCell c (some u)∧RelV v u
 cel:∀ x c,cl.lookup x=some c→∃ u,base.IsCell c u
 inj:∀ x y c,cl.lookup x=some c→cl.lookup y=some c→x=y
theorem ClAt.two {base:Heap} {x1 x2:Str} {c1 c2:Addr} {v1 v2:V} {u1 u2:Value} (hx:x1≠x2) (hc:c1≠c2) (h1:base.IsCell c1 (some u1)) (h2:base.IsCell c2 (some u2)) (r1:RelV v1 u1) (r2:RelV v2 u2):ClAt base [x1,x2] [(x2,c2),(x1,c1)] [v1,v2]:=by
 have l1:List.lookup x1 [(x2,c2),(x1,c1)]=some c1:=by
  rw [List.lookup_cons]
  have:(x1 == x2)=false:=by simpa using hx
  rw [this];simp [List.lookup]
 have l2:List.lookup x2 [(x2,c2),(x1,c1)]=some c2:=by simp [List.lookup]
 have any:∀ x c,List.lookup x [(x2,c2),(x1,c1)]=some c→(x=x2∧c=c2)∨(x=x1∧c=c1):=fun x c h=>by
  by_cases e2:x=x2
  ·subst e2;rw [l2] at h;exact .inl ⟨rfl,(Option.some.inj h).symm⟩
  by_cases e1:x=x1
  ·subst e1;rw [l1] at h;exact .inr ⟨rfl,(Option.some.inj h).symm⟩
  ·have a:(x == x2)=false:=by simpa using e2
   have b:(x == x1)=false:=by simpa using e1
   simp [List.lookup,a,b] at h
 refine ⟨rfl,fun i x v e1 e2=>?_,fun x c h=>?_,fun x y c a b=>?_⟩
 ·match i,e1,e2 with
  | 0,e1,e2=>cases e1;cases e2;exact ⟨c1,u1,l1,h1,r1⟩
  | 1,e1,e2=>cases e1;cases e2;exact ⟨c2,u2,l2,h2,r2⟩
  | i + 2,e1,e2=>cases e1
 ·rcases any x c h with ⟨_,rfl⟩ | ⟨_,rfl⟩
  ·exact ⟨_,h2⟩
  ·exact ⟨_,h1⟩
 ·rcases any x c a with ⟨rfl,rfl⟩ | ⟨rfl,rfl⟩ <;> rcases any y c b with ⟨rfl,e⟩ | ⟨rfl,e⟩
  ·rfl
  ·exact absurd e.symm hc
  ·exact absurd e hc
  ·rfl
section
variable {X:Cx}
end
end L2
namespace L2
open PySem PySem.Spec PyProof.Rows
section
variable {X:Cx}
end
end L2
namespace K3
def ZN:List Nat:=[97,98,99,100,101,102,103,104,105,106,107,108,109,110,111,112,113,114,115,116,117,118,119,120,121,122]
def run (L:List Nat) (t:List Nat):List Nat:=t.takeWhile fun c=>decide (c ∈ L)
def D (n:Nat):List Nat:=(Nat.toDigits 10 n).map Char.toNat
end K3
namespace K3
end K3
namespace L2
open PySem PySem.Spec PyProof.Rows
section
variable {X:Cx} {C:Addr} {k k':Nat} {m:Str} {ps:List Str} {sp:Sp} {o e:Expr} {es:List Expr} {ta:TE} {t:TA} {apos pos:Pos}
end
end L2
namespace K3
open PySem L2
end K3
namespace L2
open PySem PySem.Spec PyProof.Rows
structure MtX (P:Program) (w:World) (K:Fg) (mg:Str→Option Value) (base:Heap) (C:Addr) (k:Nat) (m:Str) (ps:List Str) (sp:Sp):Prop where
 ex:∃ f fd,Meth K C m f∧FnOk P w K mg base (CX1 P w) k f fd ps sp∧Binds K fd ps []
section
variable {X:Cx}
theorem OA {f:Addr} {fd:FuncData} {k:Nat} {ps:List Str} {sp:Heap→Sp} {EE:St→XK} {pins:List (11:)} {σ:St} {H:Hp} {s:Shared} {Q:VK} {us:List Value} {vs:List V} (F:∀ g:Heap,Sub X.base g→FnOk X.prog X.w X.K X.mg g (CX1 X.prog X.w) k f fd ps (sp g)) (hr:Room k X.A) (hb:Binds X.K fd ps []) (hx:YE X EE) (hfn:∀ x,X.fn x=true)
 (I:Inv X pins σ H s) (r:Vals vs us) (h:∀ g:Heap,Sub X.base g→MZ X σ g→sp g vs H Q (EE σ)):wpAny (5:) X.A (call (.ref f) us) (EP X pins σ Q) X.xe s:=by
 have h':=h _ I.env0.sub (I.cells hfn)
 have hl:us.length=ps.length:=by rw [← r.length];exact (F _ I.env0.sub).len _ _ _ _ h'
 have hb':=hb s us I.kIn (by rw [List.append_nil];exact hl)
 rw [List.append_nil] at hb'
 refine wpAny_call (codeAny_mono ((F _ I.env0.sub).run X.A X.stack s H ⟨us,[]⟩ us vs Q (EE σ) hr I.env0.big hb' r h') fun r s' hq=>?_)
 cases r with
 | error e=>exact hx pins σ H s e s' I hq
 | ok fl =>
  cases fl with
  | ret u=>exact I.after hq
  | next=>exact False.elim hq
  | brk=>exact False.elim hq
  | cont=>exact False.elim hq
theorem LY {f:Addr} {fd:FuncData} {k:Nat} {ps:List Str} {sp:Sp} {EE:St→XK} {pins:List (11:)} {σ:St} {H:Hp} {s:Shared} {Q:VK} {us:List Value} {vs:List V} (F:FnOk X.prog X.w X.K X.mg X.base (CX1 X.prog X.w) k f fd ps sp) (hr:Room k X.A) (hb:Binds X.K fd ps []) (hx:YE X EE)
 (I:Inv X pins σ H s) (r:Vals vs us) (h:sp vs H Q (EE σ)):wpAny (5:) X.A (call (.ref f) us) (EP X pins σ Q) X.xe s:=by
 have hl:us.length=ps.length:=by rw [← r.length];exact F.len _ _ _ _ h
 have hb':=hb s us I.kIn (by rw [List.append_nil];exact hl)
 rw [List.append_nil] at hb'
 refine wpAny_call (codeAny_mono (F.run X.A X.stack s H ⟨us,[]⟩ us vs Q (EE σ) hr I.env0 hb' r h) fun r s' hq=>?_)
 cases r with
 | error e=>exact hx pins σ H s e s' I hq
 | ok fl =>
  cases fl with
  | ret u=>exact I.after hq
  | next=>exact False.elim hq
  | brk=>exact False.elim hq
  | cont=>exact False.elim hq
def Pq (C:Addr) (m:Str) (sp:Sp) (EE:St→XK) (ta:TE) (t:TA):TE:=fun σ H Q=>ta σ H fun x H1=>∃ a dx fs,x=.ref a∧H1 a=some (.ins C dx fs)∧fs.lookup m=none∧t σ H1 fun vs H2=>sp (.ref a :: vs) H2 Q (EE σ)
section
variable {C:Addr} {k k':Nat} {m:Str} {ps:List Str} {sp:Sp} {o e:Expr} {es:List Expr} {ta:TE} {t:TA} {apos pos:Pos} {EE:St→XK}
theorem YG {pl:Sem Bool} (M:MtX X.prog X.w X.K X.mg X.base C k m ps sp) (c:Cls X.K C) (hr:Room k' X.A) (hx:YE X EE) (he:PE X o ta) (ha:PA X (e :: es) t) (hk:k≤k':=by decide)
 (hst:starEach (e :: es) X.env=(false,eval e X.env) :: starEach es X.env:=by rfl) (hpl:(backTo pos (starEach es X.env)).any (·.1)=false:=by rfl)
 (ht:eval (.Call (.Attribute o m apos) (e :: es) [] pos) X.env=(do
  let ov ← eval o X.env
  standAt apos.atName
  let (f,first) ← holding [ov] (getMethod ov m pl)
  callWith pos f first (backTo pos (starEach (e :: es) X.env)) (backToKw pos (keywordEach [] X.env))):=by rfl) :
 PE X (.Call (.Attribute o m apos) (e :: es) [] pos) (Pq C m sp EE ta t):=by
 obtain ⟨f,fd,h1,h2,h3⟩:=M.ex
 intro pins s σ H Q I h
 refine PySem.W.methodCall_KW (pl:=pl) (thn (he pins s σ H _ I h) fun u s1 ⟨x,H1,I1,rx,a,dx,fs,ex,ea,l,q⟩=>?_) ht
 subst ex
 obtain rfl:u=Value.ref a:=rx
 refine Jc I1 ea c h1 l ?_
 refine PySem.W.callWith_K (first:=[.ref a]) (h₀:=X.base) I.ok.mod.kin h1.kp (thn (ha pos pins s1 σ H1 _ I1 q) fun us s2 ⟨vs,H2,I2,r,q2⟩=>⟨I2.kIn,?_⟩) hst hpl
 exact LY (us:=.ref a :: us) (vs:=.ref a :: vs) h2 (hr.mono hk) h3 hx I2 (.cons rfl r) q2
end
end
theorem Re {P:Program} {w:World} {K:Fg} {mg:Str→Option Value} {base:Heap} {N:List Str} {qual:Str} {scope:Scope} {cl:List (Str × Addr)} {f:Addr} {cd:Value} {A:Around} {outer:List Env} {s:Shared} {H:Hp} {E:XK}:YE (cxL (CX1 P w) P w K mg base N qual scope cl f cd A outer s H E) (fun _=>E):=by
 intro pins σ H1 s1 e s' I h
 obtain ⟨a,cls,H',rfl,F,q⟩:=h
 obtain ⟨B,t,hfl,cov⟩:=F.fly
 show wpAny (model P w) (A.deeper (Wq qual scope cl s.heap.objs.size f cd)) (leaving (Wq qual scope cl s.heap.objs.size f cd) (.ref a)) _ _ s'
 refine wpAny_leaves_onW I.ok.frames rfl hfl fun h2 hfl2 up=>?_
 have J:=I.flown F.os F.bare F.un F.hok hfl.2.2.1 cov hfl2.1 up
 exact ⟨a,cls,H',rfl,⟨J.os,J.bare,J.base,J.hok,B,t,hfl2,Cov.out I rfl rfl rfl F.un F.hok cov hfl2.1⟩,q⟩
section
variable {X:Cx}
end
end L2
namespace L2
open PySem PySem.Spec PyProof.Rows
def MO (P:Program) (w:World) (K:Fg) (mg:Str→Option Value) (base:Heap) (k:Nat) (e:Expr) (cl:List (Str × Addr)) (sp:Sp):Prop :=
 ∀ (f:Addr) (A:Around) (outer:List Env) (s:Shared) (H:Hp) (us:List Value) (vs:List V) (Q:VK) (E:XK),Room k A→Env0 P w K mg base A outer s H→LamAtC H f e cl→Vals vs us→sp vs H Q E →
  codeAny (model P w) A (.call (.ref f) ⟨us,[]⟩) (CR (CX1 P w) outer P w H s Q E) s
theorem GT {P:Program} {w:World} {K:Fg} {mg:Str→Option Value} {base:Heap} {k:Nat} {e:Expr} {cl:List (Str × Addr)} {N:List Str} {vs:List V} {sp:Sp} {x:Str} (hk:(QG e).kind=ScopeKind.function) (hco:(QG e).isCoroutine=false) (hge:(QG e).isGenerator=false) (hfree:∀ y ∈ (QG e).names,y.2≠NameKind.cell)
 (hloc:∀ y,(QG e).names.lookup y=some .local→y=x) (hx:(QG e).names.lookup x=some .local) (hxN:x ∉ N)
 (hN:∀ x,(QG e).names.lookup x=some .free→∃ c,cl.lookup x=some c) (hC:ClAt base N cl vs) (len:∀ vs H Q E,sp vs H Q E→vs.length=1)
 (hbind:∀ (qual:Str) (pm:Value) (c:Addr) (ctv u:Value),bindArgs (Uv qual e cl pm c ctv) ⟨[u],[]⟩=pure [(x,u)])
 (hbody:∀ (qual:Str) (f c:Addr) (A:Around) (outer:List Env) (s:Shared) (H:Hp) (v:V) (Q:VK) (E:XK),Room k (A.deeper (Wq qual (QG e) cl s.heap.objs.size f (.ref c)))→sp [v] H Q E →
  ∃ t,PE (cxL (CX1 P w) P w K mg base (x :: N) qual (QG e) cl f (.ref c) A outer s H E) (Gg e) t∧t (some v :: vs.map some) H Q):MO P w K mg base (k + 1) e cl sp:=by
 intro f A outer s H us ws Q E hr e0 hL r hsp
 obtain ⟨qual,pm,c,ctv,hf,hc⟩:=hL.ex
 obtain ⟨v,rfl⟩ : ∃ v,ws=[v]:=List.length_eq_one_iff.mp (len _ _ _ _ hsp)
 obtain ⟨u,rfl,rv⟩:=r.one
 have hfo:s.heap.get? f=some { cls:=.type "function", data:=.func (Uv qual e cl pm c ctv) }:=(e0.hok f _ hf).1
 have hrec:s.heap.CodeRec (.ref c) qual:=(e0.hok c _ hc).1
 have lim:s.heap.NoLimit:=e0.mod.nolimit.keeps fun b o e=>(e0.bs b o e).1
 refine PySem.W.kla_callFunE hr.depth hfo rfl hco hge rfl hrec ?_
 rw [hbind qual pm c ctv u]
 refine wpAny_pure ?_
 refine wpAny_newFunctionEnv hfree (fun y hy=>by
  have ey:y=(x,u):=by simpa using hy
  rw [ey];exact hx) (fun h1 hns hsb=>?_) hk
 have keep:∀ b o,s.heap.get? b=some o→h1.get? b=some o:=fun b o e=>(hsb.2 b (Nat.ne_of_lt (Heap.lt_size e))).trans (Heap.get?_push_of_some _ e)
 refine ⟨lim.keeps keep,PySem.W.kla_codeExpr ?_⟩
 obtain ⟨t,ht,hq⟩:=hbody qual f c A outer s H v Q E (hr.deeper _) hsp
 have inb:∀ {x:Str} {cc:Addr} {u:Option Value},base.IsCell cc u→h1.IsCell cc u∧H cc=none∧cc < s.heap.objs.size:=fun {x cc u} ⟨o,ho,r⟩=>⟨⟨o,keep _ _ (e0.bs _ _ ho).1,r⟩,(e0.bs _ _ ho).2,Heap.lt_size (e0.bs _ _ ho).1⟩
 have noA:∀ b:Addr,b ∉ (cxL (CX1 P w) P w K mg base (x :: N) qual (QG e) cl f (.ref c) A outer s H E).ex:=fun b z=>absurd (show b ∈ ([]:List Addr) from z) (by simp)
 have I:Inv (cxL (CX1 P w) P w K mg base (x :: N) qual (QG e) cl f (.ref c) A outer s H E) [] (some v :: vs.map some) H { s with heap:=h1,toks:=s.toks + 1 }:=by
  refine ⟨⟨e0.mod,hk,rfl,rfl,Nat.le_refl _,fun y z cc h1 h2=>hC.inj y z cc h1 h2,fun y hy=>?_,fun y cc h _=>?_,fun _=>hr.hd,Around.frames_deeper e0.frames,.inr ⟨rfl,rfl⟩,fun b z=>absurd z (noA b),e0.bs,e0.bsz,fun b _ _=>noA b,fun b z=>absurd z (noA b),e0.funs,e0.frf⟩,rfl,e0.bare,Un.kept keep,⟨_,hns,fun i y v' h1 h2 h3=>?_⟩,fun y cc h=>?_,e0.hok.fresh (8:),fun y cc h=>?_,fun p hp=>absurd (show p ∈ ([]:List (11:)) from hp) (by simp),e0.hok.kept keep,?_⟩
  ·have hy:(QG e).names.lookup y=some .cell∨(QG e).names.lookup y=some .free:=hy
   rcases hy with hy | hy
   ·exact absurd rfl (hfree _ (PySem.mem_of_lookup hy))
   ·exact hN y hy
  ·cases h
  ·cases i with
   | zero =>
    have h1:(x :: N)[0]?=some y:=h1
    have ey:x=y:=by simpa using h1
    have ev:v=v':=by simpa using h2
    subst ey
    rw [← ev]
    exact ⟨u,rv,.inl ⟨hx,by simp [List.lookup]⟩⟩
   | succ i =>
    have h1:(x :: N)[i + 1]?=some y:=h1
    have h1:N[i]?=some y:=by simpa using h1
    have hv:vs[i]?=some v':=by
     have h2:(vs.map some)[i]?=some (some v'):=by simpa using h2
     rw [List.getElem?_map] at h2
     cases q:vs[i]? with
     | none=>rw [q] at h2;cases h2
     | some a=>rw [q] at h2;cases h2;rfl
    obtain ⟨cc,u,e1,e2,e3⟩:=hC.val i y v' h1 hv
    have h3:(QG e).names.lookup y=some .local∨(QG e).names.lookup y=some .cell∨(QG e).names.lookup y=some .free:=h3
    rcases h3 with k | k | k
    ·exact absurd (List.mem_of_getElem? h1) (by rw [hloc y k];exact hxN)
    ·exact absurd rfl (hfree _ (PySem.mem_of_lookup k))
    ·exact ⟨u,e3,.inr ⟨.inr k,cc,e1,(inb (x:=y) e2).1⟩⟩
  ·obtain ⟨u,hu⟩:=hC.cel y cc h
   exact ⟨u,(inb (x:=y) hu).1⟩
  ·obtain ⟨u,hu⟩:=hC.cel y cc h
   exact (inb (x:=y) hu).2.1
  ·rw [List.length_cons,List.length_map,hC.len];rfl
 refine wpAny_mono (ht [] _ (some v :: vs.map some) H _ I hq) (fun u s' hs=>?_) fun e s' hs=>hs
 obtain ⟨v,H',J,rv,q⟩:=hs
 exact ⟨v,H',J.os,J.bare,J.base,J.hok,rv,q⟩
def Ny (i:Nat) (e:Expr) (cl:List (Str × Addr)) (sp:Sp) (EE:St→XK) (t:TA):TE:=fun σ H Q=>∃ f,σ[i]?=some (some (.ref f))∧t σ H fun vs H1=>LamAtC H1 f e cl∧sp vs H1 Q (EE σ)
section
variable {X:Cx}
theorem G2 {i:Nat} {x:Str} {e a:Expr} {cl:List (Str × Addr)} {as:List Expr} {t:TA} {sp:Sp} {k:Nat} {p pos:Pos} {EE:St→XK} (C:MO X.prog X.w X.K X.mg X.base k e cl sp) (hr:Room k X.A) (hx:YE X EE) (ha:PA X (a :: as) t) (hN:X.N[i]?=some x:=by rfl) (hv:Vis X.env.scope x:=by first | exact Or.inl rfl | exact Or.inr (12:) | exact Or.inr (Or.inr rfl))
 (hd:(x == ("__debug__" : Str))=false:=by decide) (hcd:(x == ("__classdict__" : Str))=false:=by decide) (he:starEach (a :: as) X.env=(false,eval a X.env) :: starEach as X.env:=by rfl) (hpl:(backTo pos (starEach as X.env)).any (·.1)=false:=by rfl) :
 PE X (.Call (.Name x p) (a :: as) [] pos) (Ny i e cl sp EE t):=by
 intro pins s σ H Q I h
 obtain ⟨f,hs,h⟩:=h
 refine wpAny_Call_Name_kw (thn (ML (pos:=p) hN hv hd hcd pins s σ H (fun v H1=>v=.ref f∧H1=H) I ⟨.ref f,hs,rfl,rfl⟩) fun u s1 ⟨v,H1,I1,r1,ev,eH⟩=>?_)
 subst ev eH
 obtain rfl:u=Value.ref f:=r1
 have hw:wpAny (5:) X.A (spliced (backTo pos (starEach (a :: as) X.env))) (fun vs s₁=>(∃ fd,s₁.heap.get? f=some { cls:=.type "function", data:=.func fd })∧wpAny (5:) X.A (call (.ref f) ([] ++ vs)) (EP X pins σ Q) X.xe s₁) X.xe s1:=by
  refine thn (ha pos pins s1 σ H1 _ I1 h) fun us s2 ⟨vs,H2,I2,r2,hL,q2⟩=>⟨?_,?_⟩
  ·obtain ⟨qual,pm,c,ctv,hf,hc⟩:=hL.ex
   exact ⟨_,(I2.hok f _ hf).1⟩
  ·refine wpAny_call (codeAny_mono (C f X.A X.stack s2 H2 us vs Q (EE σ) hr I2.env0 hL r2 q2) fun r s' hq=>?_)
   cases r with
   | error e=>exact hx pins σ H2 s2 e s' I2 hq
   | ok fl =>
    cases fl with
    | ret u=>exact I2.after hq
    | next=>exact False.elim hq
    | brk=>exact False.elim hq
    | cont=>exact False.elim hq
 rw [he] at hw ⊢
 exact PySem.W.callWith_of (P:=fun h=>∃ fd,h.get? f=some { cls:=.type "function", data:=.func fd }) (by show ((false || (backTo pos (starEach as X.env)).any (·.1)) || false)=false;rw [hpl];rfl)
  (fun h ⟨fd,hf⟩=>⟨.frame,.inl rfl,(PySem.W.Looks.ld (part:=none) hf).andThen .now⟩) (PySem.Calls.evalArgs_plain hw)
def N6 (X:Cx) (sp:Heap→Sp) (EE:St→XK) (t:TA):TE:=fun σ H Q=>t σ H fun vs H2=>∀ g:Heap,Sub X.base g→MZ X σ g→sp g vs H2 Q (EE σ)
theorem Nz {x:Str} {p pos:Pos} {e:Expr} {es:List Expr} {f:Addr} {fd:FuncData} {k:Nat} {ps:List Str} {sp:Heap→Sp} {t:TA} {EE:St→XK} (F:∀ g:Heap,Sub X.base g→FnOk X.prog X.w X.K X.mg g (CX1 X.prog X.w) k f fd ps (sp g)) (hr:Room k X.A) (hm:X.mg x=some (.ref f)) (hk:PySem.W.keepIn X.K (.ref f)=true) (hb:Binds X.K fd ps []) (hx:YE X EE) (hfn:∀ x,X.fn x=true) (ha:PA X (e :: es) t) (hg:Gl X x:=by rfl)
 (hdb:(x == ("__debug__" : Str))=false:=by decide) (he:starEach (e :: es) X.env=(false,eval e X.env) :: starEach es X.env:=by rfl) (hpl:(backTo pos (starEach es X.env)).any (·.1)=false:=by rfl) :
 PE X (.Call (.Name x p) (e :: es) [] pos) (N6 X sp EE t):=by
 intro pins s σ H Q I h
 refine wpAny_Call_Name_kw (Ye I hg hm ?_ hdb)
 refine PySem.W.callWith_K (h₀:=X.base) I.ok.mod.kin hk (thn (ha pos pins s σ H _ I h) fun us s1 ⟨vs,H1,I1,r,q⟩=>⟨I1.kIn,?_⟩) he hpl
 exact OA F hr hb hx hfn I1 r q
end
end L2
namespace L2
open PySem PySem.Spec PyProof.Rows
theorem MU {e:Value} {env env':Env} (h:env.frame=env'.frame):noteFrame e env=noteFrame e env':=by
 unfold noteFrame PySem.frameOf
 rw [h]
section
variable {M:Model} {A:Around} {E:Value→Shared→Prop} {s:Shared}
theorem Vu {base:Heap} {l:List Env} {e:Addr} {cls a0 fl:Value} {fr:Option Addr} {Q:Unit→Shared→Prop} (st:base.StaysIn s.heap) (ff:s.heap.FunFrames base l) (tr:s.heap.TracedAtW base e cls a0 fl)
 (k:∀ h2,base.StaysIn h2→h2.FunFrames base l→h2.TracedAtW base e cls a0 (fr.elim Value.none fun f=>rawInt f)→s.heap.UpToSlots h2→Q () { s with heap:=h2 }):wpAny M A (setFlight (.ref e) fr) Q E s:=by
 obtain ⟨ox,xs,t,ot,ys,ex,cx,dx,x1,nt,ne,et,dt,y3⟩:=tr
 have y4:3 < ys.size:=(Array.getElem?_eq_some_iff.mp y3).1
 have oth:∀ b,b≠t→(s.heap.update t (Obj.mapFields (·.setIfInBounds 3 (fr.elim Value.none fun f=>rawInt f)))).get? b=s.heap.get? b:=fun b hb=>Heap.get?_update_other _ _ (Ne.symm hb)
 have nr:∀ b o,s.heap.get? b=some o→(∀ vs,o.data≠.fields vs)→b≠t:=fun b o e1 e2 z=>by
  rw [z,et] at e1
  cases e1
  exact e2 ys dt
 unfold setFlight
 refine wpAny_bind (wpAny_field ex dx x1 ?_)
 have pos:(Value.ref t != Value.none)=true:=by simp
 rw [if_pos pos]
 refine wpAny_setField et dt y4 (k _ (fun b o e1=>?_) (ff.of_keeps fun b o e1 e2=>⟨o,(oth b (nr b o e1 e2)).trans e1,rfl⟩) ?_ fun b o e1 e2=>⟨o.slots,(oth b (nr b o e1 e2)).trans e1⟩)
 ·refine (oth b fun z=>?_).trans (st b o e1)
  rw [z,nt] at e1
  cases e1
 ·exact ⟨ox,xs,t,_,_,(oth e (Ne.symm ne)).trans ex,cx,dx,x1,nt,ne,Heap.get?_update_self _ et (Obj.isFreed_of_fields (Obj.data_mapFields dt _)),Obj.data_mapFields dt _,by simp [y4]⟩
theorem Vw {base:Heap} {env:Env} {outer:List Env} {L e:Addr} {cls a0:Value} {fr:Option Addr} {Q:Unit→Shared→Prop} (hA:A.frames=some (env :: outer)) (hL:env.frame=some L) (st:base.StaysIn s.heap) (hn:base.get? e=none) (ff:s.heap.FunFrames base (env :: outer))
 (tr:s.heap.TracedAtW base e cls a0 (fr.elim Value.none fun f=>rawInt f)) (k:∀ h2,Heap.FlyingW base outer e cls a0 h2→s.heap.UpToSlots h2→Q () { s with heap:=h2 }):wpAny M A (leaving env (.ref e)) Q E s:=by
 cases fr with
 | none=>exact wpAny_leaves_onW hA hL ⟨st,hn,ff,tr⟩ fun h2 f2 up=>k h2 f2 up
 | some L2 =>
  have tr:s.heap.TracedAtW base e cls a0 (rawInt L2):=tr
  by_cases z:L2=L
  ·subst z
   unfold leaving
   refine wpAny_bind (wpAny_noteFrame_againW hL tr ?_)
   refine wpAny_landsW ⟨st,hn,ff,tr⟩ fun h2 fl up=>?_
   obtain ⟨k1,k2,⟨_,_,k3⟩,k4⟩:=fl
   exact k h2 ⟨k1,k2,k3,k4⟩ up
  ·obtain ⟨ox,xs,t,ot,ys,ex,cx,dx,x1,nt,ne,et,dt,y3⟩:=tr
   have y4:3 < ys.size:=(Array.getElem?_eq_some_iff.mp y3).1
   obtain ⟨rfl,x0⟩:=cx
   unfold leaving
   refine wpAny_bind ?_
   unfold noteFrame
   simp only [hL]
   refine wpAny_bind (wpAny_field ex dx x1 ?_)
   have pos:(Value.ref t != Value.none)=true:=by simp
   rw [if_pos pos]
   refine wpAny_bind (wpAny_field et dt y3 ?_)
   have neg:¬ (rawInt L2 == rawInt L)=true:=fun hh=>by
    simp [rawInt] at hh
    exact z (Int.ofNat.inj hh)
   rw [if_neg neg]
   have oth:∀ b,b≠t→(s.heap.update t (Obj.mapFields (·.setIfInBounds 3 Value.none))).get? b=s.heap.get? b:=fun b hb=>Heap.get?_update_other _ _ (Ne.symm hb)
   have nr:∀ b o,s.heap.get? b=some o→(∀ vs,o.data≠.fields vs)→b≠t:=fun b o e1 e2 q=>by
    rw [q,et] at e1
    cases e1
    exact e2 ys dt
   refine wpAny_bind (wpAny_setField et dt y4 ?_)
   refine wpAny_entryW hA (ff.of_keeps fun b o e1 e2=>⟨o,(oth b (nr b o e1 e2)).trans e1,rfl⟩) hL ((oth e (Ne.symm ne)).trans ex) (fun b o e1=>?_) hn dx (Array.getElem?_eq_some_iff.mp x1).1 x0 fun h2 nn=>?_
   ·refine (oth b fun q=>?_).trans (st b o e1)
    rw [q,nt] at e1
    cases e1
   ·obtain ⟨n1,n2,n3,n4⟩:=nn
    refine wpAny_landsW ⟨n1,hn,n2,n3⟩ fun h3 fl up=>?_
    obtain ⟨k1,k2,⟨_,_,k3⟩,k4⟩:=fl
    have u2:s.heap.UpToSlots h2:=fun b o e1 e2=>n4 b o ((oth b (nr b o e1 e2)).trans e1) e2
    exact k h3 ⟨k1,k2,k3,k4⟩ (u2.trans up)
end
theorem N8 {fs ex:List Addr} {H H':Hp} {h h1 h2 B:Heap} (u:Un fs ex H H' h h1) (cov:∀ b o,h1.get? b=some o→(H' b≠none∨(b ∉ ex∧∃ o',h.get? b=some o'))→b ∉ fs→B.get? b=some o) (st:B.StaysIn h2) (up:h1.UpToSlots h2) (hfs:∀ b ∈ fs,∀ o,h1.get? b=some o→∀ vs,o.data≠.fields vs):Un fs ex H H' h h2 where
 keep:=fun b o e n hb hx=>st _ _ (cov b o (u.keep b o e n hb hx) (.inr ⟨hx,o,e⟩) hb)
 slot:=fun b o e n hb hx=>by
  obtain ⟨sl,e1⟩:=u.slot b o e n hb hx
  obtain ⟨sl2,e2⟩:=up b _ e1 (hfs b hb _ e1)
  exact ⟨sl2,e2⟩
 free:=u.free
 there:=fun b o e hx=>by
  obtain ⟨o1,e1⟩:=u.there b o e hx
  by_cases hb:b ∈ fs
  ·obtain ⟨sl2,e2⟩:=up b _ e1 (hfs b hb _ e1)
   exact ⟨_,e2⟩
  ·exact ⟨o1,st _ _ (cov b o1 e1 (.inr ⟨hx,o,e⟩) hb)⟩
 tups:=u.tups
 frzs:=u.frzs
 tbls:=u.tbls
theorem UM {h B B':Heap} (k:∀ b,B.get? b=none→B'.get? b=none):∀ {l:List Env},h.FunFrames B l→h.FunFrames B' l
 | [],_=>trivial
 | _ :: _,⟨a,⟨L,o,b1,b2,b3,b4⟩,c⟩=>⟨a,⟨L,o,b1,k _ b2,b3,b4⟩,UM k c⟩
theorem UL {h h' B:Heap}:∀ {l:List Env},(∀ b ∈ frs l,h'.get? b=h.get? b)→h.FunFrames B l→h'.FunFrames B l
 | [],_,_=>trivial
 | env :: r,k,⟨a,⟨L,o,b1,b2,b3,b4⟩,c⟩=>by
  have e:frs (env :: r)=L :: frs r:=by
   unfold frs
   rw [List.filterMap_cons,b1]
  refine ⟨a,⟨L,o,b1,b2,(k L (by rw [e];exact List.mem_cons_self)).trans b3,b4⟩,UL (fun b hb=>k b (by rw [e];exact List.mem_cons_of_mem _ hb)) c⟩
theorem MP {P:Program} {w:World} {fs:List Addr} {H':Hp} {h1 h2 B:Heap} (hok:HOk P w H' h1) (trk:∀ b ∈ fs,H' b=none) (cov:∀ b o,h1.get? b=some o→H' b≠none→b ∉ fs→B.get? b=some o) (st:B.StaysIn h2):HOk P w H' h2:=fun b u e=>by
 refine (hok b u e).stay (fun c v hc r=>?_) (fun _ r=>r) fun _ _ r=>r
 have hne:H' c≠none:=by
  rcases hc with rfl | hc
  ·rw [e];intro z;cases z
  ·rw [hc];intro z;cases z
 exact st _ _ (cov c v r hne fun z=>hne (trk c z))
def Yg (X:Cx) (N':List Str) (scope:Scope) (cl:List (Str × Addr)) (E:XK) (C:Addr) (fp:List Addr) (s₀:Shared) (H₀:Hp):Cx :=
 { QE X N' scope cl C fp s₀ H₀ with xe:=fun e s'=>∃ pins σ H s,Inv (QE X N' scope cl C fp s₀ H₀) pins σ H s∧CX1 X.prog X.w X.stack H s E e s' }
section
variable {X:Cx} {N':List Str} {scope:Scope} {cl:List (Str × Addr)} {E:XK} {C:Addr} {fp:List Addr} {s₀:Shared} {H₀:Hp} {pins:List (11:)} {σ:St} {H:Hp} {s:Shared}
theorem Inv.toXE (I:Inv (QE X N' scope cl C fp s₀ H₀) pins σ H s):Inv (Yg X N' scope cl E C fp s₀ H₀) pins σ H s :=
 ⟨(6:),I.os,I.bare,I.base,I.loc,I.cell,I.free,I.freeC,I.pin,I.hok,I.len⟩
theorem Inv.ofXE (I:Inv (Yg X N' scope cl E C fp s₀ H₀) pins σ H s):Inv (QE X N' scope cl C fp s₀ H₀) pins σ H s :=
 ⟨(6:),I.os,I.bare,I.base,I.loc,I.cell,I.free,I.freeC,I.pin,I.hok,I.len⟩
theorem OG:YE (Yg X N' scope cl E C fp s₀ H₀) (fun _=>E):=fun p2 σ H s e s' I h=>⟨p2,σ,H,s,I.ofXE,h⟩
end
def NW (X:Cx) (E:XK):Prop:=∀ {N':List Str} {scope:Scope} {cl:List (Str × Addr)} {fp:List Addr} {s3:Shared} {H3:Hp} {pins:List (11:)} {σ:St} {use:Option (Value→Sem Unit)} {QQ:Value→Shared→Prop} {D:Value},Inv X pins σ H3 s3 →
 (∀ b ∈ fp,(b ∈ X.ex∨X.s₀.heap.objs.size≤b)∧b≠X.env.locals∧(∀ x c,X.env.cells.lookup x=some c→c≠b)∧∀ p ∈ X.pn ++ pins,p.1≠b)→∀ {e:Value} {s':Shared},(Yg X N' scope cl E s3.heap.objs.size fp s3 H3).xe e s' →
  notedBy (5:) X.A (compEnvC scope cl s3.heap.objs.size X.env) (fun x s'=>compPost (5:) X.A X.xe use QQ D s3.heap.objs.size (.error x) s') e s'
section
variable {P:Program} {w:World} {K:Fg} {mg:Str→Option Value} {base:Heap} {N:List Str} {qual:Str} {scp:Scope} {f:Addr} {cd:Value} {A:Around} {outer:List Env} {s:Shared} {H:Hp} {E:XK}
theorem Lz {N':List Str} {scope:Scope} {cl:List (Str × Addr)} {fp:List Addr} {s3:Shared} {H3:Hp} {pins:List (11:)} {σ:St} {use:Option (Value→Sem Unit)} {QQ:Value→Shared→Prop} {D:Value}
 (I3:Inv (QB (CX1 P w) P w K mg base N qual scp f cd A outer s H E) pins σ H3 s3) (hch:∀ b ∈ fp,(b ∈ (QB (CX1 P w) P w K mg base N qual scp f cd A outer s H E).ex∨s.heap.objs.size≤b)∧b≠(QB (CX1 P w) P w K mg base N qual scp f cd A outer s H E).env.locals∧(∀ x c,(QB (CX1 P w) P w K mg base N qual scp f cd A outer s H E).env.cells.lookup x=some c→c≠b)∧∀ p ∈ (QB (CX1 P w) P w K mg base N qual scp f cd A outer s H E).pn ++ pins,p.1≠b)
 {e:Value} {s':Shared} (h:(Yg (QB (CX1 P w) P w K mg base N qual scp f cd A outer s H E) N' scope cl E s3.heap.objs.size fp s3 H3).xe e s') :
 notedBy (model P w) (QB (CX1 P w) P w K mg base N qual scp f cd A outer s H E).A (compEnvC scope cl s3.heap.objs.size (QB (CX1 P w) P w K mg base N qual scp f cd A outer s H E).env)
  (fun x s'=>compPost (model P w) (QB (CX1 P w) P w K mg base N qual scp f cd A outer s H E).A (QB (CX1 P w) P w K mg base N qual scp f cd A outer s H E).xe use QQ D s3.heap.objs.size (.error x) s') e s':=by
 obtain ⟨p2,σ1,H1,s1,I1,a,cls,H',rfl,F0,q⟩:=h
 obtain ⟨B,t,hfl0,cov0⟩:=F0.fly
 generalize hX:QB (CX1 P w) P w K mg base N qual scp f cd A outer s H E=X at I3 hch I1
 have hstk:X.stack=X.env :: X.outer:=by rw [← hX];rfl
 have hfr:X.env.frame=some X.env.locals:=by rw [← hX];rfl
 have hP:X.prog=P:=by rw [← hX];rfl
 have hW:X.w=w:=by rw [← hX];rfl
 have hS0:X.s₀=s:=by rw [← hX];rfl
 have hex:X.ex=[]:=by rw [← hX];rfl
 have hout:X.outer=outer:=by rw [← hX];rfl
 have hH0:X.H₀=H:=by rw [← hX];rfl
 have hxe:X.xe=fun e s'=>wpAny (model P w) X.A (leaving X.env e) (fun _ s''=>CX1 P w outer H s E e s'') (fun e' s''=>CX1 P w outer H s E e' s'') s':=by rw [← hX];rfl
 have hstk':(envOfC qual scp s.heap.objs.size f cd :: outer)=X.stack:=by rw [← hX];rfl
 have F:Flw P w X.stack H1 s1 a cls H' s':=by rw [← hX];exact F0
 have hfl:Heap.FlyingW B X.stack a cls (.ref t) s'.heap:=by rw [← hX];exact hfl0
 have cov:Cov B (frs X.stack) H' s1.heap s'.heap:=by rw [← hX];exact cov0
 clear F0 hfl0 cov0
 subst hP hW
 clear hX
 show wpAny _ X.A (noteFrame (.ref a) (compEnvC scope cl s3.heap.objs.size X.env)) _ _ s'
 rw [MU (env:=compEnvC scope cl s3.heap.objs.size X.env) (env':=X.env) rfl]
 refine wpAny_looks_onW (by rw [← hstk];exact I3.ok.frames) hfr (by rw [← hstk];exact hfl) fun h4 held up4=>?_
 rw [← hstk] at held
 have J4:=I1.flown F.os F.bare F.un F.hok hfl.2.2.1 cov held.1 up4
 obtain ⟨m,hn,_⟩:=id J4.loc
 have hn:h4.Ns s3.heap.objs.size m:=hn
 refine ⟨m,hn,fun h5 sb cenv hcl=>?_⟩
 have nC:∀ b o,s3.heap.get? b=some o→b≠s3.heap.objs.size:=fun b o e1=>Nat.ne_of_lt (Heap.lt_size e1)
 have nF:∀ b ∈ frs X.stack,b≠s3.heap.objs.size:=fun b hb=>by
  obtain ⟨_,o,ho,_⟩:=I3.stack.mem hb
  exact nC b o ho
 have free:H' s3.heap.objs.size=none:=J4.free
 have un4:Un (frs X.stack) fp H3 H' s3.heap h4:=J4.base
 have un5:Un (frs X.stack) fp H3 H' s3.heap h5:=⟨fun b o e1 n1 n2 n3=>(sb.2 b (nC b o e1)).trans (un4.keep b o e1 n1 n2 n3),fun b o e1 n1 n2 n3=>by
  obtain ⟨sl,z⟩:=un4.slot b o e1 n1 n2 n3
  exact ⟨sl,(sb.2 b (nC b o e1)).trans z⟩,un4.free,fun b o e1 n1=>by
  obtain ⟨o',z⟩:=un4.there b o e1 n1
  exact ⟨o',(sb.2 b (nC b o e1)).trans z⟩,un4.tups,un4.frzs,un4.tbls⟩
 have I6:Inv X pins σ H' { s' with heap:=h4 }:=I3.call' (s':={ s' with heap:=h4 }) (ch:=fp) J4.os un4 J4.hok J4.bare (fun b hb=>by rw [hS0];exact hch b hb)
 have own:OwnAt X pins H' { s' with heap:=h4 } s3.heap.objs.size:=⟨⟨m,hn⟩,free,Nat.ne_of_gt I3.lt,I3.sz,fun y c e1 z=>by
  obtain ⟨v,hv⟩:=I3.cell y c e1
  exact absurd hv.lt (by rw [z];exact Nat.lt_irrefl _),fun p hp z=>absurd (Heap.lt_size (I3.pin p hp).1) (by rw [z];exact Nat.lt_irrefl _)⟩
 have I7:Inv X pins σ H' { s' with heap:=h5 }:=OwnAt.go (s:={ s' with heap:=h4 }) I6 own sb
 have hB':∀ b o,B.get? b=some o→b≠s3.heap.objs.size→(PySem.W.hideAll B [s3.heap.objs.size]).get? b=some o:=fun b o e1 n1=>PySem.W.hideAll_get _ e1 (by simpa using n1)
 have nB':∀ b,B.get? b=none→(PySem.W.hideAll B [s3.heap.objs.size]).get? b=none:=fun b e1=>by
  cases z:(PySem.W.hideAll B [s3.heap.objs.size]).get? b with
  | none=>rfl
  | some o=>rw [PySem.W.of_hideAll _ z] at e1;cases e1
 have cB':(PySem.W.hideAll B [s3.heap.objs.size]).get? s3.heap.objs.size=none:=PySem.W.hideAll_none _ (by simp)
 have st5:(PySem.W.hideAll B [s3.heap.objs.size]).StaysIn h5:=fun b o e1=>by
  have nb:b≠s3.heap.objs.size:=fun z=>by rw [z,cB'] at e1;cases e1
  exact (sb.2 b nb).trans (held.1 b o (PySem.W.of_hideAll _ e1))
 obtain ⟨oC,esC,epC,hoC,hdC,_⟩:=hn
 obtain ⟨ox,xs,tt,ot,ys,ex,cx,dx,x1,nt,ne,et,dt,y3⟩:=held.2.2.2
 have nx:a≠s3.heap.objs.size:=fun z=>by
  rw [z,hoC] at ex
  cases ex
  rw [hdC] at dx
  cases dx
 have ntC:tt≠s3.heap.objs.size:=fun z=>by
  rw [z,hoC] at et
  cases et
  rw [hdC] at dt
  cases dt
 have tr5:h5.TracedAtW (PySem.W.hideAll B [s3.heap.objs.size]) a cls (.ref t) (rawInt X.env.locals):=⟨ox,xs,tt,ot,ys,(sb.2 a nx).trans ex,cx,dx,x1,nB' _ nt,ne,(sb.2 tt ntC).trans et,dt,y3⟩
 have ff4:h4.FunFrames (PySem.W.hideAll B [s3.heap.objs.size]) X.stack:=UM nB' held.2.2.1
 have ff5:h5.FunFrames (PySem.W.hideAll B [s3.heap.objs.size]) X.stack:=UL (fun b hb=>sb.2 b (nF b hb)) ff4
 have hen:(PySem.W.hideAll B [s3.heap.objs.size]).get? a=none:=nB' _ held.2.1
 have covE:∀ b o,h5.get? b=some o→(H' b≠none∨(b ∉ fp∧∃ o',s3.heap.get? b=some o'))→b ∉ frs X.stack→(PySem.W.hideAll B [s3.heap.objs.size]).get? b=some o:=fun b o e1 hc nb=>by
  have key:b≠s3.heap.objs.size∧∃ o',s'.heap.get? b=some o'∧(H' b≠none∨∃ o',s1.heap.get? b=some o'):=by
   rcases hc with hc | ⟨n1,o3,e3⟩
   ·refine ⟨fun z=>hc (by rw [z];exact free),?_⟩
    cases z:H' b with
    | none=>exact absurd z hc
    | some u =>
     obtain ⟨o',e'⟩:=(F.hok b u z).there
     exact ⟨o',e',.inl (by intro y;cases y)⟩
   ·obtain ⟨o1,e4⟩:=I1.base.there b o3 e3 n1
    obtain ⟨o2,e5⟩:=F.un.there b o1 e4 (by simp)
    exact ⟨nC b o3 e3,o2,e5,.inr ⟨o1,e4⟩⟩
  obtain ⟨nc,o',e',hc'⟩:=key
  have hB:=cov b o' e' hc' nb
  have e4:=held.1 _ _ hB
  rw [sb.2 b nc,e4] at e1
  cases e1
  exact hB' b _ hB nc
 unfold PySem.passOn
 refine wpAny_bind (wpAny_field ((sb.2 a nx).trans ex) dx x1 ?_)
 have neg:¬ (Value.ref tt == Value.none)=true:=by simp
 rw [if_neg neg]
 have go:wpAny (5:) X.A (setFlight (.ref a) cenv.frame) (fun _ s6=>wpAny (5:) X.A (throw (.ref a):Sem Value) (fun _ _=>False) X.xe s6) X.xe { s' with heap:=h5 }:=by
  refine Vu (s:={ s' with heap:=h5 }) st5 ff5 tr5 fun h6 st6 ff6 tr6 up6=>wpAny_throw ?_
  rw [hxe]
  refine Vw (s:={ s' with heap:=h6 }) (by rw [← hstk];exact I3.ok.frames) hfr st6 hen (by rw [← hstk];exact ff6) tr6 fun h7 fl7 up7=>?_
  have up57:h5.UpToSlots h7:=up6.trans up7
  have un7:=N8 un5 covE fl7.1 up57 (Ug ff5)
  have hok7:HOk X.prog X.w H' h7:=MP (B:=PySem.W.hideAll B [s3.heap.objs.size]) (fs:=frs X.stack) I7.hok (fun b hb=>I7.stkFree b hb) (fun b o e1 hb nb=>covE b o e1 (.inl hb) nb) fl7.1
  have J7:Inv X pins σ H' { s' with heap:=h7 }:=I3.call' (s':={ s' with heap:=h7 }) (ch:=fp) J4.os un7 hok7 J4.bare (fun b hb=>by rw [hS0];exact hch b hb)
  refine ⟨a,cls,H',rfl,⟨by rw [← hS0];exact J7.os,J7.bare,?_,hok7,_,t,by rw [← hout];exact fl7,?_⟩,q⟩
  ·have:=J7.base
   rw [hex,hH0,hS0] at this
   rw [← hout]
   exact this
  ·intro b o e1 hb nb
   have key:∃ o',h5.get? b=some o'∧(H' b≠none∨(b ∉ fp∧∃ o',s3.heap.get? b=some o'))∧b ∉ frs X.stack:=by
    rcases hb with hb | ⟨o',hb⟩
    ·cases z:H' b with
     | none=>exact absurd z hb
     | some u =>
      obtain ⟨o',e'⟩:=(I7.hok b u z).there
      exact ⟨o',e',.inl (by intro y;cases y),fun y=>by rw [I7.stkFree b y] at z;cases z⟩
    ·have h1:X.s₀.heap.get? b=some o':=by rw [hS0];exact hb
     obtain ⟨o1,e3⟩:=I3.base.there b o' h1 (by rw [hex];simp)
     have nfp:b ∉ fp:=fun y=>by
      rcases (hch b y).1 with z | z
      ·rw [hex] at z;simp at z
      ·rw [← hS0] at z
       exact absurd (Nat.lt_of_lt_of_le (Heap.lt_size h1) z) (Nat.lt_irrefl _)
     obtain ⟨o2,e5⟩:=un5.there b o1 e3 nfp
     refine ⟨o2,e5,.inr ⟨nfp,o1,e3⟩,fun z=>?_⟩
     rcases List.mem_cons.mp (I3.stkSub b z) with z | z
     ·rw [z] at h1
      exact absurd (Nat.lt_of_lt_of_le (Heap.lt_size h1) I3.ok.above) (Nat.lt_irrefl _)
     ·exact nb (by rw [← hout];exact z)
   obtain ⟨o',k1,k2,k3⟩:=key
   have hB:=covE b o' k1 k2 k3
   have:=fl7.1 _ _ hB
   rw [e1] at this
   cases this
   exact hB
 first
  | exact wpAny_bind (wpAny_pure (wpAny_bind go))
  | exact wpAny_bind go
theorem Sa:NW (QB (CX1 P w) P w K mg base N qual scp f cd A outer s H E) E:=fun I3 hch _ _ h=>Lz I3 hch h
end
theorem UN {X:Cx} {elt iter tg:Expr} {xs:List Str} {ifs:List Expr} {scope:Scope} {pos pos':Pos} {wi:TI} {g:TG} {tt:TT} {te:TE} {cl:List (Str × Addr)} {caps:List Str} {cap:List Nat}
 {E:XK} (hE:NW X E) (O:CompG X xs caps cap scope cl) (hc:X.calm=true) (hi:PI X tg iter wi) (hg:∀ C fp s₀ H₀,PG (QE X (xs ++ caps) scope cl C fp s₀ H₀) tg g)
 (ht:∀ C fp s₀ H₀,PF (QE X (xs ++ caps) scope cl C fp s₀ H₀) ifs tt) (he:∀ C fp s₀ H₀,PE (Yg X (xs ++ caps) scope cl E C fp s₀ H₀) elt te)
 (hs:∀ x,foldedSetIterable iter X.env x=pure x) {pins:List (11:)} {s:Shared} {σ:St} {H:Hp} {Q:VK} {use:Option (Value→Sem Unit)} {QQ:Value→Shared→Prop} (I:Inv X pins σ H s)
 (h:Uz xs.length wi cap g tt te σ H Q)
 (hfin:∀ D C H' s',Inv X pins σ H' s'→OwnAt X pins H' s' C→Q (.ref D) H'→compPost (5:) X.A X.xe use QQ (.ref D) C (.ok .next) s') :
 wpAny (5:) X.A (comprehension (.ListComp elt [⟨tg,iter,ifs,0⟩] scope pos) scope X.env pos' (newList []) false (eval iter X.env) use) QQ X.xe s:=by
 refine wpAny_comprehension_free rfl hs O.clos O.kind O.names (thn (hi pins s σ H _ I h) fun v s1 h1=>thn h1 fun itv s2 h2=>?_)
 obtain ⟨it,fp,tn,J,H1,e,I2,T,t0,f2,hR⟩:=h2
 subst e
 refine wpAny_newObj_type (wpAny_newFunctionEnv O.cell (by intro y hy;simp at hy) (fun h₁ hns hsb=>?_) O.kind)
 have hacc:H1 s2.heap.objs.size=none:=I2.fresh
 obtain ⟨W,⟨m0,w0⟩,turn⟩:=hR s2.heap.objs.size hacc
 have I3:Inv X pins σ (upd H1 s2.heap.objs.size (.lst [])) { s2 with heap:=s2.heap.push { cls:=.type "list", data:=.seq ([]:List Value).toArray } }:=I2.lnew (t':=s2.toks) (ys:=[]) (its:=[]) .nil (Nat.zero_le _)
 generalize hs3:({ s2 with heap:=s2.heap.push { cls:=.type "list", data:=.seq ([]:List Value).toArray } }:Shared)=s3 at hns hsb I3 ⊢
 generalize hD:s2.heap.objs.size=D at I3 w0 turn hacc ⊢
 generalize hH3:upd H1 D (.lst [])=H3 at I3 w0
 have keep3:∀ b o,s3.heap.get? b=some o→h₁.get? b=some o:=fun b o e=>(hsb.2 b (Nat.ne_of_lt (Heap.lt_size e))).trans (Heap.get?_push_of_some _ e)
 have hfp3:∀ b ∈ fp,H3 b=none:=fun b hb=>by
  rw [← hH3,Ql]
  ·exact (f2 b hb).1
  ·intro z
   obtain ⟨o,e,_⟩:=T.obj _ _ t0 b hb
   exact absurd (Heap.lt_size e) (by rw [z,hD];exact Nat.lt_irrefl _)
 have hCfresh:H3 s3.heap.objs.size=none:=I3.fresh
 have hCfp:∀ b ∈ fp,b≠s3.heap.objs.size:=fun b hb z=>by
  obtain ⟨o,e,_⟩:=T.obj _ _ t0 b hb
  have h2:s3.heap.objs.size=s2.heap.objs.size + 1:=by rw [← hs3];exact Heap.size_push ..
  exact absurd (Heap.lt_size e) (by rw [z,h2];exact Nat.not_lt.mpr (Nat.le_succ _))
 have t3:tn 0 h₁:=T.keep _ _ _ t0 fun b hb o e=>keep3 b o (by rw [← hs3];exact Heap.get?_push_of_some _ e)
 have ok':(7:).Ok:=by
  refine ⟨I3.ok.mod,O.kind,I3.ok.glob,I3.ok.blt,Nat.le_refl _,fun y z c e1 e2=>I3.ok.inj y z c (O.from_ y c e1) (O.from_ z c e2),fun y hy=>O.has y hy,fun y c z _=>(nomatch z),I3.ok.hd,I3.ok.frames,.inl rfl,fun b hb=>⟨hCfp b hb,fun y c e=>?_⟩,I3.bs,Nat.le_trans I3.ok.bsz I3.sz,fun b o e hb=>?_,fun b hb z=>?_,I3.stack,I3.stkFree⟩
  ·exact (f2 b hb).2.2.2.2.1 y c (O.from_ y c e)
  ·rcases (f2 b hb).2.2.2.1 with q | q
   ·exact I3.ok.noex b o e q
   ·exact absurd (Nat.lt_of_lt_of_le (Heap.lt_size e) (Nat.le_trans I3.ok.bsz q)) (Nat.lt_irrefl _)
  ·rcases List.mem_cons.mp (I3.stkSub b z) with q | q
   ·exact (f2 b hb).2.1 q
   ·exact (f2 b hb).2.2.1 q
 have I4:Inv (7:) [] (List.replicate xs.length none ++ YB cap σ) H3 { s3 with heap:=h₁,toks:=s3.toks + ([]:List (Str × Value)).length }:=by
  obtain ⟨m,hn,hl⟩:=id I3.loc
  refine ⟨ok',rfl,I3.bare,Un.kept keep3,⟨_,hns,fun i y v e1 e2 e3=>?_⟩,fun y c e=>?_,hCfresh,fun y c e=>I3.freeC y c (O.from_ y c e),fun p hp=>(nomatch hp),I3.hok.kept keep3,?_⟩
  ·by_cases hix:i < xs.length
   ·rw [List.getElem?_append_left (by rw [List.length_replicate];exact hix),List.getElem?_replicate,if_pos hix] at e2
    cases e2
   ·have e1':caps[i - xs.length]?=some y:=by
     have e1'':(xs ++ caps)[i]?=some y:=e1
     rwa [List.getElem?_append_right (10:)] at e1''
    obtain ⟨j,hj,hN,hk,hk'⟩:=O.cps _ y e1'
    have e2':(σ[j]?).getD none=some v:=by
     rw [List.getElem?_append_right (by rw [List.length_replicate];lia),List.length_replicate] at e2
     unfold YB at e2
     simpa [hj] using e2
    have e2'':σ[j]?=some (some v):=by
     cases q:σ[j]? with
     | none=>rw [q] at e2';cases e2'
     | some a=>rw [q] at e2';exact congrArg some e2'
    obtain ⟨u,r,l⟩:=hl j y v hN e2'' (.inr (.inl hk))
    refine ⟨u,r,?_⟩
    rcases l with ⟨k,_⟩ | ⟨k,c,e,z⟩
    ·have k':X.env.scope.names.lookup y=some .local:=k
     rw [hk] at k';cases k'
    ·obtain ⟨c',hc'⟩:=O.has y (.inl hk')
     have:c'=c:=Option.some.inj ((O.from_ y c' hc').symm.trans e)
     subst this
     refine .inr ⟨.inl hk',c',hc',?_⟩
     obtain ⟨o,ho,hd⟩:=z
     exact ⟨o,keep3 _ _ ho,hd⟩
  ·obtain ⟨v,o,ho,hd⟩:=I3.cell y c (O.from_ y c e)
   exact ⟨v,o,keep3 _ _ ho,hd⟩
  ·show (List.replicate xs.length none ++ YB cap σ).length=(xs ++ caps).length
   simp [YB,O.len]
 have fin:∀ (H':Hp) (σ':St) (s':Shared),Inv (7:) [] σ' H' s'→Q (.ref D) H' →
  compPost (5:) X.A X.xe use QQ (.ref D) s3.heap.objs.size (.ok .next) s':=fun H' σ' s' I' q=>by
  obtain ⟨m,hn,_⟩:=id I'.loc
  have hU:Un (frs X.stack) fp H3 H' s3.heap s'.heap:=I'.base
  have hok2:HOk X.prog X.w H' s'.heap:=I'.hok
  have os':s'.os=s3.os:=I'.os
  have I6:Inv X pins σ H' s':=I3.call' (ch:=fp) os' hU hok2 I'.bare (fun b hb=>⟨(f2 b hb).2.2.2.1,(f2 b hb).2.1,(f2 b hb).2.2.2.2⟩)
  refine hfin D _ H' s' I6 ⟨⟨m,hn⟩,I'.free,Nat.ne_of_gt I3.lt,I3.sz,fun y c e z=>?_,fun p hp z=>?_⟩ q
  ·obtain ⟨v,hv⟩:=I3.cell y c e
   exact absurd hv.lt (by rw [z];exact Nat.lt_irrefl _)
  ·exact absurd (Heap.lt_size (I3.pin p hp).1) (by rw [z];exact Nat.lt_irrefl _)
 have stat:∀ {H':Hp},(∀ b ∈ fp,H' b=none)→∀ b ∈ fp,Um (7:) [] H' b:=fun hn b hb =>
  ⟨hn b hb,hCfp b hb,ok'.exfs b hb,.inl hb,fun y c e=>(f2 b hb).2.2.2.2.1 y c (O.from_ y c e),fun p hp=>(nomatch hp)⟩
 have loop:codeAny (5:) X.A (.compLoop (.ListComp elt [⟨tg,iter,ifs,0⟩] scope pos) 0 (.ref it) (.ref D) (compEnvC scope cl s3.heap.objs.size X.env))
  (compPost (5:) X.A X.xe use QQ (.ref D) s3.heap.objs.size) { s3 with heap:=h₁,toks:=s3.toks + ([]:List (Str × Value)).length }:=by
  refine codeAny_loop rfl (fun n s'=>∃ i as H',as.length=xs.length∧Inv (7:) [] (as ++ YB cap σ) H' s'∧tn i s'.heap∧(∀ b ∈ fp,H' b=none)∧W i n H') ?_ m0 ⟨0,_,H3,List.length_replicate,I4,t3,hfp3,w0⟩
  rintro n s5 ⟨i,as,H5,has,I5,st5,fr5,w5⟩
  show wpAny _ _ ((compTurn (.ListComp elt [⟨tg,iter,ifs,0⟩] scope pos) 0 (.ref it) (.ref D) (compEnvC scope cl s3.heap.objs.size X.env)).onRaise (fun x=>do noteFrame x (compEnvC scope cl s3.heap.objs.size X.env);theTreesLotGoes x)) _ _ s5
  refine wpAny_noted ?_
  rw [compTurn_list]
  refine wpAny_bind (wpAny_standAt (wpAny_bind ?_))
  have bad:∀ {M:Model} {A:Around} {α:Type} {t:Sem α} {P:α→Shared→Prop} {E':Value→Shared→Prop} {s':Shared},wpAny M A t P (fun _ _=>False) s'→wpAny M A t P E' s':=fun h=>wpAny_mono h (fun _ _ q=>q) fun _ _ z=>z.elim
  rcases turn i n H5 w5 with ⟨stop,qn⟩ | ⟨go,step⟩
  ·refine bad (thn (T.done (7:) rfl rfl rfl hc i [] s5 _ H5 (fun _ _=>False) I5 (stat fr5) st5 stop) fun r s6 ⟨hr,I6⟩=>?_)
   subst hr
   exact wpAny_pure (fin H5 _ s6 I6 qn)
  ·refine bad (thn (T.item (7:) rfl rfl rfl hc i [] s5 _ H5 (fun _ _=>False) I5 (stat fr5) st5 go) fun r s6 ⟨u,hr,h6⟩=>?_)
   subst hr
   refine wpAny_bind (bad (thn h6 fun _ s7 ⟨y,H7,I7,r7,y7,st7,fr7⟩=>?_))
   have I7':=I7.pinned (stat fr7) (T.obj _ _ st7)
   have goal:=step y H7 y7 as has
   refine wpAny_bind (bad (thn (hg s3.heap.objs.size fp s3 H3 _ s7 _ H7 y _ _ I7' r7 goal) fun _ s8 ⟨σ8,H8,I8,⟨bs,hbs,eσ⟩,goal8⟩=>?_))
   subst eσ
   refine wpAny_bind (bad (thn (ht s3.heap.objs.size fp s3 H3 _ s8 _ H8 _ I8 goal8) fun okb s9 ⟨H9,I9,q9⟩=>?_))
   have again:∀ {H10:Hp} {s10:Shared} {m':Nat},Inv (7:) ([] ++ Uw fp s7.heap) (bs ++ YB cap σ) H10 s10→m' < n→W (i + 1) m' H10 →
    ∃ m,m < n∧∃ i as H',as.length=xs.length∧Inv (7:) [] (as ++ YB cap σ) H' s10∧tn i s10.heap∧(∀ b ∈ fp,H' b=none)∧W i m H':=fun {H10 s10 m'} I10 hm w10=>by
    refine ⟨m',hm,i + 1,bs,H10,hbs,I10.unpinned,T.keep _ _ _ st7 fun b hb o e=>(I10.pin (b,o) (List.mem_append_right _ (List.mem_append_right _ (Zl hb e)))).1,fun b hb=>?_,w10⟩
    obtain ⟨o,e,d⟩:=T.obj _ _ st7 b hb
    exact (I10.pin (b,o) (List.mem_append_right _ (List.mem_append_right _ (Zl hb e)))).2.1
   cases okb with
   | false =>
    rw [if_neg Bool.false_ne_true] at q9
    obtain ⟨m',hm,w9⟩:=q9
    exact wpAny_pure ⟨rfl,again I9 hm w9⟩
   | true =>
    rw [if_pos rfl] at q9
    refine wpAny_bind (wpAny_bind (wpAny_mono (he s3.heap.objs.size fp s3 H3 _ s9 _ H9 _ I9.toXE q9) (fun yv s10 ⟨yy,H10,I10x,r10,ys,hys,hlen,m',hm,w10⟩=>?_) fun e s' hx=>hE I3 (fun b hb=>⟨(f2 b hb).2.2.2.1,(f2 b hb).2.1,(f2 b hb).2.2.2.2⟩) hx))
    have I10:=I10x.ofXE
    refine wpAny_bind (bad (thn (Zz (X:=QE X (xs ++ caps) scope cl s3.heap.objs.size fp s3 H3) _ s10 _ H10 (.ref D) [yy] (.ref D) [yv] (fun _ H11=>W (i + 1) m' H11) I10 rfl (.cons r10 .nil) ⟨D,ys,yy,rfl,rfl,hys,hlen,w10⟩) fun _ s11 ⟨_,H11,I11,_,q11⟩=>?_))
    exact wpAny_pure (wpAny_pure ⟨rfl,again I11 hm q11⟩)
 refine codeAny_compStart_list loop (T.self _ 0 _ _ _ t3 loop)
theorem Vh {X:Cx} {elt iter tg:Expr} {xs:List Str} {ifs:List Expr} {scope:Scope} {pos:Pos} {wi:TI} {g:TG} {tt:TT} {te:TE} {cl:List (Str × Addr)} {caps:List Str} {cap:List Nat}
 {E:XK} (hE:NW X E) (O:CompG X xs caps cap scope cl) (hc:X.calm=true) (hi:PI X tg iter wi) (hg:∀ C fp s₀ H₀,PG (QE X (xs ++ caps) scope cl C fp s₀ H₀) tg g)
 (ht:∀ C fp s₀ H₀,PF (QE X (xs ++ caps) scope cl C fp s₀ H₀) ifs tt) (he:∀ C fp s₀ H₀,PE (Yg X (xs ++ caps) scope cl E C fp s₀ H₀) elt te)
 (hs:∀ x,foldedSetIterable iter X.env x=pure x:=by intro _;rfl) :
 PE X (.ListComp elt [⟨tg,iter,ifs,0⟩] scope pos) (Uz xs.length wi cap g tt te):=by
 intro pins s σ H Q I h
 rw [eval_ListComp]
 exact UN (use:=none) hE O hc hi hg ht he hs I h fun D C H' s' I' o q=>by
  obtain ⟨m,hn⟩:=o.ns
  exact ⟨m,hn,fun h' hb=>⟨.ref D,H',o.go I' hb,rfl,q⟩⟩
theorem MA {X:Cx} {elt iter tg:Expr} {xs:List Str} {y:Str} {py:Pos} {ifs:List Expr} {scope:Scope} {pos spos:Pos} {wi:TI} {g:TG} {tt:TT} {te:TE} {cl:List (Str × Addr)} {caps:List Str} {cap:List Nat} {i:Nat}
 {E:XK} (hE:NW X E) (O:CompG X xs caps cap scope cl) (hc:X.calm=true) (hi:PI X tg iter wi) (hg:∀ C fp s₀ H₀,PG (QE X (xs ++ caps) scope cl C fp s₀ H₀) tg g)
 (ht:∀ C fp s₀ H₀,PF (QE X (xs ++ caps) scope cl C fp s₀ H₀) ifs tt) (he:∀ C fp s₀ H₀,PE (Yg X (xs ++ caps) scope cl E C fp s₀ H₀) elt te)
 (hN:X.N.Nodup) (hy:X.N[i]?=some y) (hl:X.env.scope.names.lookup y=some .local)
 (hsw:swapsWith (.ListComp elt [⟨tg,iter,ifs,0⟩] scope pos) (some (.Name y py)) spos.line X.env=pure true:=by rfl)
 (hs:∀ x,foldedSetIterable iter X.env x=pure x:=by intro _;rfl) :
 PS X (.Assign [.Name y py] (.ListComp elt [⟨tg,iter,ifs,0⟩] scope pos) spos) (Mz (Uz xs.length wi cap g tt te) (QJ i)):=by
 intro pins s σ H D I h
 rw [exec_Assign_Name_used _ _ _ _ hsw]
 refine wpAny_bind (wpAny_standAt (wpAny_bind ?_))
 show wpAny _ X.A (do let _ ← comprehension (.ListComp elt [⟨tg,iter,ifs,0⟩] scope pos) scope X.env _ (newList []) false (eval iter X.env) (some (assign (.Name y py) X.env))) _ _ s
 refine wpAny_bind (thn (UN (use:=some (assign (.Name y py) X.env)) (QQ:=fun _ s'=>SP X pins D .next s') hE O hc hi hg ht he hs I h fun Dd C H' s' I' o q=>?_) fun _ s' hq=>wpAny_pure (wpAny_pure hq))
 obtain ⟨m,hn⟩:=o.ns
 show wpAny _ X.A (assign (.Name y py) X.env (.ref Dd)) _ _ s'
 refine wpAny_assign_Name (Uk (v:=.ref Dd) I' hN hy (.inl hl) rfl (fun s2 I2 sb=>?_) (.inr hl))
 obtain ⟨a,sb,ha⟩:=sb
 have hCa:C≠a:=by
  rcases ha with z | z
  ·rw [z];exact o.loc
  ·exact Ne.symm (o.cells y a z)
 have o2:OwnAt X pins H' s2 C:=⟨⟨m,hn.sameBut sb hCa⟩,o.free,o.loc,o.above,o.cells,o.pins⟩
 refine ⟨m,hn.sameBut sb hCa,fun h' hb=>?_⟩
 exact ⟨_,H',o2.go I2 hb,q⟩
end L2
namespace K68
open PySem L2 TM TT K9 K11
structure Rs (K:Fg) (mg:Str→Option Value) (x:Str) (N:Addr):Prop where
 hm:mg x=some (.ref N)
 hq:PySem.W.excIn K N MG "ValueError.__new__" = true
structure DmM (P:Program) (w:World) (K:Fg) (mg:Str→Option Value) (base:Heap) (C:Addr) (n:Nat):Prop where
 t:DmT K mg C
 mi:∃ f fd,Mk K C f∧FnOk P w K mg base CX0 (n + 4) f fd ["self", "turning", "wood"] (Lc K C n)∧Binds K fd ["self", "turning", "wood"] []
def Mb (K:Fg) (n:Nat):Sp:=fun vs H Q _=>∃ (nm:Nat) (tu wd lm wo:Addr) (sv:V) (ks1 ks:List KdT) (k01 k00:KdT) (t0:Tm) (ms:List MoT),vs=[.ref tu,.ref wo]∧TuAt K H tu wd sv lm ks1 t0 ms∧TuOk ks1 nm n t0 ms∧ks1[0]?=some k01∧WoodAt K H wo ks∧WG ks∧ks[0]?=some k00∧nm * ks.length≤1000∧n≤100 ∧
 ∀ (H':Hp) (b:Bool) (ds:List Dd),Same H H'→Dem (QL ks) n t0 k00.2.1 ms ds→(b=false ↔ okk (QL ks) n t0 k00.2.1∧∀ d ∈ ds,okR (QL ks) n ms d)→Q (.bl b) H'
def ruK (ks:List KdT) (ms:List MoT) (m:Int) (nm:Str):Option Tm:=if 0≤m then (ms[m.toNat]?).bind fun mo=>(((Zx ks mo.2.1).zip mo.2.2.2.2).find? fun p=>decide (p.1.2.1=nm)).map (·.2) else none
def Zk (K:Fg):Sp:=fun vs H Q _=>∃ (nm n:Nat) (tu wd lm:Addr) (sv:V) (ks:List KdT) (t0 r:Tm) (ms:List MoT) (m:Int) (name:Str),vs=[.ref tu,.int m,.str name]∧TuAt K H tu wd sv lm ks t0 ms∧TuOk ks nm n t0 ms∧ruK ks ms m name=some r ∧
 ∀ (v:V) (H':Hp),Same H H'→TmV K H' v r→Q v H'
section
variable {P:Program} {w:World} {K:Fg} {mg:Str→Option Value} {base:Heap} {f:Addr} {fd:FuncData} {C:Addr}
theorem Rk:FnScope ["turning", "wood"] ["turning", "wood"] (defScope P3):=(1:)
theorem PQ {n:Nat} (F:Fun K "strays_at_all" "strays_at_all" P3 f fd) (M:DmM P w K mg base C n):FnOk P w K mg base CX0 (n + 6) f fd ["turning", "wood"] (Mb K n):=by
 obtain ⟨fI,fdI,mkI,FI,bI⟩:=M.mi
 have T:=M.t
 refine F.ok Rk (13:) (3:)
 ·obtain ⟨nm,tu,wd,lm,wo,sv,ks1,ks,k01,k00,t0,ms,rfl,_⟩:=h
  rfl
 obtain ⟨nm,tu,wd,lm,wo,sv,ks1,ks,k01,k00,t0,ms,rfl,hTu,hO,hk01,hWo,hWG,hk00,hnk,hn,q⟩:=h
 refine ⟨_,(Qk (Qq (Zr ND (Zj (Wf mkI FI hr rfl T.mgC bI .nil YF (Qa (pv 0) (Qa (pv 1) Qe))) rfl) Uj (Qz _)))),?_⟩
 try dsimp only [QB,Cx.nox]
 refine ⟨_,rfl,_,rfl,fun x dx nx ndx ne=>?_⟩
 have s0:Same H (upd (upd H dx (.own x)) x (.ins C dx [])):=fun b o e=>by
  rw [Ql (Qj e nx),Ql (Qj e ndx)]
  exact e
 refine ⟨nm,x,dx,tu,wd,lm,wo,sv,ks1,ks,k01,k00,t0,ms,rfl,Qd,hTu.same s0,hO,hk01,hWo.same s0,hWG,hk00,hnk,hn,fun H1 kb st wt fv ds gx hx hD hiff=>⟨rfl,?_⟩⟩
 have s1:Same H H1:=fun b o e=>gx b o (Qj e nx) (s0 b o e)
 refine ⟨x,C,dx,_,_,rfl,hx,T.cl,T.nF,rfl,rfl,q H1 _ ds s1 hD ?_⟩
 by_cases h:fv=.non
 ·rw [decide_eq_true h]
  exact ⟨fun _=>hiff.mp h,fun _=>rfl⟩
 ·rw [decide_eq_false h]
  exact ⟨fun z=>(nomatch z),fun z=>absurd (hiff.mpr z) h⟩
theorem Ys:FnScope ["turning", "mode", "name", "kind", "rules", "row", "rule"] ["turning", "mode", "name"] (defScope Wc):=(1:)
theorem GE (F:Fun K "rule_of" "rule_of" Wc f fd) (G:Gm mg) (RO:Fn P w K mg base 1 "rows_of" ["wood", "kind"] (Yo K)):FnOk P w K mg base CX0 2 f fd ["turning", "mode", "name"] (Zk K):=by
 refine F.ok Ys (13:) (3:)
 ·obtain ⟨nm,n,tu,wd,lm,sv,ks,t0,r,ms,m,name,rfl,_⟩:=h
  rfl
 obtain ⟨nm,n,tu,wd,lm,sv,ks,t0,r,ms,m,name,rfl,hTu,hO,hru,q⟩:=h
 refine ⟨_,(Qh (Qp (i:=3) Ys.nd rfl (12:) (Qg Qi (Qg Qn (Qg Qi (pv 0) Qb (2:)) (pv 1) (2:)) Qb (2:)))
  (Qh (Qp (i:=4) Ys.nd rfl (12:) (Qg Qi (Qg Qn (Qg Qi (pv 0) Qb (2:)) (pv 1) (2:)) Qb (2:)))
  (Qh (Zc PassesOwn.never rfl (Vj rfl G.zip (Qa (Qt RO hr (Qa (Qg Qi (pv 0) Qb (2:)) (Qa (pv 3) Qe))) (Qa (pv 4) Qe))) (Zt rfl (Qv (Qr (i:=5) Ys.nd rfl (12:)) (Qv (Qr (i:=6) Ys.nd rfl (12:)) Za)))
   (Qk (QM (QA Zw (Qg Qi (pv 5) Qb (2:)) (pv 2) (Qz _)) (Qk (Qq (pv 6))) Qu)))
  (Qk (Qq Uj))))),?_⟩
 try dsimp only [QB,Cx.nox]
 unfold ruK at hru
 by_cases hm0:0≤m
 ·rw [if_pos hm0] at hru
  cases em:ms[m.toNat]? with
  | none=>rw [em] at hru;cases hru
  | some mo =>
   rw [em] at hru
   have hru:(((Zx ks mo.2.1).zip mo.2.2.2.2).find? fun p=>decide (p.1.2.1=name)).map (·.2)=some r:=hru
   have hmm:=List.mem_of_getElem? em
   have hat:atI (ms.map fun m=>V.ref m.1) m=some (.ref mo.1):=by
    rw [← Int.toNat_of_nonneg hm0]
    exact QY (by rw [List.getElem?_map,em];rfl)
   obtain ⟨m1,m2,m3⟩:=hTu.mo _ hmm
   refine ⟨_,rfl,tu,_,2,_,rfl,rfl,hTu.tu,rfl,_,rfl,lm,_,_,_,rfl,rfl,hTu.lm,hat,_,_,0,_,rfl,rfl,m1,rfl,?_⟩
   refine ⟨_,rfl,tu,_,2,_,rfl,rfl,hTu.tu,rfl,_,rfl,lm,_,_,_,rfl,rfl,hTu.lm,hat,_,_,1,_,rfl,rfl,m1,rfl,?_⟩
   obtain ⟨kd,hkf,erow,hkm⟩:=Uy (hO.kd _ hmm)
   have hrl:=hO.ru _ hmm
   rw [erow] at hrl hru
   refine ⟨_,rfl,tu,_,0,_,rfl,rfl,hTu.tu,rfl,_,rfl,wd,_,ks,kd,rfl,hTu.wd,hO.wo,hkf,fun H1 g1=>?_⟩
   have hT1:=hTu.same g1
   obtain ⟨m1',m2',m3'⟩:=hT1.mo _ hmm
   have hml:=m3'.length
   have hxl:(kd.2.2.2.map fun t=>V.ref t.1).length=mo.2.2.2.1.length:=by rw [List.length_map,hrl,hml]
   refine ⟨_,rfl,kd.2.2.1,mo.2.2.1,_,_,rfl,(hT1.wd.2 kd hkm).2.1,m2',?_⟩
   refine XX (K:=K) (xs:=kd.2.2.2.map fun t=>V.ref t.1) (ys:=mo.2.2.2.1) hxl (fun j σ H'=>∃ (c4 c5:Option V),σ=[some (.ref tu),some (.int m),some (.str name),some (.str mo.2.1),some (.ref mo.2.2.1),c4,c5]∧Same H H'∧(((kd.2.2.2.zip mo.2.2.2.2).drop j).find? fun p=>decide (p.1.2.1=name)).map (·.2)=some r)
    ⟨none,none,rfl,g1,hru⟩ ?_ ?_ ?_
   ·rintro j σ H' _ ⟨c4,c5,_,g,_⟩
    have hT':=hTu.same g
    exact ⟨(hT'.wd.2 kd hkm).2.1,(hT'.mo _ hmm).2.1⟩
   ·rintro j u v p σ H' hu hv hp ⟨c4,c5,rfl,g,hf⟩
    have hj:j < kd.2.2.2.length:=by
     have:=(List.getElem?_eq_some_iff.mp hu).1
     rwa [List.length_map] at this
    have hjt:j < mo.2.2.2.2.length:=by lia
    obtain rfl:u=.ref kd.2.2.2[j].1:=by
     rw [List.getElem?_map,List.getElem?_eq_getElem hj] at hu
     exact (Option.some.inj hu).symm
    have gp:=Qf hp (.tup [.ref kd.2.2.2[j].1,v])
    have g':=g.trans gp
    have hT3:=hTu.same g'
    obtain ⟨r1,r2⟩:=(hT3.wd.2 kd hkm).2.2 _ (List.getElem_mem hj)
    obtain ⟨cv,hcv,hct⟩:=(hT3.mo _ hmm).2.2.get (List.getElem?_eq_getElem hjt)
    obtain rfl:cv=v:=Option.some.inj (hcv.symm.trans hv)
    have ez:(kd.2.2.2.zip mo.2.2.2.2).drop j=(kd.2.2.2[j],mo.2.2.2.2[j]) :: (kd.2.2.2.zip mo.2.2.2.2).drop (j + 1):=by
     rw [List.drop_eq_getElem_cons (by rw [List.length_zip];lia),List.getElem_zip]
    rw [ez,List.find?_cons] at hf
    refine ⟨p,_,rfl,SqT.of Qd,rfl,_,_,rfl,_,_,rfl,rfl,?_⟩
    refine ⟨_,rfl,_,_,0,_,rfl,rfl,r1,rfl,_,rfl,rfl,_,rfl,?_⟩
    by_cases he:kd.2.2.2[j].2.1=name
    ·rw [decide_eq_true he] at hf
     have hf:mo.2.2.2.2[j]=r:=Option.some.inj hf
     rw [← hf] at q
     exact Z9 (by rw [he]) ⟨_,rfl,q _ _ g' hct⟩
    ·rw [decide_eq_false he] at hf
     exact Z0 (fun z=>he (by injection z)) ⟨_,_,rfl,g',hf⟩
   ·rintro σ H' ⟨c4,c5,rfl,g,hf⟩
    rw [List.length_map,List.drop_of_length_le (by rw [List.length_zip];lia)] at hf
    cases hf
 ·rw [if_neg hm0] at hru;cases hru
end
end K68
namespace K68
open PySem L2 TM TT K9 K11
abbrev sTI:Stmt:=inClass (top 31) 0
abbrev sBM:Stmt:=inClass (top 31) 1
abbrev sBR:Stmt:=inClass (top 31) 2
abbrev sTO:Stmt:=inClass (top 31) 3
inductive LP where
 | call (i j b:Int)
 | put (n:Str) (k:Bool) (a:Int)
abbrev TP:=Tree LP
mutual
inductive TpV (K:Fg) (H:Hp):V→TP→Prop where
 | call {a p:Addr} {i j b:Int}:SqT K H a [.str YA,.ref p,.int b]→H p=some (.tup [.int i,.int j])→TpV K H (.ref a) (.node (.call i j b) 0 [])
 | put {a b:Addr} {vs:List V} {ts:List TP} {n:Str} {k:Bool} {ad:Int}:SqT K H a [.str PUT,.str n,.bl k,.int ad,.ref b]→SqT K H b vs→TpAll K H vs ts→vs.length≤1000→TpV K H (.ref a) (.node (.put n k ad) 0 ts)
inductive TpAll (K:Fg) (H:Hp):List V→List TP→Prop where
 | nil:TpAll K H [] []
 | cons {v:V} {vs:List V} {t:TP} {ts:List TP}:TpV K H v t→TpAll K H vs ts→TpAll K H (v :: vs) (t :: ts)
end
def KeepT (K:Fg) (H H':Hp):Prop:=(∀ a xs,SqT K H a xs→SqT K H' a xs)∧∀ a xs,H a=some (.tup xs)→H' a=some (.tup xs)
theorem KeepT.same {K:Fg} {H H':Hp} (g:Same H H'):KeepT K H H':=⟨fun _ _=>g.seqT,fun _ _ h=>g _ _ h⟩
theorem KeepT.ins {K:Fg} {H H':Hp} {x:Addr} (i:InsAt H x) (g:SameX x H H'):KeepT K H H':=⟨fun _ _=>i.seqT g,fun _ _ h=>by
 obtain ⟨C,dx,fs,hx⟩:=i.ex
 exact g _ _ (ne_of h hx (15:)) h⟩
theorem KeepT.trans {K:Fg} {H H1 H2:Hp} (a:KeepT K H H1) (b:KeepT K H1 H2):KeepT K H H2:=⟨fun _ _ h=>b.1 _ _ (a.1 _ _ h),fun _ _ h=>b.2 _ _ (a.2 _ _ h)⟩
theorem KeepT.put {K:Fg} {H:Hp} {l:Addr} {ys:List V} {o:HO} (h:H l=some (.lst ys)):KeepT K H (upd H l o):=⟨fun _ _ q=>q.put h,fun _ _ q=>by rw [Ql (ne_of q h (15:))];exact q⟩
mutual
theorem TpV.mono {K:Fg} {H H':Hp} (k:KeepT K H H'):∀ {v:V} {t:TP},TpV K H v t→TpV K H' v t
 | _,_,.call h1 h2=>.call (k.1 _ _ h1) (k.2 _ _ h2)
 | _,_,.put h1 h2 h3 h4=>.put (k.1 _ _ h1) (k.1 _ _ h2) (TpAll.mono k h3) h4
theorem TpAll.mono {K:Fg} {H H':Hp} (k:KeepT K H H'):∀ {vs:List V} {ts:List TP},TpAll K H vs ts→TpAll K H' vs ts
 | _,_,.nil=>.nil
 | _,_,.cons h t=>.cons (TpV.mono k h) (TpAll.mono k t)
end
theorem TpAll.append {K:Fg} {H:Hp}:∀ {vs ws:List V} {ts us:List TP},TpAll K H vs ts→TpAll K H ws us→TpAll K H (vs ++ ws) (ts ++ us)
 | _,_,_,_,.nil,h=>h
 | _,_,_,_,.cons a t,h=>.cons a (TpAll.append t h)
theorem TpAll.length {K:Fg} {H:Hp}:∀ {vs:List V} {ts:List TP},TpAll K H vs ts→vs.length=ts.length
 | _,_,.nil=>rfl
 | _,_,.cons _ t=>by rw [List.length_cons,List.length_cons,TpAll.length t]
theorem XS {α:Type}:∀ l r:List (Tree α),szs (l ++ r)=szs l + szs r
 | [],r=>by simp [szs]
 | t :: l,r=>by rw [List.cons_append,szs,szs,XS l r];lia
theorem Wt {α:Type} (l:List (Tree α)) (i:Nat):szs (l.take i)≤szs l:=by
 have:=XS (l.take i) (l.drop i)
 rw [List.take_append_drop] at this
 lia
mutual
def BR (ru:Int→Str→Option Tm):Nat→Tm→Tm→TP→Prop
 | 0,_,_,_=>False
 | n + 1,r,t,o=>(∃ nm' k' a',lab t=.put nm' k' a'∧match lab r with
  | .call m b=>∃ c,0≤b∧t.bs[b.toNat]?=some c∧BM ru n m c o
  | .put nm k a=>∃ os:List TP,o=.node (.put nm (k && k') (if k=true then a + a' else a)) 0 os∧os.length=r.bs.length∧∀ (i:Nat) p q,r.bs[i]?=some p→os[i]?=some q→BR ru n p t q)
def BM (ru:Int→Str→Option Tm):Nat→Int→Tm→TP→Prop
 | 0,_,_,_=>False
 | n + 1,m,t,o=>match lab t with
  | .call i b=>o=.node (.call i m b) 0 []
  | .put nm _ _=>∃ r,ru m nm=some r∧BR ru n r t o
end
def tbf (ot:Addr) (l:Nat):List (Str × V):=[("other", .ref ot),("left", .int (l:Int))]
theorem Nh (ot:Addr) (l:Nat) (z:Int) (h:0 < l) (e:z=((l:Int) - 1)):Zg "left" (.int z) (tbf ot l)=tbf ot (l - 1):=by
 unfold tbf
 rw [Q7 (0:),V1,e,show ((l:Int) - 1)=((l - 1:Nat):Int) by lia]
structure TbT (K:Fg) (mg:Str→Option Value) (C:Addr):Prop where
 cl:Cls K C
 nO:NoAttr K C "other"
 nL:NoAttr K C "left"
 mgC:mg "TermBehind" = some (.ref C)
theorem W4 {α:Type} {k:Nat}:∀ {l:List (Tree α)},(∀ t ∈ l,lv t≤k)→lvs l≤k
 | [],_=>by simp [lvs]
 | t :: l,h=>by
  rw [lvs]
  exact Nat.max_le.mpr ⟨h t List.mem_cons_self,W4 fun u hu=>h u (List.mem_cons_of_mem _ hu)⟩
def NP (C N:Addr):Sp:=fun vs H Q E=>∃ (x dx ot:Addr) (l room:Nat),vs=[.ref x,.int (room:Int)]∧H x=some (.ins C dx (tbf ot l))∧(0 < l→0 < room→Q .non (upd H x (.ins C dx (tbf ot (l - 1)))))∧(¬ (0 < l∧0 < room)→E (.ref N) none H)
def VA (K:Fg) (C N:Addr) (n:Nat):Sp:=fun vs H Q E=>∃ (x dx ot wd lm:Addr) (sv:V) (ks:List KdT) (t0:Tm) (ms:List MoT) (nm n' l room:Nat) (rv tv:V) (rule read:Tm) (out:TP),vs=[.ref x,rv,tv,.int (room:Int)]∧H x=some (.ins C dx (tbf ot l))∧TuAt K H ot wd sv lm ks t0 ms∧TuOk ks nm n' t0 ms∧TmV K H rv rule∧TmV K H tv read∧BR (ruK ks ms) n rule read out∧l≤1000 ∧
 (sz out≤l→lv out≤room→∀ (v:V) (H':Hp),SameX x H H'→H' x=some (.ins C dx (tbf ot (l - sz out)))→TpV K H' v out→Q v H')∧(¬ (sz out≤l∧lv out≤room)→∀ H':Hp,SameX x H H'→E (.ref N) none H')
def GX (K:Fg) (C N:Addr) (n:Nat):Sp:=fun vs H Q E=>∃ (x dx ot wd lm:Addr) (sv:V) (ks:List KdT) (t0:Tm) (ms:List MoT) (nm n' l room:Nat) (tv:V) (m:Int) (read:Tm) (out:TP),vs=[.ref x,.int m,tv,.int (room:Int)]∧H x=some (.ins C dx (tbf ot l))∧TuAt K H ot wd sv lm ks t0 ms∧TuOk ks nm n' t0 ms∧TmV K H tv read∧BM (ruK ks ms) n m read out∧l≤1000 ∧
 (sz out≤l→lv out≤room→∀ (v:V) (H':Hp),SameX x H H'→H' x=some (.ins C dx (tbf ot (l - sz out)))→TpV K H' v out→Q v H')∧(¬ (sz out≤l∧lv out≤room)→∀ H':Hp,SameX x H H'→E (.ref N) none H')
section
variable {P:Program} {w:World} {K:Fg} {mg:Str→Option Value} {base:Heap} {f:Addr} {fd:FuncData} {C N:Addr}
theorem SW:FnScope ["self", "room"] ["self", "room"] (defScope sTO):=(1:)
theorem Ro {t30 t200:Tok} (F:Fun K "take_one" "TermBehind.take_one" sTO f fd) (T:TbT K mg C) (R:Rs K mg "TooGreat" N) (h30:mg "MOST_LEVELS" = some (.int 30 t30)) (h200:mg "MOST_SIZE" = some (.int 200 t200)):FnOk P w K mg base (CX1 P w) 1 f fd ["self", "room"] (NP C N):=by
 refine Fun.okX F SW (13:) (3:)
 ·obtain ⟨x,dx,ot,l,room,rfl,_⟩:=h
  rfl
 obtain ⟨x,dx,ot,l,room,rfl,hx,q,qE⟩:=h
 refine ⟨_,(Qh (QM (QA Zw (pv 1) Qb (Qz _)) (Qk (YZ R.hm R.hq PySem.F.excBase_ValueError (by decide) (Qa (WC Qs (Xw (ZJ (v:=.int 30) rfl h30 ⟨_,rfl⟩)) Qs) Qe))) Qu)
  (Qh (QM (QA Zw (Zj (pv 0) rfl) Qb (Qz _)) (Qk (YZ R.hm R.hq PySem.F.excBase_ValueError (by decide) (Qa (Lh Qs (Xw (ZJ (v:=.int 200) rfl h200 ⟨_,rfl⟩))) Qe))) Qu)
  (Qk (G8 (pv 0) Qb Pp)))),?_⟩
 try dsimp only [QB,Cx.nox]
 refine ⟨_,rfl,rfl,_,rfl,XI (fun c=>?_) (fun c=>?_)⟩
 ·have c':V.int (room:Int)=V.int 0:=of_decide_eq_true c
  injection c' with c'
  exact ⟨_,rfl,by decide +kernel,30,rfl,by decide +kernel,_,rfl,by decide +kernel,_,rfl,by decide +kernel,(by show 1≤sizeLine;decide),qE (fun z=>by lia)⟩
 have c':¬ V.int (room:Int)=V.int 0:=fun z=>c (decide_eq_true z)
 have hro:0 < room:=Nat.pos_of_ne_zero fun z=>c' (by rw [z];rfl)
 refine ⟨_,rfl,x,C,dx,_,_,rfl,hx,T.cl,T.nL,rfl,rfl,_,rfl,XI (fun d=>?_) (fun d=>?_)⟩
 ·have d':V.int (l:Int)=V.int 0:=of_decide_eq_true d
  injection d' with d'
  exact ⟨_,rfl,by decide +kernel,200,rfl,by decide +kernel,_,rfl,by decide +kernel,(by show 1≤sizeLine;decide),qE (fun z=>by lia)⟩
 have d':¬ V.int (l:Int)=V.int 0:=fun z=>d (decide_eq_true z)
 have hl:0 < l:=Nat.pos_of_ne_zero fun z=>d' (by rw [z];rfl)
 refine ⟨_,rfl,x,C,dx,_,_,rfl,hx,T.cl,T.nL,rfl,_,_,rfl,rfl,dx,_,hx,(by show 2 < 1000;decide),?_⟩
 rw [Nh ot l _ hl rfl]
 exact q hl hro
theorem Tc:FnScope ["self", "mode", "term", "room"] ["self", "mode", "term", "room"] (defScope sBM):=(1:)
theorem Sl {n:Nat} (F:Fun K "by_mode" "TermBehind.by_mode" sBM f fd) (T:TbT K mg C) (RC:Fn P w K mg base 1 "is_call" ["term"] (ZS K)) (RR:Fn P w K mg base 2 "rule_of" ["turning", "mode", "name"] (Zk K)) (MT:MtX P w K mg base C 1 "take_one" ["self", "room"] (NP C N)) (MR:MtX P w K mg base C (n + 2) "by_rule" ["self", "rule", "read", "room"] (VA K C N n)):FnOk P w K mg base (CX1 P w) (n + 3) f fd ["self", "mode", "term", "room"] (GX K C N (n + 1)):=by
 refine Fun.okX F Tc (13:) (3:)
 ·obtain ⟨x,dx,ot,wd,lm,sv,ks,t0,ms,nm,n',l,room,tv,m,read,out,rfl,_⟩:=h
  rfl
 obtain ⟨x,dx,ot,wd,lm,sv,ks,t0,ms,nm,n',l,room,tv,m,read,out,rfl,hx,hTu,hO,hv,hB,hl,q,qE⟩:=h
 have hr1:Room 1 _:=hr.mono (10:)
 have hr2:Room 2 _:=hr.mono (10:)
 have hrn:Room (n + 2) _:=hr
 refine ⟨_,(Qh (QM (QV (Qt RC hr (Qa (pv 2) Qe) (10:))) (Qh (Q0 (YG (EE:=fun _=>E) MT T.cl hr1 (YQ fun _ _ h=>h) (pv 0) (Qa (pv 3) Qe) (8:)))
  (Qk (Qq (QC (Qa (Qs) (Qa ((QC (Qa (Qg Qi (pv 2) Qb (2:)) (Qa (pv 1) Qe)))) (Qa (Qg Qi (pv 2) Qb (2:)) Qe))))))) Qu)
  (Qk (Qq (YG (EE:=fun _=>E) MR T.cl hrn (YQ fun _ _ h=>h) (pv 0) (Qa (Qt RR hr2 (Qa (Zj (pv 0) rfl) (Qa (pv 1) (Qa (Qg Qi (pv 2) Qb (2:)) Qe)))) (Qa (pv 2) (Qa (pv 3) Qe))) (8:))))),?_⟩
 try dsimp only [QB,Cx.nox]
 have i0:InsAt H x:=⟨_,_,_,hx⟩
 rcases Zd hv with ⟨a,mo,b,rfl,rfl,h1⟩ | ⟨a,b,bs,nm',k',ad',rfl,et,h1,h2,h3,h4⟩
 ·have hB:out=.node (.call mo m b) 0 []:=by rw [BM] at hB;exact hB
  subst hB
  have e1:sz (.node (LP.call mo m b) 0 []:TP)=1:=by rw [JD];rfl
  have e2:lv (.node (LP.call mo m b) 0 []:TP)=1:=by rw [ZC];rfl
  rw [e1,e2] at q qE
  refine ⟨_,rfl,a,YA,_,rfl,h1,_,rfl,Z9 rfl ?_⟩
  refine ⟨_,rfl,x,dx,_,rfl,hx,rfl,_,rfl,x,dx,ot,l,room,rfl,hx,fun hl0 hr0=>?_,fun hz=>qE (fun z=>hz ⟨by lia,by lia⟩) H (SameX.refl _ _)⟩
  have g1:SameX x H (upd H x (.ins C dx (tbf ot (l - 1)))):=SameX.upd
  have h1':=i0.seqT g1 h1
  refine ⟨_,rfl,a,_,1,_,rfl,rfl,h1',rfl,_,rfl,(9:),fun p hp=>⟨_,rfl,a,_,2,_,rfl,rfl,(Qf hp _).seqT h1',rfl,(16:),fun c hc=>?_⟩⟩
  have g2:=Qf hp (.tup [.int mo,.int m])
  have g3:=Qf hc (.tup [.str YA,.ref p,.int b])
  exact q (10:) (10:) (.ref c) _ (g1.trans (SameX.of (g2.trans g3))) ((g2.trans g3) _ _ Qd) (.call (SqT.of Qd) (g3 _ _ Qd))
 ·have enl:lab read=.put nm' k' ad':=by rw [et];rfl
  rw [BM,enl] at hB
  obtain ⟨r,hr',hB⟩:=hB
  refine ⟨_,rfl,a,PUT,_,rfl,h1,_,rfl,Z0 (0:) ?_⟩
  refine ⟨_,rfl,x,dx,_,rfl,hx,rfl,_,rfl,x,C,dx,_,_,rfl,hx,T.cl,T.nO,rfl,_,rfl,_,rfl,a,_,1,_,rfl,rfl,h1,rfl,nm,n',ot,wd,lm,sv,ks,t0,r,ms,m,nm',rfl,hTu,hO,hr',fun rv H1 g1 hrv=>?_⟩
  refine ⟨_,rfl,_,rfl,x,dx,ot,wd,lm,sv,ks,t0,ms,nm,n',l,room,rv,.ref a,r,read,out,rfl,g1 _ _ hx,hTu.same g1,hO,hrv,hv.mono fun _ _=>g1.seqT,hB,hl,fun s1 s2 v H' gx hx' hv'=>q s1 s2 v H' ((SameX.of g1).trans gx) hx' hv',fun hz H' gx=>qE hz H' ((SameX.of g1).trans gx)⟩
theorem Pf:FnScope ["self", "rule", "read", "room", "add", "parts"] ["self", "rule", "read", "room"] (defScope sBR):=(1:)
theorem Rt {n:Nat} (F:Fun K "by_rule" "TermBehind.by_rule" sBR f fd) (G:Gm mg) (T:TbT K mg C) (RC:Fn P w K mg base 1 "is_call" ["term"] (ZS K)) (MT:MtX P w K mg base C 1 "take_one" ["self", "room"] (NP C N)) (MM:MtX P w K mg base C (n + 2) "by_mode" ["self", "mode", "term", "room"] (GX K C N n)) (MR:MtX P w K mg base C (n + 2) "by_rule" ["self", "rule", "read", "room"] (VA K C N n)):FnOk P w K mg base (CX1 P w) (n + 3) f fd ["self", "rule", "read", "room"] (VA K C N (n + 1)):=by
 refine Fun.okX F Pf (13:) (3:)
 ·obtain ⟨x,dx,ot,wd,lm,sv,ks,t0,ms,nm,n',l,room,rv,tv,rule,read,out,rfl,_⟩:=h
  rfl
 obtain ⟨x,dx,ot,wd,lm,sv,ks,t0,ms,nm,n',l,room,rv,tv,rule,read,out,rfl,hx,hTu,hO,hrv,htv,hB,hl,q,qE⟩:=h
 have hr1:Room 1 _:=hr.mono (10:)
 have hrn:Room (n + 2) _:=hr
 refine ⟨_,(Qh (QM (QV (Qt RC hr (Qa (pv 1) Qe) (10:))) (Qk (Qq (YG (EE:=fun _=>E) MM T.cl hrn (YQ fun _ _ h=>h) (pv 0) (Qa (Qg Qi (pv 1) Qb (2:)) (Qa (Qg Qi (Qg Qi (pv 2) Qb (2:)) (Qg Qi (pv 1) Qb (2:)) (2:)) (Qa (pv 3) Qe))) (8:)))) Qu)
  (Qh (Q0 (YG (EE:=fun _=>E) MT T.cl hr1 (YQ fun _ _ h=>h) (pv 0) (Qa (pv 3) Qe) (8:)))
  (Qh (Yk (Qp (i:=4) Pf.nd rfl (12:) (WN (QV (Qg Qi (pv 1) Qb (2:))) (Qo QR (Qg Qi (pv 1) Qb (2:)) (Qg Qi (pv 2) Qb (2:))) (Qg Qi (pv 1) Qb (2:)))))
  (Qh (MA (i:=5) Sa (CompG.many (xs:=["part"]) (caps:=["read", "room", "self"]) (cap:=[2,3,0]) (cs:=[_,_,_]) rfl rfl (0:) (0:) (0:) (0:) (0:) (0:) rfl rfl rfl) rfl (YL (Qg Qi (pv 1) Qb (2:))) (ZL (CompG.many (xs:=["part"]) (caps:=["read", "room", "self"]) (cap:=[2,3,0]) (cs:=[_,_,_]) rfl rfl (0:) (0:) (0:) (0:) (0:) (0:) rfl rfl rfl)) (fun _ _ _ _=>Q6) (fun _ _ _ _=>YG (EE:=fun _=>E) MR T.cl hrn OG (pv 3) (Qa (pv 0) (Qa (pv 1) (Qa (Qo Yd (pv 2) Qb) Qe))) (8:)) Pf.nd rfl rfl)
  (Qk (Qq (QC (Qa (Qs) (Qa (Qg Qi (pv 1) Qb (2:)) (Qa (Ur (Qg Qi (pv 1) Qb (2:)) (Jd (Qg Qi (pv 2) Qb (2:)))) (Qa (pv 4) (Qa (QP Q2 rfl G.tup PyProof.Rows.boot_tuple (Qa (pv 5) Qe)) Qe)))))))))))),?_⟩
 try dsimp only [QB,Cx.nox]
 have i0:InsAt H x:=⟨_,_,_,hx⟩
 rw [BR] at hB
 obtain ⟨nm1,k1,a1,elr,hB⟩:=hB
 rcases Zd htv with ⟨_,_,_,rfl,rfl,_⟩ | ⟨ta,tb,tbs,tn,tk,tad,rfl,ett,r1,r2,r3,r4⟩
 ·cases elr
 have elt:lab read=.put tn tk tad:=by rw [ett];rfl
 obtain ⟨rfl,rfl,rfl⟩ : nm1=tn∧k1=tk∧a1=tad:=by rw [elr] at elt;injection elt with z1 z2 z3;exact ⟨z1,z2,z3⟩
 rcases Zd hrv with ⟨a,mo,b,rfl,rfl,h1⟩ | ⟨a,b,bs,nm',k',ad',rfl,et,h1,h2,h3,h4⟩
 ·obtain ⟨c,hb0,hc,hB⟩:=hB
  obtain ⟨cv,hcv,hct⟩:=r3.get hc
  refine ⟨_,rfl,a,YA,_,rfl,h1,_,rfl,Z9 rfl ?_⟩
  refine ⟨_,rfl,x,dx,_,rfl,hx,rfl,_,rfl,a,_,1,_,rfl,rfl,h1,rfl,_,rfl,ta,_,4,_,rfl,rfl,r1,rfl,_,rfl,a,_,2,_,rfl,rfl,h1,rfl,tb,_,_,cv,rfl,rfl,r2,(by rw [← Int.toNat_of_nonneg hb0];exact QY hcv),_,rfl,?_⟩
  exact ⟨x,dx,ot,wd,lm,sv,ks,t0,ms,nm,n',l,room,cv,mo,c,out,rfl,hx,hTu,hO,hct,hB,hl,q,qE⟩
 have enl:lab rule=.put nm' k' ad':=by rw [et];rfl
 rw [enl] at hB
 obtain ⟨os,rfl,hol,hB⟩:=hB
 have esz:=JD (.node (LP.put nm' (k' && k1) (if k'=true then ad' + a1 else ad')) 0 os:TP)
 have elv:=ZC (.node (LP.put nm' (k' && k1) (if k'=true then ad' + a1 else ad')) 0 os:TP)
 have hlen:=h3.length
 refine ⟨_,rfl,a,PUT,_,rfl,h1,_,rfl,Z0 (0:) ?_⟩
 refine ⟨_,rfl,x,dx,_,rfl,hx,rfl,_,rfl,x,dx,ot,l,room,rfl,hx,fun hl0 hr0=>?_,fun hz=>qE (fun z=>hz ⟨by lia,by lia⟩) H (SameX.refl _ _)⟩
 have g1:SameX x H (upd H x (.ins C dx (tbf ot (l - 1)))):=SameX.upd
 have hx1:upd H x (.ins C dx (tbf ot (l - 1))) x=some (.ins C dx (tbf ot (l - 1))):=Qd
 generalize upd H x (.ins C dx (tbf ot (l - 1)))=H1 at g1 hx1 ⊢
 have h1':=i0.seqT g1 h1
 have r1':=i0.seqT g1 r1
 have h2':=i0.seqT g1 h2
 have i1:InsAt H1 x:=⟨_,_,_,hx1⟩
 refine ⟨fun σ' H'=>H'=H1∧σ'=[some (.ref x),some (.ref a),some (.ref ta),some (.int (room:Int)),some (.int (if k'=true then ad' + a1 else ad')),none],?_,?_⟩
 ·refine ⟨_,rfl,a,_,2,_,rfl,rfl,h1',rfl,k',rfl,?_⟩
  cases k' with
  | true=>exact Q8 ⟨_,rfl,a,_,3,_,rfl,rfl,h1',rfl,_,rfl,ta,_,3,_,rfl,rfl,r1',rfl,_,_,rfl,rfl,rfl,rfl⟩
  | false=>exact Zh ⟨_,rfl,a,_,3,_,rfl,rfl,h1',rfl,rfl,rfl⟩
 rintro _ H2 ⟨e1,rfl⟩
 rw [e1]
 clear e1
 refine ⟨_,rfl,a,_,4,_,rfl,rfl,h1',rfl,b,rfl,⟨_,h2'⟩,fun acc hacc=>?_⟩
 have hax:acc≠x:=fun z=>by rw [z,hx1] at hacc;cases hacc
 refine Xz (K:=K) (xs:=bs) (cs:=[some (.ref ta),some (.int (room:Int)),some (.ref x)]) (tt:=fun _ H Q=>Q true H) (fun i ys H'=>H' acc=some (.lst ys)∧SameX x H1 H'∧ys.length=i∧szs (os.take i)≤l - 1∧(∀ u ∈ os.take i,lv u≤room - 1)∧H' x=some (.ins C dx (tbf ot (l - 1 - szs (os.take i))))∧TpAll K H' ys (os.take i))
  ⟨Qd,SameX.of (Qf hacc _),rfl,(by simp [szs]),(fun u hu=>by simp at hu),(by rw [Ql (Ne.symm hax)];exact hx1),.nil⟩ ?_ ?_ ?_
 ·rintro i ys H' _ ⟨_,g,_⟩
  exact i1.seqT g h2'
 ·rintro i y ys H' hi hy ⟨hya,g,hyl,hsi,hli,hx',hys⟩
  obtain ⟨c,hc⟩ : ∃ c,rule.bs[i]?=some c:=⟨_,List.getElem?_eq_getElem (10:)⟩
  have hio:i < os.length:=by lia
  obtain ⟨cv,hcv,hct⟩:=h3.get hc
  obtain rfl:cv=y:=Option.some.inj (hcv.symm.trans hy)
  have ho:=List.getElem?_eq_getElem hio
  have a3:szs (os.take (i + 1))=szs (os.take i)+sz os[i]:=by rw [List.take_add_one,ho,XS];simp [szs]
  have a4:=Wt os (i + 1)
  have a5:=V2 (List.getElem_mem hio)
  have ebs:Tree.bs (.node (LP.put nm' (k' && k1) (if k'=true then ad' + a1 else ad')) 0 os:TP)=os:=rfl
  rw [ebs] at esz elv
  have gH:SameX x H H':=g1.trans g
  refine Q8 ⟨_,rfl,x,dx,_,rfl,hx',rfl,_,rfl,_,rfl,_,rfl,_,_,rfl,rfl,?_⟩
  refine ⟨x,dx,ot,wd,lm,sv,ks,t0,ms,nm,n',l - 1 - szs (os.take i),room - 1,cv,.ref ta,c,read,os[i],?_,hx',hTu.insX i0 gH,hO,hct.mono fun _ _=>i0.seqT gH,htv.mono fun _ _=>i0.seqT gH,hB i c _ hc ho,by lia,fun z1 z2 v' H4 g4 hx4 hv4=>?_,fun hz H4 g4=>qE (fun ⟨z1,z2⟩=>hz ⟨by lia,by lia⟩) H4 (gH.trans g4)⟩
  ·show [V.ref x,cv,.ref ta,.int ((room:Int) - 1)]=_
   rw [show ((room:Int) - 1)=((room - 1:Nat):Int) by lia]
  have i':InsAt H' x:=⟨_,_,_,hx'⟩
  have hya4:=i'.lst g4 hya
  refine QK (ys:=ys) hi hya4 (10:) ⟨Qd,fun z u nz e=>?_,by simp [hyl],by lia,fun u hu=>?_,?_,?_⟩
  ·rw [Ql (Qj e hacc)];exact g4 _ _ nz (g _ _ nz e)
  ·rw [List.take_add_one,ho] at hu
   rcases List.mem_append.mp hu with z | z
   ·exact hli u z
   ·obtain rfl:u=os[i]:=by simpa using z
    exact z2
  ·rw [Ql (Ne.symm hax),hx4,a3,Nat.sub_add_eq]
  ·rw [List.take_add_one,ho]
   exact TpAll.append (hys.mono ((KeepT.ins i' g4).trans (KeepT.put hya4))) (.cons (hv4.mono (KeepT.put hya4)) .nil)
 rintro ys H3 ⟨hya,g,hyl,hsi,hli,hx3,hys⟩
 have ebs:Tree.bs (.node (LP.put nm' (k' && k1) (if k'=true then ad' + a1 else ad')) 0 os:TP)=os:=rfl
 rw [ebs] at esz elv
 have et2:os.take bs.length=os:=List.take_of_length_le (10:)
 rw [et2] at hx3 hys hsi hli
 have hli:=W4 hli
 have gH:SameX x H H3:=g1.trans g
 have h3':=i0.seqT gH h1
 have r3':=i0.seqT gH r1
 have q:=q (10:) (10:)
 rw [esz] at q
 have eend:l - 1 - szs os=l - (1 + szs os):=by lia
 rw [eend] at hx3
 refine ⟨_,rfl,a,_,1,_,rfl,rfl,h3',rfl,_,rfl,a,_,2,_,rfl,rfl,h3',rfl,k',rfl,?_⟩
 cases k' with
 | true =>
  refine Q8 ⟨_,rfl,ta,_,2,_,rfl,rfl,r3',rfl,_,rfl,_,rfl,acc,ys,rfl,.inl ⟨SqL.of hya,fun pt hpt=>⟨(by show 5≤sizeLine;decide),fun pr hpr=>?_⟩⟩⟩
  have kk1:=Qf hpt (.tup ys)
  have k2:=Qf hpr (.tup [.str PUT,.str nm',.bl k1,.int (ad' + a1),.ref pt])
  have k12:=kk1.trans k2
  exact q (.ref pr) _ (gH.trans (SameX.of k12)) (k12 _ _ hx3) (.put (SqT.of Qd) (k2.seqT (SqT.of Qd)) (hys.mono (KeepT.same k12)) (10:))
 | false =>
  refine Zh ⟨_,rfl,_,rfl,acc,ys,rfl,.inl ⟨SqL.of hya,fun pt hpt=>⟨(by show 5≤sizeLine;decide),fun pr hpr=>?_⟩⟩⟩
  have kk1:=Qf hpt (.tup ys)
  have k2:=Qf hpr (.tup [.str PUT,.str nm',.bl false,.int ad',.ref pt])
  have k12:=kk1.trans k2
  exact q (.ref pr) _ (gH.trans (SameX.of k12)) (k12 _ _ hx3) (.put (SqT.of Qd) (k2.seqT (SqT.of Qd)) (hys.mono (KeepT.same k12)) (10:))
end
end K68
namespace K68
open PySem L2 TM TT K9 K11
def tb1 (ot:Addr):List (Str × V):=[("other", .ref ot)]
theorem S8 (ot:Addr):Zg "other" (.ref ot) []=tb1 ot:=rfl
theorem SO (ot:Addr):Zg "left" (.int 200) (tb1 ot)=tbf ot 200:=by
 unfold tb1
 rw [Q7 (0:)];rfl
def RF (C:Addr):Sp:=fun vs H Q _=>∃ (x dx ot:Addr),vs=[.ref x,.ref ot]∧H x=some (.ins C dx [])∧Q .non (upd (upd H x (.ins C dx (tb1 ot))) x (.ins C dx (tbf ot 200)))
def Vf (ru:Int→Str→Option Tm) (n:Nat) (j:Int) (rs:List Tm) (os:List TP):Prop:=os.length=rs.length∧∀ (i:Nat) t o,rs[i]?=some t→os[i]?=some o→BM ru n j t o
def Zu (o:TP):Prop:=sz o≤200∧lv o≤30
structure TbM (P:Program) (w:World) (K:Fg) (mg:Str→Option Value) (base:Heap) (C N:Addr) (n:Nat):Prop where
 t:TbT K mg C
 mi:∃ f fd,Mk K C f∧FnOk P w K mg base CX0 1 f fd ["self", "other"] (RF C)∧Binds K fd ["self", "other"] []
 bm:MtX P w K mg base C (n + 2) "by_mode" ["self", "mode", "term", "room"] (GX K C N n)
 br:MtX P w K mg base C (n + 2) "by_rule" ["self", "rule", "read", "room"] (VA K C N n)
def XD (K:Fg) (N:Addr) (n:Nat):Sp:=fun vs H Q E=>∃ (on ot wd1 wd2 lm1 lm2 pp:Addr) (sv1 sv2:V) (ks1 ks2:List KdT) (t1 t2:Tm) (ms1 ms2:List MoT) (nm2 n2:Nat) (i:Nat) (j:Int) (mo:MoT) (os:List TP),vs=[.ref on,.ref ot,.ref pp]∧SqT K H pp [.int (i:Int),.int j]∧TuAt K H on wd1 sv1 lm1 ks1 t1 ms1∧TuAt K H ot wd2 sv2 lm2 ks2 t2 ms2∧TuOk ks2 nm2 n2 t2 ms2∧ms1[i]?=some mo∧mo.2.2.2.2.length≤100∧Vf (ruK ks2 ms2) n j mo.2.2.2.2 os ∧
 ((∀ o ∈ os,Zu o)→∀ (p lr:Addr) (ws:List V) (H':Hp),Same H H'→H' p=some (.tup [.str mo.2.1,.ref lr])→H lr=none→H' lr=some (.lst ws)→TpAll K H' ws os→Q (.ref p) H')∧(¬ (∀ o ∈ os,Zu o)→∀ H':Hp,Same H H'→E (.ref N) none H')
section
variable {P:Program} {w:World} {K:Fg} {mg:Str→Option Value} {base:Heap} {f:Addr} {fd:FuncData} {C N:Addr}
theorem Nq {k:Nat}:FnOk P w K mg base (CX1 P w) k f fd ["self", "rule", "read", "room"] (VA K C N 0):=by
 have no:∀ vs H Q E,¬ VA K C N 0 vs H Q E:=fun vs H Q E h=>by
  obtain ⟨x,dx,ot,wd,lm,sv,ks,t0,ms,nm,n',l,room,rv,tv,rule,read,out,_,_,_,_,_,_,h0,_⟩:=h
  rw [BR] at h0
  exact h0
 exact ⟨fun vs H Q E h=>absurd h (no vs H Q E),fun A outer s H args us vs Q E _ _ _ _ h=>absurd h (no vs H Q E)⟩
theorem Of {k:Nat}:FnOk P w K mg base (CX1 P w) k f fd ["self", "mode", "term", "room"] (GX K C N 0):=by
 have no:∀ vs H Q E,¬ GX K C N 0 vs H Q E:=fun vs H Q E h=>by
  obtain ⟨x,dx,ot,wd,lm,sv,ks,t0,ms,nm,n',l,room,tv,m,read,out,_,_,_,_,_,h0,_⟩:=h
  rw [BM] at h0
  exact h0
 exact ⟨fun vs H Q E h=>absurd h (no vs H Q E),fun A outer s H args us vs Q E _ _ _ _ h=>absurd h (no vs H Q E)⟩
theorem OM {fM fR:Addr} {fdM fdR:FuncData} (FM:Fun K "by_mode" "TermBehind.by_mode" sBM fM fdM) (FR:Fun K "by_rule" "TermBehind.by_rule" sBR fR fdR) (G:Gm mg) (T:TbT K mg C) (RC:Fn P w K mg base 1 "is_call" ["term"] (ZS K)) (RR:Fn P w K mg base 2 "rule_of" ["turning", "mode", "name"] (Zk K)) (MT:MtX P w K mg base C 1 "take_one" ["self", "room"] (NP C N))
 (mM:Meth K C "by_mode" fM) (bM:Binds K fdM ["self", "mode", "term", "room"] []) (mR:Meth K C "by_rule" fR) (bR:Binds K fdR ["self", "rule", "read", "room"] []):∀ n:Nat,MtX P w K mg base C (n + 2) "by_mode" ["self", "mode", "term", "room"] (GX K C N n)∧MtX P w K mg base C (n + 2) "by_rule" ["self", "rule", "read", "room"] (VA K C N n)
 | 0=>⟨⟨fM,fdM,mM,Of,bM⟩,⟨fR,fdR,mR,Nq,bR⟩⟩
 | n + 1 =>
  have ih:=OM FM FR G T RC RR MT mM bM mR bR n
  ⟨⟨fM,fdM,mM,Sl FM T RC RR MT ih.2,bM⟩,⟨fR,fdR,mR,Rt FR G T RC MT ih.1 ih.2,bR⟩⟩
theorem SL:FnScope ["self", "other"] ["self", "other"] (defScope sTI):=(1:)
theorem RQ (F:Fun K "__init__" "TermBehind.__init__" sTI f fd) (T:TbT K mg C) {t200:Tok} (h200:mg "MOST_SIZE" = some (.int 200 t200)):FnOk P w K mg base CX0 1 f fd ["self", "other"] (RF C):=by
 refine F.ok SL (13:) (3:)
 ·obtain ⟨x,dx,ot,rfl,_⟩:=h
  rfl
 obtain ⟨x,dx,ot,rfl,hx,q⟩:=h
 refine ⟨_,(Qh (Yh (pv 0) (pv 1) rfl)
  (Qk (Yh (pv 0) (ZJ (v:=.int 200) rfl h200 ⟨_,rfl⟩) rfl))),?_⟩
 try dsimp only [QB,Cx.nox]
 refine ⟨_,rfl,_,rfl,x,C,dx,_,rfl,hx,T.cl,T.nO,(by show 0 < 1000;decide),?_⟩
 refine ⟨_,rfl,x,C,dx,_,rfl,Qd,T.cl,T.nL,(by show 1 < 1000;decide),?_⟩
 rw [S8,SO]
 exact q
theorem Gi:FnScope ["one", "other", "pair", "mode"] ["one", "other", "pair"] (defScope Wd):=(1:)
theorem Mj {n:Nat} (F:Fun K "mode_behind" "mode_behind" Wd f fd) (M:TbM P w K mg base C N n) {t30:Tok} (h30:mg "MOST_LEVELS" = some (.int 30 t30)):FnOk P w K mg base (CX1 P w) (n + 3) f fd ["one", "other", "pair"] (XD K N n):=by
 obtain ⟨fI,fdI,mkI,FI,bI⟩:=M.mi
 have T:=M.t
 refine Fun.okX F Gi (13:) (3:)
 ·obtain ⟨on,ot,wd1,wd2,lm1,lm2,pp,sv1,sv2,ks1,ks2,t1,t2,ms1,ms2,nm2,n2,i,j,mo,os,rfl,_⟩:=h
  rfl
 obtain ⟨on,ot,wd1,wd2,lm1,lm2,pp,sv1,sv2,ks1,ks2,t1,t2,ms1,ms2,nm2,n2,i,j,mo,os,rfl,hpp,hT1,hT2,hO2,hmo,hml,hos,q,qE⟩:=h
 have hr2:Room 2 _:=hr.mono (10:)
 refine ⟨_,(Qh (Qp (i:=3) Gi.nd rfl (12:) (Qg Qn (Qg Qi (pv 0) Qb (2:)) (Qg Qi (pv 2) Qb (2:)) (2:)))
  (Qk (Qq (QC (Qa (Qg Qi (pv 3) Qb (2:)) (Qa (Vh Sa (CompG.many (xs:=["rule"]) (caps:=["other", "pair"]) (cap:=[1,2]) (cs:=[_,_]) rfl rfl (0:) (0:) (0:) (0:) (0:) (0:) rfl rfl rfl) rfl (Q4 (Qg Qi (pv 3) Qb (2:))) (ZL (CompG.many (xs:=["rule"]) (caps:=["other", "pair"]) (cap:=[1,2]) (cs:=[_,_]) rfl rfl (0:) (0:) (0:) (0:) (0:) (0:) rfl rfl rfl)) (fun _ _ _ _=>Q6) (fun _ _ _ _=>YG (EE:=fun _=>E) M.bm T.cl hr OG (Wf mkI FI hr2 rfl T.mgC bI .nil YF (Qa (pv 1) Qe)) (Qa (Qg (r:=Rg K) Qi (pv 2) Qb (2:)) (Qa (pv 0) (Qa (ZJ (v:=.int 30) rfl h30 ⟨_,rfl⟩) Qe))) (8:))) Qe)))))),?_⟩
 try dsimp only [QB,Cx.nox]
 have hat:atI (ms1.map fun m=>V.ref m.1) (i:Int)=some (.ref mo.1):=QY (by rw [List.getElem?_map,hmo];rfl)
 have hmm:=List.mem_of_getElem? hmo
 obtain ⟨m1,m2,m3⟩:=hT1.mo _ hmm
 obtain ⟨hol,hos⟩:=hos
 have hlen:=m3.length
 refine ⟨_,rfl,on,_,2,_,rfl,rfl,hT1.tu,rfl,_,rfl,pp,_,0,_,rfl,rfl,hpp,rfl,lm1,_,_,_,rfl,rfl,hT1.lm,hat,?_⟩
 refine ⟨_,rfl,mo.1,_,0,_,rfl,rfl,m1,rfl,_,rfl,mo.1,_,1,_,rfl,rfl,m1,rfl,mo.2.2.1,rfl,⟨_,m2⟩,fun acc hacc=>?_⟩
 refine U1 (K:=K) (xs:=mo.2.2.2.1) (cs:=[some (.ref ot),some (.ref pp)]) (tt:=fun _ H Q=>Q true H) (fun i ys H'=>H' acc=some (.lst ys)∧Same H H'∧ys.length=i∧(∀ o ∈ os.take i,Zu o)∧TpAll K H' ys (os.take i))
  ⟨Qd,Qf hacc _,rfl,(fun o ho=>by simp at ho),.nil⟩ ?_ ?_ ?_
 ·rintro i ys H' _ ⟨_,g,_⟩
  exact g.seq m2
 ·rintro i y ys H' hi hy ⟨hya,g,hyl,hfi,hys⟩
  have hir:i < mo.2.2.2.2.length:=by lia
  have hio:i < os.length:=by lia
  obtain ⟨cv,hcv,hct⟩:=m3.get (List.getElem?_eq_getElem hir)
  obtain rfl:cv=y:=Option.some.inj (hcv.symm.trans hy)
  have o1:=hos i _ _ (List.getElem?_eq_getElem hir) (List.getElem?_eq_getElem hio)
  refine Q8 ⟨_,rfl,fun x dx nx ndx ne=>⟨x,dx,ot,rfl,Qd,rfl,?_⟩⟩
  have s5:Same H' (upd (upd (upd (upd H' dx (.own x)) x (.ins C dx [])) x (.ins C dx (tb1 ot))) x (.ins C dx (tbf ot 200))):=fun b o e=>by
   rw [Ql (Qj e nx),Ql (Qj e nx),Ql (Qj e nx),Ql (Qj e ndx)]
   exact e
  have hx5:upd (upd (upd (upd H' dx (.own x)) x (.ins C dx [])) x (.ins C dx (tb1 ot))) x (.ins C dx (tbf ot 200)) x=some (.ins C dx (tbf ot 200)):=Qd
  generalize upd (upd (upd (upd H' dx (.own x)) x (.ins C dx [])) x (.ins C dx (tb1 ot))) x (.ins C dx (tbf ot 200))=H5 at s5 hx5 ⊢
  have g5:=g.trans s5
  refine ⟨x,dx,_,rfl,hx5,rfl,_,rfl,pp,_,1,_,rfl,rfl,g5.seqT hpp,rfl,_,rfl,?_⟩
  refine ⟨x,dx,ot,wd2,lm2,sv2,ks2,t2,ms2,nm2,n2,200,30,cv,j,_,os[i],rfl,hx5,hT2.same g5,hO2,hct.mono fun _ _=>g5.seqT,o1,by decide,fun o2 o3 v H6 gx hx6 hv6=>?_,fun hz H6 gx=>qE (fun z=>hz (z _ (List.getElem_mem hio))) H6 (g.trans fun b o e=>gx b o (Qj e nx) (s5 b o e))⟩
  have s6:Same H' H6:=fun b o e=>gx b o (Qj e nx) (s5 b o e)
  have hya6:=s6 _ _ hya
  refine QK (ys:=ys) hi hya6 (10:) ⟨Qd,fun z u e=>?_,by simp [hyl],fun o ho=>?_,?_⟩
  ·rw [Ql (Qj e hacc)];exact s6 _ _ (g _ _ e)
  ·rw [List.take_add_one,List.getElem?_eq_getElem hio] at ho
   rcases List.mem_append.mp ho with z | z
   ·exact hfi o z
   ·obtain rfl:o=os[i]:=by simpa using z
    exact ⟨o2,o3⟩
  ·rw [List.take_add_one,List.getElem?_eq_getElem hio]
   exact TpAll.append (hys.mono ((KeepT.same s6).trans (KeepT.put hya6))) (.cons (hv6.mono (KeepT.put hya6)) .nil)
 rintro ys H3 ⟨hya,g,hyl,hfi,hys⟩
 have et2:os.take mo.2.2.2.1.length=os:=List.take_of_length_le (10:)
 rw [et2] at hys hfi
 refine ⟨(9:),fun p hp=>?_⟩
 have k1:=Qf hp (.tup [.str mo.2.1,.ref acc])
 exact q hfi p acc ys _ (g.trans k1) Qd hacc (k1 _ _ hya) (hys.mono (KeepT.same k1))
end
end K68
namespace L2
namespace LD
open PySem PySem.Spec PyProof.Rows PySem.W
def DEnt (h:Heap) (d:Addr) (ents:Array DictEntry) (ep:Nat):Prop:=∃ o,h.get? d=some o∧o.ExactDict∧o.data=.dict ents ep
section
variable {prog:Program} {w:World} {A:Around} {E:Value→Shared→Prop} {s:Shared} {d it:Addr} {ents:Array DictEntry} {ep i:Nat}
theorem DEnt.ty (x:DEnt s.heap d ents ep):s.TypeIs (.ref d) "dict" := by
 obtain ⟨o,g,e,_⟩:=x
 exact ⟨o,g,e.1⟩
theorem DEnt.lt {h:Heap} (x:DEnt h d ents ep):d < h.objs.size:=by
 obtain ⟨o,g,_⟩:=x
 exact Heap.lt_size g
theorem G7 {Q:Value→Shared→Prop} (lo:(d == sysModules)=false) (x:DEnt s.heap d ents ep)
 (fin:Q (.ref s.heap.objs.size) { s with heap:=s.heap.push { cls:=.type "dict_keyiterator", data:=.fields #[.ref d,.int 0 0,.int ents.size 0,.int ep 0] } }):wpAny (model prog w) A (pyIter (.ref d)) Q E s:=by
 have ty:=x.ty
 obtain ⟨o,g,ex,dat⟩:=x
 refine wpAny_pyIter_slot ty F.slot_dict_iter (wpAny_call_entry F.slot_dict_iter ty F.entry_dict_iter ?_ (F.args_dict_iter_1 _))
 unfold Builtin.«dict.__iter__» Builtin.Dict.dictSlotNone
 refine wpAny_bind (wpAny_bind (wpAny_notOrdered_dict ty (show wpAny _ _ (pure (Value.ref d)) _ _ s from wpAny_pure ?_)))
 show wpAny _ _ (Builtin.Dict.showsAll d >>= _) _ _ s
 unfold Builtin.Dict.showsAll
 rw [if_neg (by rw [lo];exact Bool.false_ne_true)]
 refine wpAny_bind (wpAny_pure (wpAny_bind (wpAny_dictEntries g dat (wpAny_bind (wpAny_dictEpoch g dat ?_)))))
 refine wpAny_bind (wpAny_newObj_type (wpAny_pure ⟨_,rfl, "dict_keyiterator", _,⟨_,Heap.get?_push_size _ rfl,rfl⟩,F.slot_dict_keyiterator_next.lookup,?_⟩))
 simpa [rawInt] using fin
theorem GL {t:DictEntry} {Q:Option Value→Shared→Prop} (hI:s.heap.IsKeyIter it d i ents.size ep) (x:DEnt s.heap d ents ep) (at_i:ents[i]?=some t)
 (fin:∀ h2,h2.IsKeyIter it d (i + 1) ents.size ep→Heap.SameBut it s.heap h2→Q (some t.key) { s with heap:=h2 }):wpAny (model prog w) A (pyNext (.ref it)) Q E s:=by
 obtain ⟨oi,gi,ci,di⟩:=id hI
 obtain ⟨od,gd,exd,dat⟩:=id x
 unfold pyNext
 refine wpAny_bind (wpAny_attempt (wpAny_callSpecial?_slot (name:=Str.ofString "__next__") hI.typeIs F.slot_dict_keyiterator_next (wpAny_call_entry F.slot_dict_keyiterator_next hI.typeIs F.entry_dict_keyiterator_next ?_ (F.args_dict_keyiterator_next_1 _))))
 refine wpAny_bind (wpAny_pure (wpAny_bind (wpAny_bind ?_)))
 first | refine wpAny_bind (wpAny_typeNameOfWhole_keyiter hI.typeIs (wpAny_pure ?_)) | refine wpAny_bind (wpAny_typeNameOf_keyiter hI.typeIs (wpAny_pure ?_))
 refine wpAny_bind (wpAny_fieldsOf gi di ?_)
 have own0:Builtin.Dict_items.ownsTuple "dict_keyiterator" = false:=by decide
 simp only [own0,Bool.false_eq_true,if_false]
 show wpAny _ _ (if (Value.ref d == Value.none)=true then _ else _) _ _ s
 rw [if_neg (show ¬ ((Value.ref d == Value.none)=true) from Bool.false_ne_true)]
 refine wpAny_bind (wpAny_pure (wpAny_bind (wpAny_dictEntries gd dat ?_)))
 rw [if_neg (by simp)]
 refine wpAny_bind (wpAny_pure (wpAny_bind (wpAny_dictEpoch gd dat ?_)))
 rw [if_neg (by simp)]
 refine wpAny_pure ?_
 simp only [show ¬ ((i:Int) < 0) from by lia,if_false,Int.toNat_natCast,at_i]
 refine wpAny_bind ?_
 first | refine wpAny_bind (wpAny_typeNameOfWhole_keyiter hI.typeIs (wpAny_pure ?_)) | refine wpAny_bind (wpAny_typeNameOf_keyiter hI.typeIs (wpAny_pure ?_))
 refine wpAny_bind (wpAny_isOneOf_keyiter hI.typeIs ?_)
 show wpAny _ _ (setField (.ref it) 1 (rawInt ((i:Int)+1)) >>= _) _ _ s
 refine wpAny_bind (wpAny_setField gi di (by simp) ?_)
 have hI2:(s.heap.update it (Obj.mapFields (·.setIfInBounds 1 (rawInt ((i:Int)+1))))).IsKeyIter it d (i + 1) ents.size ep:=by
  refine ⟨_,Heap.get?_update_self _ gi (Obj.isFreed_of_fields (Obj.data_mapFields di _)),(Obj.cls_mapFields ..).trans ci,?_⟩
  rw [Obj.data_mapFields di];simp [rawInt]
 refine wpAny_bind (wpAny_holding (wpAny_bind (wpAny_isOneOf_keyiter (s:={ s with heap:=s.heap.update it (Obj.mapFields (·.setIfInBounds 1 (rawInt ((i:Int)+1)))) }) hI2.typeIs ?_)))
 show wpAny _ _ (pure t.key) _ _ _
 exact wpAny_pure (wpAny_pure ⟨_,rfl,wpAny_pure (fin _ hI2 (Heap.SameBut.update ..))⟩)
theorem LF {Q:Option Value→Shared→Prop} (hh:A.handled=none) (hI:s.heap.IsKeyIter it d ents.size ents.size ep) (x:DEnt s.heap d ents ep) (fin:∀ h2,Heap.ExtBut it s.heap h2→Q none { s with heap:=h2 }):wpAny (model prog w) A (pyNext (.ref it)) Q E s:=by
 obtain ⟨oi,gi,ci,di⟩:=id hI
 obtain ⟨od,gd,exd,dat⟩:=id x
 unfold pyNext
 refine wpAny_bind (wpAny_attempt (wpAny_callSpecial?_slot (name:=Str.ofString "__next__") hI.typeIs F.slot_dict_keyiterator_next (wpAny_call_entry F.slot_dict_keyiterator_next hI.typeIs F.entry_dict_keyiterator_next ?_ (F.args_dict_keyiterator_next_1 _))))
 refine wpAny_bind (wpAny_pure (wpAny_bind (wpAny_bind ?_)))
 first | refine wpAny_bind (wpAny_typeNameOfWhole_keyiter hI.typeIs (wpAny_pure ?_)) | refine wpAny_bind (wpAny_typeNameOf_keyiter hI.typeIs (wpAny_pure ?_))
 refine wpAny_bind (wpAny_fieldsOf gi di ?_)
 have own0:Builtin.Dict_items.ownsTuple "dict_keyiterator" = false:=by decide
 simp only [own0,Bool.false_eq_true,if_false]
 show wpAny _ _ (if (Value.ref d == Value.none)=true then _ else _) _ _ s
 rw [if_neg (show ¬ ((Value.ref d == Value.none)=true) from Bool.false_ne_true)]
 refine wpAny_bind (wpAny_pure (wpAny_bind (wpAny_dictEntries gd dat ?_)))
 rw [if_neg (by simp)]
 refine wpAny_bind (wpAny_pure (wpAny_bind (wpAny_dictEpoch gd dat ?_)))
 rw [if_neg (by simp)]
 refine wpAny_pure ?_
 simp only [show ¬ (((ents.size:Nat):Int) < 0) from by lia,if_false,Int.toNat_natCast,Array.getElem?_eq_none (8:)]
 refine wpAny_bind ?_
 first | refine wpAny_bind (wpAny_typeNameOfWhole_keyiter hI.typeIs (wpAny_pure ?_)) | refine wpAny_bind (wpAny_typeNameOf_keyiter hI.typeIs (wpAny_pure ?_))
 show wpAny _ _ (setField (.ref it) 0 .none >>= _) _ _ s
 refine wpAny_bind (wpAny_setField gi di (by simp) ?_)
 show wpAny _ _ (newExc (.type "StopIteration") [] >>= _) _ _ _
 refine wpAny_bind ?_
 simp only [newExc,newTuple]
 refine wpAny_bind (wpAny_newObj_type ?_ (by size_fits))
 refine wpAny_bind (m:=firstArgMember _ _) (wpAny_of_eq (a:=Value.none) (by first | rfl | (simp only [firstArgMember];rfl)) ?_)
 refine wpAny_newObj_type ?_ (by size_fits)
 simp only [raiseNew]
 refine wpAny_bind (wpAny_handled ?_)
 rw [show A.in1.handled=none from hh]
 refine wpAny_bind (wpAny_pure (wpAny_throw ?_))
 refine wpAny_bind (wpAny_isInstance (T:="StopIteration") (b:=true) ⟨_,Heap.get?_push_size _ rfl,rfl⟩ isSubtype_stop ?_)
 exact wpAny_pure (fin _ (((Heap.SameBut.update ..).extBut.push _).push _))
theorem GD (hh:A.handled=none) (ne:d≠it):Walks prog w A it [it,d] [it] ents.size (fun i v=>∃ t,ents[i]?=some t∧v=t.key) (fun i h=>h.IsKeyIter it d i ents.size ep∧DEnt h d ents ep) where
 sub:=fun b hb=>by simp at hb;simp [hb]
 frame:=fun _ h h2 st k=>by
  obtain ⟨⟨oi,gi,ri⟩,od,gd,rd⟩:=st
  exact ⟨⟨oi,k it (by simp) oi gi,ri⟩,od,k d (by simp) od gd,rd⟩
 item:=fun i s Q E hi st fin=>by
  refine GL st.1 st.2 (Array.getElem?_eq_getElem hi) fun h2 I2 sb=>?_
  obtain ⟨od,gd,rd⟩:=st.2
  refine fin _ h2 s.toks ⟨_,Array.getElem?_eq_getElem hi,rfl⟩ ⟨I2,od,sb.extBut d od ne gd,rd⟩ fun b o hb e=>sb.extBut b o (fun z=>hb (by simp [z])) e
 done:=fun s Q E st fin=>LF hh st.1 st.2 fun h2 he=>fin h2 s.toks fun b o hb e=>he b o (fun z=>hb (by simp [z])) e
 self:=fun _ _ _ _ st fin=>wpAny_pyIter_keyiter st.1 fin
theorem M4 (lo:(d == sysModules)=false):KdlSrc prog w "dict" d d ents.size (fun i v=>∃ t,ents[i]?=some t∧v=t.key) (fun h=>DEnt h d ents ep) where
 type:=fun _ x=>x.ty
 there:=fun _ x=>⟨x.lt,x.lt⟩
 keep:=fun _ _ x k=>by
  obtain ⟨o,g,r⟩:=x
  exact ⟨o,k d (.inl rfl) o g,r⟩
 notList:=by decide
 notTuple:=by decide
 hint:=fun _ _ _ _ x q=>kdl_hint_dict x.ty q
 iter:=fun _ _ hh x=>⟨_,_,(fun _ _ q=>G7 lo x q),GD hh (Nat.ne_of_lt x.lt),⟨⟨_,Heap.get?_push_size _ rfl,rfl,rfl⟩,by
  obtain ⟨o,g,r⟩:=x
  exact ⟨o,Heap.get?_push_of_some _ g,r⟩⟩⟩
end
theorem J9 {α:Type} {l:Array α} {m:List α} (h:l.toList=m):l.size=m.length:=by rw [← h,Array.length_toList]
section
variable {X:Cx}
theorem call_listDT (hc:X.calm=true):Zv X (.type "list") (fun xs H Q=>∃ (d:Addr) (kvs:List (List Key × V)) (cs:List (Int × Int)),xs=[.ref d]∧H d=some (.dT kvs)∧kvs.map (·.1)=cs.map (fun c=>[Sum.inl c.1,Sum.inl c.2]) ∧
 ∀ (out:List (Addr × Int × Int)) p,out.map (·.2)=cs→(∀ t ∈ out,H t.1=some (.tup [.int t.2.1,.int t.2.2]))→H p=none→Q (.ref p) (upd H p (.lst (out.map fun t=>V.ref t.1)))):=by
 intro pins s σ H xs us Q I r h
 obtain ⟨d,kvs,cs,rfl,hd,hk,q⟩:=h
 cases r with
 | cons r rr =>
  cases rr
  obtain rfl:_=Value.ref d:=r
  obtain ⟨z,lo,ys,rkv,hD⟩:=Ml I.hok hd
  have hlen:kvs.length=cs.length:=by have:=congrArg List.length hk;simpa using this
  have hly:=Paired.length rkv
  obtain ⟨o,ents,ep,g1,g2,g3,g4,g5,g6⟩:=hD
  have hes:ents.size=ys.length:=by rw [J9 g4,List.length_map]
  have hts:∃ ts:List (Addr × Int × Int),ents.toList.map (·.key)=(ts.map fun t=>Value.ref t.1)∧ts.map (·.2)=cs∧∀ t ∈ ts,H t.1=some (.tup [.int t.2.1,.int t.2.2]):=by
   rw [g4,List.map_map]
   clear g4 g5 g6 hes hly z hd hlen q
   induction rkv generalizing cs with
   | nil =>
    cases cs with
    | nil=>exact ⟨[],rfl,rfl,fun t ht=>(nomatch ht)⟩
    | cons _ _=>cases hk
   | @cons p y ps ys h t ih =>
    cases cs with
    | nil=>cases hk
    | cons c cs =>
     rw [List.map_cons,List.map_cons] at hk
     injection hk with k1 k2
     obtain ⟨ts,e1,e2,e3⟩:=ih cs k2
     refine ⟨(y.2.1,c.1,c.2) :: ts,by rw [List.map_cons,List.map_cons,e1];rfl,by rw [List.map_cons,e2],fun t ht=>?_⟩
     rcases List.mem_cons.mp ht with rfl | ht
     ·have:=h.2.1
      rw [k1] at this
      exact this
     ·exact e3 t ht
  obtain ⟨ts,e1,e2,e3⟩:=hts
  refine PySem.W.kdl_call (M4 (ents:=ents) (ep:=ep) lo) (I.ok.hd hc) ⟨o,g1,g2,g3⟩ (10:) fun h1 tk acc c' keep new its=>?_
  have e:acc.toList=ents.toList.map (·.key):=by
   refine List.ext_getElem? fun j=>?_
   rw [List.getElem?_map,Array.getElem?_toList,Array.getElem?_toList]
   by_cases hj:j < ents.size
   ·have hj2:j < acc.size:=by rw [its.1];exact hj
    obtain ⟨t,e1,e2⟩:=its.2 j _ (Array.getElem?_eq_getElem hj2)
    rw [Array.getElem?_eq_getElem hj2,e1,e2];rfl
   ·have hj2:¬ j < acc.size:=by rw [its.1];exact hj
    rw [Array.getElem?_eq_none (Nat.not_lt.mp hj2),Array.getElem?_eq_none (Nat.not_lt.mp hj)];rfl
  have hfr:H s.heap.objs.size=none:=I.hok.fresh (8:)
  refine ⟨.ref s.heap.objs.size,_,I.laid (t':=tk) (o:=.lst (ts.map fun t=>V.ref t.1)) keep (8:) ?_,rfl,q ts _ e2 e3 hfr⟩
  have htl:ts.length=kvs.length:=by have:=congrArg List.length e2;rw [List.length_map] at this;lia
  refine ⟨by rw [List.length_map];lia,acc.toList,c',?_,by rw [Array.toArray_toList];exact new⟩
  rw [e,e1]
  clear e1 e2 e3 htl
  induction ts with
  | nil=>exact .nil
  | cons t r ih=>exact .cons rfl ih
end
theorem Js {prog:Program} {w:World} {d:Addr} (hd:(d == sysModules)=false) :
 MeetsIn prog w (Builtin.«dict.__len__» ⟨[.ref d],[]⟩) (fun _ R s=>∃ ents ep,DEnt s.heap d ents ep∧R (.ok (.ret (.int ents.size s.toks))) { s with toks:=s.toks + 1 }) :=
 .of_wp fun A R s ⟨ents,ep,hm,h⟩=>by
  obtain ⟨o,ho,hc,hdat⟩:=hm
  show wpAny _ _ (dictSize d >>= _) _ _ s
  unfold dictSize
  refine wpAny_bind (wpAny_bind (wpAny_dictEntries ho hdat (wpAny_pure ?_)))
  show wpAny _ _ (Builtin.Dict.pendingCount d >>= _) _ _ s
  refine wpAny_bind (wpAny_pendingCount_other hd ?_)
  refine wpAny_ret_mkInt ?_
  rw [Nat.add_zero];exact h
theorem JK {prog:Program} {w:World} {A:Around} {E:Value→Shared→Prop} {s:Shared} {d:Addr} {ents:Array DictEntry} {ep:Nat} {Q:Value→Shared→Prop} (hd:(d == sysModules)=false) (hm:DEnt s.heap d ents ep) (hfit:(ents.size:Int) < 2 ^ 63)
 (h:Q (.int ents.size (s.toks + 1)) { s with toks:=s.toks + 1 + 1 }):wpAny (model prog w) A (call (.builtin "len") [.ref d]) Q E s:=by
 refine Calls.call_function_entry kind_len plain_len entry_len (args_len1 _) ?_
 unfold Builtin.«len»
 refine wpAny_bind (m:=oneArg "len" _) (wpAny_pure ?_)
 refine wpAny_bind (m:=callSpecial? (.ref d) (Str.ofString "__len__")) (wpAny_callSpecial?_slot (name:=Str.ofString "__len__") hm.ty F.slot_dict_len
  (call_meetsIn F.slot_dict_len hm.ty F.entry_dict_len (F.args_dict_len_1 _) (Js hd) ⟨ents,ep,hm,?_⟩))
 show wpAny _ _ _ _ _ { s with toks:=s.toks + 1 }
 refine wpAny_bind (wpAny_holding (wpAny_pure ?_))
 refine wpAny_bind (wpAny_letGo ?_)
 show wpAny _ _ (if ((ents.size:Nat):Int) < 0 then _ else _) _ _ _
 rw [if_neg (10:)]
 show wpAny _ _ (if ((ents.size:Nat):Int) ≥ 2 ^ 63 then _ else _) _ _ _
 rw [if_neg (10:)]
 exact wpAny_bind (wpAny_mkInt (wpAny_pure ⟨_,rfl,h⟩))
section
variable {X:Cx}
theorem call_lenDT:Zv X (.builtin "len") (fun xs H Q=>∃ (d:Addr) (kvs:List (List Key × V)),xs=[.ref d]∧H d=some (.dT kvs)∧Q (.int (kvs.length:Int)) H):=by
 intro pins s σ H xs us Q I rr h
 obtain ⟨d,kvs,rfl,hd,q⟩:=h
 obtain ⟨u,rfl,rx⟩:=Xj rr
 cases rx
 obtain ⟨z,lo,ys,rkv,hD⟩:=Ml I.hok hd
 have hly:=Paired.length rkv
 obtain ⟨o,ents,ep,g1,g2,g3,g4,g5,g6⟩:=hD
 have hes:ents.size=kvs.length:=by rw [J9 g4,List.length_map,hly]
 have hl:=Ut
 exact JK lo ⟨o,g1,g2,g3⟩ (by rw [hes];lia) ⟨.int (kvs.length:Int),H,(I.tok _).tok _,⟨s.toks + 1,by rw [hes]⟩,q⟩
end
end LD
end L2
namespace K68
open PySem L2 TM TT K9 K11
def dW (ks:List KdT):List (Str × List PNx):=ks.map fun k=>(k.2.1,k.2.2.2)
structure NewWd (K:Fg) (H H':Hp) (lw:Addr) (ks:List KdT):Prop where
 n0:H lw=none
 at0:H' lw=some (.lst (ks.map fun k=>V.ref k.1))
 kd:∀ k ∈ ks,SqT K H' k.1 [.str k.2.1,.ref k.2.2.1]∧H' k.2.2.1=some (.lst (k.2.2.2.map fun t=>V.ref t.1))∧H k.2.2.1=none∧∀ t ∈ k.2.2.2,RowAt K H' t
abbrev NM (K:Fg):List V→Hp→VK→Prop:=fun xs H Q=>∃ p ys,xs=[.ref p]∧(SqL K H p ys∨SqT K H p ys)∧∀ l,H l=none→Q (.ref l) (upd H l (.lst ys))
def VI (K:Fg):Sp:=fun vs H Q _=>∃ (w:Addr) (ks:List KdT),vs=[.ref w]∧WoodAt K H w ks∧ks.length≤100∧∀ (lw:Addr) (H':Hp) (ks':List KdT),Same H H'→NewWd K H H' lw ks'→dW ks'=dW ks→Q (.ref lw) H'
theorem V3 {K:Fg} {H:Hp} {v:V} {t:TP} (h:TpV K H v t):(∃ a p i j b,v=.ref a∧t=.node (.call i j b) 0 []∧SqT K H a [.str YA,.ref p,.int b]∧H p=some (.tup [.int i,.int j])) ∨
 ∃ a b vs n k ad,v=.ref a∧t=.node (.put n k ad) 0 t.bs∧SqT K H a [.str PUT,.str n,.bl k,.int ad,.ref b]∧SqT K H b vs∧TpAll K H vs t.bs∧vs.length≤1000:=by
 cases h with
 | call h1 h2=>exact .inl ⟨_,_,_,_,_,rfl,rfl,h1,h2⟩
 | put h1 h2 h3 h4=>exact .inr ⟨_,_,_,_,_,_,rfl,rfl,h1,h2,h3,h4⟩
theorem TpAll.get {K:Fg} {H:Hp}:∀ {vs:List V} {ts:List TP} {i:Nat} {t:TP},TpAll K H vs ts→ts[i]?=some t→∃ v,vs[i]?=some v∧TpV K H v t
 | _,_,_,_,.nil,e=>by simp at e
 | _,_,0,_,.cons h _,e=>by simp at e;subst e;exact ⟨_,rfl,h⟩
 | _,_,i + 1,t,.cons _ r,e=>by
  obtain ⟨v,h1,h2⟩:=TpAll.get (i:=i) (t:=t) r (by simpa using e)
  exact ⟨v,by simpa using h1,h2⟩
abbrev Pr:=Int × Int
mutual
def clP:TP→List (Pr × Int)
 | .node (.call i j b) _ _=>[((i,j),b)]
 | .node (.put _ _ _) _ bs=>clPs bs
def clPs:List TP→List (Pr × Int)
 | []=>[]
 | t :: r=>clP t ++ clPs r
end
theorem Xl (ts:List TP) (c:TP):clPs (ts ++ [c])=clPs ts ++ clP c:=by
 induction ts with
 | nil=>simp [clPs]
 | cons t r ih=>rw [List.cons_append,clPs,clPs,ih,List.append_assoc]
mutual
theorem XO:∀ t:TP,(clP t).length≤sz t
 | .node (.call i j b) _ bs=>by rw [clP,sz];simp
 | .node (.put n k a) _ bs=>by rw [clP,sz];have:=Jf bs;lia
theorem Jf:∀ ts:List TP,(clPs ts).length≤szs ts
 | []=>by rw [clPs,szs];exact Nat.le_refl _
 | t :: r=>by rw [clPs,szs,List.length_append];have:=XO t;have:=Jf r;lia
end
theorem Gk {ts:List TP} {t:TP} {c:Pr × Int} (h:t ∈ ts) (hc:c ∈ clP t):c ∈ clPs ts:=by
 induction ts with
 | nil=>cases h
 | cons u r ih =>
  rw [clPs]
  rcases List.mem_cons.mp h with rfl | h
  ·exact List.mem_append_left _ hc
  ·exact List.mem_append_right _ (ih h)
mutual
def mpP (g:Pr→Int):TP→Tm
 | .node (.call i j b) _ _=>.node (.call (g (i,j)) b) 0 []
 | .node (.put n k a) _ bs=>.node (.put n k a) 0 (Nd g bs)
def Nd (g:Pr→Int):List TP→List Tm
 | []=>[]
 | t :: r=>mpP g t :: Nd g r
end
theorem U5 (g:Pr→Int):∀ ts:List TP,Nd g ts=ts.map (mpP g)
 | []=>by rw [Nd];rfl
 | t :: r=>by rw [Nd,U5 g r];rfl
abbrev TsT:=Addr × Addr × Pr × Int
abbrev RfP (ts:List TsT):List V:=ts.map fun t=>V.ref t.1
def TsP (K:Fg) (H:Hp) (ts:List TsT):Prop:=∀ t ∈ ts,SqT K H t.1 [.ref t.2.1,.int t.2.2.2]∧H t.2.1=some (.tup [.int t.2.2.1.1,.int t.2.2.1.2])
theorem TsP.mono {K:Fg} {H H':Hp} {ts:List TsT} (h:TsP K H ts) (k:KeepT K H H'):TsP K H' ts:=fun t ht=>⟨k.1 _ _ (h t ht).1,k.2 _ _ (h t ht).2⟩
theorem TsP.app {K:Fg} {H:Hp} {ts us:List TsT} (h:TsP K H ts) (k:TsP K H us):TsP K H (ts ++ us):=fun t ht=>by
 rcases List.mem_append.mp ht with z | z
 ·exact h t z
 ·exact k t z
def VE (K:Fg) (n:Nat):Sp:=fun vs H Q _=>∃ (v:V) (t:TP),vs=[v]∧TpV K H v t∧lv t≤n∧sz t≤1000 ∧
 ∀ (l:Addr) (H':Hp) (ts:List TsT),Same H H'→H l=none→H' l=some (.lst (RfP ts))→TsP K H' ts→ts.map (·.2.2)=clP t→Q (.ref l) H'
def Ze (ps:List Pr):List (List Key × V):=ps.zipIdx.map fun q=>([Sum.inl q.1.1,Sum.inl q.1.2],V.int (q.2:Int))
theorem GH (ps:List Pr) (p:Pr):Ze (ps ++ [p])=Ze ps ++ [([Sum.inl p.1,Sum.inl p.2],V.int (ps.length:Int))]:=by
 unfold Ze
 rw [List.zipIdx_append,List.map_append];simp
theorem ZA (ps:List Pr):(Ze ps).length=ps.length:=by unfold Ze;simp
theorem GS (ps:List Pr):(Ze ps).map (·.1)=ps.map fun c=>[Sum.inl c.1,Sum.inl c.2]:=by
 unfold Ze
 rw [List.map_map]
 have:((fun x:List Key × V=>x.1) ∘ fun q:Pr × Nat=>(([Sum.inl q.1.1,Sum.inl q.1.2]:List Key),V.int (q.2:Int)))=(fun c:Pr=>([Sum.inl c.1,Sum.inl c.2]:List Key)) ∘ Prod.fst:=rfl
 rw [this,← List.map_map,List.zipIdx_map_fst]
theorem Pd {d e:Pr} (h:([Sum.inl d.1,Sum.inl d.2]:List Key)=[Sum.inl e.1,Sum.inl e.2]):d=e:=by
 injection h with h1 h2
 injection h2 with h2
 injection h1 with h1
 injection h2 with h2
 exact Prod.ext h1 h2
def ixP (ps:List Pr) (p:Pr):Int:=(ps.idxOf p:Int)
theorem XZ (p:Pr):∀ (ps:List Pr) (k:Nat),ZM ((ps.zipIdx k).map fun q=>(([Sum.inl q.1.1,Sum.inl q.1.2]:List Key),V.int (q.2:Int))) [Sum.inl p.1,Sum.inl p.2]=if p ∈ ps then some (.int ((ps.idxOf p + k:Nat):Int)) else none
 | [],k=>by simp [ZM]
 | q :: r,k=>by
  rw [List.zipIdx_cons,List.map_cons]
  by_cases e:q=p
  ·rw [ZZ (p:=(([Sum.inl q.1,Sum.inl q.2]:List Key),V.int (k:Int))) (by rw [e]),if_pos (by simp [e])]
   simp [List.idxOf_cons,e]
  ·rw [ZP (p:=(([Sum.inl q.1,Sum.inl q.2]:List Key),V.int (k:Int))) (fun z=>e (Pd z)),XZ p r (k + 1)]
   have e2:(q == p)=false:=by simpa using e
   by_cases hr:p ∈ r
   ·rw [if_pos hr,if_pos (List.mem_cons_of_mem _ hr),List.idxOf_cons,e2]
    simp only [cond_false]
    congr 3
    lia
   ·rw [if_neg hr,if_neg (fun z=>by rcases List.mem_cons.mp z with z | z;exact e z.symm;exact hr z)]
theorem XA {H:Hp} {d p:Addr} {ps:List Pr} {c:Pr} (hd:H d=some (.dT (Ze ps))) (hp:H p=some (.tup [.int c.1,.int c.2])):DGet H d (.ref p) (if c ∈ ps then some (.int (ixP ps c)) else none):=by
 have:=DGet.t (k:=[Sum.inl c.1,Sum.inl c.2]) hd hp
 unfold Ze at this
 rw [XZ c ps 0] at this
 exact this
def Nl (K:Fg):Sp:=fun vs H Q _=>∃ (a l:Addr) (ws:List V) (z y:V) (n:Str) (k:Bool) (ad:Int) (us:List Tm),vs=[.ref a,.ref l]∧SqT K H a [z,.str n,.bl k,.int ad,y]∧SqL K H l ws∧TmAll K H ws us∧ws.length≤1000 ∧
 ∀ (v':V) (H':Hp),Same H H'→TmV K H' v' (.node (.put n k ad) 0 us)→Q v' H'
def JL (K:Fg) (n:Nat):Sp:=fun vs H Q _=>∃ (v:V) (d:Addr) (ps:List Pr) (t:TP),vs=[v,.ref d]∧TpV K H v t∧lv t≤n∧H d=some (.dT (Ze ps))∧(∀ c ∈ clP t,c.1 ∈ ps)∧∀ (v':V) (H':Hp),Same H H'→TmV K H' v' (mpP (ixP ps) t)→Q v' H'
section
variable {P:Program} {w:World} {K:Fg} {mg:Str→Option Value} {base:Heap} {f:Addr} {fd:FuncData}
theorem Px:FnScope ["wood"] ["wood"] (defScope PH):=(1:)
theorem Nx (F:Fun K "own_wood" "own_wood" PH f fd) (G:Gm mg):FnOk P w K mg base CX0 1 f fd ["wood"] (VI K):=by
 refine F.ok Px (13:) (3:)
 ·obtain ⟨wd,ks,rfl,_⟩:=h
  rfl
 obtain ⟨wd,ks,rfl,hW,h100,q⟩:=h
 refine ⟨_,(Qk (Qq (QT (CompG.many (xs:=["kind", "rows"]) (caps:=[]) (cap:=[]) (cs:=[]) rfl rfl (0:) (0:) (0:) (0:) (0:) (0:) rfl rfl rfl) rfl (Q4 (pv 0)) (OH (CompG.many (xs:=["kind", "rows"]) (caps:=[]) (cap:=[]) (cs:=[]) rfl rfl (0:) (0:) (0:) (0:) (0:) (0:) rfl rfl rfl) rfl) (fun _ _ _ _=>Q6) (fun _ _ _ _=>(QC (Qa (pv 0) (Qa (QP (r:=NM K) XU rfl G.lst PyProof.Rows.boot_list (Qa (pv 1) Qe)) Qe))))))),?_⟩
 try dsimp only [QB,Cx.nox]
 refine ⟨_,rfl,wd,rfl,⟨_,hW.1⟩,fun acc hacc=>?_⟩
 refine VY (K:=K) (xs:=ks.map fun t=>V.ref t.1) (cs:=[]) (tt:=fun _ H Q=>Q true H) (fun j ys H'=>∃ ks':List KdT,ys=ks'.map (fun k=>V.ref k.1)∧dW ks'=dW (ks.take j)∧H' acc=some (.lst ys)∧Same H H'∧∀ k ∈ ks',SqT K H' k.1 [.str k.2.1,.ref k.2.2.1]∧H' k.2.2.1=some (.lst (k.2.2.2.map fun t=>V.ref t.1))∧H k.2.2.1=none∧k.2.2.1≠acc∧∀ t ∈ k.2.2.2,RowAt K H' t)
  ⟨[],rfl,rfl,Qd,Qf hacc _,fun k hk=>(nomatch hk)⟩ ?_ ?_ ?_
 ·rintro j ys H' _ ⟨_,_,_,_,g,_⟩
  exact g.seq hW.1
 ·rintro j x ys H' hj hx ⟨ks',rfl,hd,hy,g,hA⟩
  rw [List.length_map] at hj
  obtain rfl:x=.ref ks[j].1:=by
   rw [List.getElem?_map,List.getElem?_eq_getElem hj] at hx
   exact (Option.some.inj hx).symm
  obtain ⟨k1,k2⟩:=hW.2 ks[j] (List.getElem_mem hj)
  refine ⟨_,_,_,rfl,g.seqT k1,Q8 ⟨_,rfl,_,rfl,ks[j].2.2.1,_,rfl,.inl (g.seq k2.1),fun l1 hl1=>⟨(9:),fun p hp=>?_⟩⟩⟩
  have s1:=Qf hl1 (.lst (ks[j].2.2.2.map fun t=>V.ref t.1))
  have b1:upd H' l1 (.lst (ks[j].2.2.2.map fun t=>V.ref t.1)) l1=some (.lst (ks[j].2.2.2.map fun t=>V.ref t.1)):=Qd
  generalize upd H' l1 (.lst (ks[j].2.2.2.map fun t=>V.ref t.1))=X1 at s1 b1 hp ⊢
  have s2:=Qf hp (.tup [.str ks[j].2.1,.ref l1])
  have b2:upd X1 p (.tup [.str ks[j].2.1,.ref l1]) p=some (.tup [.str ks[j].2.1,.ref l1]):=Qd
  generalize upd X1 p (.tup [.str ks[j].2.1,.ref l1])=X2 at s2 b2 ⊢
  have g12:=s1.trans s2
  have hlen:ks'.length=j:=by
   have:=congrArg List.length hd
   unfold dW at this
   rw [List.length_map,List.length_map,List.length_take] at this;lia
  have nl:l1≠acc:=fun z=>by rw [z,hy] at hl1;cases hl1
  have nH:H l1=none:=by
   cases e:H l1 with
   | none=>rfl
   | some u=>rw [g _ _ e] at hl1;cases hl1
  have hy2:=g12 _ _ hy
  rw [List.length_map]
  refine QK hj hy2 (by rw [List.length_map];lia) ⟨ks' ++ [(p,ks[j].2.1,l1,ks[j].2.2.2)],by simp,?_,Qd,fun b u e=>?_,fun k hk=>?_⟩
  ·unfold dW at hd ⊢
   rw [List.map_append,hd,List.take_add_one,List.getElem?_eq_getElem hj,Option.toList_some,List.map_append];rfl
  ·rw [Ql (Qj e hacc)];exact g12 _ _ (g _ _ e)
  ·rcases List.mem_append.mp hk with hk | hk
   ·obtain ⟨a1,a2,a3,a4,a5⟩:=hA k hk
    exact ⟨(g12.seqT a1).put hy2,by rw [Ql a4];exact g12 _ _ a2,a3,a4,fun t ht=>⟨(g12.seqT (a5 t ht).1).put hy2,(g12.seqT (a5 t ht).2).put hy2⟩⟩
   ·obtain rfl:=List.mem_singleton.mp hk
    exact ⟨(SqT.of b2).put hy2,by rw [Ql nl];exact s2 _ _ b1,nH,nl,fun t ht=>⟨((g.trans g12).seqT (k2.2 t ht).1).put hy2,((g.trans g12).seqT (k2.2 t ht).2).put hy2⟩⟩
 ·rintro ys H' ⟨ks',rfl,hd,hy,g,hA⟩
  rw [List.length_map,List.take_length] at hd
  exact q acc H' ks' g ⟨hacc,hy,fun k hk=>⟨(hA k hk).1,(hA k hk).2.1,(hA k hk).2.2.1,(hA k hk).2.2.2.2⟩⟩ hd
theorem O4:FnScope ["term", "told", "part"] ["term"] (defScope sCO):=(1:)
theorem RZ {n:Nat} (F:Fun K "calls_of" "calls_of" sCO f fd) (G:Gm mg) (RC:Fn P w K mg base 1 "is_call" ["term"] (ZS K)) (R:Fn P w K mg base (n + 1) "calls_of" ["term"] (VE K n)):FnOk P w K mg base CX0 (n + 2) f fd ["term"] (VE K (n + 1)):=by
 refine F.ok O4 (13:) (3:)
 ·obtain ⟨v,t,rfl,_⟩:=h
  rfl
 obtain ⟨v,t,rfl,ht,hlv,hsz,q⟩:=h
 refine ⟨_,(Qh (QM (QV (Qt RC hr (Qa (pv 0) Qe) (Nat.le_add_left 1 n))) (Qk (Qq (QZ (Qa ((QC (Qa (Qg Qi (pv 0) Qb (2:)) (Qa (Qg Qi (pv 0) Qb (2:)) Qe)))) Qe)))) Qu)
  (Qh (Qp (i:=1) O4.nd rfl (12:) (QZ Qe))
  (Qh (Zc PassesOwn.never rfl (YL (Qg Qi (pv 0) Qb (2:))) (Qr (i:=2) O4.nd rfl (12:))
   (Qk (Q0 (Jw PySem.F.plainAttrs_list PySem.F.slot_list_extend PySem.F.type_list_extend Gz (pv 1) (Qa (Qt R hr (Qa (pv 2) Qe) (8:)) Qe)))))
  (Qk (Qq (pv 1)))))),?_⟩
 try dsimp only [QB,Cx.nox]
 rcases V3 ht with ⟨a,pa,i,j,b,rfl,rfl,h1,hpa⟩ | ⟨a,b,bs,nm,k,ad,rfl,et,h1,h2,h3,h4⟩
 ·refine ⟨_,rfl,a,YA,_,rfl,h1,_,rfl,Z9 rfl ⟨_,rfl,a,_,1,_,rfl,rfl,h1,rfl,_,rfl,a,_,2,_,rfl,rfl,h1,rfl,(9:),fun p hp=>⟨(by show 1≤sizeLine;decide),fun l hl=>?_⟩⟩⟩
  have g1:=Qf hp (.tup [.ref pa,.int b])
  have g2:=Qf hl (.lst [.ref p])
  refine q l _ [(p,pa,(i,j),b)] (g1.trans g2) (g1.free hl) Qd (fun x hx=>?_) rfl
  have:x=(p,pa,(i,j),b):=by simpa using hx
  rw [this]
  exact ⟨g2.seqT (SqT.of Qd),(g1.trans g2) _ _ hpa⟩
 have ecls:clP t=clPs t.bs:=by
  have:=congrArg clP et
  rw [this];simp [clP]
 refine ⟨_,rfl,a,PUT,_,rfl,h1,_,rfl,Z0 (0:) ?_⟩
 have hlen:=h3.length
 rw [ZC] at hlv
 rw [JD] at hsz
 rw [ecls] at q
 refine ⟨(17:),fun l hl=>?_⟩
 have g0:=Qf hl (.lst [])
 refine ⟨_,rfl,a,_,4,_,rfl,rfl,g0.seqT h1,rfl,b,rfl,⟨_,g0.seqT h2⟩,?_⟩
 refine We (K:=K) (xs:=bs) (fun i σ H'=>∃ (ts:List TsT) (c1:Option V),σ=[some (.ref a),some (.ref l),c1]∧Same H H'∧H' l=some (.lst (RfP ts))∧TsP K H' ts∧ts.map (·.2.2)=clPs (t.bs.take i))
  ⟨[],none,rfl,g0,Qd,fun x hx=>(nomatch hx),by simp [clPs]⟩ ?_ ?_ ?_
 ·rintro i σ H' _ ⟨ts,c1,_,g,_⟩
  exact g.seqT h2
 ·rintro i x σ H' hx ⟨ts,c1,rfl,g,hl',hts,hcl⟩
  have hi:i < bs.length:=(List.getElem?_eq_some_iff.mp hx).1
  obtain ⟨c,hc⟩ : ∃ c,t.bs[i]?=some c:=⟨_,List.getElem?_eq_getElem (10:)⟩
  obtain ⟨cv,hcv,hct⟩:=h3.get hc
  obtain rfl:cv=x:=Option.some.inj (hcv.symm.trans hx)
  have hm:=List.mem_of_getElem? hc
  have a1:=V2 hm
  have a2:=Rz hm
  refine ⟨_,rfl,.inl ⟨rfl,_,SqL.of hl'⟩,_,rfl,cv,c,rfl,hct.mono (KeepT.same g),by lia,by lia,fun lb Hb tsb gb hlbn hlb htb hclb=>?_⟩
  have hl2:=gb _ _ hl'
  have tl:ts.length≤szs t.bs:=by
   have e:=congrArg List.length hcl
   rw [List.length_map] at e
   have h5:=Jf (t.bs.take i)
   have hle:=Wt t.bs i
   lia
  have tl2:tsb.length≤sz c:=by
   have e:=congrArg List.length hclb
   rw [List.length_map] at e
   have h5:=XO c
   lia
  refine ⟨l,lb,_,_,rfl,rfl,hl2,hlb,?_,?_⟩
  ·rw [List.length_map,List.length_map];exact Zy (10:)
  refine ⟨ts ++ tsb,_,rfl,fun x u e=>?_,by rw [Qd];simp,?_,?_⟩
  ·rw [Ql (Qj e hl)];exact gb _ _ (g _ _ e)
  ·exact (hts.mono ((KeepT.same gb).trans (KeepT.put hl2))).app (htb.mono (KeepT.put hl2))
  ·rw [List.map_append,hcl,hclb,List.take_add_one,hc]
   show _=(clPs (t.bs.take i ++ [c]))
   rw [Xl]
 ·rintro σ H' ⟨ts,c1,rfl,g,hl',hts,hcl⟩
  rw [List.take_of_length_le (10:)] at hcl
  exact ⟨_,rfl,q l H' ts g hl hl' hts hcl⟩
theorem NO {k:Nat}:FnOk P w K mg base CX0 k f fd ["term"] (VE K 0):=by
 have no:∀ vs H Q E,¬ VE K 0 vs H Q E:=fun vs H Q E h=>by
  obtain ⟨v,t,_,_,h0,_⟩:=h
  rw [ZC] at h0;lia
 exact ⟨fun vs H Q E h=>absurd h (no vs H Q E),fun A outer s H args us vs Q E _ _ _ _ h=>absurd h (no vs H Q E)⟩
theorem Lx (F:Fun K "calls_of" "calls_of" sCO f fd) (G:Gm mg) (RC:Fn P w K mg base 1 "is_call" ["term"] (ZS K)) (hb:Binds K fd ["term"] []) (hm:mg "calls_of" = some (.ref f)):∀ n:Nat,FnOk P w K mg base CX0 (n + 1) f fd ["term"] (VE K n)
 | 0=>NO
 | n + 1=>RZ F G RC ⟨f,fd,Lx F G RC hb hm n,hb,F.kp,hm⟩
theorem ST:FnScope ["term", "parts"] ["term", "parts"] (defScope Vc):=(1:)
theorem So (F:Fun K "with_parts" "with_parts" Vc f fd) (G:Gm mg):FnOk P w K mg base CX0 1 f fd ["term", "parts"] (Nl K):=by
 refine F.ok ST (13:) (3:)
 ·obtain ⟨a,l,ws,z,y,n,k,ad,us,rfl,_⟩:=h
  rfl
 obtain ⟨a,l,ws,z,y,n,k,ad,us,rfl,h1,hl,hw,hwl,q⟩:=h
 refine ⟨_,(Qk (Qq (QC (Qa (Qs) (Qa (Qg Qi (pv 0) Qb (2:)) (Qa (Qg Qi (pv 0) Qb (2:)) (Qa (Qg Qi (pv 0) Qb (2:)) (Qa (QP Q2 rfl G.tup PyProof.Rows.boot_tuple (Qa (pv 1) Qe)) Qe)))))))),?_⟩
 try dsimp only [QB,Cx.nox]
 refine ⟨_,rfl,a,_,1,_,rfl,rfl,h1,rfl,_,rfl,a,_,2,_,rfl,rfl,h1,rfl,_,rfl,a,_,3,_,rfl,rfl,h1,rfl,_,rfl,l,ws,rfl,.inl ⟨hl,fun t ht=>⟨(by show 5≤sizeLine;decide),fun p hp=>?_⟩⟩⟩
 have g1:=Qf ht (.tup ws)
 have g2:=Qf hp (.tup [.str PUT,.str n,.bl k,.int ad,.ref t])
 exact q (.ref p) _ (g1.trans g2) (.put (SqT.of Qd) (g2.seqT (SqT.of Qd)) (hw.mono fun _ _=>(g1.trans g2).seqT) hwl)
theorem NG:FnScope ["term", "numbers"] ["term", "numbers"] (defScope Ji):=(1:)
theorem Se {n:Nat} (F:Fun K "with_modes" "with_modes" Ji f fd) (G:Gm mg) (RC:Fn P w K mg base 1 "is_call" ["term"] (ZS K)) (RW:Fn P w K mg base 1 "with_parts" ["term", "parts"] (Nl K)) (R:Fn P w K mg base (n + 1) "with_modes" ["term", "numbers"] (JL K n)):FnOk P w K mg base CX0 (n + 2) f fd ["term", "numbers"] (JL K (n + 1)):=by
 refine F.ok NG (13:) (3:)
 ·obtain ⟨v,d,ps,t,rfl,_⟩:=h
  rfl
 obtain ⟨v,lt,ps,t,rfl,ht,hlv,hlt,hT,q⟩:=h
 refine ⟨_,(Qh (QM (QV (Qt RC hr (Qa (pv 0) Qe) (Nat.le_add_left 1 n))) (Qk (Qq (QC (Qa (Qs) (Qa (UX (YC hr) (pv 1) (Qg Qi (pv 0) Qb (2:)) (2:)) (Qa (Qg Qi (pv 0) Qb (2:)) Qe)))))) Qu)
  (Qk (Qq (Qt RW hr (Qa (pv 0) (Qa (QT (CompG.many (xs:=["part"]) (caps:=["numbers"]) (cap:=[1]) (cs:=[_]) rfl rfl (0:) (0:) (0:) (0:) (0:) (0:) rfl rfl rfl) rfl (YL (Qg Qi (pv 0) Qb (2:))) (ZL (CompG.many (xs:=["part"]) (caps:=["numbers"]) (cap:=[1]) (cs:=[_]) rfl rfl (0:) (0:) (0:) (0:) (0:) (0:) rfl rfl rfl)) (fun _ _ _ _=>Q6) (fun _ _ _ _=>Qt R hr (Qa (pv 0) (Qa (pv 1) Qe)) (8:))) Qe)) (Nat.le_add_left 1 n))))),?_⟩
 try dsimp only [QB,Cx.nox]
 rcases V3 ht with ⟨a,pa,i,j,b,rfl,rfl,h1,hpa⟩ | ⟨a,b,bs,nm,k,ad,rfl,et,h1,h2,h3,h4⟩
 ·have hin:(i,j) ∈ ps:=hT ((i,j),b) (by simp [clP])
  have hg:=XA (c:=(i,j)) hlt hpa
  rw [if_pos hin] at hg
  refine ⟨_,rfl,a,YA,_,rfl,h1,_,rfl,Z9 rfl ⟨_,rfl,_,rfl,a,_,1,_,rfl,rfl,h1,rfl,lt,_,rfl,hg,_,rfl,a,_,2,_,rfl,rfl,h1,rfl,(16:),fun p hp=>?_⟩⟩
  have g1:=Qf hp (.tup [.str YA,.int (ixP ps (i,j)),.int b])
  exact q (.ref p) _ g1 (.call (SqT.of Qd))
 have ecls:clP t=clPs t.bs:=by
  have:=congrArg clP et
  rw [this];simp [clP]
 rw [ecls] at hT
 refine ⟨_,rfl,a,PUT,_,rfl,h1,_,rfl,Z0 (0:) ?_⟩
 have hlen:=h3.length
 rw [ZC] at hlv
 refine ⟨_,rfl,_,rfl,a,_,4,_,rfl,rfl,h1,rfl,b,rfl,⟨_,h2⟩,fun acc hacc=>?_⟩
 refine Xz (K:=K) (xs:=bs) (cs:=[some (.ref lt)]) (tt:=fun _ H Q=>Q true H) (te:=Xn (JL K n) [] E0 (Yj (UP 0) (Yj (UP 1) Wl))) (fun i ys H'=>H' acc=some (.lst ys)∧Same H H'∧ys.length=i∧TmAll K H' ys ((t.bs.take i).map (mpP (ixP ps))))
  ⟨Qd,Qf hacc _,rfl,.nil⟩ ?_ ?_ ?_
 ·rintro i ys H' _ ⟨_,g,_⟩
  exact g.seqT h2
 ·rintro i x ys H' hi hx ⟨hya,g,hyl,hys⟩
  obtain ⟨c,hc⟩ : ∃ c,t.bs[i]?=some c:=⟨_,List.getElem?_eq_getElem (10:)⟩
  obtain ⟨cv,hcv,hct⟩:=h3.get hc
  obtain rfl:cv=x:=Option.some.inj (hcv.symm.trans hx)
  have hm:=List.mem_of_getElem? hc
  have a1:=V2 hm
  refine Q8 ⟨_,rfl,_,rfl,cv,lt,ps,c,rfl,hct.mono (KeepT.same g),by lia,g _ _ hlt,fun c' hc'=>hT c' (Gk hm hc'),fun v' H4 g4 hv'=>?_⟩
  refine QK (ys:=ys) hi (g4 _ _ hya) (10:) ⟨Qd,fun x u e=>?_,by simp [hyl],?_⟩
  ·rw [Ql (Qj e hacc)];exact g4 _ _ (g _ _ e)
  ·rw [List.take_add_one,hc]
   show TmAll K _ (ys ++ [v']) ((t.bs.take i ++ [c]).map (mpP (ixP ps)))
   rw [List.map_append]
   refine TmAll.append (hys.mono fun _ _ h=>(g4.seqT h).put (g4 _ _ hya)) (.cons (hv'.mono fun _ _ h=>h.put (g4 _ _ hya)) .nil)
 rintro ys H1 ⟨hya,g,hyl,hys⟩
 have et2:t.bs.take bs.length=t.bs:=List.take_of_length_le (10:)
 rw [et2] at hys
 refine ⟨a,acc,ys,_,_,nm,k,ad,t.bs.map (mpP (ixP ps)),rfl,g.seqT h1,SqL.of hya,hys,by lia,fun v' H2 g2 hv'=>q v' H2 (g.trans g2) ?_⟩
 rw [et]
 rw [mpP,U5]
 exact hv'
theorem N7 {k:Nat}:FnOk P w K mg base CX0 k f fd ["term", "numbers"] (JL K 0):=by
 have no:∀ vs H Q E,¬ JL K 0 vs H Q E:=fun vs H Q E h=>by
  obtain ⟨v,d,ps,t,_,_,h0,_⟩:=h
  rw [ZC] at h0;lia
 exact ⟨fun vs H Q E h=>absurd h (no vs H Q E),fun A outer s H args us vs Q E _ _ _ _ h=>absurd h (no vs H Q E)⟩
theorem Lg (F:Fun K "with_modes" "with_modes" Ji f fd) (G:Gm mg) (RC:Fn P w K mg base 1 "is_call" ["term"] (ZS K)) (RW:Fn P w K mg base 1 "with_parts" ["term", "parts"] (Nl K)) (hb:Binds K fd ["term", "numbers"] []) (hm:mg "with_modes" = some (.ref f)):∀ n:Nat,FnOk P w K mg base CX0 (n + 1) f fd ["term", "numbers"] (JL K n)
 | 0=>N7
 | n + 1=>Se F G RC RW ⟨f,fd,Lg F G RC RW hb hm n,hb,F.kp,hm⟩
end
end K68
namespace K68
open PySem L2 TM TT K9 K11
def Z8 (ps:List Pr) (p:Pr):List Pr:=if p ∈ ps then ps else ps ++ [p]
def addPs (ps l:List Pr):List Pr:=l.foldl Z8 ps
theorem Uo (ps l r:List Pr):addPs ps (l ++ r)=addPs (addPs ps l) r:=List.foldl_append ..
theorem MC {ps:List Pr} {d e:Pr}:e ∈ Z8 ps d ↔ e ∈ ps∨e=d:=by
 unfold Z8
 by_cases h:d ∈ ps
 ·rw [if_pos h]
  exact ⟨.inl,fun z=>z.elim id fun z=>by rw [z];exact h⟩
 ·rw [if_neg h];simp
theorem Zo {e:Pr}:∀ {l ps:List Pr},e ∈ addPs ps l ↔ e ∈ ps∨e ∈ l
 | [],ps=>by simp [addPs]
 | d :: l,ps=>by
  show e ∈ addPs (Z8 ps d) l ↔ _
  rw [Zo,MC,List.mem_cons,or_assoc]
theorem Lq {ps:List Pr} {d:Pr}:ps.length≤(Z8 ps d).length:=by
 unfold Z8
 by_cases e:d ∈ ps
 ·rw [if_pos e];exact Nat.le_refl _
 ·rw [if_neg e,List.length_append];lia
theorem J1:∀ {l ps:List Pr},ps.length≤(addPs ps l).length
 | [],ps=>Nat.le_refl _
 | d :: l,ps=>Nat.le_trans Lq (J1 (l:=l) (ps:=Z8 ps d))
theorem JP:∀ {l ps:List Pr},∃ r,addPs ps l=ps ++ r
 | [],ps=>⟨[],by simp [addPs]⟩
 | d :: l,ps=>by
  obtain ⟨r,e⟩:=JP (l:=l) (ps:=Z8 ps d)
  by_cases h:d ∈ ps
  ·have e1:Z8 ps d=ps:=if_pos h
   rw [e1] at e
   exact ⟨r,by show addPs (Z8 ps d) l=_;rw [e1];exact e⟩
  ·have e1:Z8 ps d=ps ++ [d]:=if_neg h
   rw [e1] at e
   exact ⟨d :: r,by show addPs (Z8 ps d) l=_;rw [e1,e,List.append_assoc];rfl⟩
theorem KeepT.dt {K:Fg} {H H':Hp} {d:Addr} {kvs:List (List Key × V)} (h:H d=some (.dT kvs)) (g:SameX d H H'):KeepT K H H':=⟨fun a xs q=>by
 rcases q with (q | ⟨o,q⟩) | q
 ·exact .inl (.inl (g _ _ (ne_of q h (15:)) q))
 ·exact .inl (.inr ⟨o,g _ _ (ne_of q h (15:)) q⟩)
 ·exact .inr q,fun a xs q=>g _ _ (ne_of q h (15:)) q⟩
theorem Ov {ps:List Pr} {d:Pr}:(Z8 ps d).length≤ps.length + 1:=by
 unfold Z8
 by_cases e:d ∈ ps
 ·rw [if_pos e];exact Nat.le_succ _
 ·rw [if_neg e,List.length_append];exact Nat.le_refl _
theorem WQ:∀ {l ps:List Pr},(addPs ps l).length≤ps.length + l.length
 | [],ps=>Nat.le_refl _
 | d :: l,ps=>by
  have h1:=WQ (l:=l) (ps:=Z8 ps d)
  have h2:=Ov (ps:=ps) (d:=d)
  show (addPs (Z8 ps d) l).length≤_
  rw [List.length_cons];lia
def PK (K:Fg) (N:Addr) (n:Nat):Sp:=fun vs H Q E=>∃ (v:V) (d:Addr) (ps:List Pr) (t:TP),vs=[.ref d,v,.int 40]∧TpV K H v t∧lv t≤n∧sz t≤1000∧H d=some (.dT (Ze ps))∧ps.length≤1000 ∧
 ((addPs ps ((clP t).map (·.1))).length≤40→∀ (H':Hp),SameX d H H'→H' d=some (.dT (Ze (addPs ps ((clP t).map (·.1)))))→Q .non H')∧(40 < (addPs ps ((clP t).map (·.1))).length→∀ H':Hp,SameX d H H'→E (.ref N) none H')
def NK (K:Fg) (n:Nat):Sp:=fun vs H Q _=>∃ (mp lr d:Addr) (kind:Str) (ws:List V) (os:List TP) (ps:List Pr),vs=[.ref mp,.ref d]∧SqT K H mp [.str kind,.ref lr]∧SqL K H lr ws∧TpAll K H ws os∧os.length≤100∧H d=some (.dT (Ze ps))∧(∀ o ∈ os,lv o≤n∧∀ c ∈ clP o,c.1 ∈ ps) ∧
 ∀ (p lq:Addr) (us:List V) (H':Hp),Same H H'→H' p=some (.tup [.str kind,.ref lq])→H lq=none→H' lq=some (.lst us)→TmAll K H' us (os.map (mpP (ixP ps)))→Q (.ref p) H'
section
variable {P:Program} {w:World} {K:Fg} {mg:Str→Option Value} {base:Heap} {f:Addr} {fd:FuncData} {N:Addr}
theorem O6:FnScope ["numbers", "term", "most", "mode", "branch"] ["numbers", "term", "most"] (defScope Gu):=(1:)
theorem Rf {n:Nat} (F:Fun K "number_calls" "number_calls" Gu f fd) (G:Gm mg) (R:Rs K mg "TooGreat" N) (RC:Fn P w K mg base (n + 1) "calls_of" ["term"] (VE K n)):FnOk P w K mg base (CX1 P w) (n + 2) f fd ["numbers", "term", "most"] (PK K N n):=by
 refine Fun.okX F O6 (13:) (3:)
 ·obtain ⟨v,d,ps,t,rfl,_⟩:=h
  rfl
 obtain ⟨v,d,ps,t,rfl,ht,hlv,hsz,hd,hpl,q,qE⟩:=h
 refine ⟨_,(Qh (Zc PassesOwn.leaving rfl (Q4 (Qt RC hr (Qa (pv 1) Qe) (8:))) (Zt rfl (Qv (Qr (i:=3) O6.nd rfl (12:)) (Qv (Qr (i:=4) O6.nd rfl (12:)) Za)))
  (Qk (QM (XB (JT (YC hr) (pv 3) (pv 0))) (Qk (VZ (YC hr) (pv 0) (pv 3) (Qw LD.call_lenDT rfl G.len PySem.boot_len (Qa (pv 0) Qe)) rfl)) Qu)))
  (Qk (QM (QA WY (Qw LD.call_lenDT rfl G.len PySem.boot_len (Qa (pv 0) Qe)) (pv 2) (Qz _)) (Qk (YZ R.hm R.hq PySem.F.excBase_ValueError (by decide) (Qa (WC Qs (Xw (pv 2)) Qs) Qe))) Qu))),?_⟩
 try dsimp only [QB,Cx.nox]
 refine ⟨_,rfl,v,t,rfl,ht,hlv,hsz,fun l H1 ts g1 nl hl hts hcl=>?_⟩
 have hd1:=g1 _ _ hd
 have hld:l≠d:=fun z=>by rw [z,hd] at nl;cases nl
 have ecl:(clP t).map (·.1)=ts.map (·.2.2.1):=by rw [← hcl,List.map_map];rfl
 have hcll:=XO t
 have htl:ts.length=(clP t).length:=by rw [← hcl,List.length_map]
 rw [ecl] at q qE
 refine ⟨l,rfl,⟨_,SqL.of hl⟩,?_⟩
 refine ZQ (K:=K) (xs:=RfP ts) (fun i σ H'=>∃ c3 c4:Option V,σ=[some (.ref d),some v,some (.int 40),c3,c4]∧SameX d H1 H'∧H' d=some (.dT (Ze (addPs ps ((ts.map (·.2.2.1)).take i)))))
  ⟨none,none,rfl,SameX.refl _ _,hd1⟩ ?_ ?_ ?_
 ·rintro i σ H' _ ⟨c3,c4,_,g,_⟩
  exact SqL.of (g _ _ hld hl)
 ·rintro i x σ H' hx ⟨c3,c4,rfl,g,hd'⟩
  have hi:i < ts.length:=by
   have:=(List.getElem?_eq_some_iff.mp hx).1
   rwa [List.length_map] at this
  obtain rfl:x=.ref ts[i].1:=by
   rw [List.getElem?_map,List.getElem?_eq_getElem hi] at hx
   exact (Option.some.inj hx).symm
  obtain ⟨t1,t2⟩:=(hts.mono (KeepT.dt hd1 g)) _ (List.getElem_mem hi)
  have hti:(ts.map (·.2.2.1))[i]?=some ts[i].2.2.1:=by rw [List.getElem?_map,List.getElem?_eq_getElem hi];rfl
  have enext:addPs ps ((ts.map (·.2.2.1)).take (i + 1))=Z8 (addPs ps ((ts.map (·.2.2.1)).take i)) ts[i].2.2.1:=by rw [List.take_add_one,hti,Uo];rfl
  have hle:(addPs ps ((ts.map (·.2.2.1)).take (i + 1))).length≤2000:=by
   have e:=WQ (ps:=ps) (l:=(ts.map (·.2.2.1)).take (i + 1))
   rw [List.length_take,List.length_map] at e
   lia
  rw [enext] at hle ⊢
  generalize addPs ps ((ts.map (·.2.2.1)).take i)=qs at hd' hle ⊢
  refine ⟨ts[i].1,_,rfl,t1,rfl,_,_,rfl,_,_,rfl,rfl,?_⟩
  refine ⟨_,rfl,_,rfl,d,_,rfl,XA hd' t2,?_⟩
  by_cases hin:ts[i].2.2.1 ∈ qs
  ·rw [if_pos hin]
   refine ⟨_,rfl,Zh ⟨_,_,rfl,g,?_⟩⟩
   rw [show Z8 qs ts[i].2.2.1=qs from if_pos hin]
   exact hd'
  ·rw [if_neg hin]
   have eadd:Z8 qs ts[i].2.2.1=qs ++ [ts[i].2.2.1]:=if_neg hin
   rw [eadd] at hle ⊢
   rw [List.length_append,List.length_singleton] at hle
   have hget:=XA hd' t2
   have hvn:ZM (Ze qs) [Sum.inl ts[i].2.2.1.1,Sum.inl ts[i].2.2.1.2]=none:=by
    unfold Ze
    rw [XZ,if_neg hin]
   have hput:=DPut.t (k:=[Sum.inl ts[i].2.2.1.1,Sum.inl ts[i].2.2.1.2]) (v:=.int ((Ze qs).length:Int)) hd' t2 (by rw [ZA,Q3];lia)
   rw [W2 _ hvn,ZA,← GH] at hput
   have hput':DPut H' d (.ref ts[i].2.1) (.int ((Ze qs).length:Int)) (upd H' d (.dT (Ze (qs ++ [ts[i].2.2.1])))):=by rw [ZA];exact hput
   exact ⟨_,rfl,Q8 ⟨_,rfl,d,_,rfl,hd',_,rfl,_,rfl,d,upd H' d (.dT (Ze (qs ++ [ts[i].2.2.1]))),rfl,hput',_,_,rfl,fun b u nb e=>by rw [Ql nb];exact g _ _ nb e,Qd⟩⟩
 ·rintro σ H' ⟨c3,c4,rfl,g,hd'⟩
  rw [List.take_of_length_le (by rw [List.length_map,List.length_map];exact Nat.le_refl _)] at hd'
  refine ⟨_,rfl,d,_,rfl,hd',_,rfl,_,_,rfl,rfl,_,rfl,XI (fun c=>?_) (fun c=>?_)⟩
  ·have c':(((Ze (addPs ps (ts.map (·.2.2.1)))).length:Nat):Int) > 40:=of_decide_eq_true c
   rw [ZA] at c'
   exact ⟨_,rfl,by decide +kernel,_,rfl,40,rfl,by decide +kernel,_,rfl,by decide +kernel,_,rfl,by decide +kernel,(by show 1≤sizeLine;decide),qE (10:) H' fun b u nb e=>g b u nb (g1 _ _ e)⟩
  ·have c':¬ (((Ze (addPs ps (ts.map (·.2.2.1)))).length:Nat):Int) > 40:=fun z=>c (decide_eq_true z)
   rw [ZA] at c'
   exact q (10:) H' (fun b u nb e=>g b u nb (g1 _ _ e)) hd'
theorem SY:FnScope ["mode", "numbers"] ["mode", "numbers"] (defScope MH):=(1:)
theorem Rw {n:Nat} (F:Fun K "numbered_mode" "numbered_mode" MH f fd) (RM:Fn P w K mg base (n + 1) "with_modes" ["term", "numbers"] (JL K n)):FnOk P w K mg base CX0 (n + 2) f fd ["mode", "numbers"] (NK K n):=by
 refine F.ok SY (13:) (3:)
 ·obtain ⟨mp,lr,d,kind,ws,os,ps,rfl,_⟩:=h
  rfl
 obtain ⟨mp,lr,d,kind,ws,os,ps,rfl,hmp,hlr,hws,hol,hd,hos,q⟩:=h
 refine ⟨_,(Qk (Qq (QC (Qa (Qg Qi (pv 0) Qb (2:)) (Qa (QT (CompG.many (xs:=["rule"]) (caps:=["numbers"]) (cap:=[1]) (cs:=[_]) rfl rfl (0:) (0:) (0:) (0:) (0:) (0:) rfl rfl rfl) rfl (Q4 (Qg Qi (pv 0) Qb (2:))) (ZL (CompG.many (xs:=["rule"]) (caps:=["numbers"]) (cap:=[1]) (cs:=[_]) rfl rfl (0:) (0:) (0:) (0:) (0:) (0:) rfl rfl rfl)) (fun _ _ _ _=>Q6) (fun _ _ _ _=>Qt RM hr (Qa (pv 0) (Qa (pv 1) Qe)) (8:))) Qe))))),?_⟩
 try dsimp only [QB,Cx.nox]
 have hlen:=hws.length
 refine ⟨_,rfl,mp,_,0,_,rfl,rfl,hmp,rfl,_,rfl,mp,_,1,_,rfl,rfl,hmp,rfl,lr,rfl,⟨_,hlr⟩,fun acc hacc=>?_⟩
 refine U1 (K:=K) (xs:=ws) (cs:=[some (.ref d)]) (tt:=fun _ H Q=>Q true H) (te:=Xn (JL K n) [] E0 (Yj (UP 0) (Yj (UP 1) Wl))) (fun i ys H'=>H' acc=some (.lst ys)∧Same H H'∧ys.length=i∧TmAll K H' ys ((os.take i).map (mpP (ixP ps))))
  ⟨Qd,Qf hacc _,rfl,.nil⟩ ?_ ?_ ?_
 ·rintro i ys H' _ ⟨_,g,_⟩
  exact g.seq hlr
 ·rintro i x ys H' hi hx ⟨hya,g,hyl,hys⟩
  have hio:i < os.length:=by lia
  have hc:=List.getElem?_eq_getElem hio
  obtain ⟨cv,hcv,hct⟩:=hws.get hc
  obtain rfl:cv=x:=Option.some.inj (hcv.symm.trans hx)
  obtain ⟨o1,o2⟩:=hos _ (List.getElem_mem hio)
  refine Q8 ⟨_,rfl,_,rfl,cv,d,ps,os[i],rfl,hct.mono (KeepT.same g),o1,g _ _ hd,o2,fun v' H4 g4 hv'=>?_⟩
  refine QK (ys:=ys) hi (g4 _ _ hya) (10:) ⟨Qd,fun x u e=>?_,by simp [hyl],?_⟩
  ·rw [Ql (Qj e hacc)];exact g4 _ _ (g _ _ e)
  ·rw [List.take_add_one,hc]
   show TmAll K _ (ys ++ [v']) ((os.take i ++ [os[i]]).map (mpP (ixP ps)))
   rw [List.map_append]
   refine TmAll.append (hys.mono fun _ _ h=>(g4.seqT h).put (g4 _ _ hya)) (.cons (hv'.mono fun _ _ h=>h.put (g4 _ _ hya)) .nil)
 rintro ys H1 ⟨hya,g,hyl,hys⟩
 have et2:os.take ws.length=os:=List.take_of_length_le (10:)
 rw [et2] at hys
 refine ⟨(9:),fun p hp=>?_⟩
 have k1:=Qf hp (.tup [.str kind,.ref acc])
 exact q p acc ys _ (g.trans k1) Qd hacc (k1 _ _ hya) (hys.mono fun _ _=>k1.seqT)
end
end K68
namespace K68
open PySem L2 TM TT K9 K11
abbrev MkP:=Pr→Str × List TP
def clL (os:List TP):List Pr:=(clPs os).map (·.1)
abbrev MkX:=Pr→Option (Str × List TP)
def mkD (mk:MkX):MkP:=fun p=>(mk p).getD (S [],[])
theorem Jt {mk:MkX} {p:Pr} {o:Str × List TP} (h:mk p=some o):mkD mk p=o:=by unfold mkD;rw [h];rfl
def Yf (mk:MkX):Nat→Nat→List Pr→Option (List Pr)
 | 0,_,_=>none
 | F + 1,m,ps=>if 40 < ps.length then none else match ps[m]? with
  | none=>some ps
  | some p=>match mk p with
   | none=>none
   | some o=>Yf mk F (m + 1) (addPs ps (clL o.2))
theorem Jx {mk:MkX} {F m:Nat} {ps:List Pr} (h:40 < ps.length):Yf mk F m ps=none:=by
 cases F with
 | zero=>rfl
 | succ F=>rw [Yf,if_pos h]
theorem Jn {mk:MkX} {F m:Nat} {ps:List Pr} (h:ps.length≤40) (e:ps[m]?=none):Yf mk (F + 1) m ps=some ps:=by
 rw [Yf,if_neg (10:),e]
theorem Go {mk:MkX} {F m:Nat} {ps:List Pr} {p:Pr} (e:ps[m]?=some p) (k:mk p=none):Yf mk (F + 1) m ps=none:=by
 by_cases h:40 < ps.length
 ·exact Jx h
 ·rw [Yf,if_neg h,e]
  simp only [k]
theorem VU {mk:MkX} {F m:Nat} {ps:List Pr} {p:Pr} {o:Str × List TP} (h:ps.length≤40) (e:ps[m]?=some p) (k:mk p=some o):Yf mk (F + 1) m ps=Yf mk F (m + 1) (addPs ps (clL o.2)):=by
 rw [Yf,if_neg (10:),e]
 simp only [k]
def spL (K:Fg) (N:Addr) (H0:Hp) (mk:MkX) (Ok:Pr→Prop):Sp:=fun vs H Q E=>∃ (pp:Addr) (pr:Pr),vs=[.ref pp]∧Same H0 H∧H pp=some (.tup [.int pr.1,.int pr.2])∧Ok pr ∧
 (∀ o,mk pr=some o→∀ (p lr:Addr) (ws:List V) (H':Hp),Same H H'→H' p=some (.tup [.str o.1,.ref lr])→H lr=none→H' lr=some (.lst ws)→TpAll K H' ws o.2→Q (.ref p) H')∧(mk pr=none→∀ H':Hp,Same H H'→E (.ref N) none H')
structure NewMo (K:Fg) (H H':Hp) (lm:Addr) (ms:List MoT):Prop where
 n0:H lm=none
 at0:H' lm=some (.lst (ms.map fun m=>V.ref m.1))
 mo:∀ m ∈ ms,SqT K H' m.1 [.str m.2.1,.ref m.2.2.1]∧H' m.2.2.1=some (.lst m.2.2.2.1)∧H m.2.2.1=none∧m.2.2.1≠lm∧TmAll K H' m.2.2.2.1 m.2.2.2.2
def dM (ms:List MoT):List (Str × List Tm):=ms.map fun m=>(m.2.1,m.2.2.2.2)
def dQ (mk:MkP) (qs:List Pr):List (Str × List Tm):=qs.map fun p=>((mk p).1,(mk p).2.map (mpP (ixP qs)))
def P6 (P:Program) (w:World) (K:Fg) (mg:Str→Option Value) (base:Heap) (N:Addr) (k n:Nat):Sp:=fun vs H Q E=>∃ (wd lf:Addr) (sv:V) (ks:List KdT) (t:TP) (e:Expr) (cl:List (Str × Addr)) (mk:MkX) (Ok:Pr→Prop),vs=[.ref wd,sv,.ref lf,.int 40]∧WoodAt K H wd ks∧ks.length≤100∧TpV K H sv t∧lv t≤n∧sz t≤1000∧LamAtC H lf e cl∧MO P w K mg base k e cl (spL K N H mk Ok)∧(∀ c ∈ clP t,Ok c.1)∧(∀ p o,Ok p→mk p=some o→o.2.length≤100∧(∀ u ∈ o.2,lv u≤n∧sz u≤1000)∧∀ c ∈ clL o.2,Ok c) ∧
 (∀ qs,Yf mk 42 0 (addPs [] ((clP t).map (·.1)))=some qs→∀ (r tu lw lm d:Addr) (sv':V) (ks':List KdT) (ms:List MoT) (H':Hp),Same H H'→SqT K H' r [.ref tu,.ref d]→SqT K H' tu [.ref lw,sv',.ref lm]→NewWd K H H' lw ks'→dW ks'=dW ks→TmV K H' sv' (mpP (ixP qs) t)→NewMo K H H' lm ms→dM ms=dQ (mkD mk) qs→lw≠lm→(∀ k ∈ ks',k.2.2.1≠lm∧∀ m ∈ ms,k.2.2.1≠m.2.2.1)→(∀ m ∈ ms,lw≠m.2.2.1)→Q (.ref r) H') ∧
 (Yf mk 42 0 (addPs [] ((clP t).map (·.1)))=none→∀ H':Hp,Same H H'→E (.ref N) none H')
theorem Same.none {H H':Hp} {b:Addr} (g:Same H H') (h:H' b=none):H b=none:=by
 cases e:H b with
 | none=>rfl
 | some u=>rw [g _ _ e] at h;cases h
theorem NewWd.ext {K:Fg} {H0 H H' H'':Hp} {lw:Addr} {ks:List KdT} (g0:Same H0 H) (g1:Same H' H'') (h:NewWd K H H' lw ks):NewWd K H0 H'' lw ks :=
 ⟨Same.none g0 h.n0,g1 _ _ h.at0,fun k hk=>⟨g1.seqT (h.kd k hk).1,g1 _ _ (h.kd k hk).2.1,Same.none g0 (h.kd k hk).2.2.1,fun t ht=>((h.kd k hk).2.2.2 t ht).same g1⟩⟩
theorem WR:∀ l r:List TP,clPs (l ++ r)=clPs l ++ clPs r
 | [],r=>by simp [clPs]
 | t :: l,r=>by rw [List.cons_append,clPs,clPs,WR l r,List.append_assoc]
theorem L4 (l:List TP) (o:TP):clL (l ++ [o])=clL l ++ (clP o).map (·.1):=by unfold clL;rw [Xl,List.map_append]
theorem Pk (ps:List Pr) (l:List TP) (i:Nat):(addPs ps (clL (l.take i))).length≤(addPs ps (clL l)).length:=by
 have e:clL l=clL (l.take i) ++ clL (l.drop i):=by
  unfold clL
  rw [← List.map_append,← WR,List.take_append_drop]
 rw [e,Uo]
 exact J1
def MoP (K:Fg) (mk:MkP) (H:Hp) (lm:Addr) (ps:List Pr) (mos:List (Addr × Addr × List V)):Prop:=mos.length≤ps.length∧∀ (i:Nat) m p,mos[i]?=some m→ps[i]?=some p→H m.1=some (.tup [.str (mk p).1,.ref m.2.1])∧H m.2.1=some (.lst m.2.2)∧m.2.1≠lm∧TpAll K H m.2.2 (mk p).2
abbrev asN:List Str:=["wood", "start", "mode_by", "most", "numbers", "modes", "mode", "rule", "turning"]
section
variable {P:Program} {w:World} {K:Fg} {mg:Str→Option Value} {base:Heap} {f:Addr} {fd:FuncData} {N:Addr}
theorem GZ:FnScope asN ["wood", "start", "mode_by", "most"] (defScope Xu):=(1:)
theorem Sw {k n:Nat} (F:Fun K "as_met" "as_met" Xu f fd) (G:Gm mg) (RN:FnX P w K mg base (n + 2) "number_calls" ["numbers", "term", "most"] (PK K N n)) (RW:Fn P w K mg base 1 "own_wood" ["wood"] (VI K)) (RM:Fn P w K mg base (n + 1) "with_modes" ["term", "numbers"] (JL K n)) (RE:Fn P w K mg base (n + 2) "numbered_mode" ["mode", "numbers"] (NK K n)) :
 FnOk P w K mg base (CX1 P w) (n + k + 3) f fd ["wood", "start", "mode_by", "most"] (P6 P w K mg base N k n):=by
 refine Fun.okX F GZ (13:) (3:)
 ·obtain ⟨wd,lf,sv,ks,t,e,cl,mk,Ok,rfl,_⟩:=h
  rfl
 obtain ⟨wd,lf,sv,ks,t,e,cl,mk,Ok,rfl,hW,hk1,hsv,hlv,hsz,hlf,hC,hO0,hmk,q,qE⟩:=h
 have hrk:Room k _:=hr.mono (10:)
 have hr2:Room (n + 2) _:=hr.mono (10:)
 refine ⟨_,(Qh (Qp (i:=4) GZ.nd rfl (Or.inr rfl) WZ)
  (Qh (Q0 (XL (EE:=fun _=>E) RN hr2 (YQ fun _ _ h=>h) (Qa (pv 4) (Qa (pv 1) (Qa (pv 3) Qe))) (8:)))
  (Qh (Qp (i:=5) GZ.nd rfl (12:) (QZ Qe))
  (Qh (W0 PassesOwn.leaving (QA V6 (Qw QI rfl G.len PySem.boot_len (Qa (pv 5) Qe)) (Qw LD.call_lenDT rfl G.len PySem.boot_len (Qa (pv 4) Qe)) (Qz _)) (Qh (Qp (i:=6) GZ.nd rfl (12:) (G2 (EE:=fun _=>E) (i:=2) hC hrk (YQ fun _ _ h=>h) (Qa (Qg Qn (QP (LD.call_listDT rfl) rfl G.lst PyProof.Rows.boot_list (Qa (pv 4) Qe)) (Qw QI rfl G.len PySem.boot_len (Qa (pv 5) Qe)) (2:)) Qe)))
  (Qh (Zc PassesOwn.leaving rfl (Q4 (Qg Qi (pv 6) Qb (2:))) (Qr (i:=7) GZ.nd rfl (12:)) (Qk (Q0 (XL (EE:=fun _=>E) RN hr2 (YQ fun _ _ h=>h) (Qa (pv 4) (Qa (pv 7) (Qa (pv 3) Qe))) (8:)))))
  (Qk (Q0 (Jw PySem.F.plainAttrs_list PySem.F.slot_list_append PySem.F.type_list_append Zz (pv 5) (Qa (pv 6) Qe)))))))
  (Qh (Qp (i:=8) GZ.nd rfl (12:) (QC (Qa (Qt RW hr2 (Qa (pv 0) Qe) (10:)) (Qa (Qt RM hr2 (Qa (pv 1) (Qa (pv 4) Qe)) (10:)) (Qa (QT (CompG.many (xs:=["mode"]) (caps:=["numbers"]) (cap:=[4]) (cs:=[_]) rfl rfl (0:) (0:) (0:) (0:) (0:) (0:) rfl rfl rfl) rfl (Q4 (pv 5)) (ZL (CompG.many (xs:=["mode"]) (caps:=["numbers"]) (cap:=[4]) (cs:=[_]) rfl rfl (0:) (0:) (0:) (0:) (0:) (0:) rfl rfl rfl)) (fun _ _ _ _=>Q6) (fun _ _ _ _=>Qt RE hr2 (Qa (pv 0) (Qa (pv 1) Qe)) (8:))) Qe)))))
  (Qk (Qq (QC (Qa (pv 8) (Qa (pv 4) Qe)))))))))),?_⟩
 try dsimp only [QB,Cx.nox]
 refine fun d hd=>?_
 have g1:=Qf hd (.dT (Ze []))
 have hd1:upd H d (.dT (Ze [])) d=some (.dT (Ze [])):=Qd
 generalize hR:Yf mk 42 0 (addPs [] ((clP t).map (·.1)))=R at q qE
 refine ⟨_,rfl,_,rfl,_,rfl,sv,d,[],t,rfl,hsv.mono (KeepT.same g1),hlv,hsz,hd1,by decide,fun hlen0 H2 g2 hd2=>?_,fun hb H2 g2=>qE (by rw [← hR];exact Jx hb) H2 fun b u e=>g2 b u (Qj e hd) (g1 b u e)⟩
 have s2:Same H H2:=fun b u e=>g2 b u (Qj e hd) (g1 b u e)
 refine ⟨(17:),fun lm hlm=>?_⟩
 have g3:=Qf hlm (.lst [])
 have hlm0:H lm=none:=Same.none s2 hlm
 have hld:lm≠d:=fun z=>by rw [z,hd2] at hlm;cases hlm
 refine VM (fun m σ H'=>∃ (j:Nat) (ps:List Pr) (mos:List (Addr × Addr × List V)) (c6 c7:Option V),σ=[some (.ref wd),some sv,some (.ref lf),some (.int 40),some (.ref d),some (.ref lm),c6,c7,none]∧Same H H'∧H' d=some (.dT (Ze ps))∧H' lm=some (.lst (mos.map fun m=>V.ref m.1))∧mos.length=j∧m + j=41∧ps.length≤40∧(∀ p ∈ ps,Ok p)∧Yf mk (42 - j) j ps=R∧(∀ (i:Nat) p,i < j→ps[i]?=some p→∃ o,mk p=some o)∧MoP K (mkD mk) H' lm ps mos∧(∀ c ∈ clP t,c.1 ∈ ps)∧∀ (i:Nat) p,i < j→ps[i]?=some p→∀ c ∈ clL (mkD mk p).2,c ∈ ps) 41
  ⟨0,_,[],none,none,rfl,s2.trans g3,g3 _ _ hd2,Qd,rfl,rfl,hlen0,fun p hp=>?_,hR,fun i p hi=>absurd hi (Nat.not_lt_zero _),⟨Nat.zero_le _,fun i m p e=>by simp at e⟩,fun c hc=>Zo.mpr (.inr (List.mem_map.mpr ⟨c,hc,rfl⟩)),fun i p hi=>absurd hi (Nat.not_lt_zero _)⟩ ?_ ?_
 ·rcases Zo.mp hp with z | z
  ·cases z
  ·obtain ⟨c,hc,rfl⟩:=List.mem_map.mp z
   exact hO0 c hc
 ·rintro m σ H' ⟨j,ps,mos,c6,c7,rfl,g,hd',hlm',hj,hm,hp40,hpO,hrun,hsm,hMo,hc1,hc2⟩
  refine ⟨_,rfl,lm,_,rfl,.inl (SqL.of hlm'),_,rfl,d,_,rfl,hd',_,_,rfl,rfl,_,rfl,XI (fun c=>?_) (fun c=>?_)⟩
  ·have c':(((mos.map fun m=>V.ref m.1).length:Nat):Int) < (((Ze ps).length:Nat):Int):=of_decide_eq_true c
   rw [List.length_map,ZA] at c'
   have hjp:j < ps.length:=by lia
   refine ⟨lf,rfl,_,rfl,d,_,ps,rfl,hd',GS ps,fun out l eo ho hl=>?_⟩
   have gl:=Qf hl (.lst (out.map fun t=>V.ref t.1))
   have hol:out.length=ps.length:=by have:=congrArg List.length eo;rwa [List.length_map] at this
   have hjo:j < out.length:=by lia
   have eoj:out[j].2=ps[j]:=by
    have:(out.map (·.2))[j]?=ps[j]?:=by rw [eo]
    rw [List.getElem?_map,List.getElem?_eq_getElem hjo,List.getElem?_eq_getElem hjp] at this
    exact Option.some.inj this
   have hpj:=ho _ (List.getElem_mem hjo)
   have hpq:=List.getElem?_eq_getElem hjp
   have hF:42 - j=(41 - j)+1:=by lia
   rw [hF] at hrun
   have hOj:=hpO _ (List.getElem_mem hjp)
   refine ⟨_,rfl,lm,_,rfl,.inl (SqL.of (gl _ _ hlm')),l,_,_,.ref out[j].1,rfl,rfl,SqL.of Qd,(by rw [List.length_map,hj];exact QY (by rw [List.getElem?_map,List.getElem?_eq_getElem hjo];rfl)),(hlf.same g).same gl,out[j].1,ps[j],rfl,g.trans gl,(by rw [← eoj];exact gl _ _ hpj),hOj,fun oo hoo p lr ws H6 g6 hp hlr0 hlr hws=>?_,fun hno H6 g6=>qE (by rw [← hrun];exact Go hpq hno) H6 (g.trans (gl.trans g6))⟩
   obtain ⟨mk1,mk2,mk3⟩:=hmk _ _ hOj hoo
   rw [VU hp40 hpq hoo] at hrun
   have emk:=Jt hoo
   have g06:=gl.trans g6
   have hd6:=g06 _ _ hd'
   have hlm6:=g06 _ _ hlm'
   have hwl:=hws.length
   have nlrm:lr≠lm:=fun z=>by rw [z,gl _ _ hlm'] at hlr0;cases hlr0
   refine ⟨_,rfl,p,_,1,_,rfl,rfl,SqT.of hp,rfl,lr,rfl,⟨_,SqL.of hlr⟩,?_⟩
   refine ZQ (K:=K) (xs:=ws) (fun r σ H''=>∃ c7:Option V,σ=[some (.ref wd),some sv,some (.ref lf),some (.int 40),some (.ref d),some (.ref lm),some (.ref p),c7,none]∧SameX d H6 H''∧(addPs ps (clL (oo.2.take r))).length≤40∧H'' d=some (.dT (Ze (addPs ps (clL (oo.2.take r))))))
    ⟨c7,rfl,SameX.refl _ _,hp40,hd6⟩ ?_ ?_ ?_
   ·rintro r σ H'' _ ⟨c7,_,gx,_⟩
    exact SqL.of (gx _ _ (ne_of hlr hd6 (15:)) hlr)
   ·rintro r x σ H'' hx ⟨c7,rfl,gx,hl7,hd7⟩
    have hrl:r < oo.2.length:=by
     have:=(List.getElem?_eq_some_iff.mp hx).1
     lia
    obtain ⟨cv,hcv,hct⟩:=hws.get (List.getElem?_eq_getElem hrl)
    obtain rfl:cv=x:=Option.some.inj (hcv.symm.trans hx)
    obtain ⟨o1,o2⟩:=mk2 _ (List.getElem_mem hrl)
    have estep:addPs (addPs ps (clL (oo.2.take r))) ((clP oo.2[r]).map (·.1))=addPs ps (clL (oo.2.take (r + 1))):=by
     rw [← Uo,← L4,List.take_add_one,List.getElem?_eq_getElem hrl];rfl
    refine ⟨_,rfl,_,rfl,_,rfl,cv,d,_,oo.2[r],rfl,hct.mono (KeepT.dt hd6 gx),o1,o2,hd7,by lia,fun hlt H8 g8 hd8=>?_,fun hgt H8 g8=>?_⟩
    ·rw [estep] at hd8 hlt
     exact ⟨_,rfl,gx.trans g8,hlt,hd8⟩
    ·rw [estep] at hgt
     refine qE (by rw [← hrun];exact Jx (Nat.lt_of_lt_of_le hgt (Pk _ _ _))) H8 fun b u e=>?_
     exact (gx.trans g8) _ _ (Qj e hd) ((g.trans g06) _ _ e)
   ·rintro σ H'' ⟨c7,rfl,gx,hps2,hd7⟩
    rw [List.take_of_length_le (10:)] at hd7 hps2
    have hlm7:=gx _ _ hld hlm6
    have hml:mos.length≤100:=by lia
    refine ⟨_,rfl,.inl ⟨rfl,_,SqL.of hlm7⟩,_,rfl,lm,_,_,rfl,rfl,hlm7,(by rw [List.length_map,Q3];lia),?_⟩
    have kp:KeepT K H6 (upd H'' lm (.lst (mos.map (fun m=>V.ref m.1) ++ [.ref p]))):=(KeepT.dt hd6 gx).trans (KeepT.put hlm7)
    have ls:∀ b ys,b≠lm→H6 b=some (.lst ys)→upd H'' lm (.lst (mos.map (fun m=>V.ref m.1) ++ [.ref p])) b=some (.lst ys):=fun b ys nb e=>by
     rw [Ql nb];exact gx _ _ (ne_of e hd6 (15:)) e
    obtain ⟨rr,err⟩:=JP (ps:=ps) (l:=clL oo.2)
    have hpre:∀ i:Nat,i≤j→(addPs ps (clL oo.2))[i]?=ps[i]?:=fun i hi=>by rw [err,List.getElem?_append_left (10:)]
    refine ⟨m - 1,by lia,j + 1,addPs ps (clL oo.2),mos ++ [(p,lr,ws)],_,_,rfl,?_,?_,by rw [Qd,List.map_append];rfl,by rw [List.length_append,hj];rfl,by lia,hps2,fun p hp=>?_,?_,?_,⟨?_,?_⟩,fun c hc=>Zo.mpr (.inl (hc1 c hc)),?_⟩
    ·intro b u e
     rw [Ql (Qj e hlm0)]
     exact gx _ _ (Qj e hd) ((g.trans g06) _ _ e)
    ·rw [Ql (Ne.symm hld)];exact hd7
    ·rcases Zo.mp hp with z | z
     ·exact hpO p z
     ·exact mk3 p z
    ·rw [show 42 - (j + 1)=41 - j by lia];exact hrun
    ·intro i pr hi h2
     rw [hpre i (10:)] at h2
     rcases Nat.lt_or_ge i j with z | z
     ·exact hsm i pr z h2
     ·obtain rfl:i=j:=by lia
      rw [hpq] at h2
      obtain rfl:=Option.some.inj h2
      exact ⟨oo,hoo⟩
    ·rw [List.length_append,err,List.length_append];simp only [List.length_singleton];lia
    ·intro i mo pr h1 h2
     have hij:i < j + 1:=by
      have:=(List.getElem?_eq_some_iff.mp h1).1
      rw [List.length_append,hj] at this
      exact this
     rw [hpre i (10:)] at h2
     rcases Nat.lt_or_ge i j with z | z
     ·rw [List.getElem?_append_left (10:)] at h1
      obtain ⟨b1,b2,b3,b4⟩:=hMo.2 i mo pr h1 h2
      exact ⟨kp.2 _ _ (g06 _ _ b1),ls _ _ b3 (g06 _ _ b2),b3,b4.mono ((KeepT.same g06).trans kp)⟩
     ·obtain rfl:i=j:=by lia
      rw [List.getElem?_append_right (10:),show i - mos.length=0 by lia] at h1
      obtain rfl:(p,lr,ws)=mo:=by simpa using h1
      rw [hpq] at h2
      obtain rfl:=Option.some.inj h2
      rw [emk]
      exact ⟨kp.2 _ _ hp,ls _ _ nlrm hlr,nlrm,hws.mono kp⟩
    ·intro i pr hi h2 c hc
     rw [hpre i (10:)] at h2
     rcases Nat.lt_or_ge i j with z | z
     ·exact Zo.mpr (.inl (hc2 i pr z h2 c hc))
     ·obtain rfl:i=j:=by lia
      rw [hpq] at h2
      obtain rfl:=Option.some.inj h2
      rw [emk] at hc
      exact Zo.mpr (.inr hc)
  ·have c':¬ ((((mos.map fun m=>V.ref m.1).length:Nat):Int) < (((Ze ps).length:Nat):Int)):=fun z=>c (decide_eq_true z)
   rw [List.length_map,ZA] at c'
   have hje:ps.length≤j:=by lia
   have hnj:ps[j]?=none:=List.getElem?_eq_none hje
   have hF:42 - j=(41 - j)+1:=by lia
   rw [hF,Jn hp40 hnj] at hrun
   have q:=q ps hrun.symm
   have hjl:mos.length=ps.length:=by have:=hMo.1;lia
   refine ⟨_,rfl,wd,ks,rfl,hW.same g,hk1,fun lw H9 ks' g9 hNW hdw=>?_⟩
   have hd9:=g9 _ _ hd'
   refine ⟨_,rfl,_,rfl,sv,d,ps,t,rfl,hsv.mono (KeepT.same (g.trans g9)),hlv,hd9,hc1,fun sv' H10 g10 hsv'=>?_⟩
   have g90:=g9.trans g10
   have hlmA:=g90 _ _ hlm'
   refine ⟨_,rfl,lm,rfl,⟨_,SqL.of hlmA⟩,fun acc hacc=>?_⟩
   refine U1 (K:=K) (xs:=mos.map fun m=>V.ref m.1) (cs:=[some (.ref d)]) (tt:=fun _ H Q=>Q true H) (te:=Xn (NK K n) [] E0 (Yj (UP 0) (Yj (UP 1) Wl))) (fun i ys H'=>∃ ms:List MoT,ys=ms.map (fun m=>V.ref m.1)∧H' acc=some (.lst ys)∧Same H10 H'∧ms.length=i∧dM ms=(dQ (mkD mk) ps).take i∧∀ m ∈ ms,SqT K H' m.1 [.str m.2.1,.ref m.2.2.1]∧H' m.2.2.1=some (.lst m.2.2.2.1)∧H10 m.2.2.1=none∧m.2.2.1≠acc∧TmAll K H' m.2.2.2.1 m.2.2.2.2)
    ⟨[],rfl,Qd,Qf hacc _,rfl,rfl,fun m hm=>(nomatch hm)⟩ ?_ ?_ ?_
   ·rintro i ys H' _ ⟨_,_,_,gx,_⟩
    exact SqL.of (gx _ _ hlmA)
   ·rintro i x ys H' hi hx ⟨ms,rfl,hya,gx,hml,hdm,hms⟩
    have hi':i < mos.length:=by rwa [List.length_map] at hi
    have hip:i < ps.length:=by lia
    obtain rfl:x=.ref mos[i].1:=by
     rw [List.getElem?_map,List.getElem?_eq_getElem hi'] at hx
     exact (Option.some.inj hx).symm
    obtain ⟨b1,b2,b3,b4⟩:=hMo.2 i _ _ (List.getElem?_eq_getElem hi') (List.getElem?_eq_getElem hip)
    have g9x:=g90.trans gx
    obtain ⟨oi,hoi⟩:=hsm i _ (10:) (List.getElem?_eq_getElem hip)
    obtain ⟨mk1,mk2,_⟩:=hmk _ _ (hpO _ (List.getElem_mem hip)) hoi
    rw [← Jt hoi] at mk1 mk2
    refine Q8 ⟨_,rfl,_,rfl,mos[i].1,mos[i].2.1,d,(mkD mk ps[i]).1,mos[i].2.2,(mkD mk ps[i]).2,ps,rfl,SqT.of (g9x _ _ b1),SqL.of (g9x _ _ b2),b4.mono (KeepT.same g9x),mk1,g9x _ _ hd',fun o ho=>⟨(mk2 o ho).1,fun c hc=>?_⟩,fun pp lq us H12 g12 hpp hlq0 hlq hus=>?_⟩
    ·exact hc2 i _ (10:) (List.getElem?_eq_getElem hip) c.1 (List.mem_map.mpr ⟨c,Gk ho hc,rfl⟩)
    have hya2:=g12 _ _ hya
    have nla:lq≠acc:=fun z=>by rw [z,hya] at hlq0;cases hlq0
    refine QK (ys:=ms.map fun m=>V.ref m.1) hi hya2 (by rw [List.length_map];lia) ⟨ms ++ [(pp,(mkD mk ps[i]).1,lq,us,(mkD mk ps[i]).2.map (mpP (ixP ps)))],by simp,Qd,fun z u e=>?_,by simp [hml],?_,fun m hm=>?_⟩
    ·rw [Ql (Qj e hacc)];exact g12 _ _ (gx _ _ e)
    ·have edq:(dQ (mkD mk) ps)[i]?=some ((mkD mk ps[i]).1,(mkD mk ps[i]).2.map (mpP (ixP ps))):=by unfold dQ;rw [List.getElem?_map,List.getElem?_eq_getElem hip];rfl
     rw [List.take_add_one,edq,← hdm]
     unfold dM
     rw [List.map_append];rfl
    ·rcases List.mem_append.mp hm with z | z
     ·obtain ⟨d1,d2,d3,d4,d5⟩:=hms m z
      exact ⟨(g12.seqT d1).put hya2,by rw [Ql d4];exact g12 _ _ d2,d3,d4,d5.mono fun _ _ h=>(g12.seqT h).put hya2⟩
     ·obtain rfl:=List.mem_singleton.mp z
      exact ⟨(SqT.of hpp).put hya2,by rw [Ql nla];exact hlq,Same.none gx hlq0,nla,hus.mono fun _ _ h=>h.put hya2⟩
   rintro ys H11 ⟨ms,rfl,hya,gx,hml,hdm,hms⟩
   rw [List.take_of_length_le (by unfold dQ;rw [List.length_map,List.length_map];lia)] at hdm
   refine ⟨(16:),fun tu htu=>?_⟩
   have k1:=Qf htu (.tup [.ref lw,sv',.ref acc])
   refine ⟨_,rfl,_,rfl,(9:),fun r hr=>?_⟩
   have k2:=Qf hr (.tup [.ref tu,.ref d])
   have k12:=k1.trans k2
   have gA:=gx.trans k12
   have h0A:H acc=none:=Same.none (g.trans g90) hacc
   have wdn:∀ b u,H9 b=some u→b≠acc∧∀ m ∈ ms,b≠m.2.2.1:=by
    intro b u e
    refine ⟨fun z=>?_,fun m hm z=>?_⟩
    ·rw [z] at e
     rw [g10 _ _ e] at hacc
     cases hacc
    ·have:=(hms m hm).2.2.1
     rw [← z,g10 _ _ e] at this
     cases this
   exact q r tu lw acc d sv' ks' ms _ ((g.trans g90).trans gA) (SqT.of Qd) (k2.seqT (SqT.of Qd)) (hNW.ext g (g10.trans gA)) hdw (hsv'.mono fun _ _=>gA.seqT) ⟨h0A,k12 _ _ hya,fun m hm=>⟨k12.seqT (hms m hm).1,k12 _ _ (hms m hm).2.1,Same.none (g.trans g90) (hms m hm).2.2.1,(hms m hm).2.2.2.1,(hms m hm).2.2.2.2.mono fun _ _=>k12.seqT⟩⟩ hdm
    (wdn _ _ hNW.at0).1 (fun k hk=>wdn _ _ (hNW.kd k hk).2.1) (wdn _ _ hNW.at0).2
 ·intro σ H Q Q' hm h
  obtain ⟨v1,h1,x1,x2,h2,h3,v2,h4,x3,x4,h5,h6,x5,x6,h7,h8,x7,h9,h10⟩:=h
  exact ⟨v1,h1,x1,x2,h2,h3,v2,h4,x3,x4,h5,h6,x5,x6,h7,h8,x7,h9,hm _ _ h10⟩
end
end K68
namespace K68
open PySem L2 TM TT K9 K11
def Rv (e:Expr):Expr:=match e with
 | .Subscript o _ _=>o
 | _=>e
abbrev eL:Expr:=Sx (Rv (Sv Yy)) 2
abbrev qL:Str:=(PyProof.Rows.envOfC "behind" (defScope Yy) 0 0 .none).qual ++ "<lambda>"
abbrev pL:Pos:=W9 eL
structure KeepS (K:Fg) (H H':Hp):Prop where
 t:∀ a xs,SqT K H a xs→SqT K H' a xs
 l:∀ a xs,SqL K H a xs→SqL K H' a xs
theorem KeepS.same {K:Fg} {H H':Hp} (g:Same H H'):KeepS K H H':=⟨fun _ _=>g.seqT,fun _ _=>g.seq⟩
theorem KeepS.tb {K:Fg} {H H':Hp} {T:Addr} {ps:Array Value} (h:H T=some (.tbl ps)) (g:SameX T H H'):KeepS K H H':=by
 constructor
 ·intro a xs q
  rcases q with (q | ⟨o,q⟩) | q
  ·exact .inl (.inl (g _ _ (ne_of q h (15:)) q))
  ·exact .inl (.inr ⟨o,g _ _ (ne_of q h (15:)) q⟩)
  ·exact .inr q
 ·intro a xs q
  rcases q with (q | ⟨o,q⟩) | q
  ·exact .inl (.inl (g _ _ (ne_of q h (15:)) q))
  ·exact .inl (.inr ⟨o,g _ _ (ne_of q h (15:)) q⟩)
  ·exact .inr q
theorem KeepT.tb {K:Fg} {H H':Hp} {T:Addr} {ps:Array Value} (h:H T=some (.tbl ps)) (g:SameX T H H'):KeepT K H H':=⟨(KeepS.tb h g).t,fun a xs q=>g _ _ (ne_of q h (15:)) q⟩
theorem TuAt.keep {K:Fg} {H H':Hp} {tu wd lm:Addr} {sv:V} {ks:List KdT} {t0:Tm} {ms:List MoT} (g:KeepS K H H') (h:TuAt K H tu wd sv lm ks t0 ms):TuAt K H' tu wd sv lm ks t0 ms :=
 ⟨g.t _ _ h.tu,⟨g.l _ _ h.wd.1,fun k hk=>⟨g.t _ _ (h.wd.2 k hk).1,g.l _ _ (h.wd.2 k hk).2.1,fun t ht=>⟨g.t _ _ ((h.wd.2 k hk).2.2 t ht).1,g.t _ _ ((h.wd.2 k hk).2.2 t ht).2⟩⟩⟩,h.st.mono g.t,g.l _ _ h.lm,fun m hm=>⟨g.t _ _ (h.mo m hm).1,g.l _ _ (h.mo m hm).2.1,(h.mo m hm).2.2.mono g.t⟩⟩
structure Bh (n:Nat) (ks2:List KdT) (t1 t2:Tm) (ms1 ms2:List MoT) (out:TP) (mk:MkX) (Ok:Pr→Prop):Prop where
 st:BR (ruK ks2 ms2) n t2 (.node (.put (Str.ofString "") false 0) 0 [t1]) out
 o0:Zu out→∀ c ∈ clP out,Ok c.1
 mo:∀ p,Ok p→∃ (i:Nat) (mo:MoT) (os:List TP),p.1=(i:Int)∧ms1[i]?=some mo∧mo.2.2.2.2.length≤100∧Vf (ruK ks2 ms2) n p.2 mo.2.2.2.2 os∧((∀ o ∈ os,Zu o)→mk p=some (mo.2.1,os))∧(¬ (∀ o ∈ os,Zu o)→mk p=none)
 cl:∀ p o,Ok p→mk p=some o→∀ c ∈ clL o.2,Ok c
theorem Bh.got {n:Nat} {ks2:List KdT} {t1 t2:Tm} {ms1 ms2:List MoT} {out:TP} {mk:MkX} {Ok:Pr→Prop} (h:Bh n ks2 t1 t2 ms1 ms2 out mk Ok) {p:Pr} {o:Str × List TP} (hp:Ok p) (e:mk p=some o):∃ (i:Nat) (mo:MoT),p.1=(i:Int)∧ms1[i]?=some mo∧mo.2.2.2.2.length≤100∧Vf (ruK ks2 ms2) n p.2 mo.2.2.2.2 o.2∧o.1=mo.2.1∧∀ u ∈ o.2,Zu u:=by
 obtain ⟨i,mo,os,a1,a2,a3,a4,a5,a6⟩:=h.mo p hp
 by_cases hf:∀ o ∈ os,Zu o
 ·rw [a5 hf] at e
  obtain rfl:=Option.some.inj e
  exact ⟨i,mo,a1,a2,a3,a4,rfl,hf⟩
 ·rw [a6 hf] at e;cases e
def Yq (K:Fg) (T N NS:Addr) (n1 n:Nat):Sp:=fun vs H Q E=>∃ (on ot wd1 wd2 lm1 lm2:Addr) (sv1 sv2:V) (ks1 ks2:List KdT) (k01 k00:KdT) (t1 t2:Tm) (ms1 ms2:List MoT) (nm1 nm2 n2:Nat),vs=[.ref on,.ref ot]∧TbS H T pL qL∧TuAt K H on wd1 sv1 lm1 ks1 t1 ms1∧TuOk ks1 nm1 n1 t1 ms1∧ks1[0]?=some k01∧TuAt K H ot wd2 sv2 lm2 ks2 t2 ms2∧TuOk ks2 nm2 n2 t2 ms2∧WG ks2∧ks2[0]?=some k00∧nm1 * ks2.length≤1000∧n1≤100 ∧
 (∀ ds,Dem (QL ks2) n1 t1 k00.2.1 ms1 ds→¬ (okk (QL ks2) n1 t1 k00.2.1∧∀ d ∈ ds,okR (QL ks2) n1 ms1 d)→∀ H':Hp,Same H H'→E (.ref NS) none H') ∧
 (∀ ds,Dem (QL ks2) n1 t1 k00.2.1 ms1 ds→(okk (QL ks2) n1 t1 k00.2.1∧∀ d ∈ ds,okR (QL ks2) n1 ms1 d)→∃ (out:TP) (mk:MkX) (Ok:Pr→Prop),Bh n ks2 t1 t2 ms1 ms2 out mk Ok ∧
  (Zu out→∀ qs,Yf mk 42 0 (addPs [] ((clP out).map (·.1)))=some qs→∀ (tu lw lm:Addr) (sv':V) (ks':List KdT) (ms:List MoT) (H':Hp),SameX T H H'→TbS H' T pL qL→SqT K H' tu [.ref lw,sv',.ref lm]→NewWd K H H' lw ks'→dW ks'=dW ks1→TmV K H' sv' (mpP (ixP qs) out)→NewMo K H H' lm ms→dM ms=dQ (mkD mk) qs→lw≠lm→(∀ k ∈ ks',k.2.2.1≠lm∧∀ m ∈ ms,k.2.2.1≠m.2.2.1)→(∀ m ∈ ms,lw≠m.2.2.1)→Q (.ref tu) H') ∧
  (¬ Zu out∨Yf mk 42 0 (addPs [] ((clP out).map (·.1)))=none→∀ H':Hp,SameX T H H'→TbS H' T pL qL→E (.ref N) none H'))
section
variable {P:Program} {w:World} {K:Fg} {mg:Str→Option Value} {base:Heap} {f:Addr} {fd:FuncData} {C T c N NS:Addr}
theorem Rq:FnScope ["one", "other", "start"] ["one", "other"] (defScope Yy):=(1:)
theorem LQ:∀ y ∈ (QG eL).names,y.2≠NameKind.cell:=by decide +kernel
theorem OB:∀ y ∈ (QG eL).names,y.2=NameKind.local→y.1=Str.ofString "pair" := by decide +kernel
theorem Op:∀ y ∈ (QG eL).names,y.2=NameKind.free→y.1=Str.ofString "one" ∨ y.1=Str.ofString "other" := by decide +kernel
theorem SD:Str.ofString "one" ≠ Str.ofString "other" := by decide +kernel
theorem G1 {n1 n:Nat} {fA:Addr} {fdA:FuncData} (F:Fun K "behind" "behind" Yy f fd) (hn:PySem.W.nsIn K mainGlobals "behind" = some (some (.ref f))) (hTb:PySem.W.tabIn K "behind" = some (c,T)) (hC:PySem.W.codeHdIn K c T=true) (hB:XW mg base)
 (RS:Fn P w K mg base (n1 + 6) "strays_at_all" ["turning", "wood"] (Mb K n1)) (M:TbM P w K mg base C N n) {t30 t40:Tok} (h30:mg "MOST_LEVELS" = some (.int 30 t30)) (h40:mg "MOST_MODES" = some (.int 40 t40))
 (FA:∀ g:Heap,FnOk P w K mg g (CX1 P w) (30 + (n + 4)+3) fA fdA ["wood", "start", "mode_by", "most"] (P6 P w K mg g N (n + 4) 30)) (hmA:mg "as_met" = some (.ref fA)) (hkA:PySem.W.keepIn K (.ref fA)=true) (bA:Binds K fdA ["wood", "start", "mode_by", "most"] [])
 (R:Rs K mg "Strays" NS) (RB:∀ g:Heap,FnX P w K mg g (n + 3) "mode_behind" ["one", "other", "pair"] (XD K N n)):FnOk P w K mg base (CX1 P w) (n1 + n + 50) f fd ["one", "other"] (Yq K T N NS n1 n):=by
 obtain ⟨fI,fdI,mkI,FI,bI⟩:=M.mi
 have TT:=M.t
 refine Fun.okXC F hn hTb Rq (13:) (fun A outer s H vs Q E hr h=>?_)
 ·obtain ⟨on,ot,wd1,wd2,lm1,lm2,sv1,sv2,ks1,ks2,k01,k00,t1,t2,ms1,ms2,nm1,nm2,n2,rfl,_⟩:=h
  rfl
 obtain ⟨on,ot,wd1,wd2,lm1,lm2,sv1,sv2,ks1,ks2,k01,k00,t1,t2,ms1,ms2,nm1,nm2,n2,rfl,tb,hT1,hO1,hk01,hT2,hO2,hWG,hk00,hnk,hn1,qS,qO⟩:=h
 have hrS:Room (n1 + 6) _:=hr.mono (10:)
 have hrI:Room 2 _:=hr.mono (10:)
 have hrR:Room (n + 2) _:=hr.mono (10:)
 have hrA:Room (30 + (n + 4)+3) _:=hr.mono (10:)
 refine ⟨_,(Qh (QM (QV (Qt RS hrS (Qa (pv 0) (Qa (Qg Qi (pv 1) Qb (2:)) Qe)) (8:))) (Qk (YZ R.hm R.hq PySem.F.excBase_ValueError (by decide) (Qa (Qs) Qe))) Qu)
  (Qh (Qp (i:=2) Rq.nd rfl (12:) (YG (EE:=fun _=>E) M.br TT.cl hrR (YQ fun _ _ h=>h) (Wf mkI FI hrI rfl TT.mgC bI .nil YF (Qa (pv 1) Qe)) (Qa (Qg Qi (pv 1) Qb (2:)) (Qa ((QC (Qa (Qs) (Qa (Qs) (Qa (QO) (Qa (Qb) (Qa ((QC (Qa (Qg Qi (pv 0) Qb (2:)) Qe))) Qe))))))) (Qa (ZJ (v:=.int 30) rfl h30 ⟨_,rfl⟩) Qe))) (8:)))
  (Qk (Qq (Qg Qi (Nz (EE:=fun _=>E) (fun g _=>FA g) hrA hmA hkA bA (YQ fun _ _ h=>h) (fun _=>rfl) (Qa (Qg Qi (pv 0) Qb (2:)) (Qa (pv 2) (Qa (Nt (c:=c) (T:=T) rfl hC hB) (Qa (ZJ (v:=.int 40) rfl h40 ⟨_,rfl⟩) Qe))))) Qb (2:)))))),?_⟩
 try dsimp only [QB,Cx.nox]
 refine ⟨_,rfl,_,rfl,ot,_,0,_,rfl,rfl,hT2.tu,rfl,nm1,on,wd1,lm1,wd2,sv1,ks1,ks2,k01,k00,t1,ms1,rfl,hT1,hO1,hk01,hT2.wd,hWG,hk00,hnk,hn1,fun H1 b ds g1 hD hb=>?_⟩
 cases b with
 | true=>exact ⟨_,rfl,Q8 ⟨(by show 1≤sizeLine;decide),qS ds hD (fun z=>by cases hb.mpr z) _ g1⟩⟩
 | false =>
 obtain ⟨out,mk,Ok,hBh,q,qE⟩:=qO ds hD (hb.mp rfl)
 refine ⟨_,rfl,Zh ?_⟩
 refine ⟨_,rfl,fun x dx nx ndx ne=>⟨x,dx,ot,rfl,Qd,rfl,?_⟩⟩
 have s5:Same H1 (upd (upd (upd (upd H1 dx (.own x)) x (.ins C dx [])) x (.ins C dx (tb1 ot))) x (.ins C dx (tbf ot 200))):=fun b o e=>by
  rw [Ql (Qj e nx),Ql (Qj e nx),Ql (Qj e nx),Ql (Qj e ndx)]
  exact e
 have hx5:upd (upd (upd (upd H1 dx (.own x)) x (.ins C dx [])) x (.ins C dx (tb1 ot))) x (.ins C dx (tbf ot 200)) x=some (.ins C dx (tbf ot 200)):=Qd
 generalize upd (upd (upd (upd H1 dx (.own x)) x (.ins C dx [])) x (.ins C dx (tb1 ot))) x (.ins C dx (tbf ot 200))=H5 at s5 hx5 ⊢
 have g5:=g1.trans s5
 refine ⟨x,dx,_,rfl,hx5,rfl,_,rfl,ot,_,1,_,rfl,rfl,g5.seqT hT2.tu,rfl,_,rfl,on,_,1,_,rfl,rfl,g5.seqT hT1.tu,rfl,(by show 1≤sizeLine;decide),fun p1 hp1=>⟨(by show 5≤sizeLine;decide),fun p5 hp5=>?_⟩⟩
 have k1:=Qf hp1 (.tup [sv1])
 have k2:=Qf hp5 (.tup [.str PUT,.str (Str.ofString ""),.bl false,.int 0,.ref p1])
 have g6:=g5.trans (k1.trans k2)
 refine ⟨x,dx,ot,wd2,lm2,sv2,ks2,t2,ms2,nm2,n2,200,30,sv2,.ref p5,t2,.node (.put (Str.ofString "") false 0) 0 [t1],out,rfl,(k1.trans k2) _ _ hx5,hT2.same g6,hO2,hT2.st.mono fun _ _=>g6.seqT,.put (SqT.of Qd) (k2.seqT (SqT.of Qd)) (.cons (hT1.st.mono fun _ _=>g6.seqT) .nil) (by simp),hBh.st,by decide,fun fz fl v H7 gx hx7 hv7=>?_,fun hz H7 gx=>?_⟩
 rotate_left
 ·have s7:Same H H7:=fun b o e=>gx b o (fun z=>by rw [z] at e;rw [g1 _ _ e] at nx;cases nx) (g6 b o e)
  exact qE (.inl hz) H7 (SameX.of s7) (tb.same s7)
 have hFit:Zu out:=⟨fz,fl⟩
 have s7:Same H H7:=fun b o e=>gx b o (fun z=>by rw [z] at e;rw [g1 _ _ e] at nx;cases nx) (g6 b o e)
 have tb7:=tb.same s7
 obtain ⟨ps7,hps7⟩:=tb7.at
 have hT17:=hT1.same s7
 have hT27:=hT2.same s7
 refine ⟨_,rfl,on,_,0,_,rfl,rfl,hT17.tu,rfl,_,rfl,tb7,fun L H8 x8 hL0 hL8 tb8 g hs hc=>?_⟩
 have kS:=KeepS.tb (K:=K) hps7 x8
 have hT18:=hT17.keep kS
 have hT28:=hT27.keep kS
 obtain ⟨c1,u1,e1,i1,v1⟩:=hc 0 "one" (.ref on) rfl rfl rfl
 obtain ⟨c2,u2,e2,i2,v2⟩:=hc 1 "other" (.ref ot) rfl rfl rfl
 have hk1:ks1.length≤100:=by have:=hO1.wo.len;lia
 refine ⟨wd1,L,v,ks1,out,eL,_,mk,Ok,rfl,hT18.wd,hk1,hv7.mono (KeepT.tb hps7 x8),fl,by lia,hL8,?_,hBh.o0 hFit,fun p o hp ho=>?_,fun qs hqs r tu lw lm d sv' ks' ms H9 g9 hr9 htu hNW hdw hsv' hNM hdm m1 m2 m3=>?_,fun hno H9 g9=>qE (.inr hno) H9 (fun b u nb e=>g9 _ _ (x8 b u nb (s7 _ _ e))) (tb8.same g9)⟩
 ·obtain rfl:s.heap.objs.size + 1=c1:=Option.some.inj e1
  obtain rfl:s.heap.objs.size + 1 + 1=c2:=Option.some.inj e2
  have hcl:=ClAt.two SD (Nat.ne_of_lt (Nat.lt_succ_self _)) i1 i2 v1 v2
  refine GT (k:=n + 3) (x:=Str.ofString "pair") (N:=["one", "other"]) (vs:=[.ref on,.ref ot]) rfl rfl rfl LQ (fun y hy=>OB _ (PySem.mem_of_lookup hy) rfl) (0:) (0:) (fun x hx=>?_) hcl (13:) (fun _ _ _ _ _=>rfl) (fun qual' f' c' A' outer' s' H' v' Q' E' hr' h'=>?_)
  ·rcases Op _ (PySem.mem_of_lookup hx) rfl with z | z
   ·have z':x=Str.ofString "one" := z
    rw [z']
    obtain ⟨c0,u0,e0,_⟩:=hcl.val 0 (Str.ofString "one") (.ref on) rfl rfl
    exact ⟨c0,e0⟩
   ·have z':x=Str.ofString "other" := z
    rw [z']
    obtain ⟨c0,u0,e0,_⟩:=hcl.val 1 (Str.ofString "other") (.ref ot) rfl rfl
    exact ⟨c0,e0⟩
  ·obtain ⟨pp,pr,rfl,_⟩:=h
   rfl
  ·obtain ⟨pp,pr,ev,gH,hpp,hpr,q',qE'⟩:=h'
   obtain rfl:v'=.ref pp:=by injection ev
   obtain ⟨i,mo,os,ei,hmo,hrl,hou,m1,m2⟩:=hBh.mo pr hpr
   refine ⟨_,XL (EE:=fun _=>E') (RB g) hr' Re (Qa (pv 1) (Qa (pv 2) (Qa (pv 0) Qe))) (8:),?_⟩
   rw [ei] at hpp
   exact ⟨_,rfl,_,rfl,_,rfl,on,ot,wd1,wd2,lm1,lm2,pp,sv1,sv2,ks1,ks2,t1,t2,ms1,ms2,nm2,n2,i,pr.2,mo,os,rfl,SqT.of hpp,hT18.same gH,hT28.same gH,hO2,hmo,hrl,hou,fun hf=>q' _ (m1 hf),fun hf=>qE' (m2 hf)⟩
 ·obtain ⟨i,mo,ei,hmo,hrl,⟨hol,_⟩,_,hf⟩:=hBh.got hp ho
  exact ⟨by rw [hol];exact hrl,fun u hu=>⟨(hf u hu).2,by have:=(hf u hu).1;lia⟩,hBh.cl p o hp ho⟩
 ·have gT:SameX T H H9:=fun b u nb e=>g9 _ _ (x8 b u nb (s7 _ _ e))
  have no:∀ b,H8 b=none→H b=none:=fun b hb=>by
   cases e:H b with
   | none=>rfl
   | some u =>
    by_cases hbT:b=T
    ·obtain ⟨ps8,h8⟩:=tb8.at
     rw [hbT,h8] at hb;cases hb
    ·rw [x8 _ _ hbT (s7 _ _ e)] at hb;cases hb
  exact ⟨r,_,0,_,rfl,rfl,hr9,rfl,q hFit qs hqs tu lw lm sv' ks' ms H9 gT (tb8.same g9) htu ⟨no _ hNW.n0,hNW.at0,fun k hk=>⟨(hNW.kd k hk).1,(hNW.kd k hk).2.1,no _ (hNW.kd k hk).2.2.1,(hNW.kd k hk).2.2.2⟩⟩ hdw hsv' ⟨no _ hNM.n0,hNM.at0,fun m hm=>⟨(hNM.mo m hm).1,(hNM.mo m hm).2.1,no _ (hNM.mo m hm).2.2.1,(hNM.mo m hm).2.2.2.1,(hNM.mo m hm).2.2.2.2⟩⟩ hdm m1 m2 m3⟩
end
end K68
namespace L2
theorem ln1 {α:Type} {us:List α} (h:us.length=1):∃ a,us=[a]:=List.length_eq_one_iff.mp h
theorem ln2 {α:Type} {us:List α} (h:us.length=2):∃ a b,us=[a,b]:=by
 match us,h with
 | [a,b],_=>exact ⟨a,b,rfl⟩
theorem ln3 {α:Type} {us:List α} (h:us.length=3):∃ a b c,us=[a,b,c]:=by
 match us,h with
 | [a,b,c],_=>exact ⟨a,b,c,rfl⟩
theorem ln4 {α:Type} {us:List α} (h:us.length=4):∃ a b c d,us=[a,b,c,d]:=by
 match us,h with
 | [a,b,c,d],_=>exact ⟨a,b,c,d,rfl⟩
theorem ln5 {α:Type} {us:List α} (h:us.length=5):∃ a b c d e,us=[a,b,c,d,e]:=by
 match us,h with
 | [a,b,c,d,e],_=>exact ⟨a,b,c,d,e,rfl⟩
end L2
namespace L2
open PySem
structure MethAt (K:Fg) (C:Addr) (m qual:Str) (st:Stmt):Prop where
 ex:∃ (f:Addr) (oc:Value) (od:Option Addr) (kV doc pm:Value) (an:Option Addr) (cdv ct:Value) (osl:Array (Option Value)),
  PySem.W.findIn K (.ref C) m=some (some (.ref f))∧PySem.W.isFn K (.ref f)=true∧K.lookup f=some ⟨oc,od,.func (PySem.W.fnOf m qual (defArgs st) (defBody st) (defScope st) .none kV doc pm an cdv ct),osl⟩∧PySem.W.codeIn K cdv qual=true∧PySem.W.keepIn K (.ref f)=true
theorem MethAt.mk' {K:Fg} {C:Addr} {m qual:Str} {st:Stmt} {f:Addr} {oc:Value} {od:Option Addr} {kV doc pm:Value} {an:Option Addr} {cdv ct:Value} {osl:Array (Option Value)}
 (a:PySem.W.findIn K (.ref C) m=some (some (.ref f))) (i:PySem.W.isFn K (.ref f)=true) (l:K.lookup f=some ⟨oc,od,.func (PySem.W.fnOf m qual (defArgs st) (defBody st) (defScope st) .none kV doc pm an cdv ct),osl⟩) (c:PySem.W.codeIn K cdv qual=true) (k:PySem.W.keepIn K (.ref f)=true):MethAt K C m qual st :=
 ⟨f,oc,od,kV,doc,pm,an,cdv,ct,osl,a,i,l,c,k⟩
end L2
namespace K68
open PySem L2
structure DmK (K:Fg):Prop where
 ex:∃ C:Addr,PySem.W.nsIn K mainGlobals "Demands" = some (some (.ref C))∧Cls K C∧NoAttr K C "turning" ∧ NoAttr K C "kinds_below" ∧ NoAttr K C "steps" ∧ NoAttr K C "waiting" ∧ NoAttr K C "fault" ∧ PySem.W.makesIn K C=true∧PySem.W.keepIn K (.ref C)=true ∧
  MethAt K C "__init__" "Demands.__init__" WW∧MethAt K C "look_by" "Demands.look_by" YY∧MethAt K C "look" "Demands.look" J0∧MethAt K C "meet_demand" "Demands.meet_demand" sMD∧MethAt K C "meet_fault" "Demands.meet_fault" sMF
structure TbK (K:Fg):Prop where
 ex:∃ C:Addr,PySem.W.nsIn K mainGlobals "TermBehind" = some (some (.ref C))∧Cls K C∧NoAttr K C "other" ∧ NoAttr K C "left" ∧ PySem.W.makesIn K C=true∧PySem.W.keepIn K (.ref C)=true ∧
  MethAt K C "__init__" "TermBehind.__init__" sTI∧MethAt K C "by_mode" "TermBehind.by_mode" sBM∧MethAt K C "by_rule" "TermBehind.by_rule" sBR∧MethAt K C "take_one" "TermBehind.take_one" sTO
theorem DmK.mk' {K:Fg} {C:Addr} (aC:PySem.W.nsIn K mainGlobals "Demands" = some (some (.ref C))) (pg:PySem.W.plainGet K C Str.empty=true) (hd:PySem.W.hasDictIn K C=true) (po:PySem.W.plainOver K C=true)
 (sa:PySem.W.findIn K (.ref C) "__setattr__" = some (some (.builtin "object.__setattr__"))) (n1:PySem.W.findIn K (.ref C) "turning" = some none) (n2:PySem.W.findIn K (.ref C) "kinds_below" = some none) (n3:PySem.W.findIn K (.ref C) "steps" = some none) (n4:PySem.W.findIn K (.ref C) "waiting" = some none) (n5:PySem.W.findIn K (.ref C) "fault" = some none)
 (mk:PySem.W.makesIn K C=true) (kc:PySem.W.keepIn K (.ref C)=true) (m1:MethAt K C "__init__" "Demands.__init__" WW) (m2:MethAt K C "look_by" "Demands.look_by" YY) (m3:MethAt K C "look" "Demands.look" J0) (m4:MethAt K C "meet_demand" "Demands.meet_demand" sMD) (m5:MethAt K C "meet_fault" "Demands.meet_fault" sMF):DmK K :=
 ⟨C,aC,⟨pg,hd,po,sa⟩,n1,n2,n3,n4,n5,mk,kc,m1,m2,m3,m4,m5⟩
theorem TbK.mk' {K:Fg} {C:Addr} (aC:PySem.W.nsIn K mainGlobals "TermBehind" = some (some (.ref C))) (pg:PySem.W.plainGet K C Str.empty=true) (hd:PySem.W.hasDictIn K C=true) (po:PySem.W.plainOver K C=true)
 (sa:PySem.W.findIn K (.ref C) "__setattr__" = some (some (.builtin "object.__setattr__"))) (n1:PySem.W.findIn K (.ref C) "other" = some none) (n2:PySem.W.findIn K (.ref C) "left" = some none)
 (mk:PySem.W.makesIn K C=true) (kc:PySem.W.keepIn K (.ref C)=true) (m1:MethAt K C "__init__" "TermBehind.__init__" sTI) (m2:MethAt K C "by_mode" "TermBehind.by_mode" sBM) (m3:MethAt K C "by_rule" "TermBehind.by_rule" sBR) (m4:MethAt K C "take_one" "TermBehind.take_one" sTO):TbK K :=
 ⟨C,aC,⟨pg,hd,po,sa⟩,n1,n2,mk,kc,m1,m2,m3,m4⟩
theorem DmK.m {P:Program} {w:World} {K:Fg} {mg:Str→Option Value} {base h:Heap} (S:DmK K) (X:K.In h) (N:h.Ns mainGlobals mg) (G:Gm mg) (RC:Fn P w K mg base 1 "is_call" ["term"] (ZS K)) (RL:Fn P w K mg base 1 "levels_needed" ["fault"] (Ge K)) (RA:Fn P w K mg base 1 "row_above" ["wood"] (U0 K)) (RO:Fn P w K mg base 1 "rows_of" ["wood", "kind"] (Yo K)) (n:Nat):∃ C,DmM P w K mg base C n:=by
 obtain ⟨C,aC,cl,n1,n2,n3,n4,n5,mk,kc,m1,m2,m3,m4,m5⟩:=S.ex
 have T:DmT K mg C:=⟨cl,n1,n2,n3,n4,n5,PySem.W.mg_of X N aC⟩
 obtain ⟨f1,oc1,od1,kV1,doc1,pm1,an1,cdv1,ct1,osl1,a1,i1,l1,c1,k1⟩:=m1.ex
 obtain ⟨f2,oc2,od2,kV2,doc2,pm2,an2,cdv2,ct2,osl2,a2,i2,l2,c2,k2⟩:=m2.ex
 obtain ⟨f3,oc3,od3,kV3,doc3,pm3,an3,cdv3,ct3,osl3,a3,i3,l3,c3,k3⟩:=m3.ex
 obtain ⟨f4,oc4,od4,kV4,doc4,pm4,an4,cdv4,ct4,osl4,a4,i4,l4,c4,k4⟩:=m4.ex
 obtain ⟨f5,oc5,od5,kV5,doc5,pm5,an5,cdv5,ct5,osl5,a5,i5,l5,c5,k5⟩:=m5.ex
 have F1:=QS (st:=WW) l1 c1 k1
 have F2:=QS (st:=YY) l2 c2 k2
 have F3:=QS (st:=J0) l3 c3 k3
 have F4:=QS (st:=sMD) l4 c4 k4
 have F5:=QS (st:=sMF) l5 c5 k5
 have b1:Binds K _ ["self", "turning", "wood"] []:=F1.binds fun _ _ _ _ _ _ us hl=>by obtain ⟨a1,a2,a3,rfl⟩:=ln3 hl;rfl
 have b2:Binds K _ ["self", "demand"] []:=F2.binds fun _ _ _ _ _ _ us hl=>by obtain ⟨a1,a2,rfl⟩:=ln2 hl;rfl
 have b3:Binds K _ ["self", "spot", "place", "term", "kind"] []:=F3.binds fun _ _ _ _ _ _ us hl=>by obtain ⟨a1,a2,a3,a4,a5,rfl⟩:=ln5 hl;rfl
 have b4:Binds K _ ["self", "demand", "step"] []:=F4.binds fun _ _ _ _ _ _ us hl=>by obtain ⟨a1,a2,a3,rfl⟩:=ln3 hl;rfl
 have b5:Binds K _ ["self", "fault"] []:=F5.binds fun _ _ _ _ _ _ us hl=>by obtain ⟨a1,a2,rfl⟩:=ln2 hl;rfl
 have mL:Meth K C "look" f3:=⟨a3,i3,k3⟩
 have FL:=Wu F3 G T RC ⟨a5,i5,k5⟩ (Sy F5 T RL) b5 ⟨a4,i4,k4⟩ (P5 F4 T) b4 mL b3 n
 have mB:Meth K C "look_by" f2:=⟨a2,i2,k2⟩
 exact ⟨C,T,⟨f1,_,⟨mk,a1,i1,kc⟩,Np F1 G T RA mL FL b3 mB (Rr F2 G T RO mL FL b3) b2,b1⟩⟩
theorem TbK.m {P:Program} {w:World} {K:Fg} {mg:Str→Option Value} {h:Heap} {N0:Addr} (S:TbK K) (X:K.In h) (N:h.Ns mainGlobals mg) (G:Gm mg) (RC:∀ g:Heap,Fn P w K mg g 1 "is_call" ["term"] (ZS K)) (RR:∀ g:Heap,Fn P w K mg g 2 "rule_of" ["turning", "mode", "name"] (Zk K)) (RT:Rs K mg "TooGreat" N0) {t30 t200:Tok} (h30:mg "MOST_LEVELS" = some (.int 30 t30)) (h200:mg "MOST_SIZE" = some (.int 200 t200)) (n:Nat):∃ C,∀ g:Heap,TbM P w K mg g C N0 n:=by
 obtain ⟨C,aC,cl,n1,n2,mk,kc,m1,m2,m3,m4⟩:=S.ex
 have T:TbT K mg C:=⟨cl,n1,n2,PySem.W.mg_of X N aC⟩
 obtain ⟨f1,oc1,od1,kV1,doc1,pm1,an1,cdv1,ct1,osl1,a1,i1,l1,c1,k1⟩:=m1.ex
 obtain ⟨f2,oc2,od2,kV2,doc2,pm2,an2,cdv2,ct2,osl2,a2,i2,l2,c2,k2⟩:=m2.ex
 obtain ⟨f3,oc3,od3,kV3,doc3,pm3,an3,cdv3,ct3,osl3,a3,i3,l3,c3,k3⟩:=m3.ex
 obtain ⟨f4,oc4,od4,kV4,doc4,pm4,an4,cdv4,ct4,osl4,a4,i4,l4,c4,k4⟩:=m4.ex
 have F1:=QS (st:=sTI) l1 c1 k1
 have F2:=QS (st:=sBM) l2 c2 k2
 have F3:=QS (st:=sBR) l3 c3 k3
 have F4:=QS (st:=sTO) l4 c4 k4
 have b1:Binds K _ ["self", "other"] []:=F1.binds fun _ _ _ _ _ _ us hl=>by obtain ⟨a1,a2,rfl⟩:=ln2 hl;rfl
 have b2:Binds K _ ["self", "mode", "term", "room"] []:=F2.binds fun _ _ _ _ _ _ us hl=>by obtain ⟨a1,a2,a3,a4,rfl⟩:=ln4 hl;rfl
 have b3:Binds K _ ["self", "rule", "read", "room"] []:=F3.binds fun _ _ _ _ _ _ us hl=>by obtain ⟨a1,a2,a3,a4,rfl⟩:=ln4 hl;rfl
 have b4:Binds K _ ["self", "room"] []:=F4.binds fun _ _ _ _ _ _ us hl=>by obtain ⟨a1,a2,rfl⟩:=ln2 hl;rfl
 refine ⟨C,fun g=>?_⟩
 have all:=OM (base:=g) F2 F3 G T (RC g) (RR g) ⟨f4,_,⟨a4,i4,k4⟩,Ro F4 T RT h30 h200,b4⟩ ⟨a2,i2,k2⟩ b2 ⟨a3,i3,k3⟩ b3 n
 exact ⟨T,⟨f1,_,⟨mk,a1,i1,kc⟩,RQ F1 T h200,b1⟩,all.1,all.2⟩
end K68
namespace K68
open PySem L2 TM TT K9 K11
def JI (K:Fg) (n:Nat):Sp:=fun vs H Q _=>∃ (v:V) (t:Tm),vs=[v]∧TmV K H v t∧lv t≤n∧∀ H',Same H H'→Q (.bl true) H'
section
variable {P:Program} {w:World} {K:Fg} {mg:Str→Option Value} {base:Heap} {f:Addr} {fd:FuncData}
theorem OQ:FnScope ["_law_found", "_law_part"] ["_law_found"] (defScope Mg):=(1:)
theorem PY {n:Nat} (F:Fun K "_law_is_term" "_law_is_term" Mg f fd) (G:Gm mg) (RH:Fn P w K mg base 1 "_law_whole" ["_law_found"] UU) (R:Fn P w K mg base (n + 1) "_law_is_term" ["_law_found"] (JI K n)):FnOk P w K mg base CX0 (n + 2) f fd ["_law_found"] (JI K (n + 1)):=by
 refine F.ok OQ (13:) (3:)
 ·obtain ⟨v,t,rfl,_⟩:=h
  rfl
 obtain ⟨v,t,rfl,ht,hlv,q⟩:=h
 refine ⟨_,(Qh (QM (PW.pt (pw_or (ZD (QV (Qw Ya rfl G.isi PyProof.Rows.boot_isinstance (Qa (pv 0) (Qa (ZH (v:=.ty "tuple") rfl G.tup PyProof.Rows.boot_tuple rfl) Qe))))) (pw_or1 (QA XQ (Qw QI rfl G.len PySem.boot_len (Qa (pv 0) Qe)) (QC (Qa (Qb) (Qa (Qb) Qe))) rfl)))) (Qk (Qq QO)) Qu)
  (Qh (QM (QA Zw (Qw QI rfl G.len PySem.boot_len (Qa (pv 0) Qe)) Qb (Qz _)) (Qk (Qq (Ur (Zr Zw (Qg Qi (pv 0) Qb (2:)) Qs (Qz _)) (Ur (Qt RH hr (Qa (Qg Qi (pv 0) Qb (2:)) Qe) (Nat.le_add_left 1 n)) (Jd (Qt RH hr (Qa (Qg Qi (pv 0) Qb (2:)) Qe) (Nat.le_add_left 1 n))))))) Qu)
  (Qh (QM (PW.pt (pw_or (QA M5 (Qg Qi (pv 0) Qb (2:)) Qs (Qz _)) (pw_or (ZD (QV (Qw ZK rfl G.isi PyProof.Rows.boot_isinstance (Qa (Qg Qi (pv 0) Qb (2:)) (Qa (ZH (v:=.ty "str") rfl G.str PyProof.Rows.boot_str rfl) Qe))))) (pw_or1 (ZD (QV (Qw ZK rfl G.isi PyProof.Rows.boot_isinstance (Qa (Qg Qi (pv 0) Qb (2:)) (Qa (ZH (v:=.ty "bool") rfl G.boo PyProof.Rows.boot_bool rfl) Qe))))))))) (Qk (Qq QO)) Qu)
  (Qh (QM (PW.pt (pw_or (ZD (QV (Qt RH hr (Qa (Qg Qi (pv 0) Qb (2:)) Qe) (Nat.le_add_left 1 n)))) (pw_or1 (ZD (QV (Qw Ya rfl G.isi PyProof.Rows.boot_isinstance (Qa (Qg Qi (pv 0) Qb (2:)) (Qa (ZH (v:=.ty "tuple") rfl G.tup PyProof.Rows.boot_tuple rfl) Qe)))))))) (Qk (Qq QO)) Qu)
  (Qh (Zc PassesOwn.never rfl (YL (Qg Qi (pv 0) Qb (2:))) (Qr (i:=1) OQ.nd rfl (12:)) (Qk (QM (ZD (QV (Qt R hr (Qa (pv 1) Qe) (8:)))) (Qk (Qq QO)) Qu)))
  (Qk (Qq QO))))))),?_⟩
 try dsimp only [QB,Cx.nox]
 rcases Zd ht with ⟨a,m,b,rfl,rfl,h1⟩ | ⟨a,b,bs,nm,k,ad,rfl,et,h1,h2,h3,h4⟩
 ·refine ⟨_,rfl,a,_, "tuple", true,rfl,h1,rfl,_,rfl,Zh ⟨_,rfl,a,_,rfl,.inr h1,(9:),fun p hp=>?_⟩⟩
  have g1:=Qf hp (.tup [.int 3,.int 5])
  have h1':=g1.seqT h1
  refine ⟨p,_,rfl,.inr (SqT.of Qd),rfl,rfl,_,rfl,Zh ?_⟩
  refine ⟨_,rfl,a,_,rfl,.inr h1',rfl,_,rfl,Z9 rfl ?_⟩
  refine ⟨_,rfl,a,_,0,_,rfl,rfl,h1',rfl,rfl,_,rfl,Z9 rfl ⟨_,rfl,a,_,1,_,rfl,rfl,h1',rfl,m,rfl,_,rfl,Q8 ⟨_,rfl,a,_,2,_,rfl,rfl,h1',rfl,b,rfl,q _ g1⟩⟩⟩
 have hlen:=h3.length
 rw [ZC] at hlv
 refine ⟨_,rfl,a,_, "tuple", true,rfl,h1,rfl,_,rfl,Zh ⟨_,rfl,a,_,rfl,.inr h1,(9:),fun p hp=>?_⟩⟩
 have g1:=Qf hp (.tup [.int 3,.int 5])
 have h1':=g1.seqT h1
 have h2':=g1.seqT h2
 refine ⟨p,_,rfl,.inr (SqT.of Qd),rfl,rfl,_,rfl,Zh ?_⟩
 refine ⟨_,rfl,a,_,rfl,.inr h1',rfl,_,rfl,Z0 (fun z=>by injection z with z;exact absurd z (by show ¬ ((5:Nat):Int)=3;decide)) ?_⟩
 refine ⟨_,rfl,a,_,0,_,rfl,rfl,h1',rfl,rfl,_,rfl,Na rfl ⟨_,rfl,a,_,1,_,rfl,rfl,h1',rfl,_, "str", _,true,rfl,.str _,rfl,_,rfl,Zh ⟨_,rfl,a,_,2,_,rfl,rfl,h1',rfl,_, "bool", _,true,rfl,.bl _,rfl,_,rfl,Zh ?_⟩⟩⟩
 refine ⟨_,rfl,a,_,3,_,rfl,rfl,h1',rfl,ad,rfl,_,rfl,Zh ⟨_,rfl,a,_,4,_,rfl,rfl,h1',rfl,b,_, "tuple", true,rfl,h2',rfl,_,rfl,Zh ?_⟩⟩
 refine ⟨_,rfl,a,_,4,_,rfl,rfl,h1',rfl,b,rfl,⟨_,h2'⟩,?_⟩
 refine We (K:=K) (xs:=bs) (fun i σ H'=>∃ c1:Option V,σ=[some (.ref a),c1]∧Same H H') ⟨none,rfl,g1⟩ ?_ ?_ ?_
 ·rintro i σ H' _ ⟨c1,_,g⟩
  exact g.seqT h2
 ·rintro i x σ H' hx ⟨c1,rfl,g⟩
  have hi:i < bs.length:=(List.getElem?_eq_some_iff.mp hx).1
  have hit:i < t.bs.length:=by lia
  obtain ⟨cv,hcv,hct⟩:=h3.get (List.getElem?_eq_getElem hit)
  obtain rfl:cv=x:=Option.some.inj (hcv.symm.trans hx)
  have a1:=V2 (List.getElem_mem hit)
  exact ⟨_,rfl,cv,t.bs[i],rfl,hct.mono fun _ _=>g.seqT,by lia,fun H4 g4=>⟨_,rfl,Zh ⟨_,rfl,g.trans g4⟩⟩⟩
 ·rintro σ H' ⟨c1,rfl,g⟩
  exact q H' g
theorem Nc {k:Nat}:FnOk P w K mg base CX0 k f fd ["_law_found"] (JI K 0):=by
 have no:∀ vs H Q E,¬ JI K 0 vs H Q E:=fun vs H Q E h=>by
  obtain ⟨v,t,_,_,h0,_⟩:=h
  rw [ZC] at h0;lia
 exact ⟨fun vs H Q E h=>absurd h (no vs H Q E),fun A outer s H args us vs Q E _ _ _ _ h=>absurd h (no vs H Q E)⟩
theorem V0 (F:Fun K "_law_is_term" "_law_is_term" Mg f fd) (G:Gm mg) (RH:Fn P w K mg base 1 "_law_whole" ["_law_found"] UU) (hb:Binds K fd ["_law_found"] []) (hm:mg "_law_is_term" = some (.ref f)):∀ n:Nat,FnOk P w K mg base CX0 (n + 1) f fd ["_law_found"] (JI K n)
 | 0=>Nc
 | n + 1=>PY F G RH ⟨f,fd,V0 F G RH hb hm n,hb,F.kp,hm⟩
end
end K68
namespace K68
open PySem L2 TM TT K9 K11
def YH (r:PNx):PyData:=.tuple [.str r.2.1,.tuple (r.2.2.2.map .str)]
theorem VV {K:Fg} {H:Hp}:∀ {rs:List PNx},(∀ t ∈ rs,RowAt K H t)→RdAll K H (rs.map fun t=>V.ref t.1) (rs.map YH)
 | [],_=>.nil
 | t :: r,h=>.cons (.tup (h t List.mem_cons_self).1 (.cons (.str _) (.cons (.tup (h t List.mem_cons_self).2 (XC _)) .nil))) (VV fun u hu=>h u (List.mem_cons_of_mem _ hu))
theorem W3:∀ {rs:List PNx},(∀ r ∈ rs,PyData.strOk r.2.1=true)→(∀ r ∈ rs,∀ x ∈ r.2.2.2,PyData.strOk x=true)→PyData.canLayAll0 (rs.map YH)=true
 | [],_,_=>by simp [PyData.canLayAll0]
 | r :: rs,h1,h2=>by
  simp only [List.map_cons,PyData.canLayAll0,YH,PyData.canLay0,h1 r List.mem_cons_self,Jr _ (h2 r List.mem_cons_self),Bool.and_self,Bool.true_and]
  exact W3 (fun u hu=>h1 u (List.mem_cons_of_mem _ hu)) fun u hu=>h2 u (List.mem_cons_of_mem _ hu)
def Zq (p:Str × List PNx):PyData:=.tuple [.str p.1,.list (p.2.map YH)]
theorem Wp {K:Fg} {H:Hp}:∀ {ks:List KdT},(∀ k ∈ ks,SqT K H k.1 [.str k.2.1,.ref k.2.2.1]∧RowsL K H k.2.2.1 k.2.2.2)→RdAll K H (ks.map fun k=>V.ref k.1) ((dW ks).map Zq)
 | [],_=>.nil
 | k :: r,h=>.cons (.tup (h k List.mem_cons_self).1 (.cons (.str _) (.cons (.lst (h k List.mem_cons_self).2.1 (VV (h k List.mem_cons_self).2.2)) .nil))) (Wp fun u hu=>h u (List.mem_cons_of_mem _ hu))
theorem JU:∀ {ks:List KdT},(∀ k ∈ ks,PyData.strOk k.2.1=true)→(∀ k ∈ ks,RowsOk k.2.2.2)→PyData.canLayAll0 ((dW ks).map Zq)=true
 | [],_,_=>by simp [dW,PyData.canLayAll0]
 | k :: r,h1,h2=>by
  show PyData.canLayAll0 (Zq (k.2.1,k.2.2.2) :: (dW r).map Zq)=true
  have h3:PyData.canLayAll0 (k.2.2.2.map YH)=true:=W3 (h2 k List.mem_cons_self).nm (h2 k List.mem_cons_self).kn
  simp only [PyData.canLayAll0,Zq,PyData.canLay0,h1 k List.mem_cons_self,h3,Bool.and_self,Bool.true_and]
  exact JU (fun u hu=>h1 u (List.mem_cons_of_mem _ hu)) fun u hu=>h2 u (List.mem_cons_of_mem _ hu)
theorem JF:∀ rs:List PNx,PyData.depthAll (rs.map YH)≤2
 | []=>by simp [PyData.depthAll]
 | r :: rs=>by
  have:=JF rs
  simp only [List.map_cons,PyData.depthAll,YH,PyData.depth,YI]
  lia
theorem UO:∀ ks:List (Str × List PNx),PyData.depthAll (ks.map Zq)≤4
 | []=>by simp [PyData.depthAll]
 | k :: r=>by
  have h1:=UO r
  have h2:=JF k.2
  simp only [List.map_cons,PyData.depthAll,Zq,PyData.depth]
  lia
def ZY (m:Str × List Tm):PyData:=.tuple [.str m.1,.list (Jb m.2)]
def tuD (ws:List (Str × List PNx)) (t:Tm) (ds:List (Str × List Tm)):PyData:=.tuple [.list (ws.map Zq),tmd t,.list (ds.map ZY)]
theorem YS {K:Fg} {H:Hp}:∀ {ms:List MoT},(∀ m ∈ ms,Ss K H m)→RdAll K H (ms.map fun m=>V.ref m.1) ((dM ms).map ZY)
 | [],_=>.nil
 | m :: r,h=>by
  obtain ⟨h1,h2,h3⟩:=h m List.mem_cons_self
  exact .cons (.tup h1 (.cons (.str _) (.cons (.lst h2 h3.rd) .nil))) (YS fun x hx=>h x (List.mem_cons_of_mem _ hx))
theorem OS {K:Fg} {H:Hp} {tu wd lm:Addr} {sv:V} {ks:List KdT} {t0:Tm} {ms:List MoT} (h:TuAt K H tu wd sv lm ks t0 ms):RdV K H (.ref tu) (tuD (dW ks) t0 (dM ms)) :=
 .tup h.tu (.cons (.lst h.wd.1 (Wp h.wd.2)) (.cons h.st.rd (.cons (.lst h.lm (YS h.mo)) .nil)))
def Vt (K:Fg) (n:Nat):Sp:=fun vs H Q _=>∃ (fo du wd1 wd2 lm1 lm2:Addr) (sv1 sv2:V) (ks1 ks2:List KdT) (t:Tm) (ms1 ms2:List MoT),vs=[.ref fo,.ref du]∧TuAt K H fo wd1 sv1 lm1 ks1 t ms1∧TuAt K H du wd2 sv2 lm2 ks2 t ms2∧dW ks1=dW ks2∧dM ms1=dM ms2∧(tuD (dW ks1) t (dM ms1)).canLay0=true∧(tuD (dW ks1) t (dM ms1)).depth≤90∧lv t≤n∧(∀ m ∈ ms1,∀ r ∈ m.2.2.2.2,lv r≤n)∧∀ H',Same H H'→Q (.bl true) H'
section
variable {P:Program} {w:World} {K:Fg} {mg:Str→Option Value} {base:Heap} {f:Addr} {fd:FuncData}
theorem Xv:FnScope ["_law_found", "_law_due_here", "_law_kind", "_law_rules", "_law_rule_here"] ["_law_found", "_law_due_here"] (defScope Gs):=(1:)
theorem NH {n:Nat} (F:Fun K "_law_same" "_law_same" Gs f fd) (G:Gm mg) (RT:Fn P w K mg base (n + 1) "_law_is_term" ["_law_found"] (JI K n)):FnOk P w K mg base CX0 (n + 2) f fd ["_law_found", "_law_due_here"] (Vt K n):=by
 refine F.ok Xv (13:) (3:)
 ·obtain ⟨fo,du,wd1,wd2,lm1,lm2,sv1,sv2,ks1,ks2,t,ms1,ms2,rfl,_⟩:=h
  rfl
 obtain ⟨fo,du,wd1,wd2,lm1,lm2,sv1,sv2,ks1,ks2,t,ms1,ms2,rfl,hF,hD,ek,em,hlay,hdep,hlv,hlr,q⟩:=h
 have room:∀ m:Nat,m≤100→(A.deeper (PyProof.Rows.envOfC "_law_same" (defScope Gs) s.heap.objs.size f cdv)).units + m < cLine:=fun m hm=>by have:=hr.un;lia
 refine ⟨_,(Qh (QM (PW.pt (pw_or (ZD (QV (Qw Ya rfl G.isi PyProof.Rows.boot_isinstance (Qa (pv 0) (Qa (ZH (v:=.ty "tuple") rfl G.tup PyProof.Rows.boot_tuple rfl) Qe))))) (pw_or (QA M5 (Qw QI rfl G.len PySem.boot_len (Qa (pv 0) Qe)) Qb (Qz _)) (pw_or (QA M6 (pv 0) (pv 1) (Qz _)) (pw_or1 (ZD (QV (Qt RT hr (Qa (Qg Qi (pv 0) Qb (2:)) Qe) (8:))))))))) (Qk (Qq QO)) Qu)
  (Qh (Zc PassesOwn.never rfl (Q4 (Qg Qi (pv 0) Qb (2:))) (Zt rfl (Qv (Qr (i:=2) Xv.nd rfl (12:)) (Qv (Qr (i:=3) Xv.nd rfl (12:)) Za)))
   (Qk (Zc PassesOwn.never rfl (Q4 (pv 3)) (Qr (i:=4) Xv.nd rfl (12:)) (Qk (QM (ZD (QV (Qt RT hr (Qa (pv 4) Qe) (8:)))) (Qk (Qq QO)) Qu)))))
  (Qk (Qq QO)))),?_⟩
 try dsimp only [QB,Cx.nox]
 have hrd2:=OS hD
 rw [← ek,← em] at hrd2
 refine ⟨_,rfl,fo,_, "tuple", true,rfl,hF.tu,rfl,_,rfl,Zh ⟨_,rfl,fo,_,rfl,.inr hF.tu,rfl,_,rfl,Na rfl ⟨_,rfl,_,rfl,tuD (dW ks1) t (dM ms1),tuD (dW ks1) t (dM ms1),OS hF,hrd2,hlay,hlay,room _ (Nat.le_trans (Nat.min_le_left _ _) (10:)),_,rfl,?_⟩⟩⟩
 rw [if_pos rfl,ZE _ hlay]
 refine Zh ⟨_,rfl,fo,_,1,_,rfl,rfl,hF.tu,rfl,sv1,t,rfl,hF.st,hlv,fun H1 g1=>⟨_,rfl,Zh ?_⟩⟩
 have hF1:=hF.same g1
 refine ⟨_,rfl,fo,_,2,_,rfl,rfl,hF1.tu,rfl,lm1,rfl,⟨_,hF1.lm⟩,?_⟩
 refine ZQ (K:=K) (xs:=ms1.map fun m=>V.ref m.1) (fun i σ H'=>∃ c2 c3 c4:Option V,σ=[some (.ref fo),some (.ref du),c2,c3,c4]∧Same H H') ⟨none,none,none,rfl,g1⟩ ?_ ?_ ?_
 ·rintro i σ H' _ ⟨c2,c3,c4,_,g⟩
  exact g.seq hF.lm
 ·rintro i x σ H' hx ⟨c2,c3,c4,rfl,g⟩
  have hi:i < ms1.length:=by
   have:=(List.getElem?_eq_some_iff.mp hx).1
   rwa [List.length_map] at this
  obtain rfl:x=.ref ms1[i].1:=by
   rw [List.getElem?_map,List.getElem?_eq_getElem hi] at hx
   exact (Option.some.inj hx).symm
  have hmm:=List.getElem_mem hi
  obtain ⟨m1,m2,m3⟩:=(hF.same g).mo _ hmm
  have hml:=m3.length
  refine ⟨ms1[i].1,_,rfl,m1,rfl,_,_,rfl,_,_,rfl,rfl,?_⟩
  refine ⟨_,rfl,ms1[i].2.2.1,rfl,⟨_,m2⟩,?_⟩
  refine ZQ (K:=K) (xs:=ms1[i].2.2.2.1) (fun j σ H''=>∃ c4:Option V,σ=[some (.ref fo),some (.ref du),some (.str ms1[i].2.1),some (.ref ms1[i].2.2.1),c4]∧Same H H'') ⟨c4,rfl,g⟩ ?_ ?_ ?_
  ·rintro j σ H'' _ ⟨c4,_,g'⟩
   exact ((hF.same g').mo _ hmm).2.1
  ·rintro j y σ H'' hy ⟨c4,rfl,g'⟩
   have hj:j < ms1[i].2.2.2.2.length:=by
    have:=(List.getElem?_eq_some_iff.mp hy).1
    lia
   obtain ⟨cv,hcv,hct⟩:=((hF.same g').mo _ hmm).2.2.get (List.getElem?_eq_getElem hj)
   obtain rfl:cv=y:=Option.some.inj (hcv.symm.trans hy)
   exact ⟨_,rfl,cv,ms1[i].2.2.2.2[j],rfl,hct,hlr _ hmm _ (List.getElem_mem hj),fun H4 g4=>⟨_,rfl,Zh ⟨_,rfl,g'.trans g4⟩⟩⟩
  ·rintro σ H'' ⟨c4,rfl,g'⟩
   exact ⟨_,_,_,rfl,g'⟩
 ·rintro σ H' ⟨c2,c3,c4,rfl,g⟩
  exact q H' g
end
end K68
namespace L2
open PySem PySem.Spec PyProof.Rows
structure WS (X:Cx) (ss:List Stmt) (t:TS):Prop where
 h:PSs X ss t
structure W1 (X:Cx) (st:Stmt) (t:TS):Prop where
 h:PS X st t
structure WE (X:Cx) (e:Expr) (t:TE):Prop where
 h:PE X e t
structure WA (X:Cx) (es:List Expr) (t:TA):Prop where
 h:PA X es t
section
variable {X:Cx} {st:Stmt} {rest a b:List Stmt} {t u:TS} {e c:Expr} {es:List Expr} {te:TE} {ta:TA} {tc:TT} {pos:Pos}
theorem Qx (h1:W1 X st t) (h2:WS X rest u):WS X (st :: rest) (G4 t u):=⟨Qh h1.h h2.h⟩
theorem Zs (h1:W1 X st t):WS X [st] t:=⟨Qk h1.h⟩
theorem J3:WS X [] OE:=⟨Qu⟩
theorem Zn (h:PS X st t):W1 X st t:=⟨h⟩
theorem Vg (hc:PT X c tc) (ha:WS X a t) (hb:WS X b u):W1 X (.If c a b pos) (Sd tc t u):=⟨QM hc ha.h hb.h⟩
theorem YV (he:WE X e te):W1 X (.Return (some e) pos) (Sz te):=⟨Qq he.h⟩
theorem w_e (h:PE X e te):WE X e te:=⟨h⟩
theorem Qy {x1:Nat} (h:WA X es ta):WE X (.Tuple es x1 pos) (O5 ta):=⟨QC h.h⟩
theorem Ym (h:WA X es ta):WE X (.List es pos) (Rb ta):=⟨QZ h.h⟩
theorem Qm:WA X [] Wl:=⟨Qe⟩
theorem Qc (h:WE X e te) (k:WA X es ta) (hs:starEach (e :: es) X.env=(false,eval e X.env) :: starEach es X.env:=by rfl):WA X (e :: es) (Yj te ta):=⟨Qa h.h k.h hs⟩
end
end L2
namespace L2
open PySem PySem.Spec PyProof.Rows
section
variable {X:Cx} {p0 p1 p2 p3 p4 p5:Pos}
end
section
variable {X:Cx} {p0 p1 p2 p3 p4:Pos} {e1 e2 e3 e4:Expr} {t1 t2 t3 t4:TE}
theorem ZV {i:Nat} {x:Str} {e:Expr} {te:TE} {pos pos':Pos} (hN:X.N.Nodup) (hi:X.N[i]?=some x) (hx:Loc X.env.scope x) (he:WE X e te) (hs:swapsWith e (some (.Name x pos')) pos.line X.env=pure false:=by rfl) (hf:X.fn x=true∨X.env.scope.names.lookup x=some .local:=by first | exact .inl rfl | exact .inr rfl | assumption) :
 W1 X (.Assign [.Name x pos'] e pos) (Mz te (QJ i)):=⟨Qp hN hi hx he.h hs hf⟩
theorem OK {st:Stmt} {t:TS} (h:W1 X st t):W1 X st (Rh t):=⟨Yk h.h⟩
end
end L2
namespace L2
open PySem PySem.Spec PyProof.Rows
section
variable {X:Cx}
end
end L2
namespace K68
open PySem L2 TM TT K9 K11
abbrev wts (ks:List KdT):List (Addr × Str × V):=ks.map fun k=>(k.1,k.2.1,V.ref k.2.2.1)
abbrev wkv (ks:List KdT):List (Key × V):=(wts ks).map fun t=>((Sum.inr t.2.1:Key),t.2.2)
section
variable {K:Fg} {H:Hp} {wd:Addr} {ks:List KdT}
theorem wdA (hW:WoodAt K H wd ks):SqL K H wd ((wts ks).map fun t=>V.ref t.1):=by rw [List.map_map];exact hW.1
theorem wdB (hW:WoodAt K H wd ks):∀ t ∈ wts ks,SqT K H t.1 [.str t.2.1,t.2.2]:=fun t ht=>by
 obtain ⟨k,hk,rfl⟩:=List.mem_map.mp ht
 exact (hW.2 k hk).1
theorem wdC (hO:WoodOk ks):((wts ks).map fun t=>t.2.1).Nodup:=by rw [List.map_map];exact hO.nd
theorem wdD (hO:WoodOk ks):(wts ks).length≤1000:=by rw [List.length_map];have:=hO.len;lia
end
theorem Pn {H:Hp} {d:Addr} {ks:List KdT} {kind:Str} {k:KdT} (h:H d=some (.dK (wkv ks))) (e:ks.find? (fun k=>decide (k.2.1=kind))=some k):DGet H d (.str kind) (some (.ref k.2.2.1)):=by
 have hdg:=DGet.k (k:=Sum.inr kind) h
 have e':ZM (wkv ks) (Sum.inr kind)=(ks.find? fun k=>decide (k.2.1=kind)).map fun k=>V.ref k.2.2.1:=by
  unfold wkv wts
  rw [List.map_map]
  exact Y8 (fun k:KdT=>k.2.1) (fun k=>V.ref k.2.2.1) kind ks
 rw [e',e] at hdg
 exact hdg
section
variable {P:Program} {w:World} {K:Fg} {mg:Str→Option Value} {base:Heap} {f:Addr} {fd:FuncData}
theorem Ud:FnScope ["_law_turning", "_law_mode", "_law_name", "_law_kind", "_law_rules", "_law_row", "_law_rule_here"] ["_law_turning", "_law_mode", "_law_name"] (defScope MV):=(1:)
theorem Ld (F:Fun K "_law_rule" "_law_rule" MV f fd) (G:Gm mg):FnOk P w K mg base CX0 1 f fd ["_law_turning", "_law_mode", "_law_name"] (Zk K):=by
 refine F.ok Ud (13:) (3:)
 ·obtain ⟨nm,n,tu,wd,lm,sv,ks,t0,r,ms,m,name,rfl,_⟩:=h
  rfl
 obtain ⟨nm,n,tu,wd,lm,sv,ks,t0,r,ms,m,name,rfl,hTu,hO,hru,q⟩:=h
 refine ⟨_,(Qh (Us (Qg Qn (Qg Qi (pv 0) Qb (2:)) (pv 1) (2:)) (Zt rfl (Qv (Qr (i:=3) Ud.nd rfl (12:)) (Qv (Qr (i:=4) Ud.nd rfl (12:)) Za))))
  (Qh (Zc PassesOwn.never rfl (Vj rfl G.zip (Qa (UX (YC hr) (QP (Yb rfl) rfl G.dct PyProof.Rows.boot_dict (Qa (Qg Qi (pv 0) Qb (2:)) Qe)) (pv 3) (2:)) (Qa (pv 4) Qe))) (Zt rfl (Qv (Qr (i:=5) Ud.nd rfl (12:)) (Qv (Qr (i:=6) Ud.nd rfl (12:)) Za)))
   (Qk (QM (QA Zw (Qg Qi (pv 5) Qb (2:)) (pv 2) (Qz _)) (Qk (Qq (pv 6))) Qu)))
  (Qk (Qq Uj)))),?_⟩
 try dsimp only [QB,Cx.nox]
 unfold ruK at hru
 by_cases hm0:0≤m
 ·rw [if_pos hm0] at hru
  cases em:ms[m.toNat]? with
  | none=>rw [em] at hru;cases hru
  | some mo =>
   rw [em] at hru
   have hru:(((Zx ks mo.2.1).zip mo.2.2.2.2).find? fun p=>decide (p.1.2.1=name)).map (·.2)=some r:=hru
   have hmm:=List.mem_of_getElem? em
   have hat:atI (ms.map fun m=>V.ref m.1) m=some (.ref mo.1):=by
    rw [← Int.toNat_of_nonneg hm0]
    exact QY (by rw [List.getElem?_map,em];rfl)
   obtain ⟨m1,m2,m3⟩:=hTu.mo _ hmm
   refine ⟨_,rfl,tu,_,2,_,rfl,rfl,hTu.tu,rfl,_,rfl,lm,_,_,_,rfl,rfl,hTu.lm,hat,mo.1,_,rfl,m1,rfl,_,_,rfl,_,_,rfl,rfl,?_⟩
   obtain ⟨kd,hkf,erow,hkm⟩:=Uy (hO.kd _ hmm)
   have hrl:=hO.ru _ hmm
   rw [erow] at hrl hru
   refine ⟨_,rfl,tu,_,0,_,rfl,rfl,hTu.tu,rfl,wd,wts ks,rfl,wdA hTu.wd,wdB hTu.wd,wdC hO.wo,wdD hO.wo,fun dd hdd=>⟨_,rfl,dd,.ref kd.2.2.1,rfl,Pn Qd hkf,?_⟩⟩
   have g1:=Qf hdd (.dK (wkv ks))
   generalize upd H dd (.dK (wkv ks))=H1 at g1 ⊢
   have hT1:=hTu.same g1
   obtain ⟨m1',m2',m3'⟩:=hT1.mo _ hmm
   have hml:=m3'.length
   have hxl:(kd.2.2.2.map fun t=>V.ref t.1).length=mo.2.2.2.1.length:=by rw [List.length_map,hrl,hml]
   refine ⟨_,rfl,kd.2.2.1,mo.2.2.1,_,_,rfl,(hT1.wd.2 kd hkm).2.1,m2',?_⟩
   refine XX (K:=K) (xs:=kd.2.2.2.map fun t=>V.ref t.1) (ys:=mo.2.2.2.1) hxl (fun j σ H'=>∃ (c4 c5:Option V),σ=[some (.ref tu),some (.int m),some (.str name),some (.str mo.2.1),some (.ref mo.2.2.1),c4,c5]∧Same H H'∧(((kd.2.2.2.zip mo.2.2.2.2).drop j).find? fun p=>decide (p.1.2.1=name)).map (·.2)=some r)
    ⟨none,none,rfl,g1,hru⟩ ?_ ?_ ?_
   ·rintro j σ H' _ ⟨c4,c5,_,g,_⟩
    have hT':=hTu.same g
    exact ⟨(hT'.wd.2 kd hkm).2.1,(hT'.mo _ hmm).2.1⟩
   ·rintro j u v p σ H' hu hv hp ⟨c4,c5,rfl,g,hf⟩
    have hj:j < kd.2.2.2.length:=by
     have:=(List.getElem?_eq_some_iff.mp hu).1
     rwa [List.length_map] at this
    have hjt:j < mo.2.2.2.2.length:=by lia
    obtain rfl:u=.ref kd.2.2.2[j].1:=by
     rw [List.getElem?_map,List.getElem?_eq_getElem hj] at hu
     exact (Option.some.inj hu).symm
    have gp:=Qf hp (.tup [.ref kd.2.2.2[j].1,v])
    have g':=g.trans gp
    have hT3:=hTu.same g'
    obtain ⟨r1,r2⟩:=(hT3.wd.2 kd hkm).2.2 _ (List.getElem_mem hj)
    obtain ⟨cv,hcv,hct⟩:=(hT3.mo _ hmm).2.2.get (List.getElem?_eq_getElem hjt)
    obtain rfl:cv=v:=Option.some.inj (hcv.symm.trans hv)
    have ez:(kd.2.2.2.zip mo.2.2.2.2).drop j=(kd.2.2.2[j],mo.2.2.2.2[j]) :: (kd.2.2.2.zip mo.2.2.2.2).drop (j + 1):=by
     rw [List.drop_eq_getElem_cons (by rw [List.length_zip];lia),List.getElem_zip]
    rw [ez,List.find?_cons] at hf
    refine ⟨p,_,rfl,SqT.of Qd,rfl,_,_,rfl,_,_,rfl,rfl,?_⟩
    refine ⟨_,rfl,_,_,0,_,rfl,rfl,r1,rfl,_,rfl,rfl,_,rfl,?_⟩
    by_cases he:kd.2.2.2[j].2.1=name
    ·rw [decide_eq_true he] at hf
     have hf:mo.2.2.2.2[j]=r:=Option.some.inj hf
     rw [← hf] at q
     exact Z9 (by rw [he]) ⟨_,rfl,q _ _ g' hct⟩
    ·rw [decide_eq_false he] at hf
     exact Z0 (fun z=>he (by injection z)) ⟨_,_,rfl,g',hf⟩
   ·rintro σ H' ⟨c4,c5,rfl,g,hf⟩
    rw [List.length_map,List.drop_of_length_le (by rw [List.length_zip];lia)] at hf
    cases hf
 ·rw [if_neg hm0] at hru;cases hru
end
end K68
namespace K68
open PySem L2 TM TT K9 K11
theorem WS.read {X:Cx} {ss:List Stmt} {t:TS} {R:TS→Prop} (h:WS X ss t) (k:R t):∃ t,PSs X ss t∧R t:=⟨t,h.h,k⟩
theorem MI {X:Cx} {tg iter:Expr} {body:List Stmt} {wi:TI} {g:TG} {tb:TS} {pos:Pos} (hc:X.nox.calm=true) (hi:PI X.nox tg iter wi) (hg:PG X.nox tg g) (hb:WS X.nox body tb)
 (hs:∀ x,foldedSetIterable iter X.nox.env x=pure x:=by intro _;rfl):W1 X.nox (.For tg iter body [] pos) (R5 wi g tb):=⟨Zc PassesOwn.never hc hi hg hb.h hs⟩
theorem sT {H H5:Hp} {p:Addr} {o:HO} (hp:H p=none) (hX:upd H p o=H5):Same H H5:=hX ▸ Qf hp o
theorem fT {K:Fg} {H H5:Hp} {p:Addr} {xs:List V} (hX:upd H p (.tup xs)=H5):SqT K H5 p xs:=hX ▸ SqT.of Qd
theorem fL {H H5:Hp} {p:Addr} {xs:List V} (hX:upd H p (.lst xs)=H5):H5 p=some (.lst xs):=hX ▸ Qd
theorem tmS {K:Fg} {H H':Hp} {v:V} {t:Tm} (g:Same H H') (h:TmV K H v t):TmV K H' v t:=h.mono fun _ _=>g.seqT
def mrk (a a1:Int) (k:Bool):Int:=a + a1 * (if k then 1 else 0)
def QH (n:Str) (k:Bool) (a:Int) (bs:List Tm):Tm:=.node (.put n k a) 0 bs
def Zm:Nat→Tm→Prop
 | 0,_=>False
 | n + 1,t=>(∃ nm k a,lab t=.put nm k a∧PyData.strOk nm=true∧t.bs.length≤100)∧∀ b ∈ t.bs,Zm n b
mutual
def plT:Tm→Tm
 | .node (.put n _ a) _ bs=>.node (.put n false a) 0 (L5 bs)
 | .node (.call m b) d bs=>.node (.call m b) d bs
def L5:List Tm→List Tm
 | []=>[]
 | t :: r=>plT t :: L5 r
end
theorem Jz:∀ ts:List Tm,L5 ts=ts.map plT
 | []=>by rw [L5];rfl
 | t :: r=>by rw [L5,Jz r];rfl
theorem Li (n:Str) (k:Bool) (a:Int) (bs:List Tm):plT (.node (.put n k a) 0 bs)=.node (.put n false a) 0 (bs.map plT):=by rw [plT,Jz]
def Jj (K:Fg):Sp:=fun vs H Q _=>∃ (nm:Str) (ad cnt:Int),vs=[.str nm,.int ad,.int cnt]∧-1000≤cnt∧cnt≤300∧∀ (r:Addr) (ws:List V) (ts:List Tm) (H':Hp),Same H H'→SqT K H' r ws→TmAll K H' ws ts→ts.length≤cnt.toNat→(∀ t ∈ ts,∃ k,t=QH nm k ad [])→Q (.ref r) H'
def Chn (nm:Str) (ad:Int):Nat→List Tm→List Tm→Prop
 | 0,us,ts=>ts=us
 | n + 1,us,ts=>∃ k rs,Chn nm ad n us rs∧ts=[QH nm k ad rs]
def XR (K:Fg):Sp:=fun vs H Q _=>∃ (nm:Str) (ad:Int) (cnt:Nat) (r:Addr) (ws:List V) (us:List Tm),vs=[.str nm,.int ad,.int (cnt:Int),.ref r]∧SqT K H r ws∧TmAll K H ws us∧us.length≤100∧1≤cnt∧cnt≤60∧∀ (v:V) (t:Tm) (H':Hp),Same H H'→TmV K H' v t→Chn nm ad cnt us [t]→Q v H'
def YX (K:Fg) (n:Nat):Sp:=fun vs H Q _=>∃ (v:V) (t:Tm),vs=[v]∧TmV K H v t∧Zm n t∧∀ (v':V) (H':Hp),Same H H'→TmV K H' v' (plT t)→Q v' H'
section
variable {P:Program} {w:World} {K:Fg} {mg:Str→Option Value} {base:Heap} {f:Addr} {fd:FuncData}
theorem MW:FnScope ["_law_name", "_law_add", "_law_count"] ["_law_name", "_law_add", "_law_count"] (defScope XN):=(1:)
theorem GM (F:Fun K "_law_leaves" "_law_leaves" XN f fd) (G:Gm mg):FnOk P w K mg base CX0 1 f fd ["_law_name", "_law_add", "_law_count"] (Jj K):=by
 refine F.ok MW (13:) (3:)
 ·obtain ⟨nm,ad,cnt,rfl,_⟩:=h
  rfl
 obtain ⟨nm,ad,cnt,rfl,hc0,hc,q⟩:=h
 refine ⟨_,(Qk (Qq (QP Q2 rfl G.tup PyProof.Rows.boot_tuple (Qa (QT (CompG.many (xs:=["_law_k"]) (caps:=["_law_add", "_law_name"]) (cap:=[1,0]) (cs:=[_,_]) rfl rfl (0:) (0:) (0:) (0:) (0:) (0:) rfl rfl rfl) rfl (Zp rfl G.rng (Qa (pv 2) Qe)) (ZL (CompG.many (xs:=["_law_k"]) (caps:=["_law_add", "_law_name"]) (cap:=[1,0]) (cs:=[_,_]) rfl rfl (0:) (0:) (0:) (0:) (0:) (0:) rfl rfl rfl)) (fun _ _ _ _=>Q6) (fun _ _ _ _=>(QC (Qa (Qs) (Qa (pv 2) (Qa (Zr Zw (Qo QN (pv 0) Qb) Qb (Qz _)) (Qa (pv 1) (Qa (QC Qe) Qe)))))))) Qe)))),?_⟩
 try dsimp only [QB,Cx.nox]
 refine ⟨_,rfl,_,rfl,by lia,by lia,fun acc hacc=>?_⟩
 refine Yp (lo:=0) (n:=cnt.toNat) (cs:=[some (.int ad),some (.str nm)]) (tt:=fun _ H Q=>Q true H) (fun j ys H'=>H' acc=some (.lst ys)∧Same H H'∧ys.length=j∧∃ ts,TmAll K H' ys ts∧∀ t ∈ ts,∃ k,t=QH nm k ad [])
  ⟨Qd,Qf hacc _,rfl,[],.nil,fun t ht=>(nomatch ht)⟩ ?_ ?_
 ·rintro j ys H' hj ⟨hy,g,hyl,ts,hts,hk⟩
  refine Q8 ⟨_,rfl,_,rfl,_,_,rfl,rfl,(by show (0:Int) < 2;decide),rfl,_,rfl,(17:),?_⟩
  intro p1 hp_;generalize hX_:upd _ p1 _=Y1;have k1:=sT hp_ hX_;have d1:=fT (K:=K) hX_;clear hX_ hp_
  refine ⟨(by show 5≤sizeLine;decide),?_⟩
  intro q1 hp_;generalize hX_:upd _ q1 _=Y2;have k2:=sT hp_ hX_;have d2:=fT (K:=K) hX_;clear hX_ hp_
  have k12:=k1.trans k2
  have hy2:=k12 _ _ hy
  refine QK hj hy2 (10:) ⟨Qd,fun z u e=>?_,by rw [List.length_append,hyl];rfl,ts ++ [QH nm _ ad []],TmAll.append (hts.mono fun _ _ h=>(k12.seqT h).put hy2) (.cons (.put (d2.put hy2) ((k2.seqT d1).put hy2) .nil (by simp)) .nil),fun t ht=>?_⟩
  ·rw [Ql (Qj e hacc)];exact k12 _ _ (g _ _ e)
  ·rcases List.mem_append.mp ht with z | z
   ·exact hk t z
   ·exact ⟨_,List.mem_singleton.mp z⟩
 rintro ys H1 ⟨hy,g,hyl,ts,hts,hk⟩
 refine ⟨acc,ys,rfl,.inl ⟨SqL.of hy,fun pt hpt=>?_⟩⟩
 have k1:=Qf hpt (.tup ys)
 exact q pt ys ts _ (g.trans k1) (SqT.of Qd) (hts.mono fun _ _=>k1.seqT) (by have:=hts.length;lia) hk
theorem UZ:FnScope ["_law_name", "_law_add", "_law_count", "_law_inner", "_law_parts", "_law_k"] ["_law_name", "_law_add", "_law_count", "_law_inner"] (defScope Ve):=(1:)
theorem LL (F:Fun K "_law_chain" "_law_chain" Ve f fd) (G:Gm mg):FnOk P w K mg base CX0 1 f fd ["_law_name", "_law_add", "_law_count", "_law_inner"] (XR K):=by
 refine F.ok UZ (13:) (3:)
 ·obtain ⟨nm,ad,cnt,r,ws,us,rfl,_⟩:=h
  rfl
 obtain ⟨nm,ad,cnt,r,ws,us,rfl,hR,hU,hul,hc1,hc,q⟩:=h
 refine WS.read (Qx (Zn (Qp (i:=4) UZ.nd rfl (12:) (pv 3)))
  (Qx (MI rfl (Zp rfl G.rng (Qa (pv 2) Qe)) (Qr (i:=5) UZ.nd rfl (12:)) (Zs (ZV (i:=4) UZ.nd rfl (12:) ((Qy (Qc ((Qy (Qc (w_e Qs) (Qc (w_e (pv 0)) (Qc (w_e (Zr Zw (Qo QN (pv 5) Qb) Qb (Qz _))) (Qc (w_e (pv 1)) (Qc (w_e (pv 4)) Qm))))))) Qm))))))
  (Zs (Zn (Qq (Qg Qi (pv 4) Qb (2:))))))) ?_
 try dsimp only [QB,Cx.nox]
 refine ⟨_,rfl,_,rfl,_,rfl,by lia,by lia,?_⟩
 refine Xm (lo:=0) (n:=((cnt:Int)).toNat) (fun j σ H'=>∃ (r':Addr) (c5:Option V) (xs:List V) (ts:List Tm),σ=[some (.str nm),some (.int ad),some (.int (cnt:Int)),some (.ref r),some (.ref r'),c5]∧Same H H'∧SqT K H' r' xs∧TmAll K H' xs ts∧ts.length≤100∧Chn nm ad j us ts)
  ⟨r,none,ws,us,rfl,fun _ _ e=>e,hR,hU,hul,rfl⟩ ?_ ?_
 ·rintro j σ H1 hj ⟨r',c5,xs,ts,rfl,g,hx,ht,htl,hC⟩
  refine ⟨_,rfl,_,rfl,_,_,rfl,rfl,(by show (0:Int) < 2;decide),rfl,_,rfl,_,rfl,(by show 5≤sizeLine;decide),?_⟩
  intro p1 hp_;generalize hX_:upd _ p1 _=Y1;have k1:=sT hp_ hX_;have d1:=fT (K:=K) hX_;clear hX_ hp_
  refine ⟨(by show 1≤sizeLine;decide),?_⟩
  intro q1 hp_;generalize hX_:upd _ q1 _=Y2;have k2:=sT hp_ hX_;have d2:=fT (K:=K) hX_;clear hX_ hp_
  have k12:=k1.trans k2
  refine ⟨q1,_,[.ref p1],_,rfl,g.trans k12,d2,.cons (.put (k2.seqT d1) (k12.seqT hx) (ht.mono fun _ _=>k12.seqT) (by have:=ht.length;lia)) .nil,by simp,_,ts,hC,rfl⟩
 ·rintro σ H1 ⟨r',c5,xs,ts,rfl,g,hx,ht,htl,hC⟩
  obtain ⟨c,rfl⟩ : ∃ c,cnt=c + 1:=⟨cnt - 1,by lia⟩
  rw [Int.toNat_natCast] at hC
  obtain ⟨k,rs,hC',rfl⟩:=hC
  obtain ⟨u,rfl,hu⟩ : ∃ u,xs=[u]∧TmV K H1 u (QH nm k ad rs):=by
   cases ht with
   | cons h h'=>cases h';exact ⟨_,rfl,h⟩
  exact ⟨_,rfl,r',_,0,_,rfl,rfl,hx,rfl,q u _ H1 g hu ⟨k,rs,hC',rfl⟩⟩
theorem NA:FnScope ["_law_term"] ["_law_term"] (defScope JH):=(1:)
theorem LH {n:Nat} (F:Fun K "_law_plain" "_law_plain" JH f fd) (G:Gm mg) (R:Fn P w K mg base (n + 1) "_law_plain" ["_law_term"] (YX K n)):FnOk P w K mg base CX0 (n + 2) f fd ["_law_term"] (YX K (n + 1)):=by
 refine F.ok NA (13:) (3:)
 ·obtain ⟨v,t,rfl,_⟩:=h
  rfl
 obtain ⟨v,t,rfl,hv,⟨⟨pn,pk,pa',elp,_⟩,hn⟩,q⟩:=h
 refine ⟨_,(Qh (QM (QA Zw (Qg Qi (pv 0) Qb (2:)) Qs (Qz _)) (Qk (Qq (pv 0))) Qu)
  (Qk (Qq (QC (Qa (Qs) (Qa (Qg Qi (pv 0) Qb (2:)) (Qa (QO) (Qa (Qg Qi (pv 0) Qb (2:)) (Qa (QP Q2 rfl G.tup PyProof.Rows.boot_tuple (Qa (QT (CompG.many (xs:=["_law_part"]) (caps:=[]) (cap:=[]) (cs:=[]) rfl rfl (0:) (0:) (0:) (0:) (0:) (0:) rfl rfl rfl) rfl (YL (Qg Qi (pv 0) Qb (2:))) (ZL (CompG.many (xs:=["_law_part"]) (caps:=[]) (cap:=[]) (cs:=[]) rfl rfl (0:) (0:) (0:) (0:) (0:) (0:) rfl rfl rfl)) (fun _ _ _ _=>Q6) (fun _ _ _ _=>Qt R hr (Qa (pv 0) Qe) (8:))) Qe)) Qe))))))))),?_⟩
 try dsimp only [QB,Cx.nox]
 rcases Zd hv with ⟨_,_,_,rfl,rfl,_⟩ | ⟨a,b,vs,nn,kk,ad,rfl,et,h1,h2,h3,h4⟩
 ·cases elp
 refine ⟨_,rfl,a,_,0,_,rfl,rfl,h1,rfl,rfl,_,rfl,Z0 (0:) ?_⟩
 refine ⟨_,rfl,a,_,1,_,rfl,rfl,h1,rfl,_,rfl,a,_,3,_,rfl,rfl,h1,rfl,_,rfl,a,_,4,_,rfl,rfl,h1,rfl,b,rfl,⟨_,h2⟩,fun acc hacc=>?_⟩
 have hlen:=h3.length
 refine Xz (K:=K) (xs:=vs) (cs:=[]) (tt:=fun _ H Q=>Q true H) (fun i ys H'=>H' acc=some (.lst ys)∧Same H H'∧ys.length=i∧TmAll K H' ys ((t.bs.map plT).take i)) ⟨Qd,Qf hacc _,rfl,.nil⟩ ?_ ?_ ?_
 ·rintro i ys H' _ ⟨_,g,_⟩
  exact g.seqT h2
 ·rintro i y ys H' hi hy ⟨hya,g,hyl,hys⟩
  obtain ⟨c,hc⟩ : ∃ c,t.bs[i]?=some c:=⟨_,List.getElem?_eq_getElem (10:)⟩
  obtain ⟨cv,hcv,hct⟩:=h3.get hc
  obtain rfl:cv=y:=Option.some.inj (hcv.symm.trans hy)
  refine Q8 ⟨_,rfl,cv,c,rfl,tmS g hct,hn c (List.mem_of_getElem? hc),fun v' H4 g4 hv4=>?_⟩
  have hya4:=g4 _ _ hya
  refine QK (ys:=ys) hi hya4 (10:) ⟨Qd,fun z u e=>?_,by simp [hyl],?_⟩
  ·rw [Ql (Qj e hacc)];exact g4 _ _ (g _ _ e)
  ·rw [List.take_add_one,List.getElem?_map,hc]
   exact TmAll.append (hys.mono fun _ _ h=>(g4.seqT h).put hya4) (.cons (hv4.mono fun _ _ h=>h.put hya4) .nil)
 rintro ys H3 ⟨hya,g,hyl,hys⟩
 have et2:(t.bs.map plT).take vs.length=t.bs.map plT:=List.take_of_length_le (by rw [List.length_map];lia)
 rw [et2] at hys
 refine ⟨acc,ys,rfl,.inl ⟨SqL.of hya,fun pt hpt=>⟨(by show 5≤sizeLine;decide),fun pr hpr=>?_⟩⟩⟩
 have k1:=Qf hpt (.tup ys)
 have k2:=Qf hpr (.tup [.str PUT,.str nn,.bl false,.int ad,.ref pt])
 have k12:=k1.trans k2
 refine q (.ref pr) _ (g.trans k12) ?_
 rw [et,Li]
 exact .put (SqT.of Qd) (k2.seqT (SqT.of Qd)) (hys.mono fun _ _=>k12.seqT) (10:)
theorem JO (F:Fun K "_law_plain" "_law_plain" JH f fd) (G:Gm mg) (hb:Binds K fd ["_law_term"] []) (hm:mg "_law_plain" = some (.ref f)):∀ n:Nat,FnOk P w K mg base CX0 (n + 1) f fd ["_law_term"] (YX K n)
 | 0=>⟨fun vs H Q E h=>by obtain ⟨v,t,rfl,_⟩:=h;rfl,fun A outer s H args us vs Q E _ _ _ _ h=>by obtain ⟨v,t,_,_,hn,_⟩:=h;exact hn.elim⟩
 | n + 1=>LH F G ⟨f,fd,JO F G hb hm n,hb,F.kp,hm⟩
end
end K68
namespace K68
open PySem L2 TM TT K9 K11
def BR0 (ru:Str→Option Tm):Nat→Tm→Tm→Tm→Prop
 | 0,_,_,_=>False
 | n + 1,r,t,o=>(∃ nm' k' a',lab t=.put nm' k' a'∧match lab r with
  | .call m b=>∃ c nc kc ac r',0≤b∧t.bs[b.toNat]?=some c∧lab c=.put nc kc ac∧ru nc=some r'∧BR0 ru n r' c o
  | .put nm k a=>∃ os:List Tm,o=.node (.put nm (k && k') (mrk a a' k)) 0 os∧os.length=r.bs.length∧∀ (i:Nat) p q,r.bs[i]?=some p→os[i]?=some q→BR0 ru n p t q)
def Mc (K:Fg) (n:Nat):Sp:=fun vs H Q _=>∃ (ot wd lm:Addr) (sv:V) (ks:List KdT) (t0:Tm) (ms:List MoT) (nm n':Nat) (rv tv:V) (rule read out:Tm),vs=[.ref ot,rv,tv]∧TuAt K H ot wd sv lm ks t0 ms∧TuOk ks nm n' t0 ms∧TmV K H rv rule∧TmV K H tv read∧BR0 (ruK ks ms 0) n rule read out ∧
 ∀ (v:V) (H':Hp),Same H H'→TmV K H' v out→Q v H'
section
variable {P:Program} {w:World} {K:Fg} {mg:Str→Option Value} {base:Heap} {f:Addr} {fd:FuncData}
theorem PD:FnScope ["_law_other", "_law_rule_here", "_law_term", "_law_part", "_law_parts"] ["_law_other", "_law_rule_here", "_law_term"] (defScope sOn):=(1:)
theorem Sq {n:Nat} (F:Fun K "_law_on" "_law_on" sOn f fd) (G:Gm mg) (RU:Fn P w K mg base 1 "_law_rule" ["_law_turning", "_law_mode", "_law_name"] (Zk K)) (R:Fn P w K mg base (n + 2) "_law_on" ["_law_other", "_law_rule_here", "_law_term"] (Mc K n)):FnOk P w K mg base CX0 (n + 3) f fd ["_law_other", "_law_rule_here", "_law_term"] (Mc K (n + 1)):=by
 refine F.ok PD (13:) (3:)
 ·obtain ⟨ot,wd,lm,sv,ks,t0,ms,nm,n',rv,tv,rule,read,out,rfl,_⟩:=h
  rfl
 obtain ⟨ot,wd,lm,sv,ks,t0,ms,nm,n',rv,tv,rule,read,out,rfl,hTu,hO,hrv,htv,hB,q⟩:=h
 have hr1:Room 1 _:=hr.mono (10:)
 refine ⟨_,(Qh (QM (QA Zw (Qg Qi (pv 1) Qb (2:)) Qs (Qz _)) (Qh (Qp (i:=3) PD.nd rfl (12:) (Qg Qi (Qg Qi (pv 2) Qb (2:)) (Qg Qi (pv 1) Qb (2:)) (2:)))
  (Qk (Qq (Qt R hr (Qa (pv 0) (Qa (Qt RU hr1 (Qa (pv 0) (Qa (Qb) (Qa (Qg Qi (pv 3) Qb (2:)) Qe)))) (Qa (pv 3) Qe))) (8:))))) Qu)
  (Qh (Gh (i:=4) (CompG.many (xs:=["_law_inner"]) (caps:=["_law_other", "_law_term"]) (cap:=[0,2]) (cs:=[_,_]) rfl rfl (0:) (0:) (0:) (0:) (0:) (0:) rfl rfl rfl) rfl (YL (Qg Qi (pv 1) Qb (2:))) (ZL (CompG.many (xs:=["_law_inner"]) (caps:=["_law_other", "_law_term"]) (cap:=[0,2]) (cs:=[_,_]) rfl rfl (0:) (0:) (0:) (0:) (0:) (0:) rfl rfl rfl)) (fun _ _ _ _=>Q6) (fun _ _ _ _=>Qt R hr (Qa (pv 1) (Qa (pv 0) (Qa (pv 2) Qe))) (8:)) PD.nd rfl rfl)
  (Qk (Qq (QC (Qa (Qs) (Qa (Qg Qi (pv 1) Qb (2:)) (Qa (Ur (Qg Qi (pv 1) Qb (2:)) (Jd (Qg Qi (pv 2) Qb (2:)))) (Qa (Qo QR (Qg Qi (pv 1) Qb (2:)) (Qo ZB (Qg Qi (pv 2) Qb (2:)) (QP GW rfl G.int PyProof.Rows.boot_int (Qa (Qg Qi (pv 1) Qb (2:)) Qe)))) (Qa (QP Q2 rfl G.tup PyProof.Rows.boot_tuple (Qa (pv 4) Qe)) Qe)))))))))),?_⟩
 try dsimp only [QB,Cx.nox]
 rw [BR0] at hB
 obtain ⟨nm1,k1,a1,elr,hB⟩:=hB
 rcases Zd htv with ⟨_,_,_,rfl,rfl,_⟩ | ⟨ta,tb,tbs,tn,tk,tad,rfl,ett,r1,r2,r3,r4⟩
 ·cases elr
 have elt:lab read=.put tn tk tad:=by rw [ett];rfl
 obtain ⟨rfl,rfl,rfl⟩ : nm1=tn∧k1=tk∧a1=tad:=by rw [elr] at elt;injection elt with z1 z2 z3;exact ⟨z1,z2,z3⟩
 rcases Zd hrv with ⟨a,mo,b,rfl,rfl,h1⟩ | ⟨a,b,bs,nm',k',ad',rfl,et,h1,h2,h3,h4⟩
 ·obtain ⟨c,nc,kc,ac,r',hb0,hc,elc,hru,hB⟩:=hB
  obtain ⟨cv,hcv,hct⟩:=r3.get hc
  refine ⟨_,rfl,a,_,0,_,rfl,rfl,h1,rfl,rfl,_,rfl,Z9 rfl ?_⟩
  refine ⟨_,rfl,ta,_,4,_,rfl,rfl,r1,rfl,_,rfl,a,_,2,_,rfl,rfl,h1,rfl,tb,_,_,cv,rfl,rfl,r2,(by rw [← Int.toNat_of_nonneg hb0];exact QY hcv),?_⟩
  rcases Zd hct with ⟨_,_,_,rfl,rfl,_⟩ | ⟨ca,cb,cbs,cn,ck,cad,rfl,ect,s1,s2,s3,s4⟩
  ·cases elc
  have elc':lab c=.put cn ck cad:=by rw [ect];rfl
  obtain ⟨rfl,rfl,rfl⟩ : nc=cn∧kc=ck∧ac=cad:=by rw [elc] at elc';injection elc' with z1 z2 z3;exact ⟨z1,z2,z3⟩
  refine ⟨_,rfl,_,rfl,_,rfl,ca,_,1,_,rfl,rfl,s1,rfl,nm,n',ot,wd,lm,sv,ks,t0,r',ms,0,nc,rfl,hTu,hO,hru,fun rv' H1 g1 hrv'=>?_⟩
  exact ⟨_,rfl,ot,wd,lm,sv,ks,t0,ms,nm,n',rv',.ref ca,r',c,out,rfl,hTu.same g1,hO,hrv',tmS g1 hct,hB,fun v H' g' hv=>q v H' (g1.trans g') hv⟩
 have enl:lab rule=.put nm' k' ad':=by rw [et];rfl
 rw [enl] at hB
 obtain ⟨os,rfl,hol,hB⟩:=hB
 have hlen:=h3.length
 refine ⟨_,rfl,a,_,0,_,rfl,rfl,h1,rfl,rfl,_,rfl,Z0 (0:) ?_⟩
 refine ⟨_,rfl,a,_,4,_,rfl,rfl,h1,rfl,b,rfl,⟨_,h2⟩,fun acc hacc=>?_⟩
 refine Xz (K:=K) (xs:=bs) (cs:=[some (.ref ot),some (.ref ta)]) (tt:=fun _ H Q=>Q true H) (fun i ys H'=>H' acc=some (.lst ys)∧Same H H'∧ys.length=i∧TmAll K H' ys (os.take i))
  ⟨Qd,Qf hacc _,rfl,.nil⟩ ?_ ?_ ?_
 ·rintro i ys H' _ ⟨_,g,_⟩
  exact g.seqT h2
 ·rintro i y ys H' hi hy ⟨hya,g,hyl,hys⟩
  obtain ⟨c,hc⟩ : ∃ c,rule.bs[i]?=some c:=⟨_,List.getElem?_eq_getElem (10:)⟩
  have hio:i < os.length:=by lia
  obtain ⟨cv,hcv,hct⟩:=h3.get hc
  obtain rfl:cv=y:=Option.some.inj (hcv.symm.trans hy)
  have ho:=List.getElem?_eq_getElem hio
  refine Q8 ⟨_,rfl,_,rfl,_,rfl,ot,wd,lm,sv,ks,t0,ms,nm,n',cv,.ref ta,c,read,os[i],rfl,hTu.same g,hO,tmS g hct,tmS g htv,hB i c _ hc ho,fun v' H4 g4 hv4=>?_⟩
  have hya4:=g4 _ _ hya
  refine QK (ys:=ys) hi hya4 (10:) ⟨Qd,fun z u e=>?_,by simp [hyl],?_⟩
  ·rw [Ql (Qj e hacc)];exact g4 _ _ (g _ _ e)
  ·rw [List.take_add_one,ho]
   exact TmAll.append (hys.mono fun _ _ h=>(g4.seqT h).put hya4) (.cons (hv4.mono fun _ _ h=>h.put hya4) .nil)
 rintro ys H3 ⟨hya,g,hyl,hys⟩
 have et2:os.take bs.length=os:=List.take_of_length_le (10:)
 rw [et2] at hys
 have h1':=g.seqT h1
 have r1':=g.seqT r1
 refine ⟨_,rfl,a,_,1,_,rfl,rfl,h1',rfl,_,rfl,a,_,2,_,rfl,rfl,h1',rfl,k',rfl,?_⟩
 cases k' with
 | true =>
  refine Q8 ⟨_,rfl,ta,_,2,_,rfl,rfl,r1',rfl,_,rfl,a,_,3,_,rfl,rfl,h1',rfl,_,rfl,ta,_,3,_,rfl,rfl,r1',rfl,_,rfl,a,_,2,_,rfl,rfl,h1',rfl,.inr ⟨true,rfl,_,_,rfl,rfl,.inr ⟨by decide,by decide⟩,_,_,rfl,rfl,_,rfl,acc,ys,rfl,.inl ⟨SqL.of hya,fun pt hpt=>⟨(by show 5≤sizeLine;decide),fun pr hpr=>?_⟩⟩⟩⟩
  have kk1:=Qf hpt (.tup ys)
  have k2:=Qf hpr (.tup [.str PUT,.str nm',.bl k1,.int (mrk ad' a1 true),.ref pt])
  have k12:=kk1.trans k2
  exact q (.ref pr) _ (g.trans k12) (.put (SqT.of Qd) (k2.seqT (SqT.of Qd)) (hys.mono fun _ _=>k12.seqT) (10:))
 | false =>
  refine Zh ⟨_,rfl,a,_,3,_,rfl,rfl,h1',rfl,_,rfl,ta,_,3,_,rfl,rfl,r1',rfl,_,rfl,a,_,2,_,rfl,rfl,h1',rfl,.inr ⟨false,rfl,_,_,rfl,rfl,.inr ⟨by decide,by decide⟩,_,_,rfl,rfl,_,rfl,acc,ys,rfl,.inl ⟨SqL.of hya,fun pt hpt=>⟨(by show 5≤sizeLine;decide),fun pr hpr=>?_⟩⟩⟩⟩
  have kk1:=Qf hpt (.tup ys)
  have k2:=Qf hpr (.tup [.str PUT,.str nm',.bl false,.int (mrk ad' a1 false),.ref pt])
  have k12:=kk1.trans k2
  exact q (.ref pr) _ (g.trans k12) (.put (SqT.of Qd) (k2.seqT (SqT.of Qd)) (hys.mono fun _ _=>k12.seqT) (10:))
theorem Mf (F:Fun K "_law_on" "_law_on" sOn f fd) (G:Gm mg) (RU:Fn P w K mg base 1 "_law_rule" ["_law_turning", "_law_mode", "_law_name"] (Zk K)) (hb:Binds K fd ["_law_other", "_law_rule_here", "_law_term"] []) (hm:mg "_law_on" = some (.ref f)):∀ n:Nat,FnOk P w K mg base CX0 (n + 2) f fd ["_law_other", "_law_rule_here", "_law_term"] (Mc K n)
 | 0=>⟨fun vs H Q E h=>by obtain ⟨ot,wd,lm,sv,ks,t0,ms,nm,n',rv,tv,rule,read,out,rfl,_⟩:=h;rfl,fun A outer s H args us vs Q E _ _ _ _ h=>by
  obtain ⟨ot,wd,lm,sv,ks,t0,ms,nm,n',rv,tv,rule,read,out,_,_,_,_,_,hB,_⟩:=h
  rw [BR0] at hB
  exact hB.elim⟩
 | n + 1=>Sq F G RU ⟨f,fd,Mf F G RU hb hm n,hb,F.kp,hm⟩
end
end K68
namespace K68
open PySem L2 TM TT K9 K11
def two {α:Type} (b:Bool) (x y:α):List α:=if b=true then [x,y] else [y,x]
theorem Zi {α:Type} {b:Bool} {x y t:α} (h:t ∈ two b x y):t=x∨t=y:=by
 unfold two at h
 cases b
 ·rcases List.mem_cons.mp h with z | z
  ·exact .inr z
  ·exact .inl (List.mem_singleton.mp z)
 ·rcases List.mem_cons.mp h with z | z
  ·exact .inl z
  ·exact .inr (List.mem_singleton.mp z)
theorem V5 {K:Fg} {H:Hp} {b:Bool} {v u:V} {s t:Tm} (h1:TmV K H v s) (h2:TmV K H u t):TmAll K H (two b v u) (two b s t):=by
 unfold two;cases b
 ·exact .cons h2 (.cons h1 .nil)
 ·exact .cons h1 (.cons h2 .nil)
def ltS (x y:Str):Bool:=decide (x.cps.toList < y.cps.toList)
theorem V4 {a b:Str} (h1:¬ a.cps.toList < b.cps.toList) (h2:¬ b.cps.toList < a.cps.toList):a=b:=by
 have e:a.cps.toList=b.cps.toList:=List.le_antisymm (List.not_lt.mp h2) (List.not_lt.mp h1)
 cases a with
 | mk x =>
  cases b with
  | mk y =>
   have:x=y:=Array.toList_inj.mp e
   rw [this]
theorem Mr {a b:Str} (ne:a≠b):(!ltS b a)=ltS a b:=by
 unfold ltS
 by_cases h1:a.cps.toList < b.cps.toList
 ·have h2:¬ b.cps.toList < a.cps.toList:=List.lt_asymm h1
  rw [decide_eq_true h1,decide_eq_false h2];rfl
 ·by_cases h2:b.cps.toList < a.cps.toList
  ·rw [decide_eq_false h1,decide_eq_true h2];rfl
  ·exact absurd (V4 h1 h2) ne
theorem SA {A B:PNx} {out:List PNx} (hp:out.Perm [A,B]) (hs:out.Pairwise fun x y=>¬ y.2.1.cps.toList < x.2.1.cps.toList) (ne:A.2.1≠B.2.1):out=two (ltS A.2.1 B.2.1) A B:=by
 have hAB:out=[A,B]∨out=[B,A]:=by
  have hl:=hp.length_eq
  match out,hl,hp with
  | [x,y],_,hp =>
   have hx:x=A∨x=B:=by
    have:=hp.mem_iff.mp (List.mem_cons_self (a:=x) (l:=[y]))
    simpa using this
   rcases hx with rfl | rfl
   ·left
    have:=(List.perm_cons x).mp hp
    rw [List.perm_singleton.mp this.symm |>.symm]
   ·right
    have h2:=hp.trans (List.Perm.swap x A [])
    have:=(List.perm_cons x).mp h2
    rw [List.perm_singleton.mp this.symm |>.symm]
 unfold two ltS
 by_cases h:A.2.1.cps.toList < B.2.1.cps.toList
 ·rw [if_pos (decide_eq_true h)]
  rcases hAB with e | e
  ·exact e
  ·rw [e] at hs
   simp at hs
   exact absurd h (by simpa using hs)
 ·rw [if_neg (by simpa using h)]
  rcases hAB with e | e
  ·rw [e] at hs
   have h2:¬ B.2.1.cps.toList < A.2.1.cps.toList:=by simpa using hs
   exact absurd (V4 h h2) ne
  ·exact e
structure Wk (kd n0 n1:Str) (br:List Str) (ks:List KdT):Prop where
 ex:∃ a l r0 r1 c0 c1:Addr,ks=[(a,kd,l,two (ltS n0 n1) (r0,n0,c0,[]) (r1,n1,c1,br))]
structure Wm (kd:Str) (b:Bool) (ms:List MoT) (tb tf:Tm):Prop where
 ex:∃ (a l:Addr) (vs:List V),ms=[(a,kd,l,vs,two b tb tf)]
section
variable {kd n0 n1:Str} {br:List Str} {ks:List KdT} (h:Wk kd n0 n1 br ks)
include h
theorem Wk.row0 (ne:n0≠n1):QL ks kd n0=some []:=by
 obtain ⟨a,l,r0,r1,c0,c1,rfl⟩:=h.ex
 have ne':=Ne.symm ne
 unfold QL Zx two
 cases ltS n0 n1 <;> simp [ne,ne']
theorem Wk.row1 (ne:n0≠n1):QL ks kd n1=some br:=by
 obtain ⟨a,l,r0,r1,c0,c1,rfl⟩:=h.ex
 have ne':=Ne.symm ne
 unfold QL Zx two
 cases ltS n0 n1 <;> simp [ne,ne']
theorem Wk.rowN {nm:Str} (h0:n0≠nm) (h1:n1≠nm):QL ks kd nm=none:=by
 obtain ⟨a,l,r0,r1,c0,c1,rfl⟩:=h.ex
 unfold QL Zx two
 cases ltS n0 n1 <;> simp [h0,h1]
theorem Wk.ok (ne:n0≠n1) (l0:PyData.strOk n0=true) (l1:PyData.strOk n1=true) (lb:∀ x ∈ br,PyData.strOk x=true) (hb:br.length≤4):WoodOk ks:=by
 obtain ⟨a,l,r0,r1,c0,c1,rfl⟩:=h.ex
 refine ⟨by simp,by simp,fun k hk=>?_⟩
 obtain rfl:k=_:=by simpa using hk
 have ne':=Ne.symm ne
 unfold two
 constructor <;> cases ltS n0 n1 <;> simp_all
theorem Wk.wg (wo:WoodOk ks) (hb:∀ x ∈ br,x=kd):WG ks:=by
 refine ⟨wo,?_⟩
 obtain ⟨a,l,r0,r1,c0,c1,rfl⟩:=h.ex
 intro k hk r hr s hs
 obtain rfl:k=_:=by simpa using hk
 refine ⟨_,List.mem_cons_self,?_⟩
 rcases Zi hr with rfl | rfl
 ·cases hs
 ·exact (hb s hs).symm
theorem Wk.k0:∃ k:KdT,ks[0]?=some k∧k.2.1=kd:=by
 obtain ⟨a,l,r0,r1,c0,c1,rfl⟩:=h.ex
 exact ⟨_,rfl,rfl⟩
theorem Wk.len:ks.length=1:=by
 obtain ⟨a,l,r0,r1,c0,c1,rfl⟩:=h.ex
 rfl
theorem Wk.lay (wo:WoodOk ks) (lk:PyData.strOk kd=true):PyData.canLayAll0 ((dW ks).map Zq)=true:=by
 refine JU (fun k hk=>?_) wo.rows
 obtain ⟨a,l,r0,r1,c0,c1,rfl⟩:=h.ex
 obtain rfl:k=_:=by simpa using hk
 exact lk
theorem Wk.ru {ms:List MoT} {tb tf:Tm} (m:Wm kd (ltS n0 n1) ms tb tf) (ne:n0≠n1):ruK ks ms 0 n0=some tb∧ruK ks ms 0 n1=some tf:=by
 obtain ⟨a,l,r0,r1,c0,c1,rfl⟩:=h.ex
 obtain ⟨a',l',vs,rfl⟩:=m.ex
 have ne':=Ne.symm ne
 unfold ruK Zx two
 constructor <;> cases ltS n0 n1 <;> simp [ne,ne']
theorem Wk.tuOk {ms:List MoT} {tb tf t:Tm} {d:Nat} (m:Wm kd (ltS n0 n1) ms tb tf) (wo:WoodOk ks) (h1:TmB 1 d t) (h2:TmB 1 d tb) (h3:TmB 1 d tf):TuOk ks 1 d t ms:=by
 obtain ⟨a,l,r0,r1,c0,c1,rfl⟩:=h.ex
 obtain ⟨a',l',vs,rfl⟩:=m.ex
 refine ⟨wo,rfl,h1,fun m hm=>?_,fun m hm=>?_,fun m hm t ht=>?_⟩
 ·obtain rfl:m=_:=by simpa using hm
  exact ⟨_,List.mem_cons_self,rfl⟩
 ·obtain rfl:m=_:=by simpa using hm
  unfold Zx two
  cases ltS n0 n1 <;> simp
 ·obtain rfl:m=_:=by simpa using hm
  rcases Zi ht with rfl | rfl
  ·exact h2
  ·exact h3
end
theorem Wm.rules {kd:Str} {b:Bool} {ms:List MoT} {tb tf:Tm} (m:Wm kd b ms tb tf):Yx ms 0=two b tb tf:=by
 obtain ⟨a',l',vs,rfl⟩:=m.ex
 rfl
def nL:List Tm→Nat
 | []=>0
 | p :: r=>(match lab p with
  | .call _ _=>1
  | .put _ _ _=>0)+nL r
end K68
namespace L2
open PySem PySem.Spec PyProof.Rows HT
section
variable {prog:Program} {w:World} {A:Around} {E:Value→Shared→Prop} {s:Shared}
theorem Ua {t sl:Addr} {items:Array Value} {vl vu:Value} {lo hi:Option Int} {Q:Value→Shared→Prop} (ht:IsTup s.heap t items) (hs:s.heap.IsSliceOf sl vl vu .none) (pl:IsPart vl lo) (pu:IsPart vu hi)
 (hw:sIx items.size 0 lo=0∧sIx items.size items.size hi=items.size) (h:Q (.ref t) s):wpAny (model prog w) A (getItem (.ref t) (.ref sl)) Q E s:=by
 obtain ⟨os,hos,hcs,hds⟩:=id hs
 have hTs:s.TypeIs (.ref sl) "slice" := ⟨os,hos,hcs⟩
 unfold getItem
 try with_reducible refine wpAny_holding ?_
 first | refine wpAny_bind (wpAny_pure ?_) | skip
 refine wpAny_bind (wpAny_sequenceKey ht.typeIs (by decide) ?_)
 refine wpAny_bind (wpAny_callSpecial?_slot (name:=Str.ofString "__getitem__") ht.typeIs PyProof.Rows.slot_tuple_getitem
  (wpAny_call_entry PyProof.Rows.slot_tuple_getitem ht.typeIs entry_tuple_getitem ?_ (args_tuple_getitem _ _)))
 show wpAny _ _ (Builtin.Tuple.tupleItemsOf (.ref t) >>= _) _ _ s
 refine wpAny_bind (tupleItemsOf_ ht ?_)
 refine wpAny_bind (wpAny_typeOf hTs ?_)
 rw [if_pos (by decide)]
 refine wpAny_bind (ZT hs pl pu ?_)
 have hyes:((((sIx items.size 0 lo:Nat):Int) == 0 && (1:Int) == 1 && (sIx items.size items.size hi - sIx items.size 0 lo) == items.size)=true):=by
  rw [hw.1,hw.2];simp
 show wpAny _ _ (if (((sIx items.size 0 lo:Nat):Int) == 0 && (1:Int) == 1 && (sIx items.size items.size hi - sIx items.size 0 lo) == items.size)=true then _ else _) _ _ s
 rw [if_pos hyes]
 first
  | refine wpAny_bind (m:=Builtin.Tuple.tupleIsExact _) (wpAny_bind (wpAny_typeOf ht.typeIs (wpAny_pure ?_)))
  | refine wpAny_bind (wpAny_bind (m:=Builtin.Tuple.tupleIsExact _) (wpAny_bind (wpAny_typeOf ht.typeIs (wpAny_pure ?_))))
 rw [if_pos (by decide)]
 exact wpAny_bind (wpAny_rule (wpAny_pure ⟨_,rfl,wpAny_pure h⟩))
end
section
variable {X:Cx}
def SI (K:Fg):V→Option Int→Option Int→Hp→VK→Prop:=fun x lo hi H Q=>∃ a xs,x=.ref a∧SqT K H a xs∧∀ p H',Same H H'→SqT K H' p (cutV xs lo hi)→Q (.ref p) H'
theorem Wh:SlR X (SI X.K):=by
 intro pins s σ H x v vl vu lo hi sl Q I rx hs pl pu h
 obtain ⟨a,xs,rfl,hx,q⟩:=h
 by_cases hw:HT.sIx xs.length 0 lo=0∧HT.sIx xs.length xs.length hi=xs.length
 ·cases rx
  obtain ⟨its,r,ht,hz⟩:=I.tuple hx
  have hlen:its.toArray.size=xs.length:=by rw [List.size_toArray];exact r.length.symm
  refine ⟨"tuple", _,PyProof.Rows.slot_tuple_getitem.lookup,ht.typeIs,?_⟩
  refine Ua ht hs pl pu (by rw [hlen];exact hw) ⟨.ref a,H,I,rfl,q a H (Same.refl _) ?_⟩
  have e:cutV xs lo hi=xs:=by
   unfold cutV
   rw [hw.1,hw.2,List.drop_zero,Nat.sub_zero,List.take_length]
  rw [e];exact hx
 ·exact Pt pins s σ H _ v vl vu lo hi sl Q I rx hs pl pu ⟨a,xs,rfl,hx,hw,fun p hp=>q p _ (Qf hp _) (SqT.of Qd)⟩
end
end L2
namespace K68
open PySem L2 TM TT K9 K11
theorem WJ (c:Tm):∀ l:List Tm,szs (l ++ [c])=szs l + sz c
 | []=>by simp [szs]
 | t :: r=>by rw [List.cons_append,szs,szs,WJ c r];lia
theorem WX (c:Tm):∀ l:List Tm,lvs (l ++ [c])=max (lvs l) (lv c)
 | []=>by simp [lvs]
 | t :: r=>by rw [List.cons_append,lvs,lvs,WX c r];lia
theorem ZX:∀ (n:Nat) (t:Tm),Zm n t→MOk (2 * n) t
 | 0,_,h=>h.elim
 | n + 1,.node (.put nm k a) d bs,⟨⟨nm',k',a',e,hs⟩,hb⟩=>by
  have e:Lab.put nm k a=Lab.put nm' k' a':=e
  injection e with e1 _ _
  rw [← e1] at hs
  exact LM (d:=2 * n) hs.1 fun t ht=>ZX n t (hb t ht)
 | n + 1,.node (.call m b) d bs,⟨⟨nm',k',a',e,hs⟩,hb⟩=>by cases e
def Le (nm:Str):Nat→Tm→Tm→Prop
 | 0,_,_=>False
 | n + 1,t,t'=>(t.bs=[]∧t'=QH nm false 0 [])∨∃ (i:Nat) (b b':Tm),t.bs[i]?=some b∧Le nm n b b'∧t'=.node (lab t) 0 (t.bs.set i b')
def Ue (K:Fg) (n:Nat):Sp:=fun vs H Q _=>∃ (v:V) (t:Tm) (nm:Str) (num:Int),vs=[v,.str nm,.int num]∧TmV K H v t∧Zm n t∧n≤30∧∀ (v':V) (t':Tm) (H':Hp),Same H H'→TmV K H' v' t'→Le nm n t t'→Q v' H'
def ZU (K:Fg) (n:Nat):Sp:=fun vs H Q _=>∃ (v:V) (t:Tm),vs=[v]∧TmV K H v t∧Zm n t∧∀ (p:Addr) (H':Hp),Same H H'→SqT K H' p [.int (sz t:Nat),.int (lv t:Nat)]→Q (.ref p) H'
theorem VR {K:Fg} {H:Hp} {u:V} {b':Tm} (hu:TmV K H u b'):∀ {vs:List V} {ts:List Tm} (i:Nat),TmAll K H vs ts→i < vs.length→TmAll K H (vs.take i ++ [u] ++ vs.drop (i + 1)) (ts.set i b')
 | _ :: _,_ :: _,0,.cons h h',_=>.cons hu (by simpa using h')
 | _ :: _,_ :: _,i + 1,.cons h h',hi=>.cons h (VR hu i h' (by simpa using hi))
section
variable {P:Program} {w:World} {K:Fg} {mg:Str→Option Value} {base:Heap} {f:Addr} {fd:FuncData}
theorem Zb:FnScope ["_law_term", "_law_total", "_law_deep", "_law_part", "_law_one_here", "_law_other"] ["_law_term"] (defScope Yl):=(1:)
theorem VF {n:Nat} (F:Fun K "_law_measure" "_law_measure" Yl f fd) (G:Gm mg) (hmax:mg "max" = none) (R:Fn P w K mg base (n + 1) "_law_measure" ["_law_term"] (ZU K n)):FnOk P w K mg base CX0 (n + 2) f fd ["_law_term"] (ZU K (n + 1)):=by
 refine F.ok Zb (13:) (3:)
 ·obtain ⟨v,t,rfl,_⟩:=h
  rfl
 obtain ⟨v,t,rfl,hv,⟨⟨pn,pk,pa',elp,_⟩,hn⟩,q⟩:=h
 refine ⟨_,(Qh (Qp (i:=1) Zb.nd rfl (12:) Qb)
  (Qh (Qp (i:=2) Zb.nd rfl (12:) Qb)
  (Qh (Zc PassesOwn.never rfl (YL (Qg Qi (pv 0) Qb (2:))) (Qr (i:=3) Zb.nd rfl (12:)) (Qh (Us (Qt R hr (Qa (pv 3) Qe) (8:)) (Zt rfl (Qv (Qr (i:=4) Zb.nd rfl (12:)) (Qv (Qr (i:=5) Zb.nd rfl (12:)) Za))))
  (Qh (Qp (i:=1) Zb.nd rfl (12:) (Qo QR (pv 1) (pv 4)))
  (Qk (Qp (i:=2) Zb.nd rfl (12:) (Qw (G3 rfl) rfl hmax PyProof.Rows.boot_max (Qa (pv 2) (Qa (pv 5) Qe))))))))
  (Qk (Qq (QC (Qa (pv 1) (Qa (Qo QR (pv 2) Qb) Qe)))))))),?_⟩
 try dsimp only [QB,Cx.nox]
 rcases Zd hv with ⟨_,_,_,rfl,rfl,_⟩ | ⟨a,b,vs,nn,kk,ad,rfl,et,h1,h2,h3,h4⟩
 ·cases elp
 have hlen:=h3.length
 refine ⟨_,rfl,a,_,4,_,rfl,rfl,h1,rfl,b,rfl,⟨_,h2⟩,?_⟩
 refine We (K:=K) (xs:=vs) (fun i σ H'=>∃ (c3 c4 c5:Option V),σ=[some (.ref a),some (.int ((1 + szs (t.bs.take i):Nat):Int)),some (.int ((lvs (t.bs.take i):Nat):Int)),c3,c4,c5]∧Same H H')
  ⟨none,none,none,rfl,Same.refl _⟩ ?_ ?_ ?_
 ·rintro i σ H' _ ⟨_,_,_,_,g⟩
  exact g.seqT h2
 ·rintro i x σ H1 hx ⟨c3,c4,c5,rfl,g⟩
  have hi:i < vs.length:=(List.getElem?_eq_some_iff.mp hx).1
  obtain ⟨c,hc⟩ : ∃ c,t.bs[i]?=some c:=⟨_,List.getElem?_eq_getElem (10:)⟩
  obtain ⟨cv,hcv,hct⟩:=h3.get hc
  obtain rfl:cv=x:=Option.some.inj (hcv.symm.trans hx)
  refine ⟨_,rfl,cv,c,rfl,tmS g hct,hn c (List.mem_of_getElem? hc),fun p H2 g2 hp=>?_⟩
  refine ⟨p,_,rfl,hp,rfl,_,_,rfl,_,_,rfl,rfl,_,rfl,_,rfl,_,_,rfl,rfl,_,rfl,_,rfl,_,_,rfl,some cv,some (.int ((sz c:Nat):Int)),some (.int ((lv c:Nat):Int)),?_,g.trans g2⟩
  have et:t.bs.take (i + 1)=t.bs.take i ++ [c]:=by rw [List.take_add_one,hc];rfl
  rw [et,WJ,WX]
  have e1:((1 + szs (t.bs.take i):Nat):Int)+((sz c:Nat):Int)=((1 + (szs (t.bs.take i)+sz c):Nat):Int):=by lia
  have e2:(if ((lv c:Nat):Int) > ((lvs (t.bs.take i):Nat):Int) then ((lv c:Nat):Int) else ((lvs (t.bs.take i):Nat):Int))=((max (lvs (t.bs.take i)) (lv c):Nat):Int):=by
   split <;> lia
  rw [← e1,← e2]
  rfl
 ·rintro σ H1 ⟨c3,c4,c5,rfl,g⟩
  rw [hlen,List.take_length]
  refine ⟨_,rfl,_,rfl,_,_,rfl,rfl,(9:),fun p hp=>q p _ (g.trans (Qf hp _)) ?_⟩
  have e1:1 + szs t.bs=sz t:=by rw [JD]
  have e2:((lvs t.bs:Nat):Int)+1=((lv t:Nat):Int):=by rw [ZC];lia
  rw [e1,← e2]
  exact SqT.of Qd
theorem UJ (F:Fun K "_law_measure" "_law_measure" Yl f fd) (G:Gm mg) (hmax:mg "max" = none) (hb:Binds K fd ["_law_term"] []) (hm:mg "_law_measure" = some (.ref f)):∀ n:Nat,FnOk P w K mg base CX0 (n + 1) f fd ["_law_term"] (ZU K n)
 | 0=>⟨fun vs H Q E h=>by obtain ⟨v,t,rfl,_⟩:=h;rfl,fun A outer s H args us vs Q E _ _ _ _ h=>by obtain ⟨v,t,_,_,hn,_⟩:=h;exact hn.elim⟩
 | n + 1=>VF F G hmax ⟨f,fd,UJ F G hmax hb hm n,hb,F.kp,hm⟩
theorem Xt:FnScope ["_law_term", "_law_name", "_law_number", "_law_k", "_law_inner"] ["_law_term", "_law_name", "_law_number"] (defScope ZW):=(1:)
theorem Ms {n:Nat} (F:Fun K "_law_spoiled" "_law_spoiled" ZW f fd) (G:Gm mg) (R:Fn P w K mg base (n + 1) "_law_spoiled" ["_law_term", "_law_name", "_law_number"] (Ue K n)):FnOk P w K mg base CX0 (n + 2) f fd ["_law_term", "_law_name", "_law_number"] (Ue K (n + 1)):=by
 refine F.ok Xt (13:) (3:)
 ·obtain ⟨v,t,nm,num,rfl,_⟩:=h
  rfl
 obtain ⟨v,t,nm,num,rfl,hv,⟨⟨pn,pk,pa',elp,_⟩,hn⟩,hn30,q⟩:=h
 have room:∀ m:Nat,m≤2→(A.deeper (PyProof.Rows.envOfC "_law_spoiled" (defScope ZW) s.heap.objs.size f cdv)).units + m < cLine:=fun m hm=>by have:=hr.units;lia
 refine WS.read (Qx (Vg (QA Ju (Qg Qi (pv 0) Qb (2:)) (QC Qe) (Qz _)) (Zs (YV ((Qy (Qc (w_e Qs) (Qc (w_e (pv 1)) (Qc (w_e QO) (Qc (w_e Qb) (Qc (Qy Qm) Qm))))))))) J3)
  (Qx (Zn (Qp (i:=3) Xt.nd rfl (12:) (Qo QN (pv 2) (Qw QI rfl G.len PySem.boot_len (Qa (Qg Qi (pv 0) Qb (2:)) Qe)))))
  (Qx (Zn (Qp (i:=4) Xt.nd rfl (12:) (Qt R hr (Qa (Qg Qi (Qg Qi (pv 0) Qb (2:)) (pv 3) (2:)) (Qa (pv 1) (Qa (Qo Q1 (pv 2) Qb) Qe))) (8:))))
  (Zs (Zn (Qq (Qo YW (Yt Wh (pv 0) YR (YT Qb)) (QC (Qa (Qo YW (Qo YW (Yt Wh (Qg Qi (pv 0) Qb (2:)) YR (YT (pv 3))) (QC (Qa (pv 4) Qe))) (Yt Wh (Qg Qi (pv 0) Qb (2:)) (YT (Qo QR (pv 3) Qb)) YR)) Qe))))))))) ?_
 try dsimp only [QB,Cx.nox]
 rcases Zd hv with ⟨_,_,_,rfl,rfl,_⟩ | ⟨a,b,vs,nn,kk,ad,rfl,et,h1,h2,h3,h4⟩
 ·cases elp
 have hlen:=h3.length
 refine ⟨_,rfl,a,_,4,_,rfl,rfl,h1,rfl,(17:),?_⟩
 intro p0 hp_;generalize hX_:upd _ p0 _=X0;have g0:=sT hp_ hX_;have b0:=fT (K:=K) hX_;clear hX_ hp_
 have hl:=(Y5 (d:=2 * n) t.bs fun u hu=>ZX n u (hn u hu)).1
 refine ⟨.tuple (Jb t.bs),.tuple [],.tup (g0.seqT h2) (h3.mono fun _ _=>g0.seqT).rd,.tup b0 .nil,by simpa [PyData.canLay0] using hl,by decide,room _ (Nat.le_trans (Nat.min_le_right _ _) (by decide)),_,rfl,?_⟩
 cases hbs:t.bs with
 | nil =>
  refine Q8 ⟨_,rfl,(17:),?_⟩
  intro p1 hp_;generalize hX_:upd _ p1 _=X1;have g1:=sT hp_ hX_;have b1:=fT (K:=K) hX_;clear hX_ hp_
  refine ⟨(by show 5≤sizeLine;decide),?_⟩
  intro p2 hp_;generalize hX_:upd _ p2 _=X2;have g2:=sT hp_ hX_;have b2:=fT (K:=K) hX_;clear hX_ hp_
  exact q (.ref p2) _ X2 (g0.trans (g1.trans g2)) (.put b2 (g2.seqT b1) .nil (by simp)) (.inl ⟨hbs,rfl⟩)
 | cons t0 r0 =>
  refine Zh ?_
  have hv0:0 < vs.length:=by rw [hlen,hbs];simp
  have h1a:=g0.seqT h1
  have h2a:=g0.seqT h2
  refine ⟨_,rfl,_,rfl,a,_,4,_,rfl,rfl,h1a,rfl,b,vs,rfl,.inr h2a,_,_,rfl,rfl,(by show (0:Int) < ((vs.length:Nat):Int);lia),?_⟩
  obtain ⟨i,ei,hi⟩ : ∃ i:Nat,num % ((vs.length:Nat):Int)=(i:Int)∧i < vs.length:=⟨(num % ((vs.length:Nat):Int)).toNat,by have:=Int.emod_nonneg num (b:=((vs.length:Nat):Int)) (10:);lia,by have:=Int.emod_lt_of_pos num (b:=((vs.length:Nat):Int)) (10:);have:=Int.emod_nonneg num (b:=((vs.length:Nat):Int)) (10:);lia⟩
  show QJ 3 (.int (num % ((vs.length:Nat):Int))) [some (.ref a),some (.str nm),some (.int num),none,none] X0 _
  rw [ei]
  obtain ⟨c,hc⟩ : ∃ c,t.bs[i]?=some c:=⟨_,List.getElem?_eq_getElem (10:)⟩
  obtain ⟨cv,hcv,hct⟩:=h3.get hc
  refine ⟨_,rfl,a,_,4,_,rfl,rfl,h1a,rfl,_,rfl,b,_,_,cv,rfl,rfl,h2a,QY hcv,_,rfl,_,rfl,_,_,rfl,rfl,⟨by decide,by decide⟩,cv,c,nm,_,rfl,tmS g0 hct,hn c (List.mem_of_getElem? hc),by lia,fun v' t' H1 g1 hv' hS=>?_⟩
  show QJ 4 v' [some (.ref a),some (.str nm),some (.int num),some (.int (i:Int)),none] H1 _
  have h1b:=g1.seqT h1a
  have h2b:=g1.seqT h2a
  refine ⟨_,rfl,_,rfl,a,_,rfl,h1b,fun p4 H2 k2 d2=>?_⟩
  refine ⟨_,rfl,a,_,4,_,rfl,rfl,k2.seqT h1b,rfl,_,rfl,_,rfl,b,vs,rfl,k2.seqT h2b,fun p5 H3 k3 d3=>?_⟩
  refine ⟨_,rfl,(by show 1≤sizeLine;decide),?_⟩
  intro p6 hp_;generalize hX_:upd _ p6 _=H4;have k4:=sT hp_ hX_;have d4:=fT (K:=K) hX_;clear hX_ hp_
  rw [M3] at d3
  refine ⟨p5,p6,_,_,rfl,rfl,k4.seqT d3,d4,(by rw [List.length_take,List.length_singleton,Q3];lia),fun p7 H5 k5 d5=>?_⟩
  have k25:=k2.trans (k3.trans (k4.trans k5))
  refine ⟨_,rfl,a,_,4,_,rfl,rfl,k25.seqT h1b,rfl,_,rfl,_,_,rfl,rfl,_,rfl,b,vs,rfl,k25.seqT h2b,fun p8 H6 k6 d6=>?_⟩
  have e6:(i:Int)+1=((i + 1:Nat):Int):=by lia
  rw [e6,No] at d6
  refine ⟨p7,p8,_,_,rfl,rfl,k6.seqT d5,d6,(by rw [List.length_append,List.length_take,List.length_singleton,List.length_drop,Q3];lia),fun p9 H7 k7 d7=>?_⟩
  refine ⟨(by show 1≤sizeLine;decide),?_⟩
  intro pA hp_;generalize hX_:upd _ pA _=H8;have k8:=sT hp_ hX_;have d8:=fT (K:=K) hX_;clear hX_ hp_
  have k38:=k3.trans (k4.trans (k5.trans (k6.trans (k7.trans k8))))
  refine ⟨p4,pA,_,_,rfl,rfl,k38.seqT d2,d8,(by show 4 + 1≤sizeLine;decide),fun pB H9 k9 d9=>?_⟩
  have kA:=k2.trans (k38.trans k9)
  refine q (.ref pB) _ H9 (g0.trans (g1.trans kA)) (.put d9 ((k8.trans k9).seqT d7) (VR (tmS kA hv') i (h3.mono fun _ _ h=>(g0.trans (g1.trans kA)).seqT h) hi) (by rw [List.length_append,List.length_append,List.length_take,List.length_singleton,List.length_drop];lia)) (.inr ⟨i,c,t',hc,hS,?_⟩)
  rw [et];rfl
theorem JM (F:Fun K "_law_spoiled" "_law_spoiled" ZW f fd) (G:Gm mg) (hb:Binds K fd ["_law_term", "_law_name", "_law_number"] []) (hm:mg "_law_spoiled" = some (.ref f)):∀ n:Nat,FnOk P w K mg base CX0 (n + 1) f fd ["_law_term", "_law_name", "_law_number"] (Ue K n)
 | 0=>⟨fun vs H Q E h=>by obtain ⟨v,t,nm,num,rfl,_⟩:=h;rfl,fun A outer s H args us vs Q E _ _ _ _ h=>by obtain ⟨v,t,nm,num,_,_,hn,_⟩:=h;exact hn.elim⟩
 | n + 1=>Ms F G ⟨f,fd,JM F G hb hm n,hb,F.kp,hm⟩
end
end K68
namespace L2
open PySem PySem.Spec PyProof.Rows
def ExcO (a:Addr) (cls:Value):HO:=.ext fun h=>∃ ob,h.get? a=some ob∧ob.cls=cls
section
variable {X:Cx} {pins:List (11:)} {σ:St} {H H':Hp} {s s':Shared} {a:Addr}
theorem Inv.track {o:HO} (I:Inv X pins σ H s) (hn:H a=none) (h0:∀ ob,X.s₀.heap.get? a≠some ob) (hL:a≠X.env.locals) (hc:∀ x c,X.env.cells.lookup x=some c→c≠a) (hp:∀ p ∈ X.pn ++ pins,p.1≠a) (ok:ObjOk X.prog X.w (upd H a o) s.heap a o):Inv X pins σ (upd H a o) s:=by
 have k:∀ b u,H b=some u→upd H a o b=some u:=fun b u e=>by rw [Ql (Qj e hn)];exact e
 refine ⟨I.ok,I.os,I.bare,⟨I.base.keep,I.base.slot,fun b ob e n hx=>?_,I.base.there,fun b xs e=>k _ _ (I.base.tups b xs e),fun b ob u e=>k _ _ (I.base.frzs b ob u e),fun b ps e=>?_⟩,I.loc,I.cell,?_,fun x c e=>?_,fun p hp'=>?_,fun b u e=>?_,I.len⟩
 ·rw [Ql (fun z=>by rw [z] at e;exact h0 ob e)];exact I.base.free b ob e n hx
 ·obtain ⟨more,e1⟩:=I.base.tbls b ps e
  exact ⟨more,k _ _ e1⟩
 ·rw [Ql (Ne.symm hL)];exact I.free
 ·rw [Ql (hc x c e)];exact I.freeC x c e
 ·obtain ⟨q1,q2,q3⟩:=I.pin p hp'
  exact ⟨q1,by rw [Ql (hp p hp')];exact q2,q3⟩
 ·by_cases z:b=a
  ·subst z
   rw [Qd] at e
   cases e
   exact ok
  ·rw [Ql z] at e
   exact (I.hok b u e).stay (fun _ _ _ r=>r) (fun c r=>k _ _ r) fun c xs r=>k _ _ r
theorem UT {M:Model} {A:Around} {E:Value→Shared→Prop} {i:Nat} {n:Str} {pos:Pos} {Q:Unit→Shared→Prop} (I:Inv X pins σ H s) (hN:X.N.Nodup) (hi:X.N[i]?=some n) (hk:X.env.scope.names.lookup n=some .local)
 (h:∀ s',Inv X pins (σ.set i none) H s'→Q () s'):wpAny M A (do bindName X.env n .none;unbindBehindTheSuite X.env n pos) Q E s:=by
 obtain ⟨m,hn,hl⟩:=id I.loc
 have hcls:(X.env.scope.kind == .class || (X.env.scope.kind == .module && X.env.locals != X.env.globals))=false:=by rw [I.ok.kind];rfl
 have hiσ:i < σ.length:=by rw [I.len];exact (List.getElem?_eq_some_iff.mp hi).1
 have cne:=I.cne
 refine wpAny_nameGoes_keeps hk hn hcls fun h' v hn' hs=>?_
 obtain ⟨oL,_,_,hoL,_⟩:=id hn
 have tracked:HOk X.prog X.w H h':=fun b ob e=>by
  refine (I.hok b ob e).stay (fun c w' hc q=>(hs.2 c ?_).trans q) (fun _ q=>q) fun _ _ q=>q
  rintro rfl
  rcases hc with rfl | hc
  ·rw [I.free] at e;cases e
  ·rw [I.free] at hc;cases hc
 have neL:∀ b o,X.s₀.heap.get? b=some o→b≠X.env.locals:=fun b o e=>Nat.ne_of_lt (Nat.lt_of_lt_of_le (Heap.lt_size e) I.ok.above)
 refine h _ ⟨I.ok,I.os,I.bare,⟨fun b o e n hb hx=>(hs.2 b (neL b o e)).trans (I.base.keep b o e n hb hx),fun b o e n hb hx=>?_,I.base.free,fun b o e hx=>?_,I.base.tups,I.base.frzs,I.base.tbls⟩,⟨_,hn',fun j y v' e1 e2 e3=>?_⟩,fun y c e=>?_,I.free,I.freeC,fun p hp=>?_,tracked,by simpa using I.len⟩
 ·obtain ⟨sl,e1⟩:=I.base.slot b o e n hb hx
  exact ⟨sl,(hs.2 b (neL b o e)).trans e1⟩
 ·obtain ⟨o',e1⟩:=I.base.there b o e hx
  exact ⟨o',(hs.2 b (neL b o e)).trans e1⟩
 ·by_cases hj:j=i
  ·subst hj
   rw [List.getElem?_set_self hiσ] at e2
   cases e2
  ·rw [List.getElem?_set_ne (Ne.symm hj)] at e2
   obtain ⟨u',r',q⟩:=hl j y v' e1 e2 e3
   refine ⟨u',r',?_⟩
   rcases q with ⟨k,e⟩ | ⟨k,c,e,z⟩
   ·refine .inl ⟨k,?_⟩
    have:y≠n:=fun e=>hj (Je hN e1 (e ▸ hi))
    simp [this,e]
   ·exact .inr ⟨k,c,e,z.sameBut hs (cne y c e)⟩
 ·obtain ⟨w',z⟩:=I.cell y c e
  exact ⟨w',z.sameBut hs (cne y c e)⟩
 ·obtain ⟨e,n,ne,nf,d⟩:=I.pin p hp
  exact ⟨(hs.2 p.1 ne).trans e,n,ne,nf,d⟩
end
def Ends.gone (D:Ends) (i:Nat):Ends:={ nx:=fun σ H=>D.nx (σ.set i none) H,ct:=fun σ H=>D.ct (σ.set i none) H,bk:=fun σ H=>D.bk (σ.set i none) H,rt:=D.rt }
section
variable {X:Cx}
end
end L2
namespace L2
open PySem PySem.Spec PyProof.Rows
section
variable {X:Cx}
end
end L2
namespace L2
open PySem PySem.Spec PyProof.Rows PySem.W
theorem Om {K:Frag} {a:Addr} {t c:Value} (e:kitOne K t c=some true):Answers (fun s=>K.In s.heap∧∃ ob,s.heap.get? a=some ob∧ob.cls=t) (.ref a) c true:=by
 intro dep tk prog w A R s hs
 obtain ⟨h0,g,d,tt,os⟩:=s
 obtain ⟨⟨X,ob,hob,hcl⟩,hq⟩:=hs
 have LT:Looks (model prog w) h0 (typeOf (.ref a)) t:=hcl ▸ (Looks.ld hob).andThen .now
 unfold kitOne at e
 unfold Builtin.«isinstance.nested»
 refine wpAny_bind (LT.at ?_)
 by_cases q:(t == c)=true
 ·rw [if_pos q]
  first
   | ((repeat lk);exact hq tt)
   | exact wpAny_bind (wpAny_rule (hq tt))
   | exact wpAny_bind (wpAny_rule (wpAny_pure (hq tt)))
 ·rw [if_neg q] at e
  rw [if_neg q]
  obtain ⟨hty,his,hsub⟩:=kit_cls (M:=model prog w) X e
  have LI:Looks (model prog w) h0 (isInstance (.ref a) c) true:=LT.andThen hsub
  refine wpAny_bind (hty.at ?_)
  rw [if_pos (by decide)]
  k_delta "plainIsInstance"
  refine wpAny_bind (wpAny_bind (his.at ?_))
  simp only [Bool.not_true,Bool.false_eq_true,if_false]
  refine wpAny_bind (LI.at ?_)
  first
   | exact wpAny_pure (wpAny_pure (hq tt))
   | (simp only [if_true];first | exact wpAny_pure (wpAny_pure (hq tt)) | exact wpAny_pure (hq tt) | exact wpAny_bind (wpAny_pure (wpAny_pure (hq tt))))
def Gd:V→Option Value
 | .ref C=>some (.ref C)
 | .ty T=>some (.type T)
 | _=>none
theorem Wn {v:V} {u c:Value} (r:RelV v u) (h:Gd v=some c):u=c:=by
 cases v with
 | ref C=>cases h;exact r
 | ty T=>cases h;exact r
 | _=>cases h
abbrev SU (K:Frag):List V→Hp→VK→Prop:=fun xs H Q=>∃ a t v c,xs=[.ref a,v]∧H a=some (ExcO a t)∧Gd v=some c∧kitOne K t c=some true∧Q (.bl true) H
section
variable {X:Cx}
theorem Wa:Zv X (.builtin "isinstance") (SU X.K):=by
 intro pins s σ H xs us Q I r h
 obtain ⟨a,t,v,c,rfl,ha,hc,e,q⟩:=h
 obtain ⟨u,c',rfl,rx,rc⟩:=Wy r
 cases (show u=Value.ref a from rx)
 cases Wn rc hc
 have hob:∃ ob,s.heap.get? a=some ob∧ob.cls=t:=(I.hok a _ ha).1
 exact call_isinstance (S:=fun _ R s=>(X.K.In s.heap∧∃ ob,s.heap.get? a=some ob∧ob.cls=t)∧∀ tk,R (.ok (.ret (.bool true))) { s with toks:=tk })
  (fun prog w A R s hs=>isinstance_outer (Om e 0 _ prog w A R s hs) (fun z=>nomatch z)) ⟨⟨I.kIn,hob⟩,fun tk=>⟨.bl true,H,I.tok tk,rfl,q⟩⟩
end
end L2
namespace L2
open PySem PySem.Spec PyProof.Rows PySem.W PySem.Calls Builtin Builtin.ObjectAttr Builtin.Getset_descriptor
structure XcK (K:Frag) (D:Addr):Prop where
 ga:findIn K (.ref D) "__getattribute__" = some (some (.builtin "BaseException.__getattribute__"))
 gn:findIn K (.ref D) "__getattr__" = some none
 gc:findIn K (.ref D) "__class__" = some (some (.builtin "object.__class__"))
 sb:mroIn K D (.type "BaseException")=some true
 so:mroIn K D (.type "object")=some true
section
variable {prog:Program} {w:World} {A:Around} {E:Value→Shared→Prop} {K:Frag} {a D:Addr} {h:Heap} {g:Array GenState} {d:Drawn} {t:Nat} {os:OsState}
theorem Pu {R:Result→Shared→Prop} {tp:Value} (X:K.In h) (k:XcK K D) (L0:Looks (model prog w) h (typeOf (.ref a)) (.ref D)) (q:R (.ok (.ret (.ref D))) ⟨h,g,d,t,os⟩) :
 codeAny (model prog w) A (.call (.builtin "getset_descriptor.__get__") ⟨[.builtin "object.__class__", .ref a,tp],[]⟩) R ⟨h,g,d,t,os⟩:=by
 have L1:=looks_mroIn (M:=model prog w) X k.so
 refine codeAny_call_builtin KF.slot_gs.plain KF.entry_gs
  (KF.slot_gs.check _ _ _ _ _ _ _ _ KF.type_class (KF.args_gs _ _ _) ?_)
 unfold Builtin.«getset_descriptor.__get__» descrGet;rw [dga_obj];refine wpAny_bind (wpAny_pure ?_)
 unfold descrGetter descrCheckInstance descrNameAndClass isInstance;simp only [KF.owner_class]
 repeat lk
 refine ⟨Code.quiet_builtin _ (0:),codeAny_builtin KF.entry_class ?_⟩
 unfold Builtin.«object.__class__» shownTypeOf;(repeat lk)
 exact q
theorem Mp {tk:Tok} {Q:Fin→Shared→Prop} (X:K.In h) (k:XcK K D) (L0:Looks (model prog w) h (typeOf (.ref a)) (.ref D)) (q:Q (.done (.ret (.ref D))) ⟨h,g,d,t,os⟩) :
 wpAny (model prog w) A (Builtin.«object.__getattribute__» ⟨[.ref a,.str "__class__" tk],[]⟩) Q E ⟨h,g,d,t,os⟩:=by
 have LC:=looks_findIn (M:=model prog w) X k.gc
 have hT5:(⟨h,g,d,t,os⟩ : Shared).TypeIs (.builtin "object.__class__") "getset_descriptor" := F.typeOf_object_class
 have f5:=F.typeOf_object_class;have f6:=F.slot_gs_get.lookup;have f7:=F.slot_gs_set.lookup
 repeat (any_goals (first | assumption | with_reducible refine wpAny_bind (L0.at ?_) | with_reducible refine wpAny_bind (LC.at ?_) | wp_step))
 refine Pu X k L0 ?_
 repeat (any_goals (first | assumption | wp_step))
theorem Me {rest:List Value} {Q:Unit→Shared→Prop} {s:Shared} (X:K.In s.heap) (k:XcK K D) (L0:Looks (model prog w) s.heap (typeOf (.ref a)) (.ref D)) (ha:argsOk "BaseException.__getattribute__" ⟨.ref a :: rest,[]⟩) (q:Q () s) :
 wpAny (model prog w) A (checkBuiltinCall "BaseException.__getattribute__" ⟨.ref a :: rest,[]⟩) Q E s:=by
 have L1:=looks_mroIn (M:=model prog w) X k.sb
 have L2:Looks (model prog w) s.heap (isInstance (.ref a) (.type "BaseException")) true:=L0.andThen L1
 have hs:splitId "BaseException.__getattribute__" = some ("BaseException", "__getattribute__"):=by decide +kernel
 have hk:builtinKind "BaseException.__getattribute__" = some .slot:=by decide +kernel
 simp only [checkBuiltinCall,hk,hs]
 refine wpAny_bind (L2.at ?_)
 simp only [Bool.not_true,Bool.false_eq_true,if_false]
 cases e:Manifest.signature? "BaseException.__getattribute__" with
 | none=>exact wpAny_pure q
 | some sig =>
  simp only [argsOk,e] at ha
  have h2:Bind.checkArgs "BaseException.__getattribute__" sig ⟨.ref a :: rest,[]⟩=pure ():=ha
  show wpAny _ _ (Bind.checkArgs "BaseException.__getattribute__" sig ⟨.ref a :: rest,[]⟩) Q E s;rw [h2];exact wpAny_pure q
theorem Nn {tk:Tok} {R:Result→Shared→Prop} (X:K.In h) (k:XcK K D) (L0:Looks (model prog w) h (typeOf (.ref a)) (.ref D)) (q:R (.ok (.ret (.ref D))) ⟨h,g,d,t,os⟩) :
 codeAny (model prog w) A (.call (.builtin "BaseException.__getattribute__") ⟨[.ref a,.str "__class__" tk],[]⟩) R ⟨h,g,d,t,os⟩ :=
 codeAny_call_builtin F.excAttr_ValueError.ga.plain F.entry_bexc_ga (Me X k L0 (F.args_bexc_ga _ _) (Mp X k L0 q))
theorem Sg {tk:Tok} {Q:Value→Shared→Prop} (X:K.In h) (k:XcK K D) (L0:Looks (model prog w) h (typeOf (.ref a)) (.ref D)) (q:Q (.ref D) ⟨h,g,d,t,os⟩) :
 wpAny (model prog w) A (getAttrBy (.ref a) (.str "__class__" tk) false) Q E ⟨h,g,d,t,os⟩:=by
 have LG:=looks_findIn (M:=model prog w) X k.ga
 have LN:=looks_findIn (M:=model prog w) X k.gn
 have f3:=F.excAttr_ValueError.ga.bind (.ref a)
 repeat (any_goals (first | assumption | with_reducible refine wpAny_bind (L0.at ?_) | with_reducible refine wpAny_bind (LG.at ?_) | with_reducible refine wpAny_bind (LN.at ?_) | wp_step))
 refine Nn X k L0 ?_
 repeat (any_goals (first | assumption | wp_step))
theorem NX {Q:Option Value→Shared→Prop} (X:K.In h) (k:XcK K D) (L0:Looks (model prog w) h (typeOf (.ref a)) (.ref D)) (q:Q (some (.ref D)) ⟨h,g,d,t + 1,os⟩) :
 wpAny (model prog w) A (getAttr? (.ref a) "__class__") Q E ⟨h,g,d,t,os⟩:=by
 unfold getAttr? getAttrBy?
 repeat (any_goals (first | assumption | with_reducible apply Sg X k L0 | wp_step))
end
theorem Nv {K:Frag} {a D:Addr} {c:Value} (k:XcK K D) (e:kitOne K (.ref D) c=some false):Answers (fun s=>K.In s.heap∧∃ ob,s.heap.get? a=some ob∧ob.cls=.ref D) (.ref a) c false:=by
 intro dep tk prog w A R s hs
 obtain ⟨h0,g,d,tt,os⟩:=s
 obtain ⟨⟨X,ob,hob,hcl⟩,hq⟩:=hs
 have LT:Looks (model prog w) h0 (typeOf (.ref a)) (.ref D):=hcl ▸ (Looks.ld hob).andThen .now
 have LD:Looks (model prog w) h0 (isType (.ref D)) true:=by
  obtain ⟨cd,hc,_⟩:=Option.bind_eq_some_iff.mp k.so
  unfold clsIn at hc
  split at hc
  ·rename_i c' d' cd' sl' ho
   intro A' Q' E' s' kk qq
   unfold isType loadHead;exact wpAny_bind (wpAny_loadPart (kk _ _ (X _ _ ho)) (wpAny_pure qq))
  ·cases hc
 unfold kitOne at e
 unfold Builtin.«isinstance.nested»
 refine wpAny_bind (LT.at ?_)
 by_cases q:(Value.ref D == c)=true
 ·rw [if_pos q] at e;cases e
 ·rw [if_neg q] at e
  rw [if_neg q]
  obtain ⟨hty,his,hsub⟩:=kit_cls (M:=model prog w) X e
  have LI:Looks (model prog w) h0 (isInstance (.ref a) c) false:=LT.andThen hsub
  refine wpAny_bind (hty.at ?_)
  rw [if_pos (by decide)]
  k_delta "plainIsInstance"
  refine wpAny_bind (wpAny_bind (his.at ?_))
  simp only [Bool.not_true,Bool.false_eq_true,if_false]
  refine wpAny_bind (LI.at ?_)
  simp only [Bool.false_eq_true,if_false]
  refine wpAny_bind (NX X k LT (wpAny_bind (LD.at ?_)))
  simp only [Bool.not_true,Bool.false_eq_true,if_false]
  refine wpAny_bind (wpAny_rule (hsub.at ?_))
  first
   | exact wpAny_pure (hq _)
   | exact wpAny_pure (wpAny_pure (hq _))
   | exact wpAny_bind (wpAny_pure (wpAny_pure (hq _)))
abbrev Sn (K:Frag):List V→Hp→VK→Prop:=fun xs H Q=>∃ (a D:Addr) (v:V) (c:Value),xs=[.ref a,v]∧H a=some (ExcO a (.ref D))∧Gd v=some c∧XcK K D∧kitOne K (.ref D) c=some false∧Q (.bl false) H
section
variable {X:Cx}
theorem XJ:Zv X (.builtin "isinstance") (Sn X.K):=by
 intro pins s σ H xs us Q I r h
 obtain ⟨a,D,v,c,rfl,ha,hc,k,e,q⟩:=h
 obtain ⟨u,c',rfl,rx,rc⟩:=Wy r
 cases (show u=Value.ref a from rx)
 cases Wn rc hc
 have hob:∃ ob,s.heap.get? a=some ob∧ob.cls=.ref D:=(I.hok a _ ha).1
 exact call_isinstance (S:=fun _ R s=>(X.K.In s.heap∧∃ ob,s.heap.get? a=some ob∧ob.cls=.ref D)∧∀ tk,R (.ok (.ret (.bool false))) { s with toks:=tk })
  (fun prog w A R s hs=>isinstance_outer (Nv k e 0 _ prog w A R s hs) (fun z=>nomatch z)) ⟨⟨I.kIn,hob⟩,fun tk=>⟨.bl false,H,I.tok tk,rfl,q⟩⟩
end
end L2
namespace L2
open PySem PySem.Spec PyProof.Rows PySem.W
def NZ (K:Frag) (B:Addr) (i:Nat) (tb:(St→XK)→TS) (ts:TS):TS:=fun D σ H=>∃ EE:St→XK,tb EE D σ H∧∀ σ' cls H',EE σ' cls none H'→∃ C:Addr,cls=.ref C∧exmOne K (.ref C) (.ref B)=some true∧∀ a,H' a=none→ts (D.gone i) (σ'.set i (some (.ref a))) (upd H' a (ExcO a (.ref C)))
section
variable {X:Cx}
theorem GQ {x n:Str} {i:Nat} {B:Addr} {body suite:List Stmt} {b₀:Stmt} {tb:(St→XK)→TS} {ts:TS} {np hpos pos:Pos} (hm:X.mg x=some (.ref B)) (hstk:X.stack=X.env :: X.outer) (hN:X.N.Nodup) (hi:X.N[i]?=some n) (hk:X.env.scope.names.lookup n=some .local)
 (hb:∀ pins EE,PSs (X.tryx pins EE) body (tb EE)) (hs:∀ a,PSs (X.mrk a) (b₀ :: suite) ts) (hg:Gl X x:=by rfl) (hfr:X.env.frame=some X.env.locals:=by rfl) (hd:(x == ("__debug__" : Str))=false:=by decide) (hex:X.ex=[]:=by rfl) :
 PS X (.Try body [.ExceptHandler (some (.Name x np)) (some n) (b₀ :: suite) hpos] [] [] pos) (NZ X.K B i tb ts):=by
 intro pins s σ H D I h
 obtain ⟨EE,h1,h2⟩:=h
 refine wpAny_Try_except (wpAny_mono (hb pins EE [] s σ H D (I.toTry EE) h1) (fun fl s1 q=>?_) fun e s1 q=>?_)
 ·have q':=SP.ofTry q
  cases fl with
  | next=>exact wpAny_execs_nil q'
  | brk=>exact q'
  | cont=>exact q'
  | ret u=>exact q'
 ·obtain ⟨p2,σ1,H1,s0,I1,a,cls,H',rfl,F,q⟩:=q
  obtain ⟨C,rfl,hq,hts⟩:=h2 _ _ _ q
  obtain ⟨Bf,t,hfl,cov⟩:=F.fly
  have hfr1:s1.heap.FunFrames Bf (X.pnd pins).stack:=hfl.2.2.1
  obtain ⟨oe,vs,hoe,hoc,hod,_⟩:=hfl.first
  have new:∀ b,(∃ o,s0.heap.get? b=some o)→b≠a:=fun b hb z=>by
   subst z
   by_cases hf:b ∈ frs X.stack
   ·exact Ug hfr1 b hf _ hoe _ hod
   ·have:=cov b oe hoe (.inr hb) hf
    rw [hfl.2.1] at this;cases this
  have hHa:H' a=none:=by
   cases hz:H' a with
   | none=>rfl
   | some u =>
    by_cases hf:a ∈ frs X.stack
    ·exact absurd hod (Ug hfr1 a hf _ hoe _)
    ·have:=cov a oe hoe (.inl (by rw [hz];intro z;cases z)) hf
     rw [hfl.2.1] at this;cases this
  rw [hstk] at hfl
  refine wpAny_looks_onW (by rw [← hstk];exact I.ok.frames) hfr hfl fun h4 hheld up4=>?_
  refine wpAny_landsW hheld fun h5 hfl5 up5'=>?_
  have up5:=up4.trans up5'
  have J5:=I1.flown F.os F.bare F.un F.hok hfr1 cov hfl5.1 up5
  have K5:Inv X pins σ1 H' { s1 with heap:=h5 }:=J5.ofPnd
  obtain ⟨ob,hob,hobc⟩:=hfl5.there
  have hmk:(X.A.mark (some (.ref a))).frames=X.A.frames:=rfl
  refine wpAny_handleBy_cons (codeAny_handlers_test (Ye (X:=X.mrk a) (K5.toMrk a hmk) hg hm ?_ hd)) (by intro q;cases q)
  have LT:PySem.W.Looks (5:) h5 (typeOf (.ref a)) (.ref C):=hobc ▸ (PySem.W.Looks.ld hob).andThen .now
  refine (PySem.W.exm_one K5.kIn LT hq).at (codeAny_handlers_suite_as ?_)
  refine lands_againW hfl5 fun h6 hfl6 up6=>?_
  have J6:=I1.flown F.os F.bare F.un F.hok hfr1 cov hfl6.1 (up5.trans up6)
  have K6:Inv X pins σ1 H' { s1 with heap:=h6 }:=J6.ofPnd
  obtain ⟨ob6,hob6,hobc6⟩:=hfl6.there
  have T6:Inv X pins σ1 (upd H' a (ExcO a (.ref C))) { s1 with heap:=h6 }:=by
   refine K6.track hHa (fun o e=>?_) (fun z=>?_) (fun y c e=>?_) (fun p hp=>?_) ⟨⟨ob6,hob6,hobc6⟩,⟨ob6,hob6⟩,fun g1 g2 ⟨o,e1,e2⟩ k=>⟨o,k _ e1,e2⟩⟩
   ·obtain ⟨o1,e1⟩:=I1.base.there a o e (by show a ∉ X.ex;rw [hex];simp)
    exact new a ⟨o1,e1⟩ rfl
   ·obtain ⟨m,⟨o,_,_,e,_⟩,_⟩:=I1.loc
    exact new _ ⟨o,e⟩ z.symm
   ·obtain ⟨v,o,e1,_⟩:=I1.cell y c e
    exact new c ⟨o,e1⟩
   ·exact new _ ⟨p.2,(I1.pin p (List.mem_append_left _ hp)).1⟩
  refine YU (X:=X.mrk a) (T6.toMrk a hmk) hN hi (.inl hk) (v:=.ref a) (u:=.ref a) rfl (fun s7 K7=>?_) (.inr hk)
  refine wpAny_mono (hs a pins _ _ _ (D.gone i) K7 (hts a hHa)) (fun fl s2 q=>?_) fun _ _ z=>z.elim
  have q':=SP.ofMrk K6.ok q
  cases fl with
  | next=>obtain ⟨σ',H2,I2,q2⟩:=q';exact UT I2 hN hi hk fun s3 I3=>⟨_,H2,I3,q2⟩
  | brk=>obtain ⟨σ',H2,I2,q2⟩:=q';exact UT I2 hN hi hk fun s3 I3=>⟨_,H2,I3,q2⟩
  | cont=>obtain ⟨σ',H2,I2,q2⟩:=q';exact UT I2 hN hi hk fun s3 I3=>⟨_,H2,I3,q2⟩
  | ret u=>obtain ⟨v,σ',H2,I2,r2,q2⟩:=q';exact UT I2 hN hi hk fun s3 I3=>⟨v,_,H2,I3,r2,q2⟩
abbrev NJ (K:Frag):List V→Hp→VK→Prop:=fun xs H Q=>∃ (a D:Addr) (v:V) (c:Value) (b:Bool),xs=[.ref a,v]∧H a=some (ExcO a (.ref D))∧Gd v=some c∧XcK K D∧kitOne K (.ref D) c=some b∧Q (.bl b) H
theorem Z7:Zv X (.builtin "isinstance") (NJ X.K):=by
 intro pins s σ H xs us Q I r h
 obtain ⟨a,D,v,c,b,e,ha,hc,k,hk,q⟩:=h
 cases b with
 | true=>exact Wa pins s σ H xs us Q I r ⟨a,_,v,c,e,ha,hc,hk,q⟩
 | false=>exact XJ pins s σ H xs us Q I r ⟨a,D,v,c,e,ha,hc,k,hk,q⟩
end
end L2
namespace K68
open PySem L2 TM TT K9 K11
theorem XM {K:Fg} {H:Hp} {tu lw lm tk q:Addr} {sv:V} {t:Tm} {kd:Str} {rs:List PNx} {ms:List MoT} (h1:SqT K H tu [.ref lw,sv,.ref lm]) (h2:TmV K H sv t) (h3:H lw=some (.lst [.ref tk])) (h4:SqT K H tk [.str kd,.ref q]) (h5:H q=some (.lst (rs.map fun t=>V.ref t.1))) (h6:∀ t ∈ rs,RowAt K H t) (h7:H lm=some (.lst (ms.map fun m=>V.ref m.1))) (h8:∀ m ∈ ms,SqT K H m.1 [.str m.2.1,.ref m.2.2.1]∧H m.2.2.1=some (.lst m.2.2.2.1)∧TmAll K H m.2.2.2.1 m.2.2.2.2):TuAt K H tu lw sv lm [(tk,kd,q,rs)] t ms :=
 ⟨h1,⟨SqL.of h3,fun k hk=>by
  obtain rfl:=List.mem_singleton.mp hk
  exact ⟨h4,SqL.of h5,h6⟩⟩,h2,SqL.of h7,fun m hm=>⟨(h8 m hm).1,SqL.of (h8 m hm).2.1,(h8 m hm).2.2⟩⟩
structure One (st:Bool) (kd n0 n1 e0:Str) (t0:Tm) (ks:List KdT) (ms:List MoT) (t:Tm):Prop where
 k:Wk kd n0 n1 [kd,kd] ks
 s:st=true→ms=[]∧t=plT t0
 m:st=false→t=QW 0 0∧Wm kd (ltS n0 n1) ms t0 (QH e0 true 5 [])
def M8 (K:Fg) (n:Nat):Sp:=fun vs H Q _=>∃ (ln:Addr) (n0 n1 kd ko e0 e1 o0 o1:Str) (tv:V) (t0:Tm) (st:Bool),vs=[.ref ln,tv,.bl st]∧SqL K H ln [.str n0,.str n1,.str kd,.str ko,.str e0,.str e1,.str o0,.str o1]∧n0≠n1∧(∀ x ∈ [n0,n1,kd,ko,e0,e1,o0,o1],PyData.strOk x=true)∧TmV K H tv t0∧Zm n t0 ∧
 ∀ (r wd lm:Addr) (sv:V) (ks:List KdT) (ms:List MoT) (t:Tm) (H':Hp),Same H H'→TuAt K H' r wd sv lm ks t ms→One st kd n0 n1 e0 t0 ks ms t→Q (.ref r) H'
section
variable {P:Program} {w:World} {K:Fg} {mg:Str→Option Value} {base:Heap} {f:Addr} {fd:FuncData}
theorem VT:FnScope ["_law_names_here", "_law_term", "_law_at_start", "_law_wood", "_law_rules"] ["_law_names_here", "_law_term", "_law_at_start"] (defScope NU):=(1:)
theorem PV {n:Nat} (F:Fun K "_law_one" "_law_one" NU f fd) (G:Gm mg) (RP:Fn P w K mg base (n + 1) "_law_plain" ["_law_term"] (YX K n)):FnOk P w K mg base CX0 (n + 2) f fd ["_law_names_here", "_law_term", "_law_at_start"] (M8 K n):=by
 refine F.ok VT (13:) (3:)
 ·obtain ⟨ln,n0,n1,kd,ko,e0,e1,o0,o1,tv,t0,st,rfl,_⟩:=h
  rfl
 obtain ⟨ln,n0,n1,kd,ko,e0,e1,o0,o1,tv,t0,st,rfl,hL,ne,okn,htv,hch,q⟩:=h
 have room:∀ m:Nat,m≤64→(A.deeper (PyProof.Rows.envOfC "_law_one" (defScope NU) s.heap.objs.size f cdv)).units + m < cLine:=fun m hm=>by have:=hr.units;lia
 have N:∀ {H':Hp},Same H H'→SqL K H' ln [.str n0,.str n1,.str kd,.str ko,.str e0,.str e1,.str o0,.str o1]:=fun g=>g.seq hL
 have g0:Same H H:=fun _ _ e=>e
 refine WS.read (Qx (ZV (i:=3) VT.nd rfl (12:) ((Ym (Qc ((Qy (Qc (w_e (Qg Qn (pv 0) Qb (2:))) (Qc (w_e (Qw (Uf (room 4 (by decide))) rfl G.srt PyProof.Rows.boot_sorted (WA.h (Qc ((Ym (Qc ((Qy (Qc (w_e (Qg Qn (pv 0) Qb (2:))) (Qc (Qy Qm) Qm)))) (Qc ((Qy (Qc (w_e (Qg Qn (pv 0) Qb (2:))) (Qc ((Qy (Qc (w_e (Qg Qn (pv 0) Qb (2:))) (Qc (w_e (Qg Qn (pv 0) Qb (2:))) Qm)))) Qm)))) Qm)))) Qm)))) Qm)))) Qm))))
  (Qx (Vg (QV (pv 2)) (Zs (YV ((Qy (Qc (w_e (pv 3)) (Qc (w_e (Qt RP hr (Qa (pv 1) Qe) (8:))) (Qc (w_e (QZ Qe)) Qm))))))) J3)
  (Qx (ZV (i:=4) VT.nd rfl (12:) ((Ym (Qc (w_e (pv 1)) (Qc ((Qy (Qc (w_e Qs) (Qc (w_e (Qg Qn (pv 0) Qb (2:))) (Qc (w_e QO) (Qc (w_e Qb) (Qc (Qy Qm) Qm))))))) Qm)))))
  (Qx (Zn (Yk (QM (QA JN (Qg Qn (pv 0) Qb (2:)) (Qg Qn (pv 0) Qb (2:)) (Qz _)) (Qk (Qp (i:=4) VT.nd rfl (12:) (QZ (Qa (Qg Qn (pv 4) Qb (2:)) (Qa (Qg Qn (pv 4) Qb (2:)) Qe))))) Qu)))
  (Zs (YV ((Qy (Qc (w_e (pv 3)) (Qc ((Qy (Qc (w_e Qs) (Qc (w_e Qb) (Qc (w_e Qb) Qm))))) (Qc ((Ym (Qc ((Qy (Qc (w_e (Qg Qn (pv 0) Qb (2:))) (Qc (w_e (pv 4)) Qm)))) Qm))) Qm))))))))))) ?_
 try dsimp only [QB,Cx.nox]
 refine ⟨_,rfl,ln,_,2,_,rfl,rfl,N (g0),rfl,_,rfl,ln,_,0,_,rfl,rfl,N (g0),rfl,(17:),?_⟩
 intro pA1 hp_;generalize hX_:upd _ pA1 _=XA1;have wA1:=sT hp_ hX_;have bA1:=fT (K:=K) hX_;clear hX_ hp_
 refine ⟨(9:),?_⟩
 intro pA2 hp_;generalize hX_:upd _ pA2 _=XA2;have wA2:=sT hp_ hX_;have bA2:=fT (K:=K) hX_;clear hX_ hp_
 have cA2:=(g0).trans (wA1.trans wA2)
 refine ⟨_,rfl,ln,_,1,_,rfl,rfl,N (cA2),rfl,_,rfl,ln,_,2,_,rfl,rfl,N (cA2),rfl,_,rfl,ln,_,2,_,rfl,rfl,N (cA2),rfl,(9:),?_⟩
 intro pA3 hp_;generalize hX_:upd _ pA3 _=XA3;have wA3:=sT hp_ hX_;have bA3:=fT (K:=K) hX_;clear hX_ hp_
 refine ⟨(9:),?_⟩
 intro pA4 hp_;generalize hX_:upd _ pA4 _=XA4;have wA4:=sT hp_ hX_;have bA4:=fT (K:=K) hX_;clear hX_ hp_
 refine ⟨(9:),?_⟩
 intro pA5 hp_;generalize hX_:upd _ pA5 _=XA5;have wA5:=sT hp_ hX_;have bA5:=fL hX_;clear hX_ hp_
 have rA0:RowAt K XA5 (pA2,n0,pA1,[]):=⟨(wA3.trans (wA4.trans wA5)).seqT bA2,(wA2.trans (wA3.trans (wA4.trans wA5))).seqT bA1⟩
 have rA1:RowAt K XA5 (pA4,n1,pA3,[kd,kd]):=⟨wA5.seqT bA4,(wA4.trans wA5).seqT bA3⟩
 refine ⟨pA5,[(pA2,n0,pA1,[]),(pA4,n1,pA3,[kd,kd])],rfl,SqL.of bA5,fun t ht=>?_,by simpa using ne,by simp,fun outA qA hpermA hpwA hqA=>?_⟩
 ·simp only [List.mem_cons,List.mem_nil_iff,or_false] at ht
  rcases ht with rfl | rfl
  ·exact ⟨rA0.1,rA0.2,fun x hx=>(nomatch hx)⟩
  ·exact ⟨rA1.1,rA1.2,fun x hx=>by
    have e:x=kd:=by simpa using hx
    rw [e];exact okn _ (by simp)⟩
 have eoutA:=SA hpermA hpwA ne
 subst eoutA
 revert hqA
 revert qA
 intro qA hp_;generalize hX_:upd _ qA _=XA6;have wA6:=sT hp_ hX_;have bA6:=fL hX_;clear hX_ hp_
 have wA:=wA1.trans (wA2.trans (wA3.trans (wA4.trans (wA5.trans wA6))))
 have dA:∀ t ∈ two (ltS n0 n1) ((pA2,n0,pA1,[]):PNx) (pA4,n1,pA3,[kd,kd]),RowAt K XA6 t:=fun t ht=>by
  rcases Zi ht with rfl | rfl
  ·exact rA0.same wA6
  ·exact rA1.same wA6
 clear rA0 rA1 bA1 bA2 bA3 bA4 bA5 hpermA hpwA
 refine ⟨(9:),?_⟩
 intro tA hp_;generalize hX_:upd _ tA _=Z1;have z1:=sT hp_ hX_;have y1:=fT (K:=K) hX_;clear hX_ hp_
 refine ⟨(by show 1≤sizeLine;decide),?_⟩
 intro lwA hp_;generalize hX_:upd _ lwA _=Z2;have z2:=sT hp_ hX_;have y2:=fL hX_;clear hX_ hp_
 show QJ 3 (.ref lwA) [some (.ref ln),some (tv),some (.bl st),none,none] Z2 _
 have s2:=wA.trans (z1.trans z2)
 refine ⟨_,rfl,st,rfl,?_⟩
 cases st with
 | true =>
  refine Q8 ⟨_,rfl,_,rfl,tv,t0,rfl,tmS s2 htv,hch,fun v' H3 g3 hv'=>⟨(17:),?_⟩⟩
  intro lm hp_;generalize hX_:upd _ lm _=Z4;have z4:=sT hp_ hX_;have y4:=fL hX_;clear hX_ hp_
  refine ⟨(16:),?_⟩
  intro r hp_;generalize hX_:upd _ r _=Z5;have z5:=sT hp_ hX_;have y5:=fT (K:=K) hX_;clear hX_ hp_
  have z25:=g3.trans (z4.trans z5)
  have zA:=z1.trans (z2.trans z25)
  exact q r lwA lm v' [(tA,kd,qA,two (ltS n0 n1) (pA2,n0,pA1,[]) (pA4,n1,pA3,[kd,kd]))] [] _ Z5 (s2.trans z25) (XM y5 (tmS (z4.trans z5) hv') (z25 _ _ y2) ((z2.trans z25).seqT y1) (zA _ _ bA6) (fun t ht=>(dA t ht).same zA) (z5 _ _ y4) fun m hm=>(nomatch hm)) ⟨⟨_,_,_,_,_,_,rfl⟩,fun _=>⟨rfl,rfl⟩,fun z=>absurd z (by decide)⟩
 | false =>
  refine Zh ⟨_,rfl,_,rfl,ln,_,4,_,rfl,rfl,N (s2),rfl,(17:),?_⟩
  intro pe hp_;generalize hX_:upd _ pe _=Y1;have k1:=sT hp_ hX_;have d1:=fT (K:=K) hX_;clear hX_ hp_
  refine ⟨(by show 5≤sizeLine;decide),?_⟩
  intro qe hp_;generalize hX_:upd _ qe _=Y2;have k2:=sT hp_ hX_;have d2:=fT (K:=K) hX_;clear hX_ hp_
  have k12:=k1.trans k2
  have te:TmV K Y2 (.ref qe) (QH e0 true 5 []):=.put d2 (k2.seqT d1) .nil (by simp)
  refine ⟨(9:),fun l1 hl1=>?_⟩
  show QJ 4 (.ref l1) [some (.ref ln),some (tv),some (.bl false),some (.ref lwA),none] _ _
  have s3:=s2.trans k12
  refine ⟨fun σ' H'=>∃ lr,σ'=[some (.ref ln),some (tv),some (.bl false),some (.ref lwA),some (.ref lr)]∧Same Y2 H'∧H' lr=some (.lst (two (ltS n0 n1) tv (.ref qe))),?_,?_⟩
  ·have kl:=Qf hl1 (.lst [tv,.ref qe])
   have gl:=s3.trans kl
   refine ⟨_,rfl,ln,_,1,_,rfl,rfl,N (gl),rfl,_,rfl,ln,_,0,_,rfl,rfl,N (gl),rfl,_,_,rfl,rfl,_,rfl,?_⟩
   have lt:=Mr (a:=n0) (b:=n1) ne
   by_cases hlt:n1.cps.toList < n0.cps.toList
   ·rw [show ltS n1 n0=true from decide_eq_true hlt] at lt
    refine Z9 hlt ⟨_,rfl,l1,_,1,_,rfl,rfl,SqL.of Qd,rfl,_,rfl,l1,_,0,_,rfl,rfl,SqL.of Qd,rfl,(9:),fun l2 hl2=>⟨l2,rfl,kl.trans (Qf hl2 _),?_⟩⟩
    rw [← lt];exact Qd
   ·rw [show ltS n1 n0=false from decide_eq_false hlt] at lt
    refine Z0 hlt ⟨l1,rfl,kl,?_⟩
    rw [← lt];exact Qd
  rintro σ H5 ⟨lr,rfl,g5,hlr⟩
  have s5:=s3.trans g5
  refine ⟨_,rfl,(16:),?_⟩
  intro pd hp_;generalize hX_:upd _ pd _=Z3;have z3:=sT hp_ hX_;have y3:=fT (K:=K) hX_;clear hX_ hp_
  refine ⟨_,rfl,ln,_,2,_,rfl,rfl,N (s5.trans z3),rfl,_,rfl,(9:),?_⟩
  intro am hp_;generalize hX_:upd _ am _=Z4;have z4:=sT hp_ hX_;have y4:=fT (K:=K) hX_;clear hX_ hp_
  refine ⟨(by show 1≤sizeLine;decide),?_⟩
  intro lm hp_;generalize hX_:upd _ lm _=Z5;have z5:=sT hp_ hX_;have y5:=fL hX_;clear hX_ hp_
  refine ⟨(16:),?_⟩
  intro r hp_;generalize hX_:upd _ r _=Z6;have z6:=sT hp_ hX_;have y6:=fT (K:=K) hX_;clear hX_ hp_
  have z46:=z4.trans (z5.trans z6)
  have z36:=z3.trans z46
  have z26:=k12.trans (g5.trans z36)
  have zA:=z1.trans (z2.trans z26)
  refine q r lwA lm (.ref pd) [(tA,kd,qA,two (ltS n0 n1) (pA2,n0,pA1,[]) (pA4,n1,pA3,[kd,kd]))] [(am,kd,lr,two (ltS n0 n1) tv (.ref qe),two (ltS n0 n1) (t0) (QH e0 true 5 []))] _ Z6 (s2.trans z26) (XM y6 (.call (z46.seqT y3)) (z26 _ _ y2) ((z2.trans z26).seqT y1) (zA _ _ bA6) (fun t ht=>(dA t ht).same zA) (z6 _ _ y5) fun m hm=>?_) ⟨⟨_,_,_,_,_,_,rfl⟩,fun z=>absurd z (by decide),fun _=>⟨rfl,⟨_,_,_,rfl⟩⟩⟩
  obtain rfl:=List.mem_singleton.mp hm
  exact ⟨(z5.trans z6).seqT y4,z36 _ _ hlr,V5 (tmS (s2.trans z26) htv) (tmS (g5.trans z36) te)⟩
end
end K68
namespace K68
open PySem L2 TM TT K9 K11
theorem Pg (a a1:Int) (k:Bool):(if k=true then a + a1 else a)=mrk a a1 k:=by
 unfold mrk
 cases k <;> simp
theorem Yv:∀ {n m:Nat} {t:Tm},Zm n t→n≤m→Zm m t
 | 0,_,_,h,_=>h.elim
 | n + 1,0,_,_,h=>absurd h (Nat.not_succ_le_zero _)
 | n + 1,m + 1,_,h,hm=>⟨h.1,fun b hb=>Yv (h.2 b hb) (10:)⟩
mutual
def QX:Tm→TP
 | .node (.put n k a) _ bs=>.node (.put n k a) 0 (WV bs)
 | .node (.call m b) _ _=>.node (.call 0 m b) 0 []
def WV:List Tm→List TP
 | []=>[]
 | t :: r=>QX t :: WV r
end
theorem UA:∀ ts:List Tm,WV ts=ts.map QX
 | []=>by rw [WV];rfl
 | t :: r=>by rw [WV,UA r];rfl
theorem V9 (n:Str) (k:Bool) (a:Int) (bs:List Tm):QX (.node (.put n k a) 0 bs)=.node (.put n k a) 0 (bs.map QX):=by rw [QX,UA]
theorem Xr:∀ (n:Nat) (t:Tm),Zm n t→sz (QX t)=sz t∧lv (QX t)=lv t∧clP (QX t)=[]
 | 0,_,h=>h.elim
 | n + 1,.node (.call m b) d bs,⟨⟨nm',k',a',e,hs⟩,hb⟩=>by cases e
 | n + 1,.node (.put nm k a) d bs,h=>by
  have key:∀ l:List Tm,(∀ b ∈ l,Zm n b)→szs (l.map QX)=szs l∧lvs (l.map QX)=lvs l∧clPs (l.map QX)=[]:=by
   intro l
   induction l with
   | nil=>intro _;exact ⟨rfl,rfl,by rw [List.map_nil,clPs]⟩
   | cons b l ih =>
    intro hl
    obtain ⟨a1,a2,a3⟩:=ih fun x hx=>hl x (List.mem_cons_of_mem _ hx)
    obtain ⟨b1,b2,b3⟩:=Xr n b (hl b List.mem_cons_self)
    refine ⟨?_,?_,?_⟩
    ·rw [List.map_cons,szs,szs,a1,b1]
    ·rw [List.map_cons,lvs,lvs,a2,b2]
    ·rw [List.map_cons,clPs,a3,b3];rfl
  obtain ⟨a1,a2,a3⟩:=key bs h.2
  rw [QX,UA]
  refine ⟨?_,?_,?_⟩
  ·rw [JD,JD];exact congrArg (1 + ·) a1
  ·rw [ZC,ZC];exact congrArg (1 + ·) a2
  ·rw [clP];exact a3
def Yc (wd:Nat):Nat→Tm→Prop
 | 0,_=>False
 | d + 1,t=>(∀ m b,lab t=.call m b→m=0∧0≤b∧b.toNat < wd∧t.bs.length≤100)∧(∀ nm k a,lab t=.put nm k a→PyData.strOk nm=true∧t.bs.length≤100)∧∀ b ∈ t.bs,Yc wd d b
theorem Y0 {wd wd':Nat} (hw:wd≤wd'):∀ {n m:Nat} {t:Tm},Yc wd n t→n≤m→Yc wd' m t
 | 0,_,_,h,_=>h.elim
 | n + 1,0,_,_,h=>absurd h (Nat.not_succ_le_zero _)
 | n + 1,m + 1,_,h,hm=>⟨fun x b e=>by obtain ⟨z1,z2,z3,z4⟩:=h.1 x b e;exact ⟨z1,z2,by lia,z4⟩,h.2.1,fun b hb=>Y0 hw (h.2.2 b hb) (10:)⟩
def Xi (ru:Int→Str→Option Tm) (n M:Nat) (r t o:Tm):Prop:=(∀ F,lv o + n≤F→BR0 (ru 0) F r t o)∧(∀ F,lv o + 2 * n≤F→BR ru F r t (QX o))∧Zm M o∧∀ g,mpP g (QX o)=o
theorem Gb {P:Tm→Tm→Prop}:∀ bs:List Tm,(∀ b ∈ bs,∃ o,P b o)→∃ os:List Tm,os.length=bs.length∧∀ (i:Nat) p q,bs[i]?=some p→os[i]?=some q→P p q
 | [],_=>⟨[],rfl,fun i p q h=>by simp at h⟩
 | b :: r,h=>by
  obtain ⟨o,ho⟩:=h b List.mem_cons_self
  obtain ⟨os,hl,hp⟩:=Gb r fun x hx=>h x (List.mem_cons_of_mem _ hx)
  refine ⟨o :: os,by rw [List.length_cons,List.length_cons,hl],fun i p q h1 h2=>?_⟩
  cases i with
  | zero =>
   obtain rfl:b=p:=by simpa using h1
   obtain rfl:o=q:=by simpa using h2
   exact ho
  | succ i=>exact hp i p q (by simpa using h1) (by simpa using h2)
theorem Vx {q:Tm}:∀ {os:List Tm},q ∈ os→lv q≤lvs os
 | t :: r,h=>by
  rw [lvs]
  rcases List.mem_cons.mp h with rfl | h
  ·lia
  ·have:=Vx h;lia
section
variable {ru:Int→Str→Option Tm} {n M wd:Nat} {nm':Str} {k':Bool} {a':Int} {t:Tm}
theorem Mu (hl:lab t=.put nm' k' a') (hs:∀ j < wd,∃ c nc kc ac r' o,t.bs[j]?=some c∧lab c=.put nc kc ac∧ru 0 nc=some r'∧Xi ru n M r' c o):∀ (d:Nat) (rule:Tm),Yc wd d rule→∃ o,Xi ru (n + 1) (M + d) rule t o
 | 0,_,h=>h.elim
 | d + 1,rule,⟨h1,h2,h3⟩=>by
  cases hr:lab rule with
  | call m b =>
   obtain ⟨rfl,hb0,hb,_⟩:=h1 m b hr
   obtain ⟨c,nc,kc,ac,r',o,hc,hlc,hru,o1,o2,o3,o4⟩:=hs b.toNat hb
   refine ⟨o,fun F hF=>?_,fun F hF=>?_,Yv o3 (10:),o4⟩
   ·obtain ⟨F,rfl⟩ : ∃ F',F=F' + 1:=⟨F - 1,by lia⟩
    rw [BR0,hr]
    exact ⟨nm',k',a',hl,c,nc,kc,ac,r',hb0,hc,hlc,hru,o1 F (10:)⟩
   ·obtain ⟨F,rfl⟩ : ∃ F',F=F' + 1 + 1:=⟨F - 2,by lia⟩
    rw [BR,hr]
    refine ⟨nm',k',a',hl,c,hb0,hc,?_⟩
    rw [BM,hlc]
    exact ⟨r',hru,o2 F (10:)⟩
  | put nm k a =>
   obtain ⟨os,hol,hos⟩:=Gb (P:=fun p q=>Xi ru (n + 1) (M + d) p t q) rule.bs fun b hb=>Mu hl hs d b (h3 b hb)
   have hmem:∀ q ∈ os,∃ p,Xi ru (n + 1) (M + d) p t q:=fun q hq=>by
    obtain ⟨i,hi,e⟩:=List.getElem_of_mem hq
    exact ⟨_,hos i rule.bs[i] q (List.getElem?_eq_getElem (10:)) (by rw [List.getElem?_eq_getElem hi,e])⟩
   have hlv:∀ q ∈ os,lv q + 1≤lv (Tree.node (Lab.put nm (k && k') (mrk a a' k)) 0 os):=fun q hq=>by
    have h1:lv q≤lvs os:=Vx hq
    have h2:lv (Tree.node (Lab.put nm (k && k') (mrk a a' k)) 0 os)=1 + lvs os:=ZC _
    lia
   refine ⟨.node (.put nm (k && k') (mrk a a' k)) 0 os,fun F hF=>?_,fun F hF=>?_,⟨⟨_,_,_,rfl,(h2 nm k a hr).1,(by show os.length≤100;have:=(h2 nm k a hr).2;lia)⟩,fun b hb=>?_⟩,fun g=>?_⟩
   ·obtain ⟨F,rfl⟩ : ∃ F',F=F' + 1:=⟨F - 1,by lia⟩
    rw [BR0,hr]
    refine ⟨nm',k',a',hl,os,rfl,hol,fun i p q hp hq=>(hos i p q hp hq).1 F ?_⟩
    have:=hlv q (List.mem_of_getElem? hq)
    lia
   ·obtain ⟨F,rfl⟩ : ∃ F',F=F' + 1:=⟨F - 1,by lia⟩
    rw [BR,hr]
    refine ⟨nm',k',a',hl,os.map QX,by rw [V9,Pg],by rw [List.length_map,hol],fun i p q hp hq=>?_⟩
    rw [List.getElem?_map] at hq
    obtain ⟨q',hq',rfl⟩:=Option.map_eq_some_iff.mp hq
    have:=hlv q' (List.mem_of_getElem? hq')
    exact (hos i p q' hp hq').2.1 F (10:)
   ·obtain ⟨p,hp⟩:=hmem b hb
    exact hp.2.2.1
   ·rw [V9,mpP,U5,List.map_map]
    congr 1
    have:∀ q ∈ os,(mpP g ∘ QX) q=q:=fun q hq=>by
     obtain ⟨p,hp⟩:=hmem q hq
     exact hp.2.2.2 g
    rw [List.map_congr_left this,List.map_id']
end
def Kp (e0 e1:Str) (wd:Nat):Nat→Tm→Prop
 | 0,_=>False
 | n + 1,t=>(∃ k a,t=QH e0 k a [])∨∃ k a bs,t=QH e1 k a bs∧bs.length=wd∧∀ b ∈ bs,Kp e0 e1 wd n b
section
variable {ru:Int→Str→Option Tm} {e0 e1:Str} {wd D:Nat} {bare full:Tm}
theorem OF (u0:ru 0 e0=some bare) (u1:ru 0 e1=some full) (hb:Yc 0 D bare) (hf:Yc wd D full):∀ (n:Nat) (t:Tm),Kp e0 e1 wd n t→∃ nm k a r o,lab t=.put nm k a∧ru 0 nm=some r∧Xi ru n (n * D) r t o
 | 0,_,h=>h.elim
 | n + 1,t,h=>by
  rcases h with ⟨k,a,rfl⟩ | ⟨k,a,bs,rfl,hl,hk⟩
  ·obtain ⟨o,ho⟩:=Mu (ru:=ru) (n:=n) (M:=n * D) (wd:=0) (t:=QH e0 k a []) rfl (fun j hj=>absurd hj (Nat.not_lt_zero _)) D bare hb
   exact ⟨e0,k,a,bare,o,rfl,u0,by rw [Nat.add_mul,Nat.one_mul];exact ho⟩
  ·obtain ⟨o,ho⟩:=Mu (ru:=ru) (n:=n) (M:=n * D) (wd:=wd) (t:=QH e1 k a bs) rfl (fun j hj=>by
    have hj':j < bs.length:=by lia
    obtain ⟨nc,kc,ac,r',o,a1,a2,a3⟩:=OF u0 u1 hb hf n bs[j] (hk _ (List.getElem_mem hj'))
    exact ⟨bs[j],nc,kc,ac,r',o,List.getElem?_eq_getElem hj',a1,a2,a3⟩) D full hf
   exact ⟨e1,k,a,full,o,rfl,u1,by rw [Nat.add_mul,Nat.one_mul];exact ho⟩
end
end K68
namespace K68
open PySem L2 TM TT K9 K11
def Bad (o0 e1:Str):Nat→Tm→Prop
 | 0,_=>False
 | n + 1,t=>(∃ k a,t=QH o0 k a [])∨∃ k a bs,t=QH e1 k a bs∧∃ b ∈ bs,Bad o0 e1 n b
theorem U2 (n:Str) (k:Bool) (a:Int) (bs:List Tm):plT (QH n k a bs)=QH n false a (bs.map plT):=Li n k a bs
theorem VL:∀ (n:Nat) (t:Tm),Zm n t→Zm n (plT t)
 | 0,_,h=>h.elim
 | n + 1,.node (.call m b) d bs,⟨⟨_,_,_,e,_⟩,_⟩=>by cases e
 | n + 1,.node (.put nm k a) d bs,⟨⟨nm',k',a',e,hs,hl⟩,hb⟩=>by
  have e:Lab.put nm k a=Lab.put nm' k' a':=e
  injection e with e1 _ _
  rw [plT,Jz]
  refine ⟨⟨nm,false,a,rfl,by rw [e1];exact hs,?_⟩,fun b hb'=>?_⟩
  ·show (bs.map plT).length≤100
   rw [List.length_map];exact hl
  ·obtain ⟨c,hc,rfl⟩:=List.mem_map.mp hb'
   exact VL n c (hb c hc)
theorem U9 {nm:Nat}:∀ (n:Nat) (t:Tm),Zm n t→TmB nm n t
 | 0,_,h=>h.elim
 | n + 1,t,⟨⟨nm',k',a',e,hs,hl⟩,hb⟩=>⟨fun m b z=>(by rw [e] at z;cases z),hl,fun b hb'=>U9 n b (hb b hb')⟩
section
variable {e0 e1 o0:Str} {wd:Nat}
theorem Ll:∀ (n:Nat) (t:Tm),Kp e0 e1 wd n t→Kp e0 e1 wd n (plT t)
 | 0,_,h=>h.elim
 | n + 1,t,h=>by
  rcases h with ⟨k,a,rfl⟩ | ⟨k,a,bs,rfl,hl,hk⟩
  ·exact .inl ⟨false,a,by rw [U2];rfl⟩
  ·refine .inr ⟨false,a,bs.map plT,U2 _ _ _ _,by rw [List.length_map];exact hl,fun b hb=>?_⟩
   obtain ⟨c,hc,rfl⟩:=List.mem_map.mp hb
   exact Ll n c (hk c hc)
theorem U3 (l0:PyData.strOk e0=true) (l1:PyData.strOk e1=true) (hw:wd≤100):∀ (n:Nat) (t:Tm),Kp e0 e1 wd n t→Zm n t
 | 0,_,h=>h.elim
 | n + 1,t,h=>by
  rcases h with ⟨k,a,rfl⟩ | ⟨k,a,bs,rfl,hl,hk⟩
  ·exact ⟨⟨_,_,_,rfl,l0,Nat.zero_le _⟩,fun b hb=>(nomatch hb)⟩
  ·exact ⟨⟨_,_,_,rfl,l1,by show bs.length≤100;lia⟩,fun b hb=>U3 l0 l1 hw n b (hk b hb)⟩
theorem Md:∀ (n:Nat) (t:Tm),Bad o0 e1 n t→Bad o0 e1 n (plT t)
 | 0,_,h=>h.elim
 | n + 1,t,h=>by
  rcases h with ⟨k,a,rfl⟩ | ⟨k,a,bs,rfl,b,hb,hB⟩
  ·exact .inl ⟨false,a,by rw [U2];rfl⟩
  ·exact .inr ⟨false,a,bs.map plT,U2 _ _ _ _,plT b,List.mem_map.mpr ⟨b,hb,rfl⟩,Md n b hB⟩
theorem JR (l0:PyData.strOk e0=true) (l1:PyData.strOk e1=true) (lo:PyData.strOk o0=true) (hw:wd≤100):∀ (n:Nat) (t t':Tm),Kp e0 e1 wd n t→Le o0 n t t'→Bad o0 e1 n t'∧Zm n t'
 | 0,_,_,h,_=>h.elim
 | n + 1,t,t',h,hS=>by
  rcases hS with ⟨_,rfl⟩ | ⟨i,b,b',hi,hS,rfl⟩
  ·exact ⟨.inl ⟨_,_,rfl⟩,⟨_,_,_,rfl,lo,Nat.zero_le _⟩,fun b hb=>(nomatch hb)⟩
  rcases h with ⟨k,a,rfl⟩ | ⟨k,a,bs,rfl,hl,hk⟩
  ·have:([]:List Tm)[i]?=some b:=hi
   simp at this
  have hi:bs[i]?=some b:=hi
  have hlt:=(List.getElem?_eq_some_iff.mp hi).1
  obtain ⟨s1,s2⟩:=JR l0 l1 lo hw n b b' (hk b (List.mem_of_getElem? hi)) hS
  refine ⟨.inr ⟨k,a,bs.set i b',rfl,b',List.mem_set hlt b',s1⟩,⟨_,_,_,rfl,l1,?_⟩,fun x hx=>?_⟩
  ·show (bs.set i b').length≤100
   rw [List.length_set];lia
  ·have hx:x ∈ bs.set i b':=hx
   rcases List.mem_or_eq_of_mem_set hx with z | z
   ·exact U3 l0 l1 hw n x (hk x z)
   ·rw [z];exact s2
variable {f:RK} {ko:Str}
theorem XY (r0:f ko e0=some []) (r1:f ko e1=some (List.replicate wd ko)):∀ (n F:Nat) (t:Tm),Kp e0 e1 wd n t→n≤F→okk f F t ko∧dmd f F t ko=[]
 | 0,_,_,h,_=>h.elim
 | n + 1,0,_,_,h=>absurd h (Nat.not_succ_le_zero _)
 | n + 1,F + 1,t,h,hF=>by
  rcases h with ⟨k,a,rfl⟩ | ⟨k,a,bs,rfl,hl,hk⟩
  ·refine ⟨⟨[],r0,rfl,fun p hp=>(nomatch hp)⟩,?_⟩
   show (match f ko e0 with
    | some ss=>if ss.length=0 then (([]:List Tm).zip ss).flatMap fun (p:Tm × Str)=>dmd f F p.1 p.2 else []
    | none=>[])=[]
   rw [r0];rfl
  ·have key:∀ p ∈ bs.zip (List.replicate wd ko),okk f F p.1 p.2∧dmd f F p.1 p.2=[]:=fun p hp=>by
    obtain ⟨p1,p2⟩:=p
    obtain ⟨q1,q2⟩:=List.of_mem_zip hp
    rw [List.eq_of_mem_replicate q2]
    exact XY r0 r1 n F p1 (hk p1 q1) (10:)
   refine ⟨⟨_,r1,by rw [List.length_replicate];exact hl.symm,fun p hp=>(key p hp).1⟩,?_⟩
   show (match f ko e1 with
    | some ss=>if ss.length=bs.length then (bs.zip ss).flatMap fun (p:Tm × Str)=>dmd f F p.1 p.2 else []
    | none=>[])=[]
   rw [r1]
   show (if _ then _ else _)=_
   rw [if_pos (by rw [List.length_replicate];exact hl.symm)]
   exact List.flatMap_eq_nil_iff.mpr fun p hp=>(key p hp).2
theorem VJ (r0:f ko o0=none) (r1:f ko e1=some (List.replicate wd ko)):∀ (n F:Nat) (t:Tm),Bad o0 e1 n t→¬ okk f F t ko
 | 0,_,_,h=>h.elim
 | n + 1,0,_,_=>fun z=>z
 | n + 1,F + 1,t,h=>by
  rcases h with ⟨k,a,rfl⟩ | ⟨k,a,bs,rfl,b,hb,hB⟩
  ·rintro ⟨ss,z,_⟩
   rw [r0] at z;cases z
  ·rintro ⟨ss,z,zl,zz⟩
   rw [r1] at z
   obtain rfl:=Option.some.inj z
   have zl:(List.replicate wd ko).length=bs.length:=zl
   obtain ⟨i,hi,rfl⟩:=List.getElem_of_mem hb
   have hi':i < (List.replicate wd ko).length:=by lia
   refine VJ r0 r1 n F bs[i] hB (zz (bs[i],ko) ?_)
   show (bs[i],ko) ∈ bs.zip (List.replicate wd ko)
   have:(bs.zip (List.replicate wd ko))[i]?=some (bs[i],ko):=by
    rw [List.getElem?_zip_eq_some]
    exact ⟨List.getElem?_eq_getElem hi,by rw [List.getElem?_replicate,if_pos (by rw [List.length_replicate] at hi';exact hi')]⟩
   exact List.mem_of_getElem? this
end
end K68
namespace K68
open PySem L2 TM TT K9 K11
theorem Gf:∀ (n:Nat) (t:Tm),Zm n t→lv t≤n
 | 0,_,h=>h.elim
 | n + 1,t,h=>by
  have h1:lvs t.bs≤n:=W4 fun b hb=>Gf n b (h.2 b hb)
  have h2:lv t=1 + lvs t.bs:=ZC t
  lia
def OcOf (ru:Int→Str→Option Tm) (n M:Nat) (t o:Tm):Prop:=∃ nm k a r,lab t=.put nm k a∧ru 0 nm=some r∧Xi ru n M r t o
section
variable {ru:Int→Str→Option Tm} {n M F:Nat} {t o:Tm}
theorem OcOf.bm (h:OcOf ru n M t o) (hF:lv o + 2 * n + 1≤F):BM ru F 0 t (QX o):=by
 obtain ⟨nm,k,a,r,h1,h2,h3⟩:=h
 obtain ⟨F,rfl⟩ : ∃ F',F=F' + 1:=⟨F - 1,by lia⟩
 rw [BM,h1]
 exact ⟨r,h2,h3.2.1 F (10:)⟩
theorem OcOf.br (h:OcOf ru n M t o) (hF:lv o + 2 * n + 2≤F):BR ru F (QW 0 0) (QH (Str.ofString "") false 0 [t]) (QX o):=by
 obtain ⟨F,rfl⟩ : ∃ F',F=F' + 1:=⟨F - 1,by lia⟩
 rw [BR]
 exact ⟨_,_,_,rfl,t,by decide,rfl,h.bm (10:)⟩
theorem OcOf.b0 (h:OcOf ru n M t o) (hF:lv o + n + 1≤F):BR0 (ru 0) F (QW 0 0) (QH (Str.ofString "") false 0 [t]) o:=by
 obtain ⟨nm,k,a,r,h1,h2,h3⟩:=h
 obtain ⟨F,rfl⟩ : ∃ F',F=F' + 1:=⟨F - 1,by lia⟩
 rw [BR0]
 exact ⟨_,_,_,rfl,t,nm,k,a,r,by decide,rfl,h1,h2,h3.1 F (10:)⟩
theorem OcOf.puts (h:OcOf ru n M t o):Zm M o:=by
 obtain ⟨nm,k,a,r,h1,h2,h3⟩:=h
 exact h3.2.2.1
theorem OcOf.mp (h:OcOf ru n M t o) (g:Pr→Int):mpP g (QX o)=o:=by
 obtain ⟨nm,k,a,r,h1,h2,h3⟩:=h
 exact h3.2.2.2 g
theorem OcOf.fits (h:OcOf ru n M t o):Zu (QX o) ↔ sz o≤200∧lv o≤30:=by
 obtain ⟨h1,h2,_⟩:=Xr M o h.puts
 unfold Zu
 rw [h1,h2]
theorem OcOf.cl (h:OcOf ru n M t o):clP (QX o)=[]:=(Xr M o h.puts).2.2
theorem OcOf.lvl (h:OcOf ru n M t o):lv o≤M:=Gf M o h.puts
end
abbrev c00:TP:=.node (.call 0 0 0) 0 []
noncomputable def mkS (kd:Str) (b:Bool) (o oL:Tm):MkX:=fun _=>open Classical in if Zu (QX o)∧Zu (QX oL) then some (kd,two b (QX o) (QX oL)) else none
def JE (st:Bool) (oP:Tm):TP:=if st=true then QX oP else c00
def okS (st:Bool) (p:Pr):Prop:=st=false∧p=(0,0)
theorem Ru:Zu c00:=by
 unfold Zu
 rw [JD,ZC]
 exact ⟨by show 1 + 0≤200;decide,by show 1 + 0≤30;decide⟩
theorem VP {b:Bool} {x y:TP} (h1:clP x=[]) (h2:clP y=[]):clL (two b x y)=[]:=by
 unfold clL two
 cases b <;> simp [clPs,h1,h2]
theorem O2 {α β:Type} {R:α→β→Prop} {b:Bool} {x y:α} {u v:β} (h1:R x u) (h2:R y v) (i:Nat) (p:α) (q:β) (hp:(two b x y)[i]?=some p) (hq:(two b u v)[i]?=some q):R p q:=by
 unfold two at hp hq
 cases b with
 | true =>
  match i,hp,hq with
  | 0,hp,hq =>
   obtain rfl:x=p:=by simpa using hp
   obtain rfl:u=q:=by simpa using hq
   exact h1
  | 1,hp,hq =>
   obtain rfl:y=p:=by simpa using hp
   obtain rfl:v=q:=by simpa using hq
   exact h2
  | i + 2,hp,hq=>simp at hp
 | false =>
  match i,hp,hq with
  | 0,hp,hq =>
   obtain rfl:y=p:=by simpa using hp
   obtain rfl:v=q:=by simpa using hq
   exact h2
  | 1,hp,hq =>
   obtain rfl:x=p:=by simpa using hp
   obtain rfl:u=q:=by simpa using hq
   exact h1
  | i + 2,hp,hq=>simp at hp
theorem R6 {st:Bool} {kd n0 n1 e0:Str} {t0 o oP oL:Tm} {ks1 ks2:List KdT} {ms1 ms2:List MoT} {t1:Tm} {n M:Nat} (h:One st kd n0 n1 e0 t0 ks1 ms1 t1) (hn:M + 2 * n + 2≤110) (h1:OcOf (ruK ks2 ms2) n M t0 o) (h2:OcOf (ruK ks2 ms2) n M (plT t0) oP) (h3:OcOf (ruK ks2 ms2) n M (QH e0 true 5 []) oL) :
 Bh 110 ks2 t1 (QW 0 0) ms1 ms2 (JE st oP) (mkS kd (ltS n0 n1) o oL) (okS st):=by
 have v1:=h1.lvl
 have v2:=h2.lvl
 have v3:=h3.lvl
 cases st with
 | true =>
  obtain ⟨rfl,rfl⟩:=h.s rfl
  refine ⟨h2.br (10:),fun _ c hc=>?_,fun p hp=>absurd hp.1 (by decide),fun p o hp=>absurd hp.1 (by decide)⟩
  have:clP (JE true oP)=[]:=h2.cl
  rw [this] at hc;cases hc
 | false =>
  obtain ⟨rfl,m⟩:=h.m rfl
  obtain ⟨a',l',vs,rfl⟩:=m.ex
  refine ⟨?_,fun _ c hc=>?_,fun p hpp=>?_,fun p o' hpp ho c hc=>?_⟩
  ·show BR _ 110 (QW 0 0) (QH (Str.ofString "") false 0 [QW 0 0]) c00
   rw [BR]
   refine ⟨_,_,_,rfl,QW 0 0,by decide,rfl,?_⟩
   rw [BM];rfl
  ·have hc:c ∈ [(((0:Int),(0:Int)),(0:Int))]:=by simpa [JE,clP] using hc
   obtain rfl:=List.mem_singleton.mp hc
   exact ⟨rfl,rfl⟩
  ·refine ⟨0,_,two (ltS n0 n1) (QX o) (QX oL),by rw [hpp.2];rfl,rfl,?_,⟨?_,fun i t q g1 g2=>?_⟩,fun hf=>?_,fun hf=>?_⟩
   ·show (two _ _ _).length≤100
    unfold two;cases ltS n0 n1 <;> simp
   ·show (two _ _ _).length=(two _ _ _).length
    unfold two;cases ltS n0 n1 <;> simp
   ·rw [hpp.2]
    exact O2 (R:=fun t q=>BM (ruK ks2 ms2) 110 0 t q) (h1.bm (10:)) (h3.bm (10:)) i t q g1 g2
   ·unfold mkS
    exact if_pos ⟨hf _ (by unfold two;cases ltS n0 n1 <;> simp),hf _ (by unfold two;cases ltS n0 n1 <;> simp)⟩
   ·unfold mkS
    refine if_neg fun z=>hf fun q hq=>?_
    rcases Zi hq with rfl | rfl
    ·exact z.1
    ·exact z.2
  ·unfold mkS at ho
   by_cases z:Zu (QX o)∧Zu (QX oL)
   ·rw [if_pos z] at ho
    obtain rfl:=Option.some.inj ho
    have:clL (kd,two (ltS n0 n1) (QX o) (QX oL)).2=[]:=VP h1.cl h3.cl
    rw [this] at hc;cases hc
   ·rw [if_neg z] at ho;cases ho
def Uu (st:Bool) (o oP oL:Tm):Prop:=if st=true then Zu (QX oP) else Zu (QX o)∧Zu (QX oL)
theorem OJ {st:Bool} {kd:Str} {b:Bool} {o oP oL:Tm} (c1:clP (QX o)=[]) (c2:clP (QX oP)=[]) (c3:clP (QX oL)=[]) (hf:Uu st o oP oL):Zu (JE st oP)∧Yf (mkS kd b o oL) 42 0 (addPs [] ((clP (JE st oP)).map (·.1)))=some (if st=true then [] else [((0:Int),(0:Int))]):=by
 cases st with
 | true =>
  refine ⟨hf,?_⟩
  have:clP (JE true oP)=[]:=c2
  rw [this]
  exact Jn (by decide) rfl
 | false =>
  refine ⟨Ru,?_⟩
  have e:mkS kd b o oL (0,0)=some (kd,two b (QX o) (QX oL)):=if_pos hf
  have e0:addPs [] ((clP (JE false oP)).map (·.1))=[((0:Int),(0:Int))]:=rfl
  rw [e0,VU (by decide) rfl e,VP c1 c3]
  exact Jn (by decide) rfl
theorem big_S {st:Bool} {kd:Str} {b:Bool} {o oP oL:Tm} (hf:¬ Uu st o oP oL):¬ Zu (JE st oP)∨Yf (mkS kd b o oL) 42 0 (addPs [] ((clP (JE st oP)).map (·.1)))=none:=by
 cases st with
 | true=>exact .inl hf
 | false=>exact .inr (Go (p:=(0,0)) rfl (if_neg hf))
end K68
namespace K68
open PySem L2 TM TT K9 K11
def LO (K:Fg):Sp:=fun vs H Q _=>∃ (on ot wd1 wd2 lm1 lm2:Addr) (sv1 sv2:V) (ks1 ks2:List KdT) (t1:Tm) (ms1 ms2:List MoT) (t0 o oP oL:Tm) (n M nm2 n2:Nat) (st:Bool) (kd n0 n1 e0:Str),vs=[.ref on,.ref ot]∧TuAt K H on wd1 sv1 lm1 ks1 t1 ms1∧One st kd n0 n1 e0 t0 ks1 ms1 t1∧TuAt K H ot wd2 sv2 lm2 ks2 (QW 0 0) ms2∧TuOk ks2 nm2 n2 (QW 0 0) ms2∧OcOf (ruK ks2 ms2) n M t0 o∧OcOf (ruK ks2 ms2) n M (plT t0) oP∧OcOf (ruK ks2 ms2) n M (QH e0 true 5 []) oL∧M + n + 1≤92∧Zm 12 t0∧PyData.strOk kd=true∧PyData.strOk e0=true ∧
 ∀ (r lm:Addr) (sv:V) (t:Tm) (ms:List MoT) (H':Hp),Same H H'→TuAt K H' r wd1 sv lm ks1 t ms→(st=true→ms=[]∧t=oP)→(st=false→t=QW 0 0∧dM ms=[(kd,two (ltS n0 n1) o oL)])→Q (.ref r) H'
section
variable {P:Program} {w:World} {K:Fg} {mg:Str→Option Value} {base:Heap} {f:Addr} {fd:FuncData}
theorem LB:FnScope ["_law_one_here", "_law_other", "_law_rules", "_law_term"] ["_law_one_here", "_law_other"] (defScope Ow):=(1:)
theorem OZ (F:Fun K "_law_due" "_law_due" Ow f fd) (G:Gm mg) (RO:Fn P w K mg base 94 "_law_on" ["_law_other", "_law_rule_here", "_law_term"] (Mc K 92)):FnOk P w K mg base CX0 95 f fd ["_law_one_here", "_law_other"] (LO K):=by
 refine F.ok LB (13:) (3:)
 ·obtain ⟨on,ot,wd1,wd2,lm1,lm2,sv1,sv2,ks1,ks2,t1,ms1,ms2,t0,o,oP,oL,n,M,nm2,n2,st,kd,n0,n1,e0,rfl,_⟩:=h
  rfl
 obtain ⟨on,ot,wd1,wd2,lm1,lm2,sv1,sv2,ks1,ks2,t1,ms1,ms2,t0,o,oP,oL,n,M,nm2,n2,st,kd,n0,n1,e0,rfl,hT1,h1,hT2,hO2,c1,c2,c3,hM,hP,lk,l0,q⟩:=h
 have v1:=c1.lvl
 have v2:=c2.lvl
 have v3:=c3.lvl
 have room:∀ m:Nat,m≤64→(A.deeper (PyProof.Rows.envOfC "_law_due" (defScope Ow) s.heap.objs.size f cdv)).units + m < cLine:=fun m hm=>by have:=hr.units;lia
 refine WS.read (Qx (Vg (QA Ju (Qg Qi (pv 0) Qb (2:)) (QZ Qe) (Qz _)) (Zs (YV ((Qy (Qc (w_e (Qg Qi (pv 0) Qb (2:))) (Qc (w_e (Qt RO hr (WA.h (Qc (w_e (pv 1)) (Qc (w_e (Qg Qi (pv 1) Qb (2:))) (Qc ((Qy (Qc (w_e Qs) (Qc (w_e Qs) (Qc (w_e QO) (Qc (w_e Qb) (Qc ((Qy (Qc (w_e (Qg Qi (pv 0) Qb (2:))) Qm))) Qm))))))) Qm)))))) (Qc (w_e (QZ Qe)) Qm))))))) J3)
  (Qx (Zn (Qp (i:=2) LB.nd rfl (12:) (QZ Qe)))
  (Qx (MI rfl (Q4 (Qg Qi (Qg Qn (Qg Qi (pv 0) Qb (2:)) Qb (2:)) Qb (2:))) (Qr (i:=3) LB.nd rfl (12:)) (Zs (Zn (Q0 (Jw PySem.F.plainAttrs_list PySem.F.slot_list_append PySem.F.type_list_append Zz (pv 2) (Qa (Qt RO hr (WA.h (Qc (w_e (pv 1)) (Qc ((Qy (Qc (w_e Qs) (Qc (w_e Qb) (Qc (w_e Qb) Qm))))) (Qc ((Qy (Qc (w_e Qs) (Qc (w_e Qs) (Qc (w_e QO) (Qc (w_e Qb) (Qc ((Qy (Qc (w_e (pv 3)) Qm))) Qm))))))) Qm))))) Qe))))))
  (Zs (YV ((Qy (Qc (w_e (Qg Qi (pv 0) Qb (2:))) (Qc ((Qy (Qc (w_e Qs) (Qc (w_e Qb) (Qc (w_e Qb) Qm))))) (Qc ((Ym (Qc ((Qy (Qc (w_e (Qg Qi (Qg Qn (Qg Qi (pv 0) Qb (2:)) Qb (2:)) Qb (2:))) (Qc (w_e (pv 2)) Qm)))) Qm))) Qm)))))))))) ?_
 try dsimp only [QB,Cx.nox]
 refine ⟨_,rfl,on,_,2,_,rfl,rfl,hT1.tu,rfl,(17:),?_⟩
 intro le hp_;generalize hX_:upd _ le _=X0;have g0:=sT hp_ hX_;have b0:=fL hX_;clear hX_ hp_
 have hT1a:=hT1.same g0
 have hT2a:=hT2.same g0
 cases st with
 | true =>
  obtain ⟨rfl,rfl⟩:=h1.s rfl
  refine ⟨.list [],.list [],.lst hT1a.lm .nil,.lst (SqL.of b0) .nil,by decide,by decide,room _ (by decide),_,rfl,Q8 ?_⟩
  refine ⟨_,rfl,on,_,0,_,rfl,rfl,hT1a.tu,rfl,_,rfl,_,rfl,ot,_,1,_,rfl,rfl,hT2a.tu,rfl,_,rfl,on,_,1,_,rfl,rfl,hT1a.tu,rfl,(by show 1≤sizeLine;decide),?_⟩
  intro p1 hp_;generalize hX_:upd _ p1 _=X1;have g1:=sT hp_ hX_;have b1:=fT (K:=K) hX_;clear hX_ hp_
  refine ⟨(by show 5≤sizeLine;decide),?_⟩
  intro p2 hp_;generalize hX_:upd _ p2 _=X2;have g2:=sT hp_ hX_;have b2:=fT (K:=K) hX_;clear hX_ hp_
  have g12:=g1.trans g2
  refine ⟨ot,wd2,lm2,sv2,ks2,QW 0 0,ms2,nm2,n2,sv2,.ref p2,QW 0 0,QH (Str.ofString "") false 0 [plT t0],oP,rfl,hT2a.same g12,hO2,tmS g12 hT2a.st,.put b2 (g2.seqT b1) (.cons (tmS g12 hT1a.st) .nil) (by simp),c2.b0 (10:),fun v H3 g3 hv=>⟨(17:),?_⟩⟩
  intro lm hp_;generalize hX_:upd _ lm _=Y1;have k1:=sT hp_ hX_;have d1:=fL hX_;clear hX_ hp_
  refine ⟨(16:),?_⟩
  intro r hp_;generalize hX_:upd _ r _=Y2;have k2:=sT hp_ hX_;have d2:=fT (K:=K) hX_;clear hX_ hp_
  have gA:=(g0.trans g12).trans (g3.trans (k1.trans k2))
  exact q r lm v _ [] Y2 gA ⟨d2,(hT1.same gA).wd,tmS (k1.trans k2) hv,SqL.of (k2 _ _ d1),fun m hm=>(nomatch hm)⟩ (fun _=>⟨rfl,rfl⟩) fun z=>absurd z (by decide)
 | false =>
  obtain ⟨rfl,m⟩:=h1.m rfl
  obtain ⟨am,lr,vs,rfl⟩:=m.ex
  have lay:PyData.canLayAll0 ((dM [(am,kd,lr,vs,two (ltS n0 n1) (t0) (QH e0 true 5 []))]).map ZY)=true:=by
   have hm:∀ t ∈ two (ltS n0 n1) (t0) (QH e0 true 5 []),MOk 40 t:=fun t ht=>by
    rcases Zi ht with rfl | rfl
    ·exact (ZX 12 _ hP).mono (10:)
    ·have h:MOk (38 + 2) (QH e0 true 5 []):=LM l0 (ts:=[]) fun t ht=>(nomatch ht)
     exact h
   have:=(Y5 _ hm).1
   show PyData.canLayAll0 [ZY (kd,two (ltS n0 n1) (t0) (QH e0 true 5 []))]=true
   simp only [PyData.canLayAll0,ZY,PyData.canLay0,lk,this,Bool.and_self]
  refine ⟨.list ((dM [(am,kd,lr,vs,two (ltS n0 n1) (t0) (QH e0 true 5 []))]).map ZY),.list [],.lst hT1a.lm (YS hT1a.mo),.lst (SqL.of b0) .nil,lay,by decide,room _ (Nat.le_trans (Nat.min_le_right _ _) (by decide)),_,rfl,?_⟩
  have ef:PyData.eqv (.list ((dM [(am,kd,lr,vs,two (ltS n0 n1) (t0) (QH e0 true 5 []))]).map ZY)) (.list [])=false:=by simp [dM,PyData.eqv,PyData.eqvAll]
  rw [ef]
  refine Zh ⟨(17:),fun lq hlq=>?_⟩
  have k0:=Qf hlq (.lst [])
  have hlq0:upd X0 lq (.lst []) lq=some (.lst []):=Qd
  generalize upd X0 lq (.lst [])=X1 at k0 hlq0 ⊢
  have s1:=g0.trans k0
  have nq:H lq=none:=Same.none g0 hlq
  have hT1b:=hT1.same s1
  obtain ⟨m1,m2,m3⟩:=hT1b.mo _ List.mem_cons_self
  refine ⟨_,rfl,on,_,2,_,rfl,rfl,hT1b.tu,rfl,lm1,_,0,_,rfl,rfl,hT1b.lm,rfl,am,_,1,_,rfl,rfl,m1,rfl,lr,rfl,⟨_,m2⟩,?_⟩
  have hml:=m3.length
  have htl:(two (ltS n0 n1) (o) oL).length=2:=by unfold two;cases ltS n0 n1 <;> rfl
  have hrl:(two (ltS n0 n1) (t0) (QH e0 true 5 [])).length=2:=by unfold two;cases ltS n0 n1 <;> rfl
  have hvl:vs.length=2:=hml.trans hrl
  refine ZQ (K:=K) (xs:=vs) (fun i σ H'=>∃ (c3:Option V) (ys:List V),σ=[some (.ref on),some (.ref ot),some (.ref lq),c3]∧Same H H'∧H' lq=some (.lst ys)∧TmAll K H' ys ((two (ltS n0 n1) (o) oL).take i))
   ⟨none,[],rfl,s1,hlq0,.nil⟩ ?_ ?_ ?_
  ·rintro i σ H' _ ⟨_,_,_,g,_⟩
   exact ((hT1.same g).mo _ List.mem_cons_self).2.1
  ·rintro i x σ H' hx ⟨c3,ys,rfl,g,hy,hys⟩
   have hi:i < 2:=by
    have:=(List.getElem?_eq_some_iff.mp hx).1
    lia
   have hyl:=hys.length
   rw [List.length_take,htl] at hyl
   obtain ⟨ti,hti⟩ : ∃ ti,(two (ltS n0 n1) (t0) (QH e0 true 5 []))[i]?=some ti:=⟨_,List.getElem?_eq_getElem (10:)⟩
   obtain ⟨oi,hoi⟩ : ∃ oi,(two (ltS n0 n1) (o) oL)[i]?=some oi:=⟨_,List.getElem?_eq_getElem (10:)⟩
   obtain ⟨cv,hcv,hct⟩:=((hT1.same g).mo _ List.mem_cons_self).2.2.get hti
   obtain rfl:cv=x:=Option.some.inj (hcv.symm.trans hx)
   have hB:BR0 (ruK ks2 ms2 0) 92 (QW 0 0) (QH (Str.ofString "") false 0 [ti]) oi:=by
    have h1':(ti=t0∧oi=o)∨(ti=QH e0 true 5 []∧oi=oL):=by
     unfold two at hti hoi
     revert hti hoi
     cases ltS n0 n1 <;> intro hti hoi <;> match i,hi,hti,hoi with
     | 0,_,hti,hoi=>simp at hti hoi;simp [hti,hoi]
     | 1,_,hti,hoi=>simp at hti hoi;simp [hti,hoi]
    rcases h1' with ⟨rfl,rfl⟩ | ⟨rfl,rfl⟩
    ·exact c1.b0 (10:)
    ·exact c3.b0 (10:)
   refine ⟨_,rfl,.inl ⟨rfl,_,SqL.of hy⟩,_,rfl,(16:),?_⟩
   intro pc hp_;generalize hX_:upd _ pc _=Y1;have k1:=sT hp_ hX_;have d1:=fT (K:=K) hX_;clear hX_ hp_
   refine ⟨_,rfl,(by show 1≤sizeLine;decide),?_⟩
   intro p1 hp_;generalize hX_:upd _ p1 _=Y2;have k2:=sT hp_ hX_;have d2:=fT (K:=K) hX_;clear hX_ hp_
   refine ⟨(by show 5≤sizeLine;decide),?_⟩
   intro p2 hp_;generalize hX_:upd _ p2 _=Y3;have k3:=sT hp_ hX_;have d3:=fT (K:=K) hX_;clear hX_ hp_
   have k13:=k1.trans (k2.trans k3)
   have gY:=g.trans k13
   refine ⟨ot,wd2,lm2,sv2,ks2,QW 0 0,ms2,nm2,n2,.ref pc,.ref p2,QW 0 0,QH (Str.ofString "") false 0 [ti],oi,rfl,hT2.same gY,hO2,.call ((k2.trans k3).seqT d1),.put d3 (k3.seqT d2) (.cons (tmS k13 hct) .nil) (by simp),hB,fun v H4 g4 hv=>?_⟩
   have hy4:=(k13.trans g4) _ _ hy
   refine ⟨lq,ys,v,rfl,rfl,hy4,by rw [Q3];lia,?_⟩
   refine ⟨_,ys ++ [v],rfl,fun z u e=>?_,Qd,?_⟩
   ·rw [Ql (Qj e nq)];exact g4 _ _ (gY _ _ e)
   ·rw [List.take_add_one,hoi]
    exact TmAll.append (hys.mono fun _ _ h=>((k13.trans g4).seqT h).put hy4) (.cons (hv.mono fun _ _ h=>h.put hy4) .nil)
  ·rintro σ H' ⟨c3,ys,rfl,g,hy,hys⟩
   rw [hvl,List.take_of_length_le (10:)] at hys
   have hT1c:=hT1.same g
   obtain ⟨n1',n2',n3'⟩:=hT1c.mo _ List.mem_cons_self
   refine ⟨_,rfl,on,_,0,_,rfl,rfl,hT1c.tu,rfl,(16:),?_⟩
   intro pc hp_;generalize hX_:upd _ pc _=Y1;have k1:=sT hp_ hX_;have d1:=fT (K:=K) hX_;clear hX_ hp_
   have hT1d:=hT1c.same k1
   refine ⟨_,rfl,on,_,2,_,rfl,rfl,hT1d.tu,rfl,lm1,_,0,_,rfl,rfl,hT1d.lm,rfl,am,_,0,_,rfl,rfl,k1.seqT n1',rfl,_,rfl,(9:),?_⟩
   intro mm hp_;generalize hX_:upd _ mm _=Y2;have k2:=sT hp_ hX_;have d2:=fT (K:=K) hX_;clear hX_ hp_
   refine ⟨(by show 1≤sizeLine;decide),?_⟩
   intro lm hp_;generalize hX_:upd _ lm _=Y3;have k3:=sT hp_ hX_;have d3:=fL hX_;clear hX_ hp_
   refine ⟨(16:),?_⟩
   intro r hp_;generalize hX_:upd _ r _=Y4;have k4:=sT hp_ hX_;have d4:=fT (K:=K) hX_;clear hX_ hp_
   have k24:=k2.trans (k3.trans k4)
   have k14:=k1.trans k24
   refine q r lm (.ref pc) _ [(mm,kd,lq,ys,two (ltS n0 n1) (o) oL)] Y4 (g.trans k14) ⟨d4,(hT1c.same k14).wd,.call (k24.seqT d1),SqL.of (k4 _ _ d3),fun m hm=>?_⟩ (fun z=>absurd z (by decide)) fun _=>⟨rfl,rfl⟩
   obtain rfl:=List.mem_singleton.mp hm
   exact ⟨(k3.trans k4).seqT d2,SqL.of (k14 _ _ hy),hys.mono fun _ _=>k14.seqT⟩
end
end K68
namespace K68
open PySem L2 TM TT K9 K11
theorem WK {nm d:Nat} {m b:Int} (h:0≤m∧m < (nm:Int)):TmB nm (d + 1) (QW m b):=⟨fun m' b' e=>by
 have e:Lab.call m b=Lab.call m' b':=e
 injection e with e1 e2
 rw [← e1];exact h,Nat.zero_le _,fun b hb=>(nomatch hb)⟩
theorem Vp {wd:Nat}:∀ (d:Nat) (t:Tm),Yc wd d t→TmB 1 d t
 | 0,_,h=>h.elim
 | d + 1,t,⟨h1,h2,h3⟩=>by
  refine ⟨fun m b e=>?_,?_,fun b hb=>Vp d b (h3 b hb)⟩
  ·obtain ⟨rfl,_⟩:=h1 m b e
   exact ⟨by decide,by decide⟩
  ·cases e:lab t with
   | call m b=>exact (h1 m b e).2.2.2
   | put nm k a=>exact (h2 nm k a e).2
structure Sec (K:Fg) (H:Hp) (ot wd lm:Addr) (sv:V) (ks:List KdT) (ms:List MoT) (bare full:Tm) (wn D:Nat) (ko e0 e1:Str):Prop where
 t:TuAt K H ot wd sv lm ks (QW 0 0) ms
 W:Wk ko e0 e1 (List.replicate wn ko) ks
 M:Wm ko (ltS e0 e1) ms bare full
 rb:Yc 0 D bare
 rf:Yc wn D full
 ne:e0≠e1
 w4:wn≤4
 d1:1≤D
 d9:D≤9
 l0:PyData.strOk e0=true
 l1:PyData.strOk e1=true
 lk:PyData.strOk ko=true
structure Fst (K:Fg) (H:Hp) (on wd lm:Addr) (sv:V) (ks:List KdT) (t1:Tm) (ms:List MoT) (st:Bool) (kd n0 n1 e0:Str) (t0:Tm):Prop where
 t:TuAt K H on wd sv lm ks t1 ms
 o:One st kd n0 n1 e0 t0 ks ms t1
 p:Zm 12 t0
 ne:n0≠n1
 l0:PyData.strOk n0=true
 l1:PyData.strOk n1=true
 lk:PyData.strOk kd=true
theorem Sec.keep {K:Fg} {H H':Hp} {ot wd lm:Addr} {sv:V} {ks:List KdT} {ms:List MoT} {bare full:Tm} {wn D:Nat} {ko e0 e1:Str} (h:Sec K H ot wd lm sv ks ms bare full wn D ko e0 e1) (g:KeepS K H H'):Sec K H' ot wd lm sv ks ms bare full wn D ko e0 e1:=⟨h.t.keep g,h.W,h.M,h.rb,h.rf,h.ne,h.w4,h.d1,h.d9,h.l0,h.l1,h.lk⟩
theorem Fst.keep {K:Fg} {H H':Hp} {on wd lm:Addr} {sv:V} {ks:List KdT} {t1:Tm} {ms:List MoT} {st:Bool} {kd n0 n1 e0:Str} {t0:Tm} (h:Fst K H on wd lm sv ks t1 ms st kd n0 n1 e0 t0) (g:KeepS K H H'):Fst K H' on wd lm sv ks t1 ms st kd n0 n1 e0 t0:=⟨h.t.keep g,h.o,h.p,h.ne,h.l0,h.l1,h.lk⟩
section
variable {K:Fg} {H:Hp} {T N NS:Addr} {ot wd2 lm2:Addr} {sv2:V} {ks2:List KdT} {ms2:List MoT} {bare full:Tm} {wn D:Nat} {ko e0 e1:Str} (S2:Sec K H ot wd2 lm2 sv2 ks2 ms2 bare full wn D ko e0 e1)
include S2
theorem Sec.wo:WoodOk ks2:=S2.W.ok S2.ne S2.l0 S2.l1 (fun x hx=>by rw [List.eq_of_mem_replicate hx];exact S2.lk) (by rw [List.length_replicate];exact S2.w4)
theorem Sec.tu:TuOk ks2 1 D (QW 0 0) ms2:=by
 obtain ⟨d,rfl⟩ : ∃ d,D=d + 1:=⟨D - 1,by have:=S2.d1;lia⟩
 exact S2.W.tuOk S2.M S2.wo (WK ⟨by decide,by decide⟩) (Vp _ _ S2.rb) (Vp _ _ S2.rf)
theorem Sec.oc {n:Nat} {t:Tm} (h:Kp e0 e1 wn n t) (hn:n≤9):∃ o,OcOf (ruK ks2 ms2) n 81 t o:=by
 obtain ⟨u0,u1⟩:=S2.W.ru S2.M S2.ne
 obtain ⟨nm,k,a,r,o,h1,h2,h3,h4,h5,h6⟩:=OF (ru:=ruK ks2 ms2) u0 u1 S2.rb S2.rf n t h
 refine ⟨o,nm,k,a,r,h1,h2,h3,h4,Yv h5 ?_,h6⟩
 exact Nat.le_trans (Nat.mul_le_mul hn S2.d9) (by decide)
variable {on wd1 lm1:Addr} {sv1:V} {ks1:List KdT} {t1:Tm} {ms1:List MoT} {st:Bool} {kd n0 n1:Str} {t0:Tm}
theorem OO (S1:Fst K H on wd1 lm1 sv1 ks1 t1 ms1 st kd n0 n1 e0 t0):∃ nm,nm≤1∧TuOk ks1 nm 12 t1 ms1:=by
 have wo1:WoodOk ks1:=S1.o.k.ok S1.ne S1.l0 S1.l1 (fun x hx=>by
  have:x=kd:=by simpa using hx
  rw [this];exact S1.lk) (by simp)
 cases st with
 | true =>
  obtain ⟨rfl,rfl⟩:=S1.o.s rfl
  exact ⟨0,by decide,wo1,rfl,U9 _ _ (VL _ _ S1.p),fun m hm=>(nomatch hm),fun m hm=>(nomatch hm),fun m hm=>(nomatch hm)⟩
 | false =>
  obtain ⟨rfl,m⟩:=S1.o.m rfl
  exact ⟨1,by decide,S1.o.k.tuOk m wo1 (WK ⟨by decide,by decide⟩) (U9 _ _ S1.p) ⟨fun m b e=>(nomatch e),Nat.zero_le _,fun b hb=>(nomatch hb)⟩⟩
theorem NC {o0:Str} {n:Nat} {Q:VK} {E:XK} (hT:TbS H T pL qL) (S1:Fst K H on wd1 lm1 sv1 ks1 t1 ms1 st kd n0 n1 e0 t0) (hB:Bad o0 e1 n t0) (h0:e0≠o0) (h1:e1≠o0) (hE:∀ H':Hp,Same H H'→E (.ref NS) none H'):Yq K T N NS 12 110 [.ref on,.ref ot] H Q E:=by
 obtain ⟨k01,f1,_⟩:=S1.o.k.k0
 obtain ⟨k00,f2,e2⟩:=S2.W.k0
 obtain ⟨nm1,hnm,hO1⟩:=OO S2 S1
 refine ⟨on,ot,wd1,wd2,lm1,lm2,sv1,sv2,ks1,ks2,k01,k00,t1,QW 0 0,ms1,ms2,nm1,1,D,rfl,hT,S1.t,hO1,f1,S2.t,S2.tu,S2.W.wg S2.wo (fun x hx=>List.eq_of_mem_replicate hx),f2,by rw [S2.W.len];lia,by decide,fun ds hD hn=>hE,fun ds hD hy=>?_⟩
 rw [e2] at hD hy
 obtain ⟨k1,k2⟩:=hy
 have r0:=S2.W.rowN h0 h1
 have r1:=S2.W.row1 S2.ne
 cases st with
 | true =>
  obtain ⟨rfl,rfl⟩:=S1.o.s rfl
  exact absurd k1 (VJ r0 r1 _ _ _ (Md _ _ hB))
 | false =>
  obtain ⟨rfl,m⟩:=S1.o.m rfl
  have hd:((0:Int),ko) ∈ ds:=hD.st _ (by show ((0:Int),ko) ∈ [((0:Int),ko)];exact List.mem_singleton.mpr rfl)
  refine absurd (k2 _ hd t0 ?_) (VJ r0 r1 _ _ _ hB)
  show _ ∈ Yx ms1 0
  rw [m.rules]
  unfold two
  cases ltS n0 n1 <;> simp
theorem Td {n:Nat} (S1:Fst K H on wd1 lm1 sv1 ks1 t1 ms1 st kd n0 n1 e0 t0) (hK:Kp e0 e1 wn n t0) (hn:n≤9) {ds:List Dd} (hD:Dem (QL ks2) 12 t1 ko ms1 ds):okk (QL ks2) 12 t1 ko∧∀ d ∈ ds,okR (QL ks2) 12 ms1 d:=by
 have r0:=S2.W.row0 S2.ne
 have r1:=S2.W.row1 S2.ne
 cases st with
 | true =>
  obtain ⟨rfl,rfl⟩:=S1.o.s rfl
  obtain ⟨o1,o2⟩:=XY r0 r1 n 12 _ (Ll _ _ hK) (10:)
  exact ⟨o1,fun d hd=>(hD.lt (fun _=>False) (fun e he=>by rw [o2] at he;cases he) (fun d z=>z.elim) d hd).elim⟩
 | false =>
  obtain ⟨rfl,m⟩:=S1.o.m rfl
  obtain ⟨o1,o2⟩:=XY r0 r1 n 12 _ hK (10:)
  obtain ⟨o3,o4⟩:=XY (e1:=e1) (wd:=wn) r0 r1 1 12 (QH e0 true 5 []) (.inl ⟨true,5,rfl⟩) (by decide)
  have hS:=hD.lt (fun d=>d=(0,ko)) (fun e he=>by
   have he:e ∈ [((0:Int),ko)]:=he
   exact List.mem_singleton.mp he) (fun d hd e he=>by
   rw [hd] at he
   obtain ⟨t,ht,he⟩:=List.mem_flatMap.mp he
   rw [m.rules] at ht
   rcases Zi ht with z | z
   ·have he:e ∈ dmd (QL ks2) 12 t ko:=he
    rw [z,o2] at he;cases he
   ·have he:e ∈ dmd (QL ks2) 12 t ko:=he
    rw [z,o4] at he;cases he)
  refine ⟨by rw [okk];trivial,fun d hd t ht=>?_⟩
  rw [hS d hd] at ht ⊢
  rw [m.rules] at ht
  rcases Zi ht with z | z
  ·rw [z];exact o1
  ·rw [z];exact o3
theorem Pl {n:Nat} {o oP oL:Tm} {Q:VK} {E:XK} (hT:TbS H T pL qL) (S1:Fst K H on wd1 lm1 sv1 ks1 t1 ms1 st kd n0 n1 e0 t0) (hK:Kp e0 e1 wn n t0) (hn:n≤9) (c1:OcOf (ruK ks2 ms2) n 81 t0 o) (c2:OcOf (ruK ks2 ms2) n 81 (plT t0) oP) (c3:OcOf (ruK ks2 ms2) n 81 (QH e0 true 5 []) oL)
 (hQ:Uu st o oP oL→∀ (tu lw lm:Addr) (sv':V) (ks':List KdT) (ms:List MoT) (H':Hp),SameX T H H'→TbS H' T pL qL→TuAt K H' tu lw sv' lm ks' (if st=true then oP else QW 0 0) ms→dW ks'=dW ks1→dM ms=(if st=true then [] else [(kd,two (ltS n0 n1) o oL)])→Q (.ref tu) H')
 (hE:¬ Uu st o oP oL→∀ H':Hp,SameX T H H'→TbS H' T pL qL→E (.ref N) none H'):Yq K T N NS 12 110 [.ref on,.ref ot] H Q E:=by
 obtain ⟨k01,f1,_⟩:=S1.o.k.k0
 obtain ⟨k00,f2,e2⟩:=S2.W.k0
 obtain ⟨nm1,hnm,hO1⟩:=OO S2 S1
 refine ⟨on,ot,wd1,wd2,lm1,lm2,sv1,sv2,ks1,ks2,k01,k00,t1,QW 0 0,ms1,ms2,nm1,1,D,rfl,hT,S1.t,hO1,f1,S2.t,S2.tu,S2.W.wg S2.wo (fun x hx=>List.eq_of_mem_replicate hx),f2,by rw [S2.W.len];lia,by decide,fun ds hD hno=>?_,fun ds hD hy=>?_⟩
 ·rw [e2] at hD hno
  exact absurd (Td S2 S1 hK hn hD) hno
 refine ⟨_,_,_,R6 S1.o (10:) c1 c2 c3,fun hf qs hqs=>?_,fun hno=>?_⟩
 ·by_cases z:Uu st o oP oL
  ·rw [(OJ c1.cl c2.cl c3.cl z).2] at hqs
   obtain rfl:=Option.some.inj hqs
   intro tu lw lm sv' ks' ms H' x tb' htu hNW hdw hsv hNM hdm _ _ _
   refine hQ z tu lw lm sv' ks' ms H' x tb' ⟨htu,⟨SqL.of hNW.at0,fun k hk=>⟨(hNW.kd k hk).1,SqL.of (hNW.kd k hk).2.1,(hNW.kd k hk).2.2.2⟩⟩,?_,SqL.of hNM.at0,fun m hm=>⟨(hNM.mo m hm).1,SqL.of (hNM.mo m hm).2.1,(hNM.mo m hm).2.2.2.2⟩⟩ hdw ?_
   ·cases st with
    | true =>
     have e:mpP (ixP (if true=true then [] else [((0:Int),(0:Int))])) (JE true oP)=oP:=c2.mp _
     rw [e] at hsv
     exact hsv
    | false =>
     have e:mpP (ixP (if false=true then [] else [((0:Int),(0:Int))])) (JE false oP)=QW 0 0:=by
      show mpP _ c00=_
      rw [mpP];rfl
     rw [e] at hsv
     exact hsv
   ·cases st with
    | true=>exact hdm
    | false =>
     have e:mkS kd (ltS n0 n1) o oL (0,0)=some (kd,two (ltS n0 n1) (QX o) (QX oL)):=if_pos z
     rw [hdm]
     show dQ _ [((0:Int),(0:Int))]=_
     unfold dQ
     rw [List.map_singleton,Jt e]
     unfold two
     cases ltS n0 n1 <;> simp [c1.mp,c3.mp]
  ·rcases big_S (kd:=kd) (b:=ltS n0 n1) z with zz | zz
   ·exact absurd hf zz
   ·rw [zz] at hqs;cases hqs
 ·by_cases z:Uu st o oP oL
  ·obtain ⟨g1,g2⟩:=OJ (kd:=kd) (b:=ltS n0 n1) c1.cl c2.cl c3.cl z
   rcases hno with zz | zz
   ·exact absurd g1 zz
   ·rw [g2] at zz;cases zz
  ·exact hE z
end
end K68
namespace K68
open PySem L2 TM TT K9 K11
structure Cs (K:Fg) (mg:Str→Option Value) (N NS B:Addr):Prop where
 te:mg "TurnError" = some (.ref B)
 st:mg "Strays" = some (.ref NS)
 tg:mg "TooGreat" = some (.ref N)
 ve:mg "ValueError" = none
 e1:PySem.W.exmOne K (.ref N) (.ref B)=some true
 e2:PySem.W.exmOne K (.ref NS) (.ref B)=some true
 x1:XcK K N
 x2:XcK K NS
 v1:PySem.W.kitOne K (.ref N) (.type "ValueError")=some true
 v2:PySem.W.kitOne K (.ref NS) (.type "ValueError")=some true
 nn:PySem.W.kitOne K (.ref N) (.ref N)=some true
 ns:PySem.W.kitOne K (.ref N) (.ref NS)=some false
 sn:PySem.W.kitOne K (.ref NS) (.ref N)=some false
 ss:PySem.W.kitOne K (.ref NS) (.ref NS)=some true
theorem Ux {d:Nat}:∀ {D:List (Str × List Tm)},(∀ m ∈ D,PyData.strOk m.1=true∧∀ t ∈ m.2,MOk d t)→PyData.canLayAll0 (D.map ZY)=true∧PyData.depthAll (D.map ZY)≤d + 2
 | [],_=>by simp [PyData.canLayAll0,PyData.depthAll]
 | m :: r,h=>by
  obtain ⟨h1,h2⟩:=Ux fun x hx=>h x (List.mem_cons_of_mem _ hx)
  obtain ⟨a1,a2⟩:=h m List.mem_cons_self
  obtain ⟨b1,b2⟩:=Y5 m.2 a2
  simp only [List.map_cons,PyData.canLayAll0,PyData.depthAll,ZY,PyData.canLay0,PyData.depth,a1,b1,h1,Bool.and_self,Bool.true_and,true_and]
  lia
theorem MQ {ws:List (Str × List PNx)} {t:Tm} {D:List (Str × List Tm)} {d:Nat} (h1:PyData.canLayAll0 (ws.map Zq)=true) (h2:MOk d t) (h3:∀ m ∈ D,PyData.strOk m.1=true∧∀ t ∈ m.2,MOk d t):(tuD ws t D).canLay0=true∧(tuD ws t D).depth≤d + 10:=by
 obtain ⟨a1,a2⟩:=h2
 obtain ⟨b1,b2⟩:=Ux h3
 have c:=UO ws
 unfold tuD
 simp only [PyData.canLay0,PyData.canLayAll0,PyData.depth,PyData.depthAll,h1,a1,b1,Bool.and_self,Bool.true_and,true_and]
 lia
theorem WB:∀ (n:Nat) (t:Tm),Zm n t→∀ m,lv t≤m→Zm m t
 | 0,_,h,_,_=>h.elim
 | n + 1,t,h,m,hm=>by
  have e:lv t=1 + lvs t.bs:=ZC t
  obtain ⟨m,rfl⟩ : ∃ m',m=m' + 1:=⟨m - 1,by lia⟩
  exact ⟨h.1,fun b hb=>WB n b (h.2 b hb) m (by have:=Vx hb;lia)⟩
inductive Told (K:Fg) (H':Hp) (ks1:List KdT) (st:Bool) (kd:Str) (b:Bool) (o oP oL:Tm) (odd:Bool) (fv:V) (lr:Addr):Prop where
 | ok:odd=false→Uu st o oP oL→(∃ (tu lw lm:Addr) (sv':V) (ks':List KdT) (ms:List MoT),fv=.ref tu∧TuAt K H' tu lw sv' lm ks' (if st=true then oP else QW 0 0) ms∧dW ks'=dW ks1∧dM ms=(if st=true then [] else [(kd,two b o oL)]))→H' lr=some (.lst [])→Told K H' ks1 st kd b o oP oL odd fv lr
 | great:odd=false→¬ Uu st o oP oL→H' lr=some (.lst [.bl true,.bl false,.bl true])→Told K H' ks1 st kd b o oP oL odd fv lr
 | stray:odd=true→H' lr=some (.lst [.bl true,.bl true,.bl false])→Told K H' ks1 st kd b o oP oL odd fv lr
def Xq (K:Fg) (T:Addr):Sp:=fun vs H Q _=>∃ (on ot wd1 wd2 lm1 lm2:Addr) (sv1 sv2:V) (ks1 ks2:List KdT) (t1:Tm) (ms1 ms2:List MoT) (bare full:Tm) (wn D n:Nat) (ko e0 e1 o0:Str) (st:Bool) (kd n0 n1:Str) (t0:Tm) (odd:Bool),vs=[.ref on,.ref ot,.bl odd]∧TbS H T pL qL∧Sec K H ot wd2 lm2 sv2 ks2 ms2 bare full wn D ko e0 e1∧Fst K H on wd1 lm1 sv1 ks1 t1 ms1 st kd n0 n1 e0 t0∧(odd=true→Bad o0 e1 n t0∧e0≠o0∧e1≠o0)∧(odd=false→Kp e0 e1 wn n t0∧n≤9)∧∀ H':Hp,SameX T H H'→TbS H' T pL qL→Q (.bl true) H'
section
variable {P:Program} {w:World} {K:Fg} {mg:Str→Option Value} {base:Heap} {f:Addr} {fd:FuncData} {T N NS B:Addr}
theorem Q9:FnScope ["_law_one_here", "_law_other", "_law_odd", "_law_found", "_law_refused", "e", "_law_due_here", "_law_terms", "_law_term", "_law_total", "_law_deep"] ["_law_one_here", "_law_other", "_law_odd"] (defScope XE):=(1:)
theorem Ly (F:Fun K "_law_right" "_law_right" XE f fd) (G:Gm mg) (L:Cs K mg N NS B) (RB:FnX P w K mg base 172 "behind" ["one", "other"] (Yq K T N NS 12 110)) (RD:Fn P w K mg base 95 "_law_due" ["_law_one_here", "_law_other"] (LO K)) (RM:Fn P w K mg base 82 "_law_measure" ["_law_term"] (ZU K 81)) (RE:Fn P w K mg base 32 "_law_same" ["_law_found", "_law_due_here"] (Vt K 30)):FnOk P w K mg base CX0 173 f fd ["_law_one_here", "_law_other", "_law_odd"] (Xq K T):=by
 refine F.ok Q9 (13:) (3:)
 ·obtain ⟨on,ot,wd1,wd2,lm1,lm2,sv1,sv2,ks1,ks2,t1,ms1,ms2,bare,full,wn,D,n,ko,e0,e1,o0,st,kd,n0,n1,t0,odd,rfl,_⟩:=h
  rfl
 obtain ⟨on,ot,wd1,wd2,lm1,lm2,sv1,sv2,ks1,ks2,t1,ms1,ms2,bare,full,wn,D,n,ko,e0,e1,o0,st,kd,n0,n1,t0,odd,rfl,tb,S2,S1,hOd,hKp,q⟩:=h
 have room:∀ m:Nat,m≤64→(A.deeper (PyProof.Rows.envOfC "_law_right" (defScope XE) s.heap.objs.size f cdv)).units + m < cLine:=fun m hm=>by have:=hr.units;lia
 refine ⟨_,(Qh (Qp (i:=3) Q9.nd rfl (12:) Uj)
  (Qh (Qp (i:=4) Q9.nd rfl (12:) (QZ Qe))
  (Qh (Yk (GQ (i:=5) L.te rfl Q9.nd rfl rfl
   (fun pins EE=>Qk (Qp (i:=3) Q9.nd rfl (12:) (XL (EE:=EE) RB hr SB (Qa (pv 0) (Qa (pv 1) Qe)) (8:))))
   (fun a=>Qk (Qp (i:=4) Q9.nd rfl (12:) (QZ (Qa (Qw (r:=NJ K) Z7 rfl G.isi PyProof.Rows.boot_isinstance (Qa (pv 5) (Qa (ZH (v:=.ty "ValueError") rfl L.ve (0:) rfl) Qe))) (Qa (Qw (r:=NJ K) Z7 rfl G.isi PyProof.Rows.boot_isinstance (Qa (pv 5) (Qa (ZJ (v:=.ref NS) rfl L.st rfl) Qe))) (Qa (Qw (r:=NJ K) Z7 rfl G.isi PyProof.Rows.boot_isinstance (Qa (pv 5) (Qa (ZJ (v:=.ref N) rfl L.tg rfl) Qe))) Qe))))))))
  (Qh (QM (QV (pv 2)) (Qk (Qq (Zr Ju (pv 4) (QZ (Qa (QO) (Qa (QO) (Qa (QO) Qe)))) (Qz _)))) Qu)
  (Qh (Qp (i:=6) Q9.nd rfl (12:) (Qt RD hr (Qa (pv 0) (Qa (pv 1) Qe))))
  (Qh (Qp (i:=7) Q9.nd rfl (12:) (QZ (Qa (Qg Qi (pv 6) Qb (2:)) Qe)))
  (Qh (Yk (QM (QA M6 (Qg Qi (pv 6) Qb (2:)) (QZ Qe) (Qz _)) (Qk (Qp (i:=7) Q9.nd rfl (12:) (Qg Qi (Qg Qn (Qg Qi (pv 6) Qb (2:)) Qb (2:)) Qb (2:)))) Qu))
  (Qh (Zc PassesOwn.never rfl (Q4 (pv 7)) (Qr (i:=8) Q9.nd rfl (12:)) (Qh (Us (Qt RM hr (Qa (pv 8) Qe)) (Zt rfl (Qv (Qr (i:=9) Q9.nd rfl (12:)) (Qv (Qr (i:=10) Q9.nd rfl (12:)) Za))))
  (Qk (QM (PW.pt (pw_or (QA WY (pv 9) Qb (Qz _)) (pw_or1 (QA WY (pv 10) Qb (Qz _))))) (Qk (Qq (Zr Ju (pv 4) (QZ (Qa (QO) (Qa (QO) (Qa (QO) Qe)))) (Qz _)))) Qu))))
  (Qk (Qq (Ur (Zr Ju (pv 4) (QZ Qe) (Qz _)) (Jd (Qt RE hr (Qa (pv 3) (Qa (pv 6) Qe))))))))))))))),?_⟩
 try dsimp only [QB,Cx.nox]
 refine ⟨(17:),?_⟩
 intro l0 hp_;generalize hX_:upd _ l0 _=X0;have g0:=sT hp_ hX_;have b0:=fL hX_;clear hX_ hp_
 obtain ⟨o,oP,oL,hoc⟩ : ∃ o oP oL,odd=false→OcOf (ruK ks2 ms2) n 81 t0 o∧OcOf (ruK ks2 ms2) n 81 (plT t0) oP∧OcOf (ruK ks2 ms2) n 81 (QH e0 true 5 []) oL:=by
  cases odd with
  | true=>exact ⟨t0,t0,t0,fun z=>absurd z (by decide)⟩
  | false =>
   obtain ⟨hK,hn⟩:=hKp rfl
   obtain ⟨o,ho⟩:=S2.oc hK hn
   obtain ⟨oP,hoP⟩:=S2.oc (Ll _ _ hK) hn
   have hK5:Kp e0 e1 wn n (QH e0 true 5 []):=by
    cases n with
    | zero=>exact hK.elim
    | succ n=>exact .inl ⟨_,_,rfl⟩
   obtain ⟨oL,hoL⟩:=S2.oc hK5 hn
   exact ⟨o,oP,oL,fun _=>⟨ho,hoP,hoL⟩⟩
 have tb0:=tb.same g0
 obtain ⟨ps0,hps0⟩:=tb0.at
 have nT:l0≠T:=ne_of b0 hps0 (15:)
 refine ⟨fun σ' H'=>∃ (fv:V) (lr:Addr),σ'=[some (.ref on),some (.ref ot),some (.bl odd),some fv,some (.ref lr),none,none,none,none,none,none]∧SameX T H H'∧TbS H' T pL qL∧Told K H' ks1 st kd (ltS n0 n1) o oP oL odd fv lr,?_,?_⟩
 ·refine ⟨fun σ' cls _ H'=>σ'=[some (.ref on),some (.ref ot),some (.bl odd),some .non,some (.ref l0),none,none,none,none,none,none]∧SameX T H H'∧TbS H' T pL qL∧((cls=.ref N∧odd=false∧¬ Uu st o oP oL)∨(cls=.ref NS∧odd=true)),?_,?_⟩
  ·refine ⟨_,rfl,_,rfl,?_⟩
   dsimp only [Wl]
   cases odd with
   | true =>
    obtain ⟨z1,z2,z3⟩:=hOd rfl
    exact NC (T:=T) (N:=N) (NS:=NS) (S2.keep (KeepS.same g0)) tb0 (S1.keep (KeepS.same g0)) z1 z2 z3 fun H' g=>⟨rfl,SameX.of (g0.trans g),tb0.same g,.inr ⟨rfl,rfl⟩⟩
   | false =>
    obtain ⟨hK,hn⟩:=hKp rfl
    obtain ⟨c1,c2,c3⟩:=hoc rfl
    exact Pl (T:=T) (N:=N) (NS:=NS) (S2.keep (KeepS.same g0)) tb0 (S1.keep (KeepS.same g0)) hK hn c1 c2 c3 (fun hf tu lw lm sv' ks' ms H' x tb' hTu hdw hdm=>⟨.ref tu,l0,rfl,(SameX.of g0).trans x,tb',.ok rfl hf ⟨tu,lw,lm,sv',ks',ms,rfl,hTu,hdw,hdm⟩ (x _ _ nT b0)⟩) fun hf H' x tb'=>⟨rfl,(SameX.of g0).trans x,tb',.inl ⟨rfl,rfl,hf⟩⟩
  ·rintro σ' cls H' ⟨rfl,x,tb',hc⟩
   rcases hc with ⟨rfl,e,hf⟩ | ⟨rfl,e⟩
   ·refine ⟨N,rfl,L.e1,fun a ha=>?_⟩
    have ga:=Qf ha (ExcO a (.ref N))
    refine ⟨_,rfl,a,N,.ty "ValueError", .type "ValueError", true,rfl,Qd,rfl,L.x1,L.v1,_,rfl,a,N,.ref NS,.ref NS,false,rfl,Qd,rfl,L.x1,L.ns,_,rfl,a,N,.ref N,.ref N,true,rfl,Qd,rfl,L.x1,L.nn,(16:),fun l hl=>?_⟩
    have gl:=ga.trans (Qf hl (.lst [.bl true,.bl false,.bl true]))
    exact ⟨.non,l,rfl,x.trans (SameX.of gl),tb'.same gl,.great e hf Qd⟩
   ·refine ⟨NS,rfl,L.e2,fun a ha=>?_⟩
    have ga:=Qf ha (ExcO a (.ref NS))
    refine ⟨_,rfl,a,NS,.ty "ValueError", .type "ValueError", true,rfl,Qd,rfl,L.x2,L.v2,_,rfl,a,NS,.ref NS,.ref NS,true,rfl,Qd,rfl,L.x2,L.ss,_,rfl,a,NS,.ref N,.ref N,false,rfl,Qd,rfl,L.x2,L.sn,(16:),fun l hl=>?_⟩
    have gl:=ga.trans (Qf hl (.lst [.bl true,.bl true,.bl false]))
    exact ⟨.non,l,rfl,x.trans (SameX.of gl),tb'.same gl,.stray e Qd⟩
 rintro σ' H1 ⟨fv,lr,rfl,x1,tb1,hTold⟩
 refine ⟨_,rfl,odd,rfl,?_⟩
 have eqL:∀ (H4:Hp) (le:Addr) (x y z:Bool),H4 lr=some (.lst [.bl x,.bl y,.bl z])→H4 le=some (.lst [.bl x,.bl y,.bl z])→RdV K H4 (.ref lr) (.list [.bool x,.bool y,.bool z])∧RdV K H4 (.ref le) (.list [.bool x,.bool y,.bool z]):=fun H4 le x y z h1 h2=>⟨.lst (SqL.of h1) (.cons (.bl _) (.cons (.bl _) (.cons (.bl _) .nil))),.lst (SqL.of h2) (.cons (.bl _) (.cons (.bl _) (.cons (.bl _) .nil)))⟩
 obtain ⟨ps1,hps1⟩:=tb1.at
 obtain ⟨psH,hpsH⟩:=tb.at
 by_cases eo:odd=true
 ·subst eo
  have hr1:H1 lr=some (.lst [.bl true,.bl true,.bl false]):=by
   cases hTold with
   | ok e=>cases e
   | great e=>cases e
   | stray _ h=>exact h
  refine Q8 ⟨_,rfl,(16:),?_⟩
  intro le hp_;generalize hX_:upd _ le _=H4;have g4:=sT hp_ hX_;have b4:=fL hX_;clear hX_ hp_
  obtain ⟨d1,d2⟩:=eqL H4 le _ _ _ (g4 _ _ hr1) b4
  refine ⟨_,_,d1,d2,by decide,by decide,room _ (by decide),?_⟩
  rw [ZE _ (by decide)]
  exact q H4 (x1.trans (SameX.of g4)) (tb1.same g4)
 obtain rfl:odd=false:=by simpa using eo
 obtain ⟨hK,hn⟩:=hKp rfl
 obtain ⟨c1,c2,c3⟩:=hoc rfl
 have kS:=KeepS.tb (K:=K) hpsH x1
 have S21:=S2.keep kS
 have S11:=S1.keep kS
 refine Zh ⟨_,rfl,_,rfl,?_⟩
 dsimp only [Wl,Xn]
 refine ⟨on,ot,wd1,wd2,lm1,lm2,sv1,sv2,ks1,ks2,t1,ms1,ms2,t0,o,oP,oL,n,81,1,D,st,kd,n0,n1,e0,rfl,S11.t,S11.o,S21.t,S21.tu,c1,c2,c3,by lia,S1.p,S1.lk,S2.l0,fun r lm sv t ms H2 g2 hT2 hs1 hs2=>?_⟩
 obtain ⟨ts,hts⟩ : ∃ ts,ts=if st=true then [oP] else two (ltS n0 n1) o oL:=⟨_,rfl⟩
 refine ⟨_,rfl,r,_,1,_,rfl,rfl,hT2.tu,rfl,(by show 1≤sizeLine;decide),?_⟩
 intro l7 hp_;generalize hX_:upd _ l7 _=X7;have g7:=sT hp_ hX_;have b7:=fL hX_;clear hX_ hp_
 have hT7:=hT2.same g7
 refine ⟨fun σ' H'=>∃ (lt:Addr) (xs:List V),σ'=[some (.ref on),some (.ref ot),some (.bl false),some fv,some (.ref lr),none,some (.ref r),some (.ref lt),none,none,none]∧Same H2 H'∧SqL K H' lt xs∧TmAll K H' xs ts,?_,?_⟩
 ·refine ⟨_,rfl,r,_,2,_,rfl,rfl,hT7.tu,rfl,(17:),?_⟩
  intro l8 hp_;generalize hX_:upd _ l8 _=X8;have g8:=sT hp_ hX_;have b8:=fL hX_;clear hX_ hp_
  have hT8:=hT7.same g8
  have g78:=g7.trans g8
  cases st with
  | true =>
   obtain ⟨rfl,rfl⟩:=hs1 rfl
   refine ⟨.list [],.list [],.lst hT8.lm .nil,.lst (SqL.of b8) .nil,by decide,by decide,room _ (by decide),_,rfl,Zh ?_⟩
   refine ⟨l7,_,rfl,g78,SqL.of (g8 _ _ b7),?_⟩
   rw [hts]
   exact .cons (tmS g78 hT2.st) .nil
  | false =>
   obtain ⟨rfl,hdm⟩:=hs2 rfl
   obtain ⟨m,rfl⟩ : ∃ m,ms=[m]:=by
    have:=congrArg List.length hdm
    unfold dM at this
    rw [List.length_map] at this
    exact List.length_eq_one_iff.mp this
   have e2:(m.2.1,m.2.2.2.2)=(kd,two (ltS n0 n1) o oL):=by
    have h:[(m.2.1,m.2.2.2.2)]=[(kd,two (ltS n0 n1) o oL)]:=hdm
    injection h
   have e3:=(Prod.mk.inj e2).2
   have lay:PyData.canLayAll0 ((dM [m]).map ZY)=true:=by
    rw [hdm]
    refine (Ux (d:=162) fun x hx=>?_).1
    obtain rfl:=List.mem_singleton.mp hx
    refine ⟨S1.lk,fun u hu=>?_⟩
    rcases Zi hu with z | z
    ·rw [z];exact ZX 81 _ c1.puts
    ·rw [z];exact ZX 81 _ c3.puts
   refine ⟨.list ((dM [m]).map ZY),.list [],.lst hT8.lm (YS hT8.mo),.lst (SqL.of b8) .nil,lay,by decide,room _ (Nat.le_trans (Nat.min_le_right _ _) (by decide)),_,rfl,?_⟩
   have ef:PyData.eqv (.list ((dM [m]).map ZY)) (.list [])=false:=by simp [dM,PyData.eqv,PyData.eqvAll]
   rw [ef]
   obtain ⟨m1,m2,m3⟩:=hT8.mo _ List.mem_cons_self
   refine Q8 ⟨_,rfl,r,_,2,_,rfl,rfl,hT8.tu,rfl,lm,_,0,_,rfl,rfl,hT8.lm,rfl,m.1,_,1,_,rfl,rfl,m1,rfl,?_⟩
   refine ⟨m.2.2.1,_,rfl,g78,m2,?_⟩
   rw [hts,← e3]
   exact m3
 rintro σ' H3 ⟨lt,xs,rfl,g3,hlt,hxs⟩
 have hfit:Uu st o oP oL ↔ ∀ u ∈ ts,sz u≤200∧lv u≤30:=by
  rw [hts]
  unfold Uu
  cases st with
  | true=>exact ⟨fun h u hu=>by rw [List.mem_singleton.mp hu];exact c2.fits.mp h,fun h=>c2.fits.mpr (h oP (List.mem_singleton.mpr rfl))⟩
  | false =>
   refine ⟨fun h u hu=>?_,fun h=>⟨c1.fits.mpr (h o ?_),c3.fits.mpr (h oL ?_)⟩⟩
   ·rcases Zi hu with z | z
    ·rw [z];exact c1.fits.mp h.1
    ·rw [z];exact c3.fits.mp h.2
   ·show o ∈ two _ _ _
    unfold two;cases ltS n0 n1 <;> simp
   ·show oL ∈ two _ _ _
    unfold two;cases ltS n0 n1 <;> simp
 have hput:∀ u ∈ ts,Zm 81 u:=fun u hu=>by
  rw [hts] at hu
  cases st with
  | true=>rw [List.mem_singleton.mp hu];exact c2.puts
  | false =>
   rcases Zi hu with z | z
   ·rw [z];exact c1.puts
   ·rw [z];exact c3.puts
 have hlen:=hxs.length
 have g13:=g2.trans g3
 have big:¬ Uu st o oP oL→H1 lr=some (.lst [.bl true,.bl false,.bl true]):=fun h=>by
  cases hTold with
  | ok _ hf=>exact absurd hf h
  | great _ _ h=>exact h
  | stray e=>cases e
 refine ⟨_,rfl,lt,rfl,⟨_,hlt⟩,?_⟩
 refine ZQ (K:=K) (xs:=xs) (fun i σ H'=>∃ (c8 c9 c10:Option V),σ=[some (.ref on),some (.ref ot),some (.bl false),some fv,some (.ref lr),none,some (.ref r),some (.ref lt),c8,c9,c10]∧Same H3 H'∧∀ (j:Nat) u,j < i→ts[j]?=some u→sz u≤200∧lv u≤30)
  ⟨none,none,none,rfl,Same.refl _,fun j u hj=>absurd hj (Nat.not_lt_zero _)⟩ ?_ ?_ ?_
 ·rintro i σ H' _ ⟨_,_,_,_,g,_⟩
  exact g.seq hlt
 ·rintro i x σ H4 hx ⟨c8,c9,c10,rfl,g,hf⟩
  have hi:i < xs.length:=(List.getElem?_eq_some_iff.mp hx).1
  obtain ⟨u,hu⟩ : ∃ u,ts[i]?=some u:=⟨_,List.getElem?_eq_getElem (10:)⟩
  obtain ⟨cv,hcv,hct⟩:=hxs.get hu
  obtain rfl:cv=x:=Option.some.inj (hcv.symm.trans hx)
  have hum:=List.mem_of_getElem? hu
  refine ⟨_,rfl,cv,u,rfl,tmS g hct,hput u hum,fun p H5 g5 hp=>?_⟩
  refine ⟨p,_,rfl,hp,rfl,_,_,rfl,_,_,rfl,rfl,?_⟩
  have no:¬ (sz u≤200∧lv u≤30)→∀ (H6:Hp) (le:Addr),Same H5 H6→H6 le=some (.lst [.bl true,.bl false,.bl true])→H6 lr=some (.lst [.bl true,.bl false,.bl true]):=fun h H6 le k _=>(g13.trans (g.trans (g5.trans k))) _ _ (big fun z=>h (hfit.mp z u hum))
  refine ⟨_,rfl,_,_,rfl,rfl,_,rfl,?_⟩
  by_cases h1:((sz u:Nat):Int) > 200
  ·refine Z9 h1 ⟨_,rfl,(16:),?_⟩
   intro le hp_;generalize hX_:upd _ le _=H6;have g6:=sT hp_ hX_;have b6:=fL hX_;clear hX_ hp_
   obtain ⟨d1,d2⟩:=eqL H6 le _ _ _ (no (10:) H6 le g6 b6) b6
   refine ⟨_,_,d1,d2,by decide,by decide,room _ (by decide),?_⟩
   rw [ZE _ (by decide)]
   have gg:=g13.trans (g.trans (g5.trans g6))
   exact q H6 (x1.trans (SameX.of gg)) (tb1.same gg)
  refine Z0 h1 ⟨_,rfl,_,_,rfl,rfl,_,rfl,?_⟩
  by_cases h2:((lv u:Nat):Int) > 30
  ·refine Z9 h2 ⟨_,rfl,(16:),?_⟩
   intro le hp_;generalize hX_:upd _ le _=H6;have g6:=sT hp_ hX_;have b6:=fL hX_;clear hX_ hp_
   obtain ⟨d1,d2⟩:=eqL H6 le _ _ _ (no (10:) H6 le g6 b6) b6
   refine ⟨_,_,d1,d2,by decide,by decide,room _ (by decide),?_⟩
   rw [ZE _ (by decide)]
   have gg:=g13.trans (g.trans (g5.trans g6))
   exact q H6 (x1.trans (SameX.of gg)) (tb1.same gg)
  refine Z0 h2 ⟨_,_,_,rfl,g.trans g5,fun j v hj hv=>?_⟩
  rcases Nat.lt_succ_iff_lt_or_eq.mp hj with z | z
  ·exact hf j v z hv
  ·rw [z,hu] at hv
   obtain rfl:=Option.some.inj hv
   lia
 ·rintro σ H4 ⟨c8,c9,c10,rfl,g,hf⟩
  have fit:Uu st o oP oL:=hfit.mpr fun u hu=>by
   obtain ⟨j,hj,e⟩:=List.getElem_of_mem hu
   exact hf j u (10:) (by rw [List.getElem?_eq_getElem hj,e])
  have gA:=g13.trans g
  obtain ⟨⟨tu,lw,lmF,sv',ks',msF,rfl,hTF,hdw,hdm⟩,hr1⟩ : (∃ (tu lw lm:Addr) (sv':V) (ks':List KdT) (ms:List MoT),fv=.ref tu∧TuAt K H1 tu lw sv' lm ks' (if st=true then oP else QW 0 0) ms∧dW ks'=dW ks1∧dM ms=(if st=true then [] else [(kd,two (ltS n0 n1) o oL)]))∧H1 lr=some (.lst []):=by
   cases hTold with
   | ok _ _ h1 h2=>exact ⟨h1,h2⟩
   | great _ h=>exact absurd fit h
   | stray e=>cases e
  obtain ⟨et,em⟩ : t=(if st=true then oP else QW 0 0)∧dM ms=(if st=true then [] else [(kd,two (ltS n0 n1) o oL)]):=by
   cases st with
   | true =>
    obtain ⟨rfl,rfl⟩:=hs1 rfl
    exact ⟨rfl,rfl⟩
   | false=>exact hs2 rfl
  refine ⟨_,rfl,(17:),?_⟩
  intro le hp_;generalize hX_:upd _ le _=H6;have g6:=sT hp_ hX_;have b6:=fL hX_;clear hX_ hp_
  have gB:=gA.trans g6
  refine ⟨.list [],.list [],.lst (SqL.of (gB _ _ hr1)) .nil,.lst (SqL.of b6) .nil,by decide,by decide,room _ (by decide),?_⟩
  rw [ZE _ (by decide)]
  refine ⟨true,rfl,Q8 ⟨_,rfl,_,rfl,?_⟩⟩
  have wo1:WoodOk ks1:=S1.o.k.ok S1.ne S1.l0 S1.l1 (fun x hx=>by
   have:x=kd:=by simpa using hx
   rw [this];exact S1.lk) (by simp)
  have lwd:=S1.o.k.lay wo1 S1.lk
  have fitu:=hfit.mp fit
  have mok:∀ u ∈ ts,MOk 60 u:=fun u hu=>ZX 30 u (WB 81 u (hput u hu) 30 (fitu u hu).2)
  have lay:(tuD (dW ks1) (if st=true then oP else QW 0 0) (if st=true then [] else [(kd,two (ltS n0 n1) o oL)])).canLay0=true∧(tuD (dW ks1) (if st=true then oP else QW 0 0) (if st=true then [] else [(kd,two (ltS n0 n1) o oL)])).depth≤70∧lv (if st=true then oP else QW 0 0)≤30∧∀ m ∈ msF,∀ u ∈ m.2.2.2.2,lv u≤30:=by
   rw [hts] at mok fitu
   cases st with
   | true =>
    have:=MQ (d:=60) (D:=[]) lwd (mok oP (List.mem_singleton.mpr rfl)) (fun m hm=>(nomatch hm))
    refine ⟨this.1,this.2,(fitu oP (List.mem_singleton.mpr rfl)).2,fun m hm=>?_⟩
    have:msF=[]:=by
     cases msF with
     | nil=>rfl
     | cons x y=>cases hdm
    rw [this] at hm;cases hm
   | false =>
    have:=MQ (d:=60) (t:=QW 0 0) (D:=[(kd,two (ltS n0 n1) o oL)]) lwd ((Os 0 0 0 []).mono (10:)) (fun m hm=>by
     obtain rfl:=List.mem_singleton.mp hm
     exact ⟨S1.lk,fun u hu=>mok u hu⟩)
    refine ⟨this.1,this.2,by simp [QW,lv,lvs],fun m hm u hu=>?_⟩
    have h3:(m.2.1,m.2.2.2.2) ∈ [(kd,two (ltS n0 n1) o oL)]:=by
     have e:dM msF=[(kd,two (ltS n0 n1) o oL)]:=hdm
     rw [← e];exact List.mem_map.mpr ⟨m,hm,rfl⟩
    have e3:=(Prod.mk.inj (List.mem_singleton.mp h3)).2
    rw [e3] at hu
    exact (fitu u hu).2
  obtain ⟨y1,y2,y3,y4⟩:=lay
  rw [et] at hT2
  exact ⟨tu,r,lw,wd1,lmF,lm,sv',sv,ks',ks1,_,msF,ms,rfl,hTF.same gB,hT2.same (g3.trans (g.trans g6)),hdw,hdm.trans em.symm,by rw [hdw,hdm];exact y1,by rw [hdw,hdm];lia,y3,y4,fun H' g'=>q H' (x1.trans (SameX.of (gB.trans g'))) (tb1.same (gB.trans g'))⟩
end
end K68
namespace K68
open PySem L2 TM TT K9 K11
theorem W8 {nm:Str} {ad:Int} {wd d:Nat} {us:List Tm} (hs:PyData.strOk nm=true) (hu:∀ u ∈ us,Yc wd d u) (hl:us.length≤100):∀ (c:Nat) (ts:List Tm),Chn nm ad c us ts→(∀ t ∈ ts,Yc wd (d + c) t)∧ts.length≤100
 | 0,ts,h=>by
  obtain rfl:ts=us:=h
  exact ⟨hu,hl⟩
 | c + 1,ts,⟨k,rs,h,e⟩=>by
  obtain ⟨i1,i2⟩:=W8 hs hu hl c rs h
  subst e
  refine ⟨fun t ht=>?_,by simp⟩
  rw [List.mem_singleton.mp ht]
  refine ⟨fun m b e=>(nomatch e),fun nm' k' a' e=>?_,fun b hb=>i1 b hb⟩
  have e:Lab.put nm k ad=Lab.put nm' k' a':=e
  injection e with e1 _ _
  rw [← e1]
  exact ⟨hs,i2⟩
theorem V7 {e0 e1:Str} {wd:Nat}:∀ {n m:Nat} {t:Tm},Kp e0 e1 wd n t→n≤m→Kp e0 e1 wd m t
 | 0,_,_,h,_=>h.elim
 | n + 1,0,_,_,h=>absurd h (Nat.not_succ_le_zero _)
 | n + 1,m + 1,t,h,hm=>by
  rcases h with ⟨k,a,e⟩ | ⟨k,a,bs,e,hl,hk⟩
  ·exact .inl ⟨k,a,e⟩
  ·exact .inr ⟨k,a,bs,e,hl,fun b hb=>V7 (hk b hb) (10:)⟩
theorem LX {e0 e1:Str} {ad a:Int} {k0:Bool}:∀ (c:Nat) (ts:List Tm),Chn e1 ad c [QH e0 k0 a []] ts→(∀ t ∈ ts,Kp e0 e1 1 (c + 1) t)∧ts.length=1
 | 0,ts,h=>by
  obtain rfl:ts=_:=h
  exact ⟨fun t ht=>.inl ⟨k0,a,List.mem_singleton.mp ht⟩,rfl⟩
 | c + 1,ts,⟨k,rs,h,e⟩=>by
  obtain ⟨i1,i2⟩:=LX c rs h
  subst e
  exact ⟨fun t ht=>.inr ⟨k,ad,rs,List.mem_singleton.mp ht,i2,i1⟩,rfl⟩
theorem Oh {wd:Nat} (h:0 < wd):Yc wd 1 (QW 0 0):=⟨fun m b e=>by
 have e:Lab.call 0 0=Lab.call m b:=e
 injection e with e1 e2
 rw [← e1,← e2]
 exact ⟨rfl,by decide,h,Nat.zero_le _⟩,fun nm k a e=>(nomatch e),fun b hb=>(nomatch hb)⟩
def Yz (K:Fg) (lo hi pk:Int) (wn D n:Nat):Sp:=fun vs H Q _=>∃ (ln la:Addr) (n0 n1 kd ko e0 e1 o0 o1:Str) (a0 a1 a2 a3 goal pick:Int),vs=[.ref ln,.ref la,.int goal,.int pick]∧SqL K H ln [.str n0,.str n1,.str kd,.str ko,.str e0,.str e1,.str o0,.str o1]∧SqL K H la [.int a0,.int a1,.int a2,.int a3]∧(∀ x ∈ [n0,n1,kd,ko,e0,e1,o0,o1],PyData.strOk x=true)∧lo≤goal∧goal≤hi∧0≤pick∧pick≤pk ∧
 ∀ (r:Addr) (v1 v2 v3:V) (bare full t:Tm) (H':Hp),Same H H'→SqT K H' r [.int (wn:Int),v1,v2,v3]→TmV K H' v1 bare→TmV K H' v2 full→TmV K H' v3 t→Yc 0 D bare→Yc wn D full→Kp e0 e1 wn n t→Q (.ref r) H'
section
variable {P:Program} {w:World} {K:Fg} {mg:Str→Option Value} {base:Heap} {f:Addr} {fd:FuncData}
theorem U4:FnScope ["_law_names_here", "_law_adds", "_law_goal", "_law_pick", "_law_count", "_law_each", "_law_bare", "_law_full"] ["_law_names_here", "_law_adds", "_law_goal", "_law_pick"] (defScope LS):=(1:)
theorem NI (F:Fun K "_law_long" "_law_long" LS f fd) (G:Gm mg) (RH:Fn P w K mg base 1 "_law_chain" ["_law_name", "_law_add", "_law_count", "_law_inner"] (XR K)):FnOk P w K mg base CX0 2 f fd ["_law_names_here", "_law_adds", "_law_goal", "_law_pick"] (Yz K 9 33 4 1 9 9):=by
 refine F.ok U4 (13:) (3:)
 ·obtain ⟨ln,la,n0,n1,kd,ko,e0,e1,o0,o1,a0,a1,a2,a3,goal,pick,rfl,_⟩:=h
  rfl
 obtain ⟨ln,la,n0,n1,kd,ko,e0,e1,o0,o1,a0,a1,a2,a3,goal,pick,rfl,hL,hA,okn,hg1,hg2,hp0,hp4,q⟩:=h
 refine WS.read (Qx (Zn (Qp (i:=4) U4.nd rfl (12:) (Qo QR Qb (pv 3))))
  (Qx (Zn (Qp (i:=5) U4.nd rfl (12:) (Qo Q1 (Qo Yd (pv 2) Qb) (pv 4))))
  (Qx (Zn (Qp (i:=6) U4.nd rfl (12:) (Qt RH hr (WA.h (Qc (w_e (Qg Qn (pv 0) Qb (2:))) (Qc (w_e (Qg Qn (pv 1) Qb (2:))) (Qc (w_e (Qo Yd (pv 2) (Qo ZB (pv 5) (pv 4)))) (Qc (Qy Qm) Qm))))))))
  (Qx (Zn (Qp (i:=7) U4.nd rfl (12:) (Qt RH hr (WA.h (Qc (w_e (Qg Qn (pv 0) Qb (2:))) (Qc (w_e (Qg Qn (pv 1) Qb (2:))) (Qc (w_e (pv 5)) (Qc ((Qy (Qc ((Qy (Qc (w_e Qs) (Qc (w_e Qb) (Qc (w_e Qb) Qm))))) Qm))) Qm))))))))
  (Zs (YV ((Qy (Qc (w_e Qb) (Qc (w_e (pv 6)) (Qc (w_e (pv 7)) (Qc (w_e (Qt RH hr (WA.h (Qc (w_e (Qg Qn (pv 0) Qb (2:))) (Qc (w_e (Qg Qn (pv 1) Qb (2:))) (Qc (w_e (pv 4)) (Qc ((Qy (Qc ((Qy (Qc (w_e Qs) (Qc (w_e (Qg Qn (pv 0) Qb (2:))) (Qc (w_e QO) (Qc (w_e (Qg Qn (pv 1) Qb (2:))) (Qc (Qy Qm) Qm))))))) Qm))) Qm))))))) Qm)))))))))))) ?_
 try dsimp only [QB,Cx.nox]
 have N:∀ {H':Hp},Same H H'→SqL K H' ln [.str n0,.str n1,.str kd,.str ko,.str e0,.str e1,.str o0,.str o1]:=fun g=>g.seq hL
 have Ad:∀ {H':Hp},Same H H'→SqL K H' la [.int a0,.int a1,.int a2,.int a3]:=fun g=>g.seq hA
 have gr:Same H H:=fun _ _ e=>e
 obtain ⟨c,e,b,ec,ee,eb,hc,he,hb⟩ : ∃ c e b:Nat,4 + pick=(c:Int)∧(goal - 1) / (4 + pick)=(e:Int)∧goal - (goal - 1) / (4 + pick) * (4 + pick)=(b:Int)∧(4≤c∧c≤8)∧(1≤e∧e≤8)∧(1≤b∧b≤8):=by
  refine ⟨(4 + pick).toNat,((goal - 1) / (4 + pick)).toNat,(goal - (goal - 1) / (4 + pick) * (4 + pick)).toNat,?_⟩
  have:pick=0∨pick=1∨pick=2∨pick=3∨pick=4:=by lia
  rcases this with rfl | rfl | rfl | rfl | rfl <;> simp <;> lia
 refine ⟨_,rfl,_,_,rfl,rfl,?_⟩
 show QJ 4 (.int (4 + pick)) [some (.ref ln),some (.ref la),some (.int goal),some (.int pick),none,none,none,none] H _
 refine ⟨_,rfl,_,_,rfl,rfl,_,rfl,_,_,rfl,rfl,⟨by lia,by lia⟩,?_⟩
 show QJ 5 (.int ((goal - 1) / (4 + pick))) [some (.ref ln),some (.ref la),some (.int goal),some (.int pick),some (.int (4 + pick)),none,none,none] H _
 refine ⟨_,rfl,ln,_,7,_,rfl,rfl,N gr,rfl,_,rfl,la,_,0,_,rfl,rfl,Ad gr,rfl,_,rfl,_,rfl,_,rfl,_,_,rfl,rfl,?_⟩
 refine ⟨.inr ⟨by lia,by lia⟩,_,_,rfl,rfl,(17:),?_⟩
 intro p0 hp_;generalize hX_:upd _ p0 _=X0;have g0:=sT hp_ hX_;have b0:=fT (K:=K) hX_;clear hX_ hp_
 refine ⟨o1,a0,b,p0,[],[],by rw [← eb];rfl,b0,.nil,by simp,hb.1,by lia,fun v1 bare H1 g1 hv1 hC1=>?_⟩
 show QJ 6 v1 [some (.ref ln),some (.ref la),some (.int goal),some (.int pick),some (.int (4 + pick)),some (.int ((goal - 1) / (4 + pick))),none,none] H1 _
 have s1:=g0.trans g1
 refine ⟨_,rfl,ln,_,6,_,rfl,rfl,N s1,rfl,_,rfl,la,_,1,_,rfl,rfl,Ad s1,rfl,_,rfl,(16:),?_⟩
 intro p1 hp_;generalize hX_:upd _ p1 _=X1;have k1:=sT hp_ hX_;have d1:=fT (K:=K) hX_;clear hX_ hp_
 refine ⟨(by show 1≤sizeLine;decide),?_⟩
 intro p2 hp_;generalize hX_:upd _ p2 _=X2;have k2:=sT hp_ hX_;have d2:=fT (K:=K) hX_;clear hX_ hp_
 refine ⟨o0,a1,e,p2,_,[QW 0 0],by rw [← ee];rfl,d2,.cons (.call (k2.seqT d1)) .nil,by simp,he.1,by lia,fun v2 full H2 g2 hv2 hC2=>?_⟩
 show QJ 7 v2 [some (.ref ln),some (.ref la),some (.int goal),some (.int pick),some (.int (4 + pick)),some (.int ((goal - 1) / (4 + pick))),some (v1),none] H2 _
 have s2:=s1.trans (k1.trans (k2.trans g2))
 refine ⟨_,rfl,_,rfl,_,rfl,ln,_,5,_,rfl,rfl,N s2,rfl,_,rfl,la,_,2,_,rfl,rfl,Ad s2,rfl,_,rfl,_,rfl,ln,_,4,_,rfl,rfl,N s2,rfl,_,rfl,la,_,3,_,rfl,rfl,Ad s2,rfl,(17:),?_⟩
 intro p3 hp_;generalize hX_:upd _ p3 _=X3;have k3:=sT hp_ hX_;have d3:=fT (K:=K) hX_;clear hX_ hp_
 refine ⟨(by show 5≤sizeLine;decide),?_⟩
 intro p4 hp_;generalize hX_:upd _ p4 _=X4;have k4:=sT hp_ hX_;have d4:=fT (K:=K) hX_;clear hX_ hp_
 refine ⟨(by show 1≤sizeLine;decide),?_⟩
 intro p5 hp_;generalize hX_:upd _ p5 _=X5;have k5:=sT hp_ hX_;have d5:=fT (K:=K) hX_;clear hX_ hp_
 refine ⟨e1,a2,c,p5,_,[QH e0 false a3 []],by rw [← ec];rfl,d5,.cons (.put (k5.seqT d4) ((k4.trans k5).seqT d3) .nil (by simp)) .nil,by simp,by lia,by lia,fun v3 t H3 g3 hv3 hC3=>⟨(by show 4≤sizeLine;decide),?_⟩⟩
 intro p6 hp_;generalize hX_:upd _ p6 _=X6;have k6:=sT hp_ hX_;have d6:=fT (K:=K) hX_;clear hX_ hp_
 have s26:=k3.trans (k4.trans (k5.trans (g3.trans k6)))
 have s16:=k1.trans (k2.trans (g2.trans s26))
 refine q p6 v1 v2 v3 bare full t X6 (s2.trans s26) d6 (tmS s16 hv1) (tmS s26 hv2) (tmS k6 hv3) ?_ ?_ ?_
 ·exact Y0 (8:) ((W8 (wd:=0) (d:=0) (okn _ (by simp)) (us:=[]) (fun u hu=>absurd hu (by simp)) (by simp) b [bare] hC1).1 bare (List.mem_singleton.mpr rfl)) (10:)
 ·exact Y0 (8:) ((W8 (wd:=1) (d:=1) (okn _ (by simp)) (fun u hu=>by rw [List.mem_singleton.mp hu];exact Oh (by decide)) (by simp) e [full] hC2).1 full (List.mem_singleton.mpr rfl)) (10:)
 ·exact V7 ((LX c [t] hC3).1 t (List.mem_singleton.mpr rfl)) (10:)
end
end K68
namespace K68
open PySem L2 TM TT K9 K11
theorem Xs {wd d:Nat} {nm:Str} {k:Bool} {a:Int} {bs:List Tm} (hs:PyData.strOk nm=true) (hl:bs.length≤100) (hb:∀ b ∈ bs,Yc wd d b):Yc wd (d + 1) (QH nm k a bs):=⟨fun m b e=>(nomatch e),fun nm' k' a' e=>by
 have e:Lab.put nm k a=Lab.put nm' k' a':=e
 injection e with e1 _ _
 rw [← e1]
 exact ⟨hs,hl⟩,hb⟩
theorem OC {wd d:Nat} {c:Int} (h0:0≤c) (h1:c.toNat < wd):Yc wd (d + 1) (QW 0 c):=⟨fun m b e=>by
 have e:Lab.call 0 c=Lab.call m b:=e
 injection e with e1 e2
 rw [← e1,← e2]
 exact ⟨rfl,h0,h1,Nat.zero_le _⟩,fun nm k a e=>(nomatch e),fun b hb=>(nomatch hb)⟩
section
variable {P:Program} {w:World} {K:Fg} {mg:Str→Option Value} {base:Heap} {f:Addr} {fd:FuncData}
theorem ZO:FnScope ["_law_names_here", "_law_adds", "_law_goal", "_law_pick", "_law_each", "_law_more", "_law_calls", "_law_full", "_law_bare", "_law_leaf", "_law_inner"] ["_law_names_here", "_law_adds", "_law_goal", "_law_pick"] (defScope LZ):=(1:)
theorem N9 (F:Fun K "_law_wide" "_law_wide" LZ f fd) (G:Gm mg) (RH:Fn P w K mg base 1 "_law_leaves" ["_law_name", "_law_add", "_law_count"] (Jj K)):FnOk P w K mg base CX0 2 f fd ["_law_names_here", "_law_adds", "_law_goal", "_law_pick"] (Yz K 30 203 3 4 9 9):=by
 refine F.ok ZO (13:) (3:)
 ·obtain ⟨ln,la,n0,n1,kd,ko,e0,e1,o0,o1,a0,a1,a2,a3,goal,pick,rfl,_⟩:=h
  rfl
 obtain ⟨ln,la,n0,n1,kd,ko,e0,e1,o0,o1,a0,a1,a2,a3,goal,pick,rfl,hL,hA,okn,hg1,hg2,hp0,hp4,q⟩:=h
 refine WS.read (Qx (Zn (Qp (i:=4) ZO.nd rfl (12:) (Qo QR (Qo QN (pv 2) Qb) (Qo ZB Qb (pv 3)))))
  (Qx (Zn (Yk (QM (QA Zw (pv 4) Qb (Qz _)) (Qk (Qp (i:=4) ZO.nd rfl (12:) Qb)) Qu)))
  (Qx (Zn (Yk (QM (QA WY (Qo ZB Qb (pv 4)) (Qo Yd (pv 2) Qb) (Qz _)) (Qk (Qp (i:=4) ZO.nd rfl (12:) (Qo Yd (pv 4) Qb))) Qu)))
  (Qx (Zn (Qp (i:=5) ZO.nd rfl (12:) (Qo Yd (Qo Q1 (Qo Yd (pv 2) (Qo ZB Qb (pv 4))) Qb) Qb)))
  (Qx (ZV (i:=6) ZO.nd rfl (12:) ((Qy (Qc ((Qy (Qc (w_e Qs) (Qc (w_e Qb) (Qc (w_e Qb) Qm))))) (Qc ((Qy (Qc (w_e Qs) (Qc (w_e Qb) (Qc (w_e Qb) Qm))))) (Qc ((Qy (Qc (w_e Qs) (Qc (w_e Qb) (Qc (w_e Qb) Qm))))) (Qc ((Qy (Qc (w_e Qs) (Qc (w_e Qb) (Qc (w_e Qb) Qm))))) Qm)))))))
  (Qx (ZV (i:=7) ZO.nd rfl (12:) ((Qy (Qc (w_e Qs) (Qc (w_e (Qg Qn (pv 0) Qb (2:))) (Qc (w_e QO) (Qc (w_e (Qg Qn (pv 1) Qb (2:))) (Qc (w_e (Qo YW (pv 6) (Qt RH hr (WA.h (Qc (w_e (Qg Qn (pv 0) Qb (2:))) (Qc (w_e (Qg Qn (pv 1) Qb (2:))) (Qc (w_e (pv 5)) Qm))))))) Qm))))))))
  (Qx (ZV (i:=8) ZO.nd rfl (12:) ((Qy (Qc (w_e Qs) (Qc (w_e (Qg Qn (pv 0) Qb (2:))) (Qc (w_e QO) (Qc (w_e (Qg Qn (pv 1) Qb (2:))) (Qc (w_e (Qt RH hr (WA.h (Qc (w_e (Qg Qn (pv 0) Qb (2:))) (Qc (w_e (Qg Qn (pv 1) Qb (2:))) (Qc (w_e (Qo Yd (pv 4) Qb)) Qm)))))) Qm))))))))
  (Qx (ZV (i:=9) ZO.nd rfl (12:) ((Qy (Qc (w_e Qs) (Qc (w_e (Qg Qn (pv 0) Qb (2:))) (Qc (w_e QO) (Qc (w_e (Qg Qn (pv 1) Qb (2:))) (Qc (Qy Qm) Qm))))))))
  (Qx (ZV (i:=10) ZO.nd rfl (12:) ((Qy (Qc (w_e Qs) (Qc (w_e (Qg Qn (pv 0) Qb (2:))) (Qc (w_e QO) (Qc (w_e (Qg Qn (pv 1) Qb (2:))) (Qc ((Qy (Qc (w_e (pv 9)) (Qc (w_e (pv 9)) (Qc (w_e (pv 9)) (Qc (w_e (pv 9)) Qm)))))) Qm))))))))
  (Zs (YV ((Qy (Qc (w_e Qb) (Qc (w_e (pv 8)) (Qc (w_e (pv 7)) (Qc ((Qy (Qc (w_e Qs) (Qc (w_e (Qg Qn (pv 0) Qb (2:))) (Qc (w_e QO) (Qc (w_e (Qg Qn (pv 1) Qb (2:))) (Qc ((Qy (Qc (w_e (pv 10)) (Qc (w_e (pv 9)) (Qc (w_e (pv 10)) (Qc (w_e (pv 10)) Qm)))))) Qm))))))) Qm))))))))))))))))) ?_
 try dsimp only [QB,Cx.nox]
 have N:∀ {H':Hp},Same H H'→SqL K H' ln [.str n0,.str n1,.str kd,.str ko,.str e0,.str e1,.str o0,.str o1]:=fun g=>g.seq hL
 have Ad:∀ {H':Hp},Same H H'→SqL K H' la [.int a0,.int a1,.int a2,.int a3]:=fun g=>g.seq hA
 have gr:Same H H:=fun _ _ e=>e
 refine ⟨_,rfl,_,_,rfl,rfl,(by show (0:Int) < 4;decide),_,rfl,_,_,rfl,rfl,.inr ⟨by lia,by lia⟩,_,_,rfl,rfl,?_⟩
 show QJ 4 (.int (goal % 4 + 4 * pick)) [some (.ref ln),some (.ref la),some (.int goal),some (.int pick),none,none,none,none,none,none,none] H _
 refine ⟨fun σ' H'=>∃ e:Int,1≤e∧e≤15∧σ'=[some (.ref ln),some (.ref la),some (.int goal),some (.int pick),some (.int e),none,none,none,none,none,none]∧H'=H,?_,?_⟩
 ·by_cases z:goal % 4 + 4 * pick=0
  ·exact ⟨_,rfl,rfl,_,rfl,Z9 (by rw [z]) ⟨4,by decide,by decide,rfl,rfl⟩⟩
  ·exact ⟨_,rfl,rfl,_,rfl,Z0 (by simpa using z) ⟨_,by lia,by lia,rfl,rfl⟩⟩
 rintro σ' H' ⟨e,he0,he1,hσ,hH⟩
 rw [hσ,hH]
 clear hσ hH σ' H'
 refine ⟨fun σ' H'=>∃ e:Int,-3≤e∧e≤15∧σ'=[some (.ref ln),some (.ref la),some (.int goal),some (.int pick),some (.int e),none,none,none,none,none,none]∧H'=H,?_,?_⟩
 ·refine ⟨_,rfl,_,_,rfl,rfl,.inr ⟨by lia,by lia⟩,_,rfl,_,_,rfl,rfl,?_⟩
  by_cases z:goal - 4 < 13 * e
  ·exact ⟨_,_,rfl,rfl,_,rfl,Z9 z ⟨_,rfl,_,_,rfl,rfl,_,by lia,by lia,rfl,rfl⟩⟩
  ·exact ⟨_,_,rfl,rfl,_,rfl,Z0 z ⟨_,by lia,by lia,rfl,rfl⟩⟩
 clear he0 he1 e
 rintro σ' H' ⟨e,he0,he1,hσ,hH⟩
 rw [hσ,hH]
 clear hσ hH σ' H'
 refine ⟨_,rfl,_,rfl,_,_,rfl,rfl,.inr ⟨by lia,by lia⟩,_,_,rfl,rfl,_,_,rfl,rfl,⟨by decide,by decide⟩,_,_,rfl,rfl,?_⟩
 show QJ 5 (.int ((goal - 13 * e) / 4 - 1)) [some (.ref ln),some (.ref la),some (.int goal),some (.int pick),some (.int e),none,none,none,none,none,none] H _
 generalize em:(goal - 13 * e) / 4 - 1=more
 have hm1:-1000≤more:=by lia
 have hm2:more≤60:=by lia
 refine ⟨(16:),?_⟩
 intro p0 hp_;generalize hX_:upd _ p0 _=X0;have k0:=sT hp_ hX_;have d0:=fT (K:=K) hX_;clear hX_ hp_
 refine ⟨(16:),?_⟩
 intro p1 hp_;generalize hX_:upd _ p1 _=X1;have k1:=sT hp_ hX_;have d1:=fT (K:=K) hX_;clear hX_ hp_
 refine ⟨(16:),?_⟩
 intro p2 hp_;generalize hX_:upd _ p2 _=X2;have k2:=sT hp_ hX_;have d2:=fT (K:=K) hX_;clear hX_ hp_
 refine ⟨(16:),?_⟩
 intro p3 hp_;generalize hX_:upd _ p3 _=X3;have k3:=sT hp_ hX_;have d3:=fT (K:=K) hX_;clear hX_ hp_
 refine ⟨(by show 4≤sizeLine;decide),?_⟩
 intro p4 hp_;generalize hX_:upd _ p4 _=X4;have k4:=sT hp_ hX_;have d4:=fT (K:=K) hX_;clear hX_ hp_
 show QJ 6 (.ref p4) [some (.ref ln),some (.ref la),some (.int goal),some (.int pick),some (.int e),some (.int more),none,none,none,none,none] X4 _
 have s4:Same H X4:=k0.trans (k1.trans (k2.trans (k3.trans k4)))
 have hC4:TmAll K X4 [.ref p0,.ref p1,.ref p2,.ref p3] [QW 0 3,QW 0 0,QW 0 2,QW 0 1]:=.cons (.call ((k1.trans (k2.trans (k3.trans k4))).seqT d0)) (.cons (.call ((k2.trans (k3.trans k4)).seqT d1)) (.cons (.call ((k3.trans k4).seqT d2)) (.cons (.call (k4.seqT d3)) .nil)))
 refine ⟨_,rfl,ln,_,6,_,rfl,rfl,N s4,rfl,_,rfl,la,_,0,_,rfl,rfl,Ad s4,rfl,_,rfl,_,rfl,ln,_,7,_,rfl,rfl,N s4,rfl,_,rfl,la,_,1,_,rfl,rfl,Ad s4,rfl,_,rfl,o1,a1,more,rfl,hm1,by lia,fun r5 ws5 ts5 X5 k5 d5 hT5 hl5 hk5=>?_⟩
 have hw5:=hT5.length
 refine ⟨p4,r5,_,ws5,rfl,rfl,k5.seqT d4,d5,?_,fun p6 X6 k6 d6=>⟨(by show 5≤sizeLine;decide),?_⟩⟩
 ·have:(4:Nat)+ws5.length≤100:=by lia
  exact Nat.le_trans this (by decide)
 intro p7 hp_;generalize hX_:upd _ p7 _=X7;have k7:=sT hp_ hX_;have d7:=fT (K:=K) hX_;clear hX_ hp_
 show QJ 7 (.ref p7) [some (.ref ln),some (.ref la),some (.int goal),some (.int pick),some (.int e),some (.int more),some (.ref p4),none,none,none,none] X7 _
 have k57:=k5.trans (k6.trans k7)
 have s7:=s4.trans k57
 have hfull:TmV K X7 (.ref p7) (QH o0 true a0 ([QW 0 3,QW 0 0,QW 0 2,QW 0 1] ++ ts5)):=.put d7 (k7.seqT d6) (TmAll.append (hC4.mono fun _ _=>k57.seqT) (hT5.mono fun _ _=>(k6.trans k7).seqT)) (by
  have:(4:Nat)+ws5.length≤100:=by lia
  rw [List.length_append];exact Nat.le_trans this (by decide))
 refine ⟨_,rfl,ln,_,7,_,rfl,rfl,N s7,rfl,_,rfl,la,_,0,_,rfl,rfl,Ad s7,rfl,_,rfl,ln,_,6,_,rfl,rfl,N s7,rfl,_,rfl,la,_,1,_,rfl,rfl,Ad s7,rfl,_,rfl,_,_,rfl,rfl,o0,a1,e - 1,rfl,by lia,by lia,fun r8 ws8 ts8 X8 k8 d8 hT8 hl8 hk8=>⟨(by show 5≤sizeLine;decide),?_⟩⟩
 have hw8:=hT8.length
 intro p9 hp_;generalize hX_:upd _ p9 _=X9;have k9:=sT hp_ hX_;have d9:=fT (K:=K) hX_;clear hX_ hp_
 show QJ 8 (.ref p9) [some (.ref ln),some (.ref la),some (.int goal),some (.int pick),some (.int e),some (.int more),some (.ref p4),some (.ref p7),none,none,none] X9 _
 have hbare:TmV K X9 (.ref p9) (QH o1 false a0 ts8):=.put d9 (k9.seqT d8) (hT8.mono fun _ _=>k9.seqT) (10:)
 have s9:=s7.trans (k8.trans k9)
 refine ⟨_,rfl,ln,_,4,_,rfl,rfl,N s9,rfl,_,rfl,la,_,2,_,rfl,rfl,Ad s9,rfl,(17:),?_⟩
 intro pa hp_;generalize hX_:upd _ pa _=Xa;have ka:=sT hp_ hX_;have da:=fT (K:=K) hX_;clear hX_ hp_
 refine ⟨(by show 5≤sizeLine;decide),?_⟩
 intro pb hp_;generalize hX_:upd _ pb _=Xb;have kb:=sT hp_ hX_;have db:=fT (K:=K) hX_;clear hX_ hp_
 show QJ 9 (.ref pb) [some (.ref ln),some (.ref la),some (.int goal),some (.int pick),some (.int e),some (.int more),some (.ref p4),some (.ref p7),some (.ref p9),none,none] Xb _
 have hleaf:TmV K Xb (.ref pb) (QH e0 false a2 []):=.put db (kb.seqT da) .nil (by simp)
 have sb:=s9.trans (ka.trans kb)
 refine ⟨_,rfl,ln,_,5,_,rfl,rfl,N sb,rfl,_,rfl,la,_,3,_,rfl,rfl,Ad sb,rfl,_,rfl,_,rfl,_,rfl,_,rfl,(by show 4≤sizeLine;decide),?_⟩
 intro pc hp_;generalize hX_:upd _ pc _=Xc;have kc:=sT hp_ hX_;have dc:=fT (K:=K) hX_;clear hX_ hp_
 refine ⟨(by show 5≤sizeLine;decide),?_⟩
 intro pd hp_;generalize hX_:upd _ pd _=Xd;have ke:=sT hp_ hX_;have dd:=fT (K:=K) hX_;clear hX_ hp_
 show QJ 10 (.ref pd) [some (.ref ln),some (.ref la),some (.int goal),some (.int pick),some (.int e),some (.int more),some (.ref p4),some (.ref p7),some (.ref p9),some (.ref pb),none] Xd _
 have kbd:=kc.trans ke
 have hlf:TmV K Xd (.ref pb) (QH e0 false a2 []):=tmS kbd hleaf
 have hin:TmV K Xd (.ref pd) (QH e1 false a3 [QH e0 false a2 [],QH e0 false a2 [],QH e0 false a2 [],QH e0 false a2 []]):=.put dd (ke.seqT dc) (.cons hlf (.cons hlf (.cons hlf (.cons hlf .nil)))) (by simp)
 have sd:=sb.trans kbd
 refine ⟨_,rfl,_,rfl,_,rfl,ln,_,5,_,rfl,rfl,N sd,rfl,_,rfl,la,_,2,_,rfl,rfl,Ad sd,rfl,_,rfl,_,rfl,_,rfl,_,rfl,(by show 4≤sizeLine;decide),?_⟩
 intro pe hp_;generalize hX_:upd _ pe _=Xe;have kf:=sT hp_ hX_;have de:=fT (K:=K) hX_;clear hX_ hp_
 refine ⟨(by show 5≤sizeLine;decide),?_⟩
 intro pf hp_;generalize hX_:upd _ pf _=Xf;have kg:=sT hp_ hX_;have df:=fT (K:=K) hX_;clear hX_ hp_
 refine ⟨(by show 4≤sizeLine;decide),?_⟩
 intro pg hp_;generalize hX_:upd _ pg _=Xg;have kh:=sT hp_ hX_;have dg:=fT (K:=K) hX_;clear hX_ hp_
 have kdg:=kf.trans (kg.trans kh)
 have k9g:=ka.trans (kb.trans (kbd.trans kdg))
 refine q pg _ _ _ _ _ (QH e1 false a2 [_,_,_,_]) Xg (sd.trans kdg) dg (tmS k9g hbare) (tmS (k8.trans (k9.trans k9g)) hfull) (.put (kh.seqT df) ((kg.trans kh).seqT de) (.cons (tmS kdg hin) (.cons (tmS kdg hlf) (.cons (tmS kdg hin) (.cons (tmS kdg hin) .nil)))) (by simp)) ?_ ?_ ?_
 ·refine Y0 (8:) (Xs (d:=1) (okn _ (by simp)) (10:) fun b hb=>?_) (by decide)
  obtain ⟨k,rfl⟩:=hk8 b hb
  exact Xs (okn _ (by simp)) (by simp) (fun b hb=>(nomatch hb))
 ·refine Y0 (8:) (Xs (d:=1) (okn _ (by simp)) (by rw [List.length_append];show 4 + ts5.length≤100;lia) fun b hb=>?_) (by decide)
  rcases List.mem_append.mp hb with z | z
  ·simp only [List.mem_cons,List.mem_nil_iff,or_false] at z
   rcases z with rfl | rfl | rfl | rfl <;> exact OC (by decide) (by decide)
  ·obtain ⟨k,rfl⟩:=hk5 b z
   exact Xs (okn _ (by simp)) (by simp) (fun b hb=>(nomatch hb))
 ·have lf:∀ n,Kp e0 e1 4 (n + 1) (QH e0 false a2 []):=fun n=>.inl ⟨_,_,rfl⟩
  have inn:∀ n,Kp e0 e1 4 (n + 2) (QH e1 false a3 [QH e0 false a2 [],QH e0 false a2 [],QH e0 false a2 [],QH e0 false a2 []]):=fun n=>.inr ⟨_,_,_,rfl,rfl,fun b hb=>by
   simp only [List.mem_cons,List.mem_nil_iff,or_false,or_self] at hb
   rw [hb];exact lf n⟩
  refine .inr ⟨_,_,_,rfl,rfl,fun b hb=>?_⟩
  simp only [List.mem_cons,List.mem_nil_iff,or_false] at hb
  rcases hb with rfl | rfl | rfl | rfl
  ·exact inn _
  ·exact lf _
  ·exact inn _
  ·exact inn _
end
end K68
namespace L2
open PySem
theorem SM {a b:TS} {D:Ends} {σ:St} {H:Hp} (h:∀ B:TS,B=b→G4 a B D σ H):G4 a b D σ H:=h b rfl
theorem UR {a b B:TS} {D:Ends} {σ:St} {H:Hp} (e:B=G4 a b) (h:∀ C:TS,C=b→G4 a C D σ H):B D σ H:=e ▸ h b rfl
theorem SQ {b B:TS} {D:Ends} {σ:St} {H:Hp} (e:B=b) (h:b D σ H):B D σ H:=e ▸ h
end L2
namespace K68
open PySem L2 TM TT K9 K11
def Gr (K:Fg) (T:Addr):Sp:=fun vs H Q _=>∃ (a:Addr) (ns:List Int),vs=[.ref a]∧SqL K H a (ns.map V.int)∧ns.length≤63∧H T=some (.tbl #[])∧∀ H',Q (.bl true) H'
abbrev SE:List Str:=["_law_script", "_law_names_here", "_law_number", "_law_adds", "_law_goal", "_law_wide_here", "_law_bare", "_law_full", "_law_term", "_law_branches", "_law_rows", "_law_rules", "_law_other", "_law_odd", "_law_at_start", "_law_bad"]
theorem ln8 {l:List Str} (h:l.length=8):∃ a b c d e f g i,l=[a,b,c,d,e,f,g,i]:=by
 match l,h with
 | [a,b,c,d,e,f,g,i],_=>exact ⟨a,b,c,d,e,f,g,i,rfl⟩
theorem S9 {l:List Int} (h:l.length=4):∃ a b c d,l=[a,b,c,d]:=by
 match l,h with
 | [a,b,c,d],_=>exact ⟨a,b,c,d,rfl⟩
section
variable {P:Program} {w:World} {K:Fg} {mg:Str→Option Value} {base:Heap} {f:Addr} {fd:FuncData} {T:Addr}
theorem Q5:FnScope SE ["_law_script"] (defScope Wr):=(1:)
theorem Pa (F:Fun K "law" "law" Wr f fd) (G:Gm mg) (RC:Fn P w K mg base 1 "_law_cell_at" ["_law_script", "_law_k"] (Vz K)) (RN:Fn P w K mg base 2 "_law_names" ["_law_cell"] (Wj K)) (RX:Fn P w K mg base 1 "_law_mixed" ["_law_cell", "_law_k"] UV) (RG:Fn P w K mg base 1 "_law_great" ["_law_cell"] XH) (RW:Fn P w K mg base 2 "_law_wide" ["_law_names_here", "_law_adds", "_law_goal", "_law_pick"] (Yz K 30 203 3 4 9 9)) (RL:Fn P w K mg base 2 "_law_long" ["_law_names_here", "_law_adds", "_law_goal", "_law_pick"] (Yz K 9 33 4 1 9 9)) (RS:Fn P w K mg base 10 "_law_spoiled" ["_law_term", "_law_name", "_law_number"] (Ue K 9)) (R1:Fn P w K mg base 14 "_law_one" ["_law_names_here", "_law_term", "_law_at_start"] (M8 K 12)) (RR:Fn P w K mg base 173 "_law_right" ["_law_one_here", "_law_other", "_law_odd"] (Xq K T)):FnOk P w K mg base CX0 174 f fd ["_law_script"] (Gr K T):=by
 refine F.ok Q5 (13:) (3:)
 ·obtain ⟨a,ns,rfl,_⟩:=h
  rfl
 obtain ⟨a,ns,rfl,hS,_,hT,q⟩:=h
 have tb:TbS H T pL qL:=.inl hT
 have room:∀ m:Nat,m≤64→(A.deeper (PyProof.Rows.envOfC "law" (defScope Wr) s.heap.objs.size f cdv)).units + m < cLine:=fun m hm=>by have:=hr.units;lia
 refine WS.read (Qx (Zn (Qp (i:=1) Q5.nd rfl (Or.inr rfl) (Qt RN hr (Qa (Qt RC hr (Qa (pv 0) (Qa (Qb) Qe))) Qe))))
  (Qx (Zn (Qp (i:=2) Q5.nd rfl (12:) (Qt RX hr (Qa (Qt RC hr (Qa (pv 0) (Qa (Qb) Qe))) (Qa (Qb) Qe)))))
  (Qx (Zn (Gh (i:=3) (CompG.many (xs:=["_law_k"]) (caps:=["_law_script"]) (cap:=[0]) (cs:=[_]) rfl rfl (0:) (0:) (0:) (0:) (0:) (0:) rfl rfl rfl) rfl (Zp rfl G.rng (Qa (Qb) Qe)) (ZL (CompG.many (xs:=["_law_k"]) (caps:=["_law_script"]) (cap:=[0]) (cs:=[_]) rfl rfl (0:) (0:) (0:) (0:) (0:) (0:) rfl rfl rfl)) (fun _ _ _ _=>Q6) (fun _ _ _ _=>Qt RG hr (Qa (Qt RC hr (Qa (pv 1) (Qa (Qo QR Qb (pv 0)) Qe))) Qe)) Q5.nd rfl rfl))
  (Qx (OK (Vg (QA Zw (Qo QN (pv 2) Qb) Qb (Qz _)) (Qx (ZV (i:=4) Q5.nd rfl (12:) (w_e (Qg Qn (WE.h ((Ym (Qc (w_e (Qo QR Qb (Qo QN (Qo Q1 (pv 2) Qb) Qb))) (Qc (w_e (Qo QR Qb (Qo QN (Qo Q1 (pv 2) Qb) Qb))) Qm))))) (Qo Q1 (Qo QN (Qo Q1 (pv 2) Qb) Qb) Qb) (2:))))
  (Zs (Zn (Us (Qt RW hr (Qa (pv 1) (Qa (pv 3) (Qa (pv 4) (Qa (Qo QN (Qo Q1 (pv 2) Qb) Qb) Qe))))) (Zt rfl (Qv (Qr (i:=5) Q5.nd rfl (12:)) (Qv (Qr (i:=6) Q5.nd rfl (12:)) (Qv (Qr (i:=7) Q5.nd rfl (12:)) (Qv (Qr (i:=8) Q5.nd rfl (12:)) Za))))))))) (Qx (ZV (i:=4) Q5.nd rfl (12:) (w_e (Qg Qn (WE.h ((Ym (Qc (w_e (Qo QR Qb (Qo QN (Qo Q1 (pv 2) Qb) Qb))) (Qc (w_e (Qo QR Qb (Qo QN (Qo Q1 (pv 2) Qb) Qb))) Qm))))) (Qo Q1 (Qo QN (Qo Q1 (pv 2) Qb) Qb) Qb) (2:))))
  (Zs (Zn (Us (Qt RL hr (Qa (pv 1) (Qa (pv 3) (Qa (pv 4) (Qa (Qo QN (Qo Q1 (pv 2) Qb) Qb) Qe))))) (Zt rfl (Qv (Qr (i:=5) Q5.nd rfl (12:)) (Qv (Qr (i:=6) Q5.nd rfl (12:)) (Qv (Qr (i:=7) Q5.nd rfl (12:)) (Qv (Qr (i:=8) Q5.nd rfl (12:)) Za)))))))))))
  (Qx (Zn (Qp (i:=9) Q5.nd rfl (12:) (QP Q2 rfl G.tup PyProof.Rows.boot_tuple (Qa (QT (CompG.many (xs:=["_law_k"]) (caps:=["_law_names_here"]) (cap:=[1]) (cs:=[_]) rfl rfl (0:) (0:) (0:) (0:) (0:) (0:) rfl rfl rfl) rfl (Zp rfl G.rng (Qa (pv 5) Qe)) (ZL (CompG.many (xs:=["_law_k"]) (caps:=["_law_names_here"]) (cap:=[1]) (cs:=[_]) rfl rfl (0:) (0:) (0:) (0:) (0:) (0:) rfl rfl rfl)) (fun _ _ _ _=>Q6) (fun _ _ _ _=>Qg (r:=Ri K) Qn (pv 1) Qb (2:))) Qe))))
  (Qx (ZV (i:=10) Q5.nd rfl (12:) (w_e (Qw (Uf (room 4 (by decide))) rfl G.srt PyProof.Rows.boot_sorted (WA.h (Qc ((Ym (Qc ((Qy (Qc (w_e (Qg Qn (pv 1) Qb (2:))) (Qc (Qy Qm) Qm)))) (Qc ((Qy (Qc (w_e (Qg Qn (pv 1) Qb (2:))) (Qc (w_e (pv 9)) Qm)))) Qm)))) Qm)))))
  (Qx (ZV (i:=11) Q5.nd rfl (12:) ((Ym (Qc (w_e (pv 6)) (Qc (w_e (pv 7)) Qm)))))
  (Qx (Zn (Yk (QM (QA JN (Qg Qn (pv 1) Qb (2:)) (Qg Qn (pv 1) Qb (2:)) (Qz _)) (Qk (Qp (i:=11) Q5.nd rfl (12:) (QZ (Qa (pv 7) (Qa (pv 6) Qe))))) Qu)))
  (Qx (ZV (i:=12) Q5.nd rfl (12:) ((Qy (Qc ((Ym (Qc ((Qy (Qc (w_e (Qg Qn (pv 1) Qb (2:))) (Qc (w_e (pv 10)) Qm)))) Qm))) (Qc ((Qy (Qc (w_e Qs) (Qc (w_e Qb) (Qc (w_e Qb) Qm))))) (Qc ((Ym (Qc ((Qy (Qc (w_e (Qg Qn (pv 1) Qb (2:))) (Qc (w_e (pv 11)) Qm)))) Qm))) Qm))))))
  (Qx (Zn (Qp (i:=13) Q5.nd rfl (12:) (Zr Zw (Qo QN (Qt RC hr (Qa (pv 0) (Qa (Qb) Qe))) Qb) Qb (Qz _))))
  (Qx (Zn (Qp (i:=14) Q5.nd rfl (12:) (Zr Zw (Qo QN (Qt RC hr (Qa (pv 0) (Qa (Qb) Qe))) Qb) Qb (Qz _))))
  (Qx (OK (Vg (QV (pv 13)) (Qx (Zn (Qp (i:=15) Q5.nd rfl (12:) (Qt RS hr (WA.h (Qc (w_e (pv 8)) (Qc (w_e (Qg Qn (pv 1) Qb (2:))) (Qc (w_e (Qt RX hr (Qa (Qt RC hr (Qa (pv 0) (Qa (Qb) Qe))) (Qa (Qb) Qe)))) Qm)))))))
  (Zs (Vg (ZD (QV (Qt RR hr (WA.h (Qc (w_e (Qt R1 hr (WA.h (Qc (w_e (pv 1)) (Qc (w_e (pv 15)) (Qc (w_e (pv 14)) Qm)))))) (Qc (w_e (pv 12)) (Qc (w_e QO) Qm))))))) (Zs (YV (w_e QO))) J3))) J3))
  (Qx (Vg (ZD (QV (Qt RR hr (WA.h (Qc (w_e (Qt R1 hr (WA.h (Qc (w_e (pv 1)) (Qc (w_e (pv 8)) (Qc (w_e (pv 14)) Qm)))))) (Qc (w_e (pv 12)) (Qc (w_e QO) Qm))))))) (Zs (YV (w_e QO))) J3)
  (Zs (Zn (Qq (Qt RR hr (WA.h (Qc (w_e (Qt R1 hr (WA.h (Qc (w_e (pv 1)) (Qc ((Qy (Qc (w_e Qs) (Qc (w_e (Qg Qn (pv 1) Qb (2:))) (Qc (w_e QO) (Qc (w_e Qb) (Qc (Qy Qm) Qm))))))) (Qc (w_e (pv 14)) Qm)))))) (Qc (w_e (pv 12)) (Qc (w_e QO) Qm))))))))))))))))))))) ?_
 try dsimp only [QB,Cx.nox]
 refine SM fun B hB=>?_
 refine ⟨_,rfl,a,ns,0,rfl,by decide,hS,fun c0=>⟨c0,rfl,fun l1 H1 N1 g1 hl1 len1 nd1 ok1=>?_⟩⟩
 obtain ⟨n0,n1,kd,ko,e0,e1,o0,o1,rfl⟩:=ln8 len1
 have N:∀ {H':Hp},SameX T H1 H'→SqL K H' l1 [.str n0,.str n1,.str kd,.str ko,.str e0,.str e1,.str o0,.str o1]:=fun g=>SqL.of (g _ _ (fun z=>by rw [z,g1 _ _ hT] at hl1;cases hl1) hl1)
 have ne1:n0≠n1:=fun z=>by simp [z] at nd1
 have ne2:e0≠e1:=fun z=>by simp [z] at nd1
 have ne3:e0≠o0:=fun z=>by simp [z] at nd1
 have ne4:e1≠o0:=fun z=>by simp [z] at nd1
 have okn:∀ x ∈ [n0,n1,kd,ko,e0,e1,o0,o1],PyData.strOk x=true:=ok1
 have hT1:H1 T=some (.tbl #[]):=g1 _ _ hT
 have Sc:∀ {H':Hp},SameX T H1 H'→SqL K H' a (ns.map V.int):=fun g=>(KeepS.tb (K:=K) hT1 g).l _ _ (g1.seq hS)
 show QJ 1 (.ref l1) [some (.ref a),none,none,none,none,none,none,none,none,none,none,none,none,none,none,none] H1 _
 refine UR (B:=B) hB fun B hB=>?_
 refine ⟨_,rfl,a,ns,1,rfl,by decide,g1.seq hS,fun c1=>⟨c1,2,rfl,by decide,by decide,fun num hn0 hnM=>?_⟩⟩
 show QJ 2 (.int num) [some (.ref a),some (.ref l1),none,none,none,none,none,none,none,none,none,none,none,none,none,none] H1 _
 refine UR (B:=B) hB fun B hB=>?_
 refine ⟨4,rfl,by decide,by decide,fun l3 hl3=>?_⟩
 refine Yp (lo:=0) (n:=4) (cs:=[some (.ref a)]) (tt:=fun _ H Q=>Q true H) (fun j ys H'=>∃ as:List Int,ys=as.map V.int∧as.length=j∧H' l3=some (.lst ys)∧Same H1 H')
  ⟨[],rfl,rfl,Qd,Qf hl3 _⟩ ?_ ?_
 ·rintro j ys H' hj ⟨as,rfl,hal,hy,g⟩
  refine Q8 ⟨_,rfl,_,rfl,_,_,rfl,rfl,a,ns,_,rfl,by lia,Sc (SameX.of g),fun c=>⟨c,rfl,fun x=>?_⟩⟩
  refine QK hj hy (by rw [List.length_map];lia) ⟨as ++ [x],by simp,by simp [hal],Qd,fun z u e=>?_⟩
  rw [Ql (Qj e hl3)];exact g _ _ e
 rintro ys H2 ⟨as,rfl,hal,hl33,g2⟩
 obtain ⟨a0,a1,a2,a3,rfl⟩:=S9 hal
 show QJ 3 (.ref l3) [some (.ref a),some (.ref l1),some (.int num),none,none,none,none,none,none,none,none,none,none,none,none,none] H2 _
 refine UR (B:=B) hB fun B hB=>?_
 have A3:∀ {H':Hp},Same H2 H'→SqL K H' l3 [.int a0,.int a1,.int a2,.int a3]:=fun g=>SqL.of (g _ _ hl33)
 refine ⟨fun σ' H'=>∃ (goal:Int) (wn:Nat) (v1 v2 v3:V) (bare full t:Tm),σ'=[some (.ref a),some (.ref l1),some (.int num),some (.ref l3),some (.int goal),some (.int (wn:Int)),some (v1),some (v2),some (v3),none,none,none,none,none,none,none]∧Same H2 H'∧TmV K H' v1 bare∧TmV K H' v2 full∧TmV K H' v3 t∧Yc 0 9 bare∧Yc wn 9 full∧Kp e0 e1 wn 9 t∧wn≤4,?_,?_⟩
 ·refine ⟨_,rfl,_,_,rfl,rfl,(by show (0:Int) < 2;decide),rfl,_,rfl,XI (fun _=>?_) (fun _=>?_)⟩
  ·refine ⟨_,rfl,_,_,rfl,rfl,⟨by decide,by decide⟩,_,_,rfl,rfl,(by show (0:Int) < 6;decide),_,_,rfl,rfl,_,rfl,_,_,rfl,rfl,⟨by decide,by decide⟩,_,_,rfl,rfl,(by show (0:Int) < 150;decide),_,_,rfl,rfl,(9:),?_⟩
   intro lg hp_;generalize hX_:upd _ lg _=HG;have gG:=sT hp_ hX_;have bG:=fL hX_;clear hX_ hp_
   refine ⟨_,rfl,_,_,rfl,rfl,⟨by decide,by decide⟩,_,_,rfl,rfl,(by show (0:Int) < 4;decide),_,_,rfl,rfl,⟨by decide,by decide⟩,?_⟩
   obtain ⟨goal,hg,h30,h203⟩ : ∃ goal:Int,atI [V.int (198 + num / 2 % 6),V.int (30 + num / 2 % 150)] (num / 64 % 4 / 3)=some (.int goal)∧30≤goal∧goal≤203:=by
    have:num / 64 % 4 / 3=0∨num / 64 % 4 / 3=1:=by lia
    rcases this with z | z <;> rw [z]
    ·exact ⟨_,rfl,by lia,by lia⟩
    ·exact ⟨_,rfl,by lia,by lia⟩
   refine ⟨lg,_,_,_,rfl,rfl,SqL.of bG,hg,?_⟩
   have g2G:=gG
   refine ⟨_,rfl,_,rfl,_,rfl,_,rfl,_,_,rfl,rfl,⟨by decide,by decide⟩,_,_,rfl,rfl,(by show (0:Int) < 4;decide),?_⟩
   refine ⟨l1,l3,n0,n1,kd,ko,e0,e1,o0,o1,a0,a1,a2,a3,goal,num / 512 % 4,rfl,N (SameX.of (g2.trans gG)),A3 gG,okn,h30,h203,by lia,by lia,fun r v1 v2 v3 bare full t H' g hr' hv1 hv2 hv3 hb hf hk=>?_⟩
   exact ⟨r,_,rfl,hr',rfl,_,_,rfl,_,_,rfl,_,_,rfl,_,_,rfl,rfl,goal,4,v1,v2,v3,bare,full,t,rfl,gG.trans g,hv1,hv2,hv3,hb,hf,hk,by decide⟩
  ·refine ⟨_,rfl,_,_,rfl,rfl,⟨by decide,by decide⟩,_,_,rfl,rfl,(by show (0:Int) < 6;decide),_,_,rfl,rfl,_,rfl,_,_,rfl,rfl,⟨by decide,by decide⟩,_,_,rfl,rfl,(by show (0:Int) < 20;decide),_,_,rfl,rfl,(9:),?_⟩
   intro lg hp_;generalize hX_:upd _ lg _=HG;have gG:=sT hp_ hX_;have bG:=fL hX_;clear hX_ hp_
   refine ⟨_,rfl,_,_,rfl,rfl,⟨by decide,by decide⟩,_,_,rfl,rfl,(by show (0:Int) < 4;decide),_,_,rfl,rfl,⟨by decide,by decide⟩,?_⟩
   obtain ⟨goal,hg,h9,h33⟩ : ∃ goal:Int,atI [V.int (28 + num / 2 % 6),V.int (9 + num / 2 % 20)] (num / 64 % 4 / 3)=some (.int goal)∧9≤goal∧goal≤33:=by
    have:num / 64 % 4 / 3=0∨num / 64 % 4 / 3=1:=by lia
    rcases this with z | z <;> rw [z]
    ·exact ⟨_,rfl,by lia,by lia⟩
    ·exact ⟨_,rfl,by lia,by lia⟩
   refine ⟨lg,_,_,_,rfl,rfl,SqL.of bG,hg,?_⟩
   have g2G:=gG
   refine ⟨_,rfl,_,rfl,_,rfl,_,rfl,_,_,rfl,rfl,⟨by decide,by decide⟩,_,_,rfl,rfl,(by show (0:Int) < 5;decide),?_⟩
   refine ⟨l1,l3,n0,n1,kd,ko,e0,e1,o0,o1,a0,a1,a2,a3,goal,num / 512 % 5,rfl,N (SameX.of (g2.trans gG)),A3 gG,okn,h9,h33,by lia,by lia,fun r v1 v2 v3 bare full t H' g hr' hv1 hv2 hv3 hb hf hk=>?_⟩
   exact ⟨r,_,rfl,hr',rfl,_,_,rfl,_,_,rfl,_,_,rfl,_,_,rfl,rfl,goal,1,v1,v2,v3,bare,full,t,rfl,gG.trans g,hv1,hv2,hv3,hb,hf,hk,by decide⟩
 rintro _ H3 ⟨goal,wn,v1,v2,v3,bare,full,t,rfl,g3,hv1,hv2,hv3,hb,hf,hk,hw⟩
 refine UR (B:=B) hB fun B hB=>?_
 have g13:=g2.trans g3
 refine ⟨_,rfl,_,rfl,by lia,by lia,fun lc hlc=>?_⟩
 refine Yp (lo:=0) (n:=((wn:Nat):Int).toNat) (cs:=[some (.ref l1)]) (tt:=fun _ H Q=>Q true H) (fun j ys H'=>ys=List.replicate j (V.str ko)∧H' lc=some (.lst ys)∧Same H3 H')
  ⟨rfl,Qd,Qf hlc _⟩ ?_ ?_
 ·rintro j ys H' hj ⟨rfl,hy,g⟩
  refine Q8 ⟨_,rfl,l1,_,3,_,rfl,rfl,N (SameX.of (g13.trans g)),rfl,?_⟩
  refine QK hj hy (by rw [List.length_replicate];lia) ⟨by rw [List.replicate_succ'],Qd,fun z u e=>?_⟩
  rw [Ql (Qj e hlc)];exact g _ _ e
 rintro ys H4 ⟨rfl,hy,g4⟩
 rw [Int.toNat_natCast] at hy
 refine ⟨lc,_,rfl,.inl ⟨SqL.of hy,?_⟩⟩
 intro lb hp_;generalize hX_:upd _ lb _=H5;have g5:=sT hp_ hX_;have b5:=fT (K:=K) hX_;clear hX_ hp_
 have b5:SqT K H5 lb ((List.replicate wn ko).map V.str):=by rw [List.map_replicate];exact b5
 show QJ 9 (.ref lb) [some (.ref a),some (.ref l1),some (.int num),some (.ref l3),some (.int goal),some (.int (wn:Int)),some (v1),some (v2),some (v3),none,none,none,none,none,none,none] H5 _
 refine UR (B:=B) hB fun B hB=>?_
 have g15:=g13.trans (g4.trans g5)
 have hv1:=tmS (g4.trans g5) hv1
 have hv2:=tmS (g4.trans g5) hv2
 have hv3:=tmS (g4.trans g5) hv3
 refine ⟨_,rfl,l1,_,4,_,rfl,rfl,N (SameX.of g15),rfl,(17:),?_⟩
 intro pB1 hp_;generalize hX_:upd _ pB1 _=XB1;have wB1:=sT hp_ hX_;have bB1:=fT (K:=K) hX_;clear hX_ hp_
 refine ⟨(9:),?_⟩
 intro pB2 hp_;generalize hX_:upd _ pB2 _=XB2;have wB2:=sT hp_ hX_;have bB2:=fT (K:=K) hX_;clear hX_ hp_
 have cB2:=g15.trans (wB1.trans wB2)
 refine ⟨_,rfl,l1,_,5,_,rfl,rfl,N (SameX.of cB2),rfl,_,rfl,(9:),?_⟩
 intro pB4 hp_;generalize hX_:upd _ pB4 _=XB4;have wB4:=sT hp_ hX_;have bB4:=fT (K:=K) hX_;clear hX_ hp_
 refine ⟨(9:),?_⟩
 intro pB5 hp_;generalize hX_:upd _ pB5 _=XB5;have wB5:=sT hp_ hX_;have bB5:=fL hX_;clear hX_ hp_
 have rB0:RowAt K XB5 (pB2,e0,pB1,[]):=⟨(wB4.trans wB5).seqT bB2,(wB2.trans (wB4.trans wB5)).seqT bB1⟩
 have rB1:RowAt K XB5 (pB4,e1,lb,List.replicate wn ko):=⟨wB5.seqT bB4,(wB1.trans (wB2.trans (wB4.trans wB5))).seqT b5⟩
 refine ⟨pB5,[(pB2,e0,pB1,[]),(pB4,e1,lb,List.replicate wn ko)],rfl,SqL.of bB5,fun t ht=>?_,by simpa using ne2,by simp,fun outB qB hpermB hpwB hqB=>?_⟩
 ·simp only [List.mem_cons,List.mem_nil_iff,or_false] at ht
  rcases ht with rfl | rfl
  ·exact ⟨rB0.1,rB0.2,fun x hx=>(nomatch hx)⟩
  ·exact ⟨rB1.1,rB1.2,fun x hx=>by
    rw [List.eq_of_mem_replicate hx];exact okn _ (by simp)⟩
 have eoutB:=SA hpermB hpwB ne2
 subst eoutB
 revert hqB
 revert qB
 intro qB hp_;generalize hX_:upd _ qB _=XB6;have wB6:=sT hp_ hX_;have bB6:=fL hX_;clear hX_ hp_
 have wB:=wB1.trans (wB2.trans (wB4.trans (wB5.trans wB6)))
 have dB:∀ t ∈ two (ltS e0 e1) ((pB2,e0,pB1,[]):PNx) (pB4,e1,lb,List.replicate wn ko),RowAt K XB6 t:=fun t ht=>by
  rcases Zi ht with rfl | rfl
  ·exact rB0.same wB6
  ·exact rB1.same wB6
 clear rB0 rB1 bB1 bB2 bB4 bB5 hpermB hpwB
 show QJ 10 (.ref qB) [some (.ref a),some (.ref l1),some (.int num),some (.ref l3),some (.int goal),some (.int (wn:Int)),some (v1),some (v2),some (v3),some (.ref lb),none,none,none,none,none,none] XB6 _
 refine UR (B:=B) hB fun B hB=>?_
 have g16:=g15.trans wB
 have hv1:=tmS wB hv1
 have hv2:=tmS wB hv2
 have hv3:=tmS wB hv3
 refine ⟨_,rfl,_,rfl,(9:),fun lq hlq=>?_⟩
 show QJ 11 (.ref lq) [some (.ref a),some (.ref l1),some (.int num),some (.ref l3),some (.int goal),some (.int (wn:Int)),some (v1),some (v2),some (v3),some (.ref lb),some (.ref qB),none,none,none,none,none] _ _
 refine UR (B:=B) hB fun B hB=>?_
 refine ⟨fun σ' H'=>∃ lr,σ'=[some (.ref a),some (.ref l1),some (.int num),some (.ref l3),some (.int goal),some (.int (wn:Int)),some (v1),some (v2),some (v3),some (.ref lb),some (.ref qB),some (.ref lr),none,none,none,none]∧Same XB6 H'∧H' lr=some (.lst (two (ltS e0 e1) v1 v2)),?_,?_⟩
 ·have kl:=Qf hlq (.lst [v1,v2])
  have gl:=g16.trans kl
  refine ⟨_,rfl,l1,_,5,_,rfl,rfl,N (SameX.of gl),rfl,_,rfl,l1,_,4,_,rfl,rfl,N (SameX.of gl),rfl,_,_,rfl,rfl,_,rfl,?_⟩
  have lt:=Mr (a:=e0) (b:=e1) ne2
  by_cases hlt:e1.cps.toList < e0.cps.toList
  ·rw [show ltS e1 e0=true from decide_eq_true hlt] at lt
   refine Z9 hlt ⟨_,rfl,_,rfl,(9:),fun l2 hl2=>⟨l2,rfl,kl.trans (Qf hl2 _),?_⟩⟩
   rw [← lt];exact Qd
  ·rw [show ltS e1 e0=false from decide_eq_false hlt] at lt
   refine Z0 hlt ⟨lq,rfl,kl,?_⟩
   rw [← lt];exact Qd
 rintro σ H6 ⟨lr,rfl,g6,hlr⟩
 refine UR (B:=B) hB fun B hB=>?_
 have s6:=g16.trans g6
 refine ⟨_,rfl,l1,_,3,_,rfl,rfl,N (SameX.of s6),rfl,_,rfl,(9:),?_⟩
 intro tB hp_;generalize hX_:upd _ tB _=Z1;have z1:=sT hp_ hX_;have y1:=fT (K:=K) hX_;clear hX_ hp_
 refine ⟨(by show 1≤sizeLine;decide),?_⟩
 intro lwB hp_;generalize hX_:upd _ lwB _=Z2;have z2:=sT hp_ hX_;have y2:=fL hX_;clear hX_ hp_
 refine ⟨(16:),?_⟩
 intro pd hp_;generalize hX_:upd _ pd _=Z3;have z3:=sT hp_ hX_;have y3:=fT (K:=K) hX_;clear hX_ hp_
 have s7:=s6.trans (z1.trans (z2.trans z3))
 refine ⟨_,rfl,l1,_,3,_,rfl,rfl,N (SameX.of s7),rfl,_,rfl,(9:),?_⟩
 intro am hp_;generalize hX_:upd _ am _=Z4;have z4:=sT hp_ hX_;have y4:=fT (K:=K) hX_;clear hX_ hp_
 refine ⟨(by show 1≤sizeLine;decide),?_⟩
 intro lm hp_;generalize hX_:upd _ lm _=Z5;have z5:=sT hp_ hX_;have y5:=fL hX_;clear hX_ hp_
 refine ⟨(16:),?_⟩
 intro ot hp_;generalize hX_:upd _ ot _=Z6;have z6:=sT hp_ hX_;have y6:=fT (K:=K) hX_;clear hX_ hp_
 have z46:=z4.trans (z5.trans z6)
 have z36:=z3.trans z46
 have z26:=z2.trans z36
 have zB:=z1.trans z26
 have zH:=g6.trans zB
 have g1Z:Same H1 Z6:=s6.trans zB
 have hTu:TuAt K Z6 ot lwB (.ref pd) lm [(tB,ko,qB,two (ltS e0 e1) (pB2,e0,pB1,[]) (pB4,e1,lb,List.replicate wn ko))] (QW 0 0) [(am,ko,lr,two (ltS e0 e1) v1 v2,two (ltS e0 e1) bare full)]:=XM y6 (.call (z46.seqT y3)) (z36 _ _ y2) (z26.seqT y1) (zH _ _ bB6) (fun t ht=>(dB t ht).same zH) (z6 _ _ y5) fun m hm=>by
  obtain rfl:=List.mem_singleton.mp hm
  exact ⟨(z5.trans z6).seqT y4,zB _ _ hlr,V5 (tmS zH hv1) (tmS zH hv2)⟩
 have S2:Sec K Z6 ot lwB lm (.ref pd) _ _ bare full wn 9 ko e0 e1:=⟨hTu,⟨_,_,_,_,_,_,rfl⟩,⟨_,_,_,rfl⟩,hb,hf,ne2,hw,by decide,by decide,okn _ (by simp),okn _ (by simp),okn _ (by simp)⟩
 have hv3:=tmS zH hv3
 revert S2
 generalize [(tB,ko,qB,two (ltS e0 e1) ((pB2,e0,pB1,[]):PNx) (pB4,e1,lb,List.replicate wn ko))]=ks2
 generalize [(am,ko,lr,two (ltS e0 e1) v1 v2,two (ltS e0 e1) bare full)]=ms2
 intro S2
 show QJ 12 (.ref ot) [some (.ref a),some (.ref l1),some (.int num),some (.ref l3),some (.int goal),some (.int (wn:Int)),some (v1),some (v2),some (v3),some (.ref lb),some (.ref qB),some (.ref lr),none,none,none,none] Z6 _
 refine UR (B:=B) hB fun B hB=>?_
 clear hTu dB y1 y2 y3 y4 y5 y6 bB6 hlr hlq hlc hv1 hv2
 refine ⟨_,rfl,a,ns,2,rfl,by decide,Sc (SameX.of g1Z),fun c2=>⟨_,_,rfl,rfl,(by show (0:Int) < 4;decide),rfl,?_⟩⟩
 generalize decide (V.int (c2 % 4)=V.int 1)=odd
 show QJ 13 (.bl odd) [some (.ref a),some (.ref l1),some (.int num),some (.ref l3),some (.int goal),some (.int (wn:Int)),some (v1),some (v2),some (v3),some (.ref lb),some (.ref qB),some (.ref lr),some (.ref ot),none,none,none] Z6 _
 refine UR (B:=B) hB fun B hB=>?_
 refine ⟨_,rfl,a,ns,3,rfl,by decide,Sc (SameX.of g1Z),fun c3=>⟨_,_,rfl,rfl,(by show (0:Int) < 2;decide),rfl,?_⟩⟩
 generalize decide (V.int (c3 % 2)=V.int 1)=st
 show QJ 14 (.bl st) [some (.ref a),some (.ref l1),some (.int num),some (.ref l3),some (.int goal),some (.int (wn:Int)),some (v1),some (v2),some (v3),some (.ref lb),some (.ref qB),some (.ref lr),some (.ref ot),some (.bl odd),none,none] Z6 _
 refine UR (B:=B) hB fun B hB=>?_
 have hTZ:Z6 T=some (.tbl #[]):=g1Z _ _ hT1
 have hp9:Zm 9 t:=U3 (okn _ (by simp)) (okn _ (by simp)) (10:) 9 t hk
 have p12:∀ {u:Tm},Zm 9 u→Zm 12 u:=fun h=>Yv h (by decide)
 refine ⟨fun σ' H'=>∃ bd:Option V,σ'=[some (.ref a),some (.ref l1),some (.int num),some (.ref l3),some (.int goal),some (.int (wn:Int)),some (v1),some (v2),some (v3),some (.ref lb),some (.ref qB),some (.ref lr),some (.ref ot),some (.bl odd),some (.bl st),bd]∧SameX T Z6 H'∧TbS H' T pL qL,?_,?_⟩
 ·refine ⟨_,rfl,odd,rfl,?_⟩
  cases odd with
  | false=>exact Zh ⟨none,rfl,SameX.refl _ _,.inl hTZ⟩
  | true =>
   refine Q8 ⟨_,rfl,_,rfl,l1,_,6,_,rfl,rfl,N (SameX.of g1Z),rfl,_,rfl,a,ns,2,rfl,by decide,Sc (SameX.of g1Z),fun c4=>⟨c4,4,rfl,by decide,by decide,fun num2 _ _=>⟨v3,t,o0,num2,rfl,hv3,hp9,by decide,fun bd t' H7 g7 hbd hsp=>?_⟩⟩⟩
   obtain ⟨hbad,hpb⟩:=JR (okn _ (by simp)) (okn _ (by simp)) (okn _ (by simp)) (10:) 9 t t' hk hsp
   show QJ 15 bd [some (.ref a),some (.ref l1),some (.int num),some (.ref l3),some (.int goal),some (.int (wn:Int)),some (v1),some (v2),some (v3),some (.ref lb),some (.ref qB),some (.ref lr),some (.ref ot),some (.bl true),some (.bl st),none] H7 _
   have g1b:=g1Z.trans g7
   refine ⟨_,rfl,_,rfl,_,rfl,l1,n0,n1,kd,ko,e0,e1,o0,o1,bd,t',st,rfl,N (SameX.of g1b),ne1,okn,hbd,p12 hpb,fun on wd1 lm1 sv1 ks1 ms1 t1 H8 g8 hTu1 hOne=>?_⟩
   have S28:=S2.keep (KeepS.same (g7.trans g8))
   have S1:Fst K H8 on wd1 lm1 sv1 ks1 t1 ms1 st kd n0 n1 e0 t':=⟨hTu1,hOne,p12 hpb,ne1,okn _ (by simp),okn _ (by simp),okn _ (by simp)⟩
   have hT8:H8 T=some (.tbl #[]):=(g7.trans g8) _ _ hTZ
   refine ⟨_,rfl,on,ot,wd1,lwB,lm1,lm,sv1,.ref pd,ks1,ks2,t1,ms1,ms2,bare,full,wn,9,9,ko,e0,e1,o0,st,kd,n0,n1,t',true,rfl,.inl hT8,S28,S1,fun _=>⟨hbad,ne3,ne4⟩,fun z=>(nomatch z),fun H9 x9 tb9=>?_⟩
   exact ⟨_,rfl,Zh ⟨some bd,rfl,(SameX.of (g7.trans g8)).trans x9,tb9⟩⟩
 rintro _ H7 ⟨bd,rfl,x7,tb7⟩
 refine UR (B:=B) hB fun B hB=>?_
 obtain ⟨ps7,hT7⟩:=tb7.at
 have k7:=KeepS.tb (K:=K) hTZ x7
 have S27:=S2.keep k7
 have hv7:TmV K H7 v3 t:=hv3.mono fun _ _ h=>k7.t _ _ h
 have x17:SameX T H1 H7:=(SameX.of g1Z).trans x7
 refine ⟨_,rfl,_,rfl,_,rfl,l1,n0,n1,kd,ko,e0,e1,o0,o1,v3,t,st,rfl,N x17,ne1,okn,hv7,p12 hp9,fun on wd1 lm1 sv1 ks1 ms1 t1 H8 g8 hTu1 hOne=>?_⟩
 have S28:=S27.keep (KeepS.same g8)
 have S1:Fst K H8 on wd1 lm1 sv1 ks1 t1 ms1 st kd n0 n1 e0 t:=⟨hTu1,hOne,p12 hp9,ne1,okn _ (by simp),okn _ (by simp),okn _ (by simp)⟩
 refine ⟨_,rfl,on,ot,wd1,lwB,lm1,lm,sv1,.ref pd,ks1,ks2,t1,ms1,ms2,bare,full,wn,9,9,ko,e0,e1,o0,st,kd,n0,n1,t,false,rfl,tb7.same g8,S28,S1,fun z=>(nomatch z),fun _=>⟨hk,Nat.le_refl _⟩,fun H9 x9 tb9=>⟨_,rfl,Zh ?_⟩⟩
 refine SQ (B:=B) hB ?_
 obtain ⟨ps8,hT8⟩:=(tb7.same g8).at
 have S29:=S28.keep (KeepS.tb (K:=K) hT8 x9)
 have x19:SameX T H1 H9:=x17.trans ((SameX.of g8).trans x9)
 refine ⟨_,rfl,_,rfl,l1,_,4,_,rfl,rfl,N x19,rfl,(17:),?_⟩
 intro pE hp_;generalize hX_:upd _ pE _=HA;have gA:=sT hp_ hX_;have dA:=fT (K:=K) hX_;clear hX_ hp_
 refine ⟨(by show 5≤sizeLine;decide),?_⟩
 intro pF hp_;generalize hX_:upd _ pF _=HB;have gB:=sT hp_ hX_;have dB:=fT (K:=K) hX_;clear hX_ hp_
 have gAB:=gA.trans gB
 have kL:Kp e0 e1 wn 9 (QH e0 false 3 []):=.inl ⟨_,_,rfl⟩
 have pL9:Zm 9 (QH e0 false 3 []):=U3 (okn _ (by simp)) (okn _ (by simp)) (10:) 9 _ kL
 refine ⟨_,rfl,l1,n0,n1,kd,ko,e0,e1,o0,o1,.ref pF,QH e0 false 3 [],st,rfl,N (x19.trans (SameX.of gAB)),ne1,okn,.put dB (gB.seqT dA) .nil (by simp),p12 pL9,fun onC wdC lmC svC ksC msC tC HC gC hTuC hOneC=>?_⟩
 have S2C:=S29.keep (KeepS.same (gAB.trans gC))
 have S1C:Fst K HC onC wdC lmC svC ksC tC msC st kd n0 n1 e0 (QH e0 false 3 []):=⟨hTuC,hOneC,p12 pL9,ne1,okn _ (by simp),okn _ (by simp),okn _ (by simp)⟩
 exact ⟨_,rfl,onC,ot,wdC,lwB,lmC,lm,svC,.ref pd,ksC,ks2,tC,msC,ms2,bare,full,wn,9,9,ko,e0,e1,o0,st,kd,n0,n1,_,false,rfl,tb9.same (gAB.trans gC),S2C,S1C,fun z=>(nomatch z),fun _=>⟨kL,Nat.le_refl _⟩,fun HD xD tbD=>q HD⟩
end
end K68
namespace K68
open PySem L2
theorem all_mk {c1 T1:Addr} {l:PySem.W.OpenLaw} {w:World} {K:Fg} {h:Heap} {mg:Str→Option Value} {fa:Addr} (X:K.In h) (N:h.Ns mainGlobals mg) (hfa:mg "law" = some (.ref fa))
 (d1:DefAt K "is_call" PB) (d2:DefAt K "calls_of" sCO) (d3:DefAt K "with_modes" Ji) (d4:DefAt K "with_parts" Vc) (d5:DefAt K "own_wood" PH) (d6:DefAt K "rows_of" XT) (d7:DefAt K "as_met" Xu) (d8:DefAt K "number_calls" Gu) (d9:DefAt K "numbered_mode" MH) (d10:DefAt K "row_above" Vy) (d11:DefAt K "strays_at_all" P3) (d12:DefAt K "levels_needed" OT) (d13:DefAt K "rule_of" Wc) (d14:DefAt K "behind" Yy) (d15:DefAt K "mode_behind" Wd) (d16:DefAt K "_law_cell_at" Lp) (d17:DefAt K "_law_mixed" W5) (d18:DefAt K "_law_names" Vd) (d19:DefAt K "_law_great" Vm) (d20:DefAt K "_law_rule" MV) (d21:DefAt K "_law_whole" Vk) (d22:DefAt K "_law_is_term" Mg) (d23:DefAt K "_law_same" Gs) (d24:DefAt K "_law_leaves" XN) (d25:DefAt K "_law_chain" Ve) (d26:DefAt K "_law_wide" LZ) (d27:DefAt K "_law_long" LS) (d28:DefAt K "_law_plain" JH) (d29:DefAt K "_law_spoiled" ZW) (d30:DefAt K "_law_on" sOn) (d31:DefAt K "_law_measure" Yl) (d32:DefAt K "_law_one" NU) (d33:DefAt K "_law_due" Ow) (d34:DefAt K "_law_right" XE) (d35:DefAt K "law" Wr)
 (z1:PySem.W.nsIn K mainGlobals "len" = some none) (z2:PySem.W.nsIn K mainGlobals "isinstance" = some none) (z3:PySem.W.nsIn K mainGlobals "int" = some none) (z4:PySem.W.nsIn K mainGlobals "bool" = some none) (z5:PySem.W.nsIn K mainGlobals "str" = some none) (z6:PySem.W.nsIn K mainGlobals "tuple" = some none) (z7:PySem.W.nsIn K mainGlobals "list" = some none) (z8:PySem.W.nsIn K mainGlobals "range" = some none) (z9:PySem.W.nsIn K mainGlobals "zip" = some none) (z10:PySem.W.nsIn K mainGlobals "dict" = some none) (z11:PySem.W.nsIn K mainGlobals "sorted" = some none) (z12:PySem.W.nsIn K mainGlobals "reversed" = some none) (z13:PySem.W.nsIn K mainGlobals "enumerate" = some none) (y1:PySem.W.nsIn K mainGlobals "ValueError" = some none)  (ht1:PySem.W.tabIn K "behind" = some (c1,T1)) (hh1:PySem.W.codeHdIn K c1 T1=true)  {tA tB tC:Tok} {NT NS CT:Addr} (gA:PySem.W.nsIn K mainGlobals "MOST_SIZE" = some (some (.int 200 tA))) (gB:PySem.W.nsIn K mainGlobals "MOST_LEVELS" = some (some (.int 30 tB))) (gC:PySem.W.nsIn K mainGlobals "MOST_MODES" = some (some (.int 40 tC))) (gM:PySem.W.nsIn K mainGlobals "min" = some none) (gX:PySem.W.nsIn K mainGlobals "max" = some none) (gN:PySem.W.nsIn K mainGlobals "TooGreat" = some (some (.ref NT))) (gS:PySem.W.nsIn K mainGlobals "Strays" = some (some (.ref NS))) (gT:PySem.W.nsIn K mainGlobals "TurnError" = some (some (.ref CT))) (qa:PySem.W.excIn K NT MG "ValueError.__new__" = true) (xa:PySem.W.exmOne K (.ref NT) (.ref CT)=some true) (va:PySem.W.kitOne K (.ref NT) (.type "ValueError")=some true) (ea1:PySem.W.findIn K (.ref NT) "__getattribute__" = some (some (.builtin "BaseException.__getattribute__"))) (ea2:PySem.W.findIn K (.ref NT) "__getattr__" = some none) (ea3:PySem.W.findIn K (.ref NT) "__class__" = some (some (.builtin "object.__class__"))) (ea4:PySem.W.mroIn K NT (.type "BaseException")=some true) (ea5:PySem.W.mroIn K NT (.type "object")=some true) (qb:PySem.W.excIn K NS MG "ValueError.__new__" = true) (xb:PySem.W.exmOne K (.ref NS) (.ref CT)=some true) (vb:PySem.W.kitOne K (.ref NS) (.type "ValueError")=some true) (eb1:PySem.W.findIn K (.ref NS) "__getattribute__" = some (some (.builtin "BaseException.__getattribute__"))) (eb2:PySem.W.findIn K (.ref NS) "__getattr__" = some none) (eb3:PySem.W.findIn K (.ref NS) "__class__" = some (some (.builtin "object.__class__"))) (eb4:PySem.W.mroIn K NS (.type "BaseException")=some true) (eb5:PySem.W.mroIn K NS (.type "object")=some true) (jnn:PySem.W.kitOne K (.ref NT) (.ref NT)=some true) (jns:PySem.W.kitOne K (.ref NT) (.ref NS)=some false) (jsn:PySem.W.kitOne K (.ref NS) (.ref NT)=some false) (jss:PySem.W.kitOne K (.ref NS) (.ref NS)=some true) (s1:DmK K) (s2:TbK K) :
 ∃ fd:FuncData,(∀ (s:Shared) (v:Value),BindsTo s fd ⟨[v],[]⟩ [("_law_script", v)])∧∀ base:Heap,K.In base→base.Ns mainGlobals mg→XW mg base→FnOk l.prog w K mg base CX0 174 fa fd ["_law_script"] (Gr K T1):=by
 have G:Gm mg:=⟨PySem.W.mg_none_of X N z1,PySem.W.mg_none_of X N z2,PySem.W.mg_none_of X N z3,PySem.W.mg_none_of X N z4,PySem.W.mg_none_of X N z5,PySem.W.mg_none_of X N z6,PySem.W.mg_none_of X N z7,PySem.W.mg_none_of X N z8,PySem.W.mg_none_of X N z9,PySem.W.mg_none_of X N z10,PySem.W.mg_none_of X N z11,PySem.W.mg_none_of X N z12,PySem.W.mg_none_of X N z13⟩
 obtain ⟨f,oc,od,kV,doc,pm,an,cdv,ct,osl,a,lk,c,kp⟩:=d35.ex
 have e:=hfa.symm.trans (PySem.W.mg_of X N a)
 cases e
 have F:=QS (st:=Wr) lk c kp
 refine ⟨PySem.W.fnOf "law" "law" (defArgs Wr) (defBody Wr) (defScope Wr) .none kV doc pm an cdv ct,fun s v=>.of_eq rfl,fun base _ _ hB=>?_⟩
 have hve:mg "ValueError" = none:=PySem.W.mg_none_of X N y1
 have h200:mg "MOST_SIZE" = some (.int 200 tA):=PySem.W.mg_of X N gA
 have h30:mg "MOST_LEVELS" = some (.int 30 tB):=PySem.W.mg_of X N gB
 have h40:mg "MOST_MODES" = some (.int 40 tC):=PySem.W.mg_of X N gC
 have hmax:mg "max" = none:=PySem.W.mg_none_of X N gX
 have hmin:mg "min" = none:=PySem.W.mg_none_of X N gM
 have RNT:Rs K mg "TooGreat" NT:=⟨PySem.W.mg_of X N gN,qa⟩
 have RNS:Rs K mg "Strays" NS:=⟨PySem.W.mg_of X N gS,qb⟩
 have LC:Cs K mg NT NS CT:=⟨PySem.W.mg_of X N gT,PySem.W.mg_of X N gS,PySem.W.mg_of X N gN,hve,xa,xb,⟨ea1,ea2,ea3,ea4,ea5⟩,⟨eb1,eb2,eb3,eb4,eb5⟩,va,vb,jnn,jns,jsn,jss⟩
 have gIC:∀ g:Heap,Fn l.prog w K mg g 1 "is_call" ["term"] (ZS K):=fun g=>d1.fn X N (fun f fd F=>PM F) (fun _ _ _ _ _ _ us hl=>by obtain ⟨a1,rfl⟩:=ln1 hl;rfl)
 have gRO:∀ g:Heap,Fn l.prog w K mg g 1 "rows_of" ["wood", "kind"] (Yo K):=fun g=>d6.fn X N (fun f fd F=>GN F G) (fun _ _ _ _ _ _ us hl=>by obtain ⟨a1,a2,rfl⟩:=ln2 hl;rfl)
 have gRu:∀ g:Heap,Fn l.prog w K mg g 2 "rule_of" ["turning", "mode", "name"] (Zk K):=fun g=>d13.fn X N (fun f fd F=>GE F G (gRO g)) (fun _ _ _ _ _ _ us hl=>by obtain ⟨a1,a2,a3,rfl⟩:=ln3 hl;rfl)
 have gCO:∀ g:Heap,Fn l.prog w K mg g 31 "calls_of" ["term"] (VE K 30):=fun g=>by
  obtain ⟨f,oc,od,kV,doc,pm,an,cdv,ct,osl,a,lk,c,kp⟩:=d2.ex
  have F:=QS (st:=sCO) lk c kp
  have hb:Binds K _ ["term"] []:=F.binds (fun _ _ _ _ _ _ us hl=>by obtain ⟨a1,rfl⟩:=ln1 hl;rfl)
  exact ⟨f,_,Lx F G (gIC g) hb (PySem.W.mg_of X N a) 30,hb,kp,PySem.W.mg_of X N a⟩
 have gWP:∀ g:Heap,Fn l.prog w K mg g 1 "with_parts" ["term", "parts"] (Nl K):=fun g=>d4.fn X N (fun f fd F=>So F G) (fun _ _ _ _ _ _ us hl=>by obtain ⟨a1,a2,rfl⟩:=ln2 hl;rfl)
 have gWM:∀ g:Heap,Fn l.prog w K mg g 31 "with_modes" ["term", "numbers"] (JL K 30):=fun g=>by
  obtain ⟨f,oc,od,kV,doc,pm,an,cdv,ct,osl,a,lk,c,kp⟩:=d3.ex
  have F:=QS (st:=Ji) lk c kp
  have hb:Binds K _ ["term", "numbers"] []:=F.binds (fun _ _ _ _ _ _ us hl=>by obtain ⟨a1,a2,rfl⟩:=ln2 hl;rfl)
  exact ⟨f,_,Lg F G (gIC g) (gWP g) hb (PySem.W.mg_of X N a) 30,hb,kp,PySem.W.mg_of X N a⟩
 have gOW:∀ g:Heap,Fn l.prog w K mg g 1 "own_wood" ["wood"] (VI K):=fun g=>d5.fn X N (fun f fd F=>Nx F G) (fun _ _ _ _ _ _ us hl=>by obtain ⟨a1,rfl⟩:=ln1 hl;rfl)
 have gNC:∀ g:Heap,FnX l.prog w K mg g 32 "number_calls" ["numbers", "term", "most"] (PK K NT 30):=fun g=>by
  obtain ⟨f,oc,od,kV,doc,pm,an,cdv,ct,osl,a,lk,c,kp⟩:=d8.ex
  have F:=QS (st:=Gu) lk c kp
  have hb:Binds K _ ["numbers", "term", "most"] []:=F.binds (fun _ _ _ _ _ _ us hl=>by obtain ⟨a1,a2,a3,rfl⟩:=ln3 hl;rfl)
  exact ⟨⟨f,_,Rf F G RNT (gCO g),hb,kp,PySem.W.mg_of X N a⟩⟩
 have gNM:∀ g:Heap,Fn l.prog w K mg g 32 "numbered_mode" ["mode", "numbers"] (NK K 30):=fun g=>d9.fn X N (fun f fd F=>Rw F (gWM g)) (fun _ _ _ _ _ _ us hl=>by obtain ⟨a1,a2,rfl⟩:=ln2 hl;rfl)
 have gAb:∀ g:Heap,Fn l.prog w K mg g 1 "row_above" ["wood"] (U0 K):=fun g=>d10.fn X N (fun f fd F=>LK F) (fun _ _ _ _ _ _ us hl=>by obtain ⟨a1,rfl⟩:=ln1 hl;rfl)
 have gLN:∀ g:Heap,Fn l.prog w K mg g 1 "levels_needed" ["fault"] (Ge K):=fun g=>d12.fn X N (fun f fd F=>OY F G) (fun _ _ _ _ _ _ us hl=>by obtain ⟨a1,rfl⟩:=ln1 hl;rfl)
 obtain ⟨CD,MD⟩:=s1.m (P:=l.prog) (w:=w) (base:=base) X N G (gIC base) (gLN base) (gAb base) (gRO base) 12
 obtain ⟨CB,MB⟩ : ∃ C,∀ g:Heap,TbM l.prog w K mg g C NT 110:=s2.m (P:=l.prog) (w:=w) X N G gIC gRu RNT h30 h200 110
 have gMB:∀ g:Heap,FnX l.prog w K mg g 113 "mode_behind" ["one", "other", "pair"] (XD K NT 110):=fun g=>by
  obtain ⟨f,oc,od,kV,doc,pm,an,cdv,ct,osl,a,lk,c,kp⟩:=d15.ex
  have F:=QS (st:=Wd) lk c kp
  have hb:Binds K _ ["one", "other", "pair"] []:=F.binds (fun _ _ _ _ _ _ us hl=>by obtain ⟨a1,a2,a3,rfl⟩:=ln3 hl;rfl)
  exact ⟨⟨f,_,Mj F (MB g) h30,hb,kp,PySem.W.mg_of X N a⟩⟩
 obtain ⟨fA,ocA,odA,kVA,docA,pmA,anA,cdvA,ctA,oslA,aA,lkA,cA,hkA⟩:=d7.ex
 have FAm:=QS (st:=Xu) lkA cA hkA
 have hmA:=PySem.W.mg_of X N aA
 have bA:Binds K _ ["wood", "start", "mode_by", "most"] []:=FAm.binds (fun _ _ _ _ _ _ us hl=>by obtain ⟨a1,a2,a3,a4,rfl⟩:=ln4 hl;rfl)
 have FA:=fun g:Heap=>Sw (P:=l.prog) (w:=w) (mg:=mg) (base:=g) (k:=114) (n:=30) FAm G (gNC g) (gOW g) (gWM g) (gNM g)
 have b1:Fn l.prog w K mg base 18 "strays_at_all" ["turning", "wood"] (Mb K 12):=d11.fn X N (fun f fd F=>PQ F MD) fun _ _ _ _ _ _ us hl=>by obtain ⟨a1,a2,rfl⟩:=ln2 hl;rfl
 have b2:FnX l.prog w K mg base 172 "behind" ["one", "other"] (Yq K T1 NT NS 12 110):=by
  obtain ⟨f,oc,od,kV,doc,pm,an,cdv,ct,osl,a,lk,c,kp⟩:=d14.ex
  have F:=QS (st:=Yy) lk c kp
  have hb:Binds K _ ["one", "other"] []:=F.binds fun _ _ _ _ _ _ us hl=>by obtain ⟨a1,a2,rfl⟩:=ln2 hl;rfl
  exact ⟨⟨f,_,G1 F a ht1 hh1 hB b1 (MB base) h30 h40 FA hmA hkA bA RNS gMB,hb,kp,PySem.W.mg_of X N a⟩⟩
 have l1:Fn l.prog w K mg base 1 "_law_cell_at" ["_law_script", "_law_k"] (Vz K):=d16.fn X N (fun f fd F=>NB F G) fun _ _ _ _ _ _ us hl=>by obtain ⟨a1,a2,rfl⟩:=ln2 hl;rfl
 have l2:Fn l.prog w K mg base 1 "_law_mixed" ["_law_cell", "_law_k"] UV:=d17.fn X N (fun f fd F=>Lv F) fun _ _ _ _ _ _ us hl=>by obtain ⟨a1,a2,rfl⟩:=ln2 hl;rfl
 have l3:Fn l.prog w K mg base 2 "_law_names" ["_law_cell"] (Wj K):=d18.fn X N (fun f fd F=>MS F G l2) fun _ _ _ _ _ _ us hl=>by obtain ⟨a1,rfl⟩:=ln1 hl;rfl
 have l4:Fn l.prog w K mg base 1 "_law_whole" ["_law_found"] UU:=d21.fn X N (fun f fd F=>Ln F G) fun _ _ _ _ _ _ us hl=>by obtain ⟨a1,rfl⟩:=ln1 hl;rfl
 have l5:Fn l.prog w K mg base 31 "_law_is_term" ["_law_found"] (JI K 30):=by
  obtain ⟨f,oc,od,kV,doc,pm,an,cdv,ct,osl,a,lk,c,kp⟩:=d22.ex
  have F:=QS (st:=Mg) lk c kp
  have hb:Binds K _ ["_law_found"] []:=F.binds fun _ _ _ _ _ _ us hl=>by obtain ⟨a1,rfl⟩:=ln1 hl;rfl
  exact ⟨f,_,V0 F G l4 hb (PySem.W.mg_of X N a) 30,hb,kp,PySem.W.mg_of X N a⟩
 have l6:Fn l.prog w K mg base 32 "_law_same" ["_law_found", "_law_due_here"] (Vt K 30):=d23.fn X N (fun f fd F=>NH F G l5) fun _ _ _ _ _ _ us hl=>by obtain ⟨a1,a2,rfl⟩:=ln2 hl;rfl
 have l8:Fn l.prog w K mg base 1 "_law_great" ["_law_cell"] XH:=d19.fn X N (fun f fd F=>Mq F) fun _ _ _ _ _ _ us hl=>by obtain ⟨a1,rfl⟩:=ln1 hl;rfl
 have l9:Fn l.prog w K mg base 1 "_law_rule" ["_law_turning", "_law_mode", "_law_name"] (Zk K):=d20.fn X N (fun f fd F=>Ld F G) fun _ _ _ _ _ _ us hl=>by obtain ⟨a1,a2,a3,rfl⟩:=ln3 hl;rfl
 have lA:Fn l.prog w K mg base 1 "_law_leaves" ["_law_name", "_law_add", "_law_count"] (Jj K):=d24.fn X N (fun f fd F=>GM F G) fun _ _ _ _ _ _ us hl=>by obtain ⟨a1,a2,a3,rfl⟩:=ln3 hl;rfl
 have lB:Fn l.prog w K mg base 1 "_law_chain" ["_law_name", "_law_add", "_law_count", "_law_inner"] (XR K):=d25.fn X N (fun f fd F=>LL F G) fun _ _ _ _ _ _ us hl=>by obtain ⟨a1,a2,a3,a4,rfl⟩:=ln4 hl;rfl
 have lW:Fn l.prog w K mg base 2 "_law_wide" ["_law_names_here", "_law_adds", "_law_goal", "_law_pick"] (Yz K 30 203 3 4 9 9):=d26.fn X N (fun f fd F=>N9 F G lA) fun _ _ _ _ _ _ us hl=>by obtain ⟨a1,a2,a3,a4,rfl⟩:=ln4 hl;rfl
 have lL:Fn l.prog w K mg base 2 "_law_long" ["_law_names_here", "_law_adds", "_law_goal", "_law_pick"] (Yz K 9 33 4 1 9 9):=d27.fn X N (fun f fd F=>NI F G lB) fun _ _ _ _ _ _ us hl=>by obtain ⟨a1,a2,a3,a4,rfl⟩:=ln4 hl;rfl
 have lC:Fn l.prog w K mg base 13 "_law_plain" ["_law_term"] (YX K 12):=by
  obtain ⟨f,oc,od,kV,doc,pm,an,cdv,ct,osl,a,lk,c,kp⟩:=d28.ex
  have F:=QS (st:=JH) lk c kp
  have hb:Binds K _ ["_law_term"] []:=F.binds fun _ _ _ _ _ _ us hl=>by obtain ⟨a1,rfl⟩:=ln1 hl;rfl
  exact ⟨f,_,JO F G hb (PySem.W.mg_of X N a) 12,hb,kp,PySem.W.mg_of X N a⟩
 have lS:Fn l.prog w K mg base 10 "_law_spoiled" ["_law_term", "_law_name", "_law_number"] (Ue K 9):=by
  obtain ⟨f,oc,od,kV,doc,pm,an,cdv,ct,osl,a,lk,c,kp⟩:=d29.ex
  have F:=QS (st:=ZW) lk c kp
  have hb:Binds K _ ["_law_term", "_law_name", "_law_number"] []:=F.binds fun _ _ _ _ _ _ us hl=>by obtain ⟨a1,a2,a3,rfl⟩:=ln3 hl;rfl
  exact ⟨f,_,JM F G hb (PySem.W.mg_of X N a) 9,hb,kp,PySem.W.mg_of X N a⟩
 have lD:Fn l.prog w K mg base 14 "_law_one" ["_law_names_here", "_law_term", "_law_at_start"] (M8 K 12):=d32.fn X N (fun f fd F=>PV F G lC) fun _ _ _ _ _ _ us hl=>by obtain ⟨a1,a2,a3,rfl⟩:=ln3 hl;rfl
 have lE:Fn l.prog w K mg base 94 "_law_on" ["_law_other", "_law_rule_here", "_law_term"] (Mc K 92):=by
  obtain ⟨f,oc,od,kV,doc,pm,an,cdv,ct,osl,a,lk,c,kp⟩:=d30.ex
  have F:=QS (st:=sOn) lk c kp
  have hb:Binds K _ ["_law_other", "_law_rule_here", "_law_term"] []:=F.binds fun _ _ _ _ _ _ us hl=>by obtain ⟨a1,a2,a3,rfl⟩:=ln3 hl;rfl
  exact ⟨f,_,Mf F G l9 hb (PySem.W.mg_of X N a) 92,hb,kp,PySem.W.mg_of X N a⟩
 have lF:Fn l.prog w K mg base 95 "_law_due" ["_law_one_here", "_law_other"] (LO K):=d33.fn X N (fun f fd F=>OZ F G lE) fun _ _ _ _ _ _ us hl=>by obtain ⟨a1,a2,rfl⟩:=ln2 hl;rfl
 have lM:Fn l.prog w K mg base 82 "_law_measure" ["_law_term"] (ZU K 81):=by
  obtain ⟨f,oc,od,kV,doc,pm,an,cdv,ct,osl,a,lk,c,kp⟩:=d31.ex
  have F:=QS (st:=Yl) lk c kp
  have hb:Binds K _ ["_law_term"] []:=F.binds fun _ _ _ _ _ _ us hl=>by obtain ⟨a1,rfl⟩:=ln1 hl;rfl
  exact ⟨f,_,UJ F G hmax hb (PySem.W.mg_of X N a) 81,hb,kp,PySem.W.mg_of X N a⟩
 have lG:Fn l.prog w K mg base 173 "_law_right" ["_law_one_here", "_law_other", "_law_odd"] (Xq K T1):=d34.fn X N (fun f fd F=>Ly F G LC b2 lF lM l6) fun _ _ _ _ _ _ us hl=>by obtain ⟨a1,a2,a3,rfl⟩:=ln3 hl;rfl
 exact Pa F G l1 l3 l2 l8 lW lL lS lD lG
theorem walk {c1 T1:Addr} {l:PySem.W.OpenLaw} {q:Program} {loose:List Str} {XP:(Str→Option Value)→Heap→Prop} {YP:World→Heap→Prop} {d:DefRec} {K:Params→Fg} (hn:l.most=some 63) (hdf:d.params.defaults=[])
 (hY:∀ (w:World) (h:Heap),YP w h→(K w.params).In h) (tb1:∀ w:World,TabAt q (K w.params) "behind" c1 T1)
 (F:∀ (w:World) (mg:Str→Option Value) (fa:Addr) (h:Heap),(K w.params).In h→h.Ns mainGlobals mg→mg d.name=some (.ref fa) →
  ∃ fd:FuncData,(∀ (s:Shared) (u:Value),BindsTo s fd ⟨[u],[]⟩ [("_law_script", u)])∧∀ base:Heap,(K w.params).In base→base.Ns mainGlobals mg→XW mg base→FnOk l.prog w (K w.params) mg base CX0 174 fa fd ["_law_script"] (Gr (K w.params) T1)) :
 PySem.W.WalkO q loose XP YP l.row.toRowW d [] (fun f vs=>PySem.call f vs) :=
 L2.walk_ofT (n:=63) (k:=174) (x:="_law_script") (tabs:=[("behind", c1,T1)]) (sp:=fun w=>Gr (K w.params) T1) hn (by decide) hdf ⟨rfl,by decide,by decide⟩ hY (fun w p hp=>by
  simp only [List.mem_cons,List.not_mem_nil,or_false] at hp
  rcases hp with rfl
  ·exact tb1 w) F (fun _ _ a ns hl hS hT=>⟨a,ns,rfl,hS,hl,hT ("behind", c1,T1) (by simp),fun _=>rfl⟩)
end K68
section
open PySem
noncomputable def K68.vS (x:String) (n:Nat):Value:=.str (Str.ofString x) n
noncomputable def K68.mN:Value:=.str (Str.ofString "law_turnery_k68_terms_too_great") 521
noncomputable def K68.vR (a:Nat):Value:=.ref a
noncomputable def K68.vI (i:Int) (n:Nat):Value:=.int i n
noncomputable def K68.hE (P:Params) (x:String) (n:Nat) (v:Value):DictEntry:=⟨PyData.keyHash P (Str.ofString x),.str (Str.ofString x) n,v⟩
noncomputable def K68.vN:Value:=.none
noncomputable def K68.vF:Value:=.type "function"
noncomputable def K68.vT:Value:=.bool true
noncomputable def K68.i0:Value:=.int 0 0
noncomputable def K68.i3:Value:=.int 3 0
noncomputable def K68.i1:Value:=.int 181 0
noncomputable def K68.cP (k:Nat):Value:=.str (Str.ofString "/claim/cut.py") k
noncomputable def K68.oT (x:Array Value):Obj:=Obj.mk (Value.type "tuple") none (Data.seq x) #[]
noncomputable def K68.oC (x:Array Value):Obj:=Obj.mk (Value.type "code") none (Data.fields x) #[]
noncomputable def K68.oF (c:Value) (x y:String) (s:Stmt) (k:Nat) (pm cd:Value):Obj:=Obj.mk c none (Data.func (FuncData.mk (Str.ofString x) (Str.ofString y) (L2.defArgs s) (.stmts (L2.defBody s)) (L2.defScope s) k [] Value.none Value.none Value.none pm none cd Value.none 0)) #[]
open K68
noncomputable def K68.oE:Obj:={ cls:=vN,data:=Data.fields #[] }
def K68.x3 (P:Params):Obj:=Obj.mk (Value.type "dict") none (Data.dict #[hE P "__name__" 165 mN,hE P "__doc__" 166 vN,hE P "__package__" 167 vN,hE P "__loader__" 168 (Value.builtin "__main__.__loader__#opaque"),hE P "__spec__" 169 vN,hE P "__annotations__" 170 (vR 6),hE P "__builtins__" 171 (vR 4),hE P "__file__" 173 (cP 172),hE P "__cached__" 174 vN,hE P "_wall" 193 (vR 21),hE P "TurnError" 213 (vR 31),hE P "TooGreat" 229 (vR 44),hE P "Strays" 245 (vR 56),hE P "is_call" 254 (vR 65),hE P "calls_of" 263 (vR 72),hE P "with_modes" 269 (vR 77),hE P "with_parts" 277 (vR 84),hE P "own_wood" 285 (vR 89),hE P "rows_of" 293 (vR 96),hE P "as_met" 301 (vR 101),hE P "number_calls" 312 (vR 108),hE P "numbered_mode" 318 (vR 113),hE P "row_above" 327 (vR 120),hE P "strays_at_all" 337 (vR 127),hE P "levels_needed" 345 (vR 134),hE P "Demands" 426 (vR 184),hE P "rule_of" 441 (vR 195),hE P "MOST_MODES" 445 (vI 40 444),hE P "MOST_SIZE" 447 (vI 200 446),hE P "MOST_LEVELS" 449 (vI 30 448),hE P "behind" 460 (vR 202),hE P "mode_behind" 466 (vR 207),hE P "TermBehind" 520 (vR 243),hE P "_law_cell_at" 530 (vR 254),hE P "_law_mixed" 539 (vR 261),hE P "_law_names" 545 (vR 266),hE P "_law_great" 552 (vR 273),hE P "_law_rule" 565 (vR 280),hE P "_law_whole" 572 (vR 287),hE P "_law_is_term" 580 (vR 294),hE P "_law_same" 591 (vR 301),hE P "_law_leaves" 597 (vR 306),hE P "_law_chain" 609 (vR 313),hE P "_law_wide" 626 (vR 320),hE P "_law_long" 640 (vR 327),hE P "_law_plain" 646 (vR 332),hE P "_law_spoiled" 657 (vR 339),hE P "_law_on" 663 (vR 344),hE P "_law_measure" 675 (vR 351),hE P "_law_one" 686 (vR 358),hE P "_law_due" 696 (vR 365),hE P "_law_right" 713 (vR 372),hE P "law" 719 (vR 377)] 53) #[]
def K68.x20 (P:Params):Obj:=oC #[vS "_wall" 187,vS "_wall" 188,cP 189,vI 1 0,vI 1 0,i0,i0,i3,vR 15,vT,i1,vR 16,vN,vR 17,vR 18,vR 19,vI 191 0,vI 1 0,cP 192]
def K68.x21 (P:Params):Obj:=oF vF "_wall" "_wall" (top 0) 3 (vS "__main__" 164) (vR 20)
def K68.x30 (P:Params):Obj:=Obj.mk (Value.type "dict") none (Data.dict #[hE P "__module__" 203 (vS "turnery.errors" 194),hE P "__firstlineno__" 207 (vI 5 206),hE P "__static_attributes__" 208 (vR 29),hE P "__weakref__" 210 (vR 32),hE P "__doc__" 211 vN] 3) #[]
def K68.x31 (P:Params):Obj:=Obj.mk (Value.type "type") none (Data.cls (ClassData.mk (Str.ofString "TurnError") [Value.type "ValueError"] [vR 31,Value.type "ValueError", Value.type "Exception", Value.type "BaseException", Value.type "object"] 30 (Str.ofString "TurnError") true [] [vR 44,vR 56] false none false)) #[some (vR 22),none,some (vS "TurnError" 196),some (vS "TurnError" 204),some (Value.builtin "ValueError.__new__"),some (Value.bool true)]
def K68.x32 (P:Params):Obj:=Obj.mk (Value.type "getset_descriptor") none (Data.fields #[vS "__weakref__" 209,vR 31,Value.builtin "ExceptionGroup.__weakref__", vN]) #[]
def K68.x43 (P:Params):Obj:=Obj.mk (Value.type "dict") none (Data.dict #[hE P "__module__" 221 (vS "turnery.errors" 194),hE P "__firstlineno__" 225 (vI 7 224),hE P "__static_attributes__" 226 (vR 42),hE P "__doc__" 227 vN] 2) #[]
def K68.x44 (P:Params):Obj:=Obj.mk (Value.type "type") none (Data.cls (ClassData.mk (Str.ofString "TooGreat") [vR 31] [vR 44,vR 31,Value.type "ValueError", Value.type "Exception", Value.type "BaseException", Value.type "object"] 43 (Str.ofString "TooGreat") true [] [] false none false)) #[some (vR 35),none,some (vS "TooGreat" 214),some (vS "TooGreat" 222),some (Value.builtin "ValueError.__new__"),some (Value.bool true)]
def K68.x55 (P:Params):Obj:=Obj.mk (Value.type "dict") none (Data.dict #[hE P "__module__" 237 (vS "turnery.errors" 194),hE P "__firstlineno__" 241 (vI 9 240),hE P "__static_attributes__" 242 (vR 54),hE P "__doc__" 243 vN] 2) #[]
def K68.x56 (P:Params):Obj:=Obj.mk (Value.type "type") none (Data.cls (ClassData.mk (Str.ofString "Strays") [vR 31] [vR 56,vR 31,Value.type "ValueError", Value.type "Exception", Value.type "BaseException", Value.type "object"] 55 (Str.ofString "Strays") true [] [] false none false)) #[some (vR 47),none,some (vS "Strays" 230),some (vS "Strays" 238),some (Value.builtin "ValueError.__new__"),some (Value.bool true)]
def K68.x64 (P:Params):Obj:=oC #[vS "is_call" 248,vS "is_call" 249,cP 250,vI 12 0,vI 1 0,i0,i0,i3,vR 59,vT,i1,vR 60,vN,vR 61,vR 62,vR 63,vI 252 0,vI 12 0,cP 253]
def K68.x65 (P:Params):Obj:=oF vF "is_call" "is_call" (top 6) 3 (vS "turnery.terms" 246) (vR 64)
def K68.x68 (P:Params):Obj:=oT #[vS "term" 258,vS "told" 259,vS "part" 260]
def K68.x71 (P:Params):Obj:=oC #[vS "calls_of" 255,vS "calls_of" 256,cP 257,vI 14 0,vI 1 0,i0,i0,i3,vR 66,vT,i1,vR 67,vN,vR 68,vR 69,vR 70,vI 261 0,vI 14 0,cP 262]
def K68.x72 (P:Params):Obj:=oF vF "calls_of" "calls_of" (top 7) 3 (vS "turnery.terms" 246) (vR 71)
def K68.x76 (P:Params):Obj:=oC #[vS "with_modes" 264,vS "with_modes" 265,cP 266,vI 21 0,vI 2 0,i0,i0,i3,vR 73,vT,i1,vR 74,vN,vN,vN,vR 75,vI 267 0,vI 21 0,cP 268]
def K68.x77 (P:Params):Obj:=oF vF "with_modes" "with_modes" (top 8) 3 (vS "turnery.terms" 246) (vR 76)
def K68.x83 (P:Params):Obj:=oC #[vS "with_parts" 270,vS "with_parts" 271,cP 272,vI 25 0,vI 2 0,i0,i0,i3,vR 78,vT,i1,vR 79,vN,vR 80,vR 81,vR 82,vI 275 0,vI 25 0,cP 276]
def K68.x84 (P:Params):Obj:=oF vF "with_parts" "with_parts" (top 9) 3 (vS "turnery.terms" 246) (vR 83)
def K68.x88 (P:Params):Obj:=oC #[vS "own_wood" 280,vS "own_wood" 281,cP 282,vI 28 0,vI 1 0,i0,i0,i3,vR 85,vT,i1,vR 86,vN,vN,vN,vR 87,vI 283 0,vI 28 0,cP 284]
def K68.x89 (P:Params):Obj:=oF vF "own_wood" "own_wood" (top 11) 3 (vS "turnery.woods" 278) (vR 88)
def K68.x95 (P:Params):Obj:=oC #[vS "rows_of" 286,vS "rows_of" 287,cP 288,vI 30 0,vI 2 0,i0,i0,i3,vR 90,vT,i1,vR 91,vN,vR 92,vR 93,vR 94,vI 291 0,vI 30 0,cP 292]
def K68.x96 (P:Params):Obj:=oF vF "rows_of" "rows_of" (top 12) 3 (vS "turnery.woods" 278) (vR 95)
def K68.x100 (P:Params):Obj:=oC #[vS "as_met" 296,vS "as_met" 297,cP 298,vI 33 0,vI 4 0,i0,i0,i3,vR 97,vT,i1,vR 98,vN,vN,vN,vR 99,vI 299 0,vI 33 0,cP 300]
def K68.x101 (P:Params):Obj:=oF vF "as_met" "as_met" (top 14) 3 (vS "turnery.numbering" 294) (vR 100)
def K68.x104 (P:Params):Obj:=oT #[vS "numbers" 305,vS "term" 306,vS "most" 307,vS "mode" 308,vS "branch" 309]
def K68.x107 (P:Params):Obj:=oC #[vS "number_calls" 302,vS "number_calls" 303,cP 304,vI 44 0,vI 3 0,i0,i0,i3,vR 102,vT,i1,vR 103,vN,vR 104,vR 105,vR 106,vI 310 0,vI 44 0,cP 311]
def K68.x108 (P:Params):Obj:=oF vF "number_calls" "number_calls" (top 15) 3 (vS "turnery.numbering" 294) (vR 107)
def K68.x112 (P:Params):Obj:=oC #[vS "numbered_mode" 313,vS "numbered_mode" 314,cP 315,vI 50 0,vI 2 0,i0,i0,i3,vR 109,vT,i1,vR 110,vN,vN,vN,vR 111,vI 316 0,vI 50 0,cP 317]
def K68.x113 (P:Params):Obj:=oF vF "numbered_mode" "numbered_mode" (top 16) 3 (vS "turnery.numbering" 294) (vR 112)
def K68.x119 (P:Params):Obj:=oC #[vS "row_above" 321,vS "row_above" 322,cP 323,vI 53 0,vI 1 0,i0,i0,i3,vR 114,vT,i1,vR 115,vN,vR 116,vR 117,vR 118,vI 325 0,vI 53 0,cP 326]
def K68.x120 (P:Params):Obj:=oF vF "row_above" "row_above" (top 18) 3 (vS "turnery.ways" 319) (vR 119)
def K68.x126 (P:Params):Obj:=oC #[vS "strays_at_all" 330,vS "strays_at_all" 331,cP 332,vI 56 0,vI 2 0,i0,i0,i3,vR 121,vT,i1,vR 122,vN,vR 123,vR 124,vR 125,vI 335 0,vI 56 0,cP 336]
def K68.x127 (P:Params):Obj:=oF vF "strays_at_all" "strays_at_all" (top 20) 3 (vS "turnery.straying" 328) (vR 126)
def K68.x133 (P:Params):Obj:=oC #[vS "levels_needed" 338,vS "levels_needed" 339,cP 340,vI 58 0,vI 1 0,i0,i0,i3,vR 128,vT,i1,vR 129,vN,vR 130,vR 131,vR 132,vI 343 0,vI 58 0,cP 344]
def K68.x134 (P:Params):Obj:=oF vF "levels_needed" "levels_needed" (top 21) 3 (vS "turnery.straying" 328) (vR 133)
def K68.x145 (P:Params):Obj:=oC #[vS "__init__" 358,vS "Demands.__init__" 359,cP 360,vI 63 0,vI 3 0,i0,i0,i3,vR 142,vT,i1,vR 143,vN,vN,vN,vR 144,vI 361 0,vI 63 0,cP 362]
def K68.x146 (P:Params):Obj:=oF vF "__init__" "Demands.__init__" (L2.inClass (top 22) 0) 3 (vS "turnery.straying" 328) (vR 145)
def K68.x149 (P:Params):Obj:=oT #[vS "self" 367,vS "demand" 368,vS "names" 369,vS "mode" 370,vS "row" 371,vS "rule" 372]
def K68.x152 (P:Params):Obj:=oC #[vS "look_by" 364,vS "Demands.look_by" 365,cP 366,vI 75 0,vI 2 0,i0,i0,i3,vR 147,vT,i1,vR 148,vN,vR 149,vR 150,vR 151,vI 373 0,vI 75 0,cP 374]
def K68.x153 (P:Params):Obj:=oF vF "look_by" "Demands.look_by" (L2.inClass (top 22) 1) 3 (vS "turnery.straying" 328) (vR 152)
def K68.x156 (P:Params):Obj:=oT #[vS "self" 379,vS "spot" 380,vS "place" 381,vS "term" 382,vS "kind" 383,vS "kinds" 384,vS "number" 385,vS "part" 386]
def K68.x159 (P:Params):Obj:=oC #[vS "look" 376,vS "Demands.look" 377,cP 378,vI 81 0,vI 5 0,i0,i0,i3,vR 154,vT,i1,vR 155,vN,vR 156,vR 157,vR 158,vI 387 0,vI 81 0,cP 388]
def K68.x160 (P:Params):Obj:=oF vF "look" "Demands.look" (L2.inClass (top 22) 2) 3 (vS "turnery.straying" 328) (vR 159)
def K68.x163 (P:Params):Obj:=oT #[vS "self" 393,vS "demand" 394,vS "step" 395]
def K68.x166 (P:Params):Obj:=oC #[vS "meet_demand" 390,vS "Demands.meet_demand" 391,cP 392,vI 92 0,vI 3 0,i0,i0,i3,vR 161,vT,i1,vR 162,vN,vR 163,vR 164,vR 165,vI 396 0,vI 92 0,cP 397]
def K68.x167 (P:Params):Obj:=oF vF "meet_demand" "Demands.meet_demand" (L2.inClass (top 22) 3) 3 (vS "turnery.straying" 328) (vR 166)
def K68.x173 (P:Params):Obj:=oC #[vS "meet_fault" 399,vS "Demands.meet_fault" 400,cP 401,vI 97 0,vI 2 0,i0,i0,i3,vR 168,vT,i1,vR 169,vN,vR 170,vR 171,vR 172,vI 404 0,vI 97 0,cP 405]
def K68.x174 (P:Params):Obj:=oF vF "meet_fault" "Demands.meet_fault" (L2.inClass (top 22) 4) 3 (vS "turnery.straying" 328) (vR 173)
def K68.x180 (P:Params):Obj:=oC #[vS "tree_and_place" 407,vS "Demands.tree_and_place" 408,cP 409,vI 101 0,vI 1 0,i0,i0,i3,vR 175,vT,i1,vR 176,vN,vR 177,vR 178,vR 179,vI 411 0,vI 101 0,cP 412]
def K68.x181 (P:Params):Obj:=oF vF "tree_and_place" "Demands.tree_and_place" (L2.inClass (top 22) 5) 3 (vS "turnery.straying" 328) (vR 180)
def K68.x182 (P:Params):Obj:=oT #[vS "fault" 414,vS "kinds_below" 415,vS "steps" 416,vS "turning" 417,vS "waiting" 418]
def K68.x183 (P:Params):Obj:=Obj.mk (Value.type "dict") none (Data.dict #[hE P "__module__" 353 (vS "turnery.straying" 328),hE P "__firstlineno__" 357 (vI 61 356),hE P "__init__" 363 (vR 146),hE P "look_by" 375 (vR 153),hE P "look" 389 (vR 160),hE P "meet_demand" 398 (vR 167),hE P "meet_fault" 406 (vR 174),hE P "tree_and_place" 413 (vR 181),hE P "__static_attributes__" 419 (vR 182),hE P "__dict__" 421 (vR 185),hE P "__weakref__" 423 (vR 186),hE P "__doc__" 424 vN] 4) #[]
def K68.x184 (P:Params):Obj:=Obj.mk (Value.type "type") none (Data.cls (ClassData.mk (Str.ofString "Demands") [Value.type "object"] [vR 184,Value.type "object"] 183 (Str.ofString "Demands") true [] [] false none false)) #[none,none,some (vS "Demands" 346),some (vS "Demands" 354),some (Value.builtin "object.__new__"),some (Value.bool true)]
def K68.x185 (P:Params):Obj:=Obj.mk (Value.type "getset_descriptor") none (Data.fields #[vS "__dict__" 420,vR 184,Value.builtin "function.__dict__", Value.builtin "function.__dict__#set"]) #[]
def K68.x186 (P:Params):Obj:=Obj.mk (Value.type "getset_descriptor") none (Data.fields #[vS "__weakref__" 422,vR 184,Value.builtin "ExceptionGroup.__weakref__", vN]) #[]
def K68.x191 (P:Params):Obj:=oT #[vS "turning" 432,vS "mode" 433,vS "name" 434,vS "kind" 435,vS "rules" 436,vS "row" 437,vS "rule" 438]
def K68.x194 (P:Params):Obj:=oC #[vS "rule_of" 429,vS "rule_of" 430,cP 431,vI 104 0,vI 3 0,i0,i0,i3,vR 189,vT,i1,vR 190,vN,vR 191,vR 192,vR 193,vI 439 0,vI 104 0,cP 440]
def K68.x195 (P:Params):Obj:=oF vF "rule_of" "rule_of" (top 24) 3 (vS "turnery.turnings" 427) (vR 194)
def K68.x198 (P:Params):Obj:=oT #[vS "one" 453,vS "other" 454,vS "start" 455]
def K68.x201 (P:Params):Obj:=oC #[vS "behind" 450,vS "behind" 451,cP 452,vI 115 0,vI 2 0,i0,i0,i3,vR 196,vT,i1,vR 197,vN,vR 198,vR 199,vR 200,vI 458 0,vI 115 0,cP 459]
def K68.x202 (P:Params):Obj:=oF vF "behind" "behind" (top 29) 3 (vS "turnery.behind" 442) (vR 201)
def K68.x206 (P:Params):Obj:=oC #[vS "mode_behind" 461,vS "mode_behind" 462,cP 463,vI 120 0,vI 3 0,i0,i0,i3,vR 203,vT,i1,vR 204,vN,vN,vN,vR 205,vI 464 0,vI 120 0,cP 465]
def K68.x207 (P:Params):Obj:=oF vF "mode_behind" "mode_behind" (top 30) 3 (vS "turnery.behind" 442) (vR 206)
def K68.x220 (P:Params):Obj:=oC #[vS "__init__" 479,vS "TermBehind.__init__" 480,cP 481,vI 125 0,vI 2 0,i0,i0,i3,vR 215,vT,i1,vR 216,vN,vR 217,vR 218,vR 219,vI 484 0,vI 125 0,cP 485]
def K68.x221 (P:Params):Obj:=oF vF "__init__" "TermBehind.__init__" (L2.inClass (top 31) 0) 3 (vS "turnery.behind" 442) (vR 220)
def K68.x224 (P:Params):Obj:=oT #[vS "self" 490,vS "mode" 491,vS "term" 492,vS "room" 493]
def K68.x227 (P:Params):Obj:=oC #[vS "by_mode" 487,vS "TermBehind.by_mode" 488,cP 489,vI 129 0,vI 4 0,i0,i0,i3,vR 222,vT,i1,vR 223,vN,vR 224,vR 225,vR 226,vI 494 0,vI 129 0,cP 495]
def K68.x228 (P:Params):Obj:=oF vF "by_mode" "TermBehind.by_mode" (L2.inClass (top 31) 1) 3 (vS "turnery.behind" 442) (vR 227)
def K68.x232 (P:Params):Obj:=oC #[vS "by_rule" 497,vS "TermBehind.by_rule" 498,cP 499,vI 135 0,vI 4 0,i0,i0,i3,vR 229,vT,i1,vR 230,vN,vN,vN,vR 231,vI 500 0,vI 135 0,cP 501]
def K68.x233 (P:Params):Obj:=oF vF "by_rule" "TermBehind.by_rule" (L2.inClass (top 31) 2) 3 (vS "turnery.behind" 442) (vR 232)
def K68.x239 (P:Params):Obj:=oC #[vS "take_one" 503,vS "TermBehind.take_one" 504,cP 505,vI 143 0,vI 2 0,i0,i0,i3,vR 234,vT,i1,vR 235,vN,vR 236,vR 237,vR 238,vI 508 0,vI 143 0,cP 509]
def K68.x240 (P:Params):Obj:=oF vF "take_one" "TermBehind.take_one" (L2.inClass (top 31) 3) 3 (vS "turnery.behind" 442) (vR 239)
def K68.x242 (P:Params):Obj:=Obj.mk (Value.type "dict") none (Data.dict #[hE P "__module__" 474 (vS "turnery.behind" 442),hE P "__firstlineno__" 478 (vI 123 477),hE P "__init__" 486 (vR 221),hE P "by_mode" 496 (vR 228),hE P "by_rule" 502 (vR 233),hE P "take_one" 510 (vR 240),hE P "__static_attributes__" 513 (vR 241),hE P "__dict__" 515 (vR 244),hE P "__weakref__" 517 (vR 245),hE P "__doc__" 518 vN] 4) #[]
def K68.x243 (P:Params):Obj:=Obj.mk (Value.type "type") none (Data.cls (ClassData.mk (Str.ofString "TermBehind") [Value.type "object"] [vR 243,Value.type "object"] 242 (Str.ofString "TermBehind") true [] [] false none false)) #[none,none,some (vS "TermBehind" 467),some (vS "TermBehind" 475),some (Value.builtin "object.__new__"),some (Value.bool true)]
def K68.x244 (P:Params):Obj:=Obj.mk (Value.type "getset_descriptor") none (Data.fields #[vS "__dict__" 514,vR 243,Value.builtin "function.__dict__", Value.builtin "function.__dict__#set"]) #[]
def K68.x245 (P:Params):Obj:=Obj.mk (Value.type "getset_descriptor") none (Data.fields #[vS "__weakref__" 516,vR 243,Value.builtin "ExceptionGroup.__weakref__", vN]) #[]
def K68.x250 (P:Params):Obj:=oT #[vS "_law_script" 526,vS "_law_k" 527]
def K68.x253 (P:Params):Obj:=oC #[vS "_law_cell_at" 523,vS "_law_cell_at" 524,cP 525,vI 150 0,vI 2 0,i0,i0,i3,vR 248,vT,i1,vR 249,vN,vR 250,vR 251,vR 252,vI 528 0,vI 150 0,cP 529]
def K68.x254 (P:Params):Obj:=oF vF "_law_cell_at" "_law_cell_at" (top 33) 3 mN (vR 253)
def K68.x257 (P:Params):Obj:=oT #[vS "_law_cell" 534,vS "_law_k" 535,vS "_law_number" 536]
def K68.x260 (P:Params):Obj:=oC #[vS "_law_mixed" 531,vS "_law_mixed" 532,cP 533,vI 154 0,vI 2 0,i0,i0,i3,vR 255,vT,i1,vR 256,vN,vR 257,vR 258,vR 259,vI 537 0,vI 154 0,cP 538]
def K68.x261 (P:Params):Obj:=oF vF "_law_mixed" "_law_mixed" (top 34) 3 mN (vR 260)
def K68.x265 (P:Params):Obj:=oC #[vS "_law_names" 540,vS "_law_names" 541,cP 542,vI 158 0,vI 1 0,i0,i0,i3,vR 262,vT,i1,vR 263,vN,vN,vN,vR 264,vI 543 0,vI 158 0,cP 544]
def K68.x266 (P:Params):Obj:=oF vF "_law_names" "_law_names" (top 35) 3 mN (vR 265)
def K68.x272 (P:Params):Obj:=oC #[vS "_law_great" 546,vS "_law_great" 547,cP 548,vI 171 0,vI 1 0,i0,i0,i3,vR 267,vT,i1,vR 268,vN,vR 269,vR 270,vR 271,vI 550 0,vI 171 0,cP 551]
def K68.x273 (P:Params):Obj:=oF vF "_law_great" "_law_great" (top 36) 3 mN (vR 272)
def K68.x276 (P:Params):Obj:=oT #[vS "_law_turning" 556,vS "_law_mode" 557,vS "_law_name" 558,vS "_law_kind" 559,vS "_law_rules" 560,vS "_law_row" 561,vS "_law_rule_here" 562]
def K68.x279 (P:Params):Obj:=oC #[vS "_law_rule" 553,vS "_law_rule" 554,cP 555,vI 173 0,vI 3 0,i0,i0,i3,vR 274,vT,i1,vR 275,vN,vR 276,vR 277,vR 278,vI 563 0,vI 173 0,cP 564]
def K68.x280 (P:Params):Obj:=oF vF "_law_rule" "_law_rule" (top 37) 3 mN (vR 279)
def K68.x286 (P:Params):Obj:=oC #[vS "_law_whole" 566,vS "_law_whole" 567,cP 568,vI 179 0,vI 1 0,i0,i0,i3,vR 281,vT,i1,vR 282,vN,vR 283,vR 284,vR 285,vI 570 0,vI 179 0,cP 571]
def K68.x287 (P:Params):Obj:=oF vF "_law_whole" "_law_whole" (top 38) 3 mN (vR 286)
def K68.x290 (P:Params):Obj:=oT #[vS "_law_found" 576,vS "_law_part" 577]
def K68.x293 (P:Params):Obj:=oC #[vS "_law_is_term" 573,vS "_law_is_term" 574,cP 575,vI 181 0,vI 1 0,i0,i0,i3,vR 288,vT,i1,vR 289,vN,vR 290,vR 291,vR 292,vI 578 0,vI 181 0,cP 579]
def K68.x294 (P:Params):Obj:=oF vF "_law_is_term" "_law_is_term" (top 39) 3 mN (vR 293)
def K68.x297 (P:Params):Obj:=oT #[vS "_law_found" 584,vS "_law_due_here" 585,vS "_law_kind" 586,vS "_law_rules" 587,vS "_law_rule_here" 588]
def K68.x300 (P:Params):Obj:=oC #[vS "_law_same" 581,vS "_law_same" 582,cP 583,vI 194 0,vI 2 0,i0,i0,i3,vR 295,vT,i1,vR 296,vN,vR 297,vR 298,vR 299,vI 589 0,vI 194 0,cP 590]
def K68.x301 (P:Params):Obj:=oF vF "_law_same" "_law_same" (top 40) 3 mN (vR 300)
def K68.x305 (P:Params):Obj:=oC #[vS "_law_leaves" 592,vS "_law_leaves" 593,cP 594,vI 202 0,vI 3 0,i0,i0,i3,vR 302,vT,i1,vR 303,vN,vN,vN,vR 304,vI 595 0,vI 202 0,cP 596]
def K68.x306 (P:Params):Obj:=oF vF "_law_leaves" "_law_leaves" (top 41) 3 mN (vR 305)
def K68.x309 (P:Params):Obj:=oT #[vS "_law_name" 601,vS "_law_add" 602,vS "_law_count" 603,vS "_law_inner" 604,vS "_law_parts" 605,vS "_law_k" 606]
def K68.x312 (P:Params):Obj:=oC #[vS "_law_chain" 598,vS "_law_chain" 599,cP 600,vI 204 0,vI 4 0,i0,i0,i3,vR 307,vT,i1,vR 308,vN,vR 309,vR 310,vR 311,vI 607 0,vI 204 0,cP 608]
def K68.x313 (P:Params):Obj:=oF vF "_law_chain" "_law_chain" (top 42) 3 mN (vR 312)
def K68.x316 (P:Params):Obj:=oT #[vS "_law_names_here" 613,vS "_law_adds" 614,vS "_law_goal" 615,vS "_law_pick" 616,vS "_law_each" 617,vS "_law_more" 618,vS "_law_calls" 619,vS "_law_full" 620,vS "_law_bare" 621,vS "_law_leaf" 622,vS "_law_inner" 623]
def K68.x319 (P:Params):Obj:=oC #[vS "_law_wide" 610,vS "_law_wide" 611,cP 612,vI 209 0,vI 4 0,i0,i0,i3,vR 314,vT,i1,vR 315,vN,vR 316,vR 317,vR 318,vI 624 0,vI 209 0,cP 625]
def K68.x320 (P:Params):Obj:=oF vF "_law_wide" "_law_wide" (top 43) 3 mN (vR 319)
def K68.x323 (P:Params):Obj:=oT #[vS "_law_names_here" 630,vS "_law_adds" 631,vS "_law_goal" 632,vS "_law_pick" 633,vS "_law_count" 634,vS "_law_each" 635,vS "_law_bare" 636,vS "_law_full" 637]
def K68.x326 (P:Params):Obj:=oC #[vS "_law_long" 627,vS "_law_long" 628,cP 629,vI 222 0,vI 4 0,i0,i0,i3,vR 321,vT,i1,vR 322,vN,vR 323,vR 324,vR 325,vI 638 0,vI 222 0,cP 639]
def K68.x327 (P:Params):Obj:=oF vF "_law_long" "_law_long" (top 44) 3 mN (vR 326)
def K68.x331 (P:Params):Obj:=oC #[vS "_law_plain" 641,vS "_law_plain" 642,cP 643,vI 228 0,vI 1 0,i0,i0,i3,vR 328,vT,i1,vR 329,vN,vN,vN,vR 330,vI 644 0,vI 228 0,cP 645]
def K68.x332 (P:Params):Obj:=oF vF "_law_plain" "_law_plain" (top 45) 3 mN (vR 331)
def K68.x335 (P:Params):Obj:=oT #[vS "_law_term" 650,vS "_law_name" 651,vS "_law_number" 652,vS "_law_k" 653,vS "_law_inner" 654]
def K68.x338 (P:Params):Obj:=oC #[vS "_law_spoiled" 647,vS "_law_spoiled" 648,cP 649,vI 232 0,vI 3 0,i0,i0,i3,vR 333,vT,i1,vR 334,vN,vR 335,vR 336,vR 337,vI 655 0,vI 232 0,cP 656]
def K68.x339 (P:Params):Obj:=oF vF "_law_spoiled" "_law_spoiled" (top 46) 3 mN (vR 338)
def K68.x343 (P:Params):Obj:=oC #[vS "_law_on" 658,vS "_law_on" 659,cP 660,vI 238 0,vI 3 0,i0,i0,i3,vR 340,vT,i1,vR 341,vN,vN,vN,vR 342,vI 661 0,vI 238 0,cP 662]
def K68.x344 (P:Params):Obj:=oF vF "_law_on" "_law_on" (top 47) 3 mN (vR 343)
def K68.x347 (P:Params):Obj:=oT #[vS "_law_term" 667,vS "_law_total" 668,vS "_law_deep" 669,vS "_law_part" 670,vS "_law_one_here" 671,vS "_law_other" 672]
def K68.x350 (P:Params):Obj:=oC #[vS "_law_measure" 664,vS "_law_measure" 665,cP 666,vI 244 0,vI 1 0,i0,i0,i3,vR 345,vT,i1,vR 346,vN,vR 347,vR 348,vR 349,vI 673 0,vI 244 0,cP 674]
def K68.x351 (P:Params):Obj:=oF vF "_law_measure" "_law_measure" (top 48) 3 mN (vR 350)
def K68.x354 (P:Params):Obj:=oT #[vS "_law_names_here" 679,vS "_law_term" 680,vS "_law_at_start" 681,vS "_law_wood" 682,vS "_law_rules" 683]
def K68.x357 (P:Params):Obj:=oC #[vS "_law_one" 676,vS "_law_one" 677,cP 678,vI 252 0,vI 3 0,i0,i0,i3,vR 352,vT,i1,vR 353,vN,vR 354,vR 355,vR 356,vI 684 0,vI 252 0,cP 685]
def K68.x358 (P:Params):Obj:=oF vF "_law_one" "_law_one" (top 49) 3 mN (vR 357)
def K68.x361 (P:Params):Obj:=oT #[vS "_law_one_here" 690,vS "_law_other" 691,vS "_law_rules" 692,vS "_law_term" 693]
def K68.x364 (P:Params):Obj:=oC #[vS "_law_due" 687,vS "_law_due" 688,cP 689,vI 260 0,vI 2 0,i0,i0,i3,vR 359,vT,i1,vR 360,vN,vR 361,vR 362,vR 363,vI 694 0,vI 260 0,cP 695]
def K68.x365 (P:Params):Obj:=oF vF "_law_due" "_law_due" (top 50) 3 mN (vR 364)
def K68.x368 (P:Params):Obj:=oT #[vS "_law_one_here" 700,vS "_law_other" 701,vS "_law_odd" 702,vS "_law_found" 703,vS "_law_refused" 704,vS "e" 705,vS "_law_due_here" 706,vS "_law_terms" 707,vS "_law_term" 708,vS "_law_total" 709,vS "_law_deep" 710]
def K68.x371 (P:Params):Obj:=oC #[vS "_law_right" 697,vS "_law_right" 698,cP 699,vI 267 0,vI 3 0,i0,i0,i3,vR 366,vT,i1,vR 367,vN,vR 368,vR 369,vR 370,vI 711 0,vI 267 0,cP 712]
def K68.x372 (P:Params):Obj:=oF vF "_law_right" "_law_right" (top 51) 3 mN (vR 371)
def K68.x376 (P:Params):Obj:=oC #[vS "law" 714,vS "law" 715,cP 716,vI 285 0,vI 1 0,i0,i0,i3,vR 373,vT,i1,vR 374,vN,vN,vN,vR 375,vI 717 0,vI 285 0,cP 718]
def K68.x377 (P:Params):Obj:=oF vF "law" "law" (top 52) 3 mN (vR 376)
noncomputable def K68.hp:Params→Fg:=fun P=>[(2,Obj.mk vN none (Data.dict #[]) #[]),(3,x3 P),(15,oT #[]),(17,oT #[vS "k" 190]),(18,oT #[]),(20,x20 P),(21,x21 P),(22,oT #[Value.type "ValueError"]),(29,oT #[]),(30,x30 P),(31,x31 P),(32,x32 P),(35,oT #[vR 31]),(42,oT #[]),(43,x43 P),(44,x44 P),(47,oT #[vR 31]),(54,oT #[]),(55,x55 P),(56,x56 P),(59,oT #[]),(61,oT #[vS "term" 251]),(62,oT #[]),(64,x64 P),(65,x65 P),(66,oT #[]),(68,x68 P),(69,oT #[]),(71,x71 P),(72,x72 P),(73,oT #[]),(76,x76 P),(77,x77 P),(78,oT #[]),(80,oT #[vS "term" 273,vS "parts" 274]),(81,oT #[]),(83,x83 P),(84,x84 P),(85,oT #[]),(88,x88 P),(89,x89 P),(90,oT #[]),(92,oT #[vS "wood" 289,vS "kind" 290]),(93,oT #[]),(95,x95 P),(96,x96 P),(97,oT #[]),(100,x100 P),(101,x101 P),(102,oT #[]),(104,x104 P),(105,oT #[]),(107,x107 P),(108,x108 P),(109,oT #[]),(112,x112 P),(113,x113 P),(114,oT #[]),(116,oT #[vS "wood" 324]),(117,oT #[]),(119,x119 P),(120,x120 P),(121,oT #[]),(123,oT #[vS "turning" 333,vS "wood" 334]),(124,oT #[]),(126,x126 P),(127,x127 P),(128,oT #[]),(130,oT #[vS "fault" 341,vS "spot" 342]),(131,oT #[]),(133,x133 P),(134,x134 P),(142,oT #[]),(145,x145 P),(146,x146 P),(147,oT #[]),(149,x149 P),(150,oT #[]),(152,x152 P),(153,x153 P),(154,oT #[]),(156,x156 P),(157,oT #[]),(159,x159 P),(160,x160 P),(161,oT #[]),(163,x163 P),(164,oT #[]),(166,x166 P),(167,x167 P),(168,oT #[]),(170,oT #[vS "self" 402,vS "fault" 403]),(171,oT #[]),(173,x173 P),(174,x174 P),(175,oT #[]),(177,oT #[vS "self" 410]),(178,oT #[]),(180,x180 P),(181,x181 P),(182,x182 P),(183,x183 P),(184,x184 P),(185,x185 P),(186,x186 P),(189,oT #[]),(191,x191 P),(192,oT #[]),(194,x194 P),(195,x195 P),(196,oT #[]),(198,x198 P),(199,oT #[vS "one" 456,vS "other" 457]),(201,x201 P),(202,x202 P),(203,oT #[]),(206,x206 P),(207,x207 P),(215,oT #[]),(217,oT #[vS "self" 482,vS "other" 483]),(218,oT #[]),(220,x220 P),(221,x221 P),(222,oT #[]),(224,x224 P),(225,oT #[]),(227,x227 P),(228,x228 P),(229,oT #[]),(232,x232 P),(233,x233 P),(234,oT #[]),(236,oT #[vS "self" 506,vS "room" 507]),(237,oT #[]),(239,x239 P),(240,x240 P),(241,oT #[vS "left" 511,vS "other" 512]),(242,x242 P),(243,x243 P),(244,x244 P),(245,x245 P),(248,oT #[]),(250,x250 P),(251,oT #[]),(253,x253 P),(254,x254 P),(255,oT #[]),(257,x257 P),(258,oT #[]),(260,x260 P),(261,x261 P),(262,oT #[]),(265,x265 P),(266,x266 P),(267,oT #[]),(269,oT #[vS "_law_cell" 549]),(270,oT #[]),(272,x272 P),(273,x273 P),(274,oT #[]),(276,x276 P),(277,oT #[]),(279,x279 P),(280,x280 P),(281,oT #[]),(283,oT #[vS "_law_found" 569]),(284,oT #[]),(286,x286 P),(287,x287 P),(288,oT #[]),(290,x290 P),(291,oT #[]),(293,x293 P),(294,x294 P),(295,oT #[]),(297,x297 P),(298,oT #[]),(300,x300 P),(301,x301 P),(302,oT #[]),(305,x305 P),(306,x306 P),(307,oT #[]),(309,x309 P),(310,oT #[]),(312,x312 P),(313,x313 P),(314,oT #[]),(316,x316 P),(317,oT #[]),(319,x319 P),(320,x320 P),(321,oT #[]),(323,x323 P),(324,oT #[]),(326,x326 P),(327,x327 P),(328,oT #[]),(331,x331 P),(332,x332 P),(333,oT #[]),(335,x335 P),(336,oT #[]),(338,x338 P),(339,x339 P),(340,oT #[]),(343,x343 P),(344,x344 P),(345,oT #[]),(347,x347 P),(348,oT #[]),(350,x350 P),(351,x351 P),(352,oT #[]),(354,x354 P),(355,oT #[]),(357,x357 P),(358,x358 P),(359,oT #[]),(361,x361 P),(362,oT #[]),(364,x364 P),(365,x365 P),(366,oT #[]),(368,x368 P),(369,oT #[]),(371,x371 P),(372,x372 P),(373,oT #[]),(376,x376 P),(377,x377 P)]
end
noncomputable def PySem.W.Fast.tw12488285084185418149:PySem.Params→Fg:=K68.hp
theorem PySem.W.Fast.te12488285084185418149:K68.hp=PySem.W.Fast.tw12488285084185418149:=rfl
namespace PySem.W.Fast
open PySem K68
def tw16514880814690438054:Params→Obj:=fun P=>oF vN "_law_plain" "_law_plain" (top 45) 0 vN vN
def te16514880814690438054:=@rfl _ tw16514880814690438054
def tw16274181556850913597:Params→Obj:=fun P=>oF vF "law" "law" (top 52) 3 mN (vR 376)
def te16274181556850913597:=@rfl _ tw16274181556850913597
def tw2157625236355917227:Params→Obj:=fun P=>oF vN "with_modes" "with_modes" (top 8) 0 vN vN
def te2157625236355917227:=@rfl _ tw2157625236355917227
def tw16131819037728336908:Params→Obj:=fun P=>oF vF "_law_on" "_law_on" (top 47) 3 mN (vR 343)
def te16131819037728336908:=@rfl _ tw16131819037728336908
def tw10832259806607538011:Params→Obj:=fun P=>oF vF "_law_right" "_law_right" (top 51) 3 mN (vR 371)
def te10832259806607538011:=@rfl _ tw10832259806607538011
def tw3749495744513070960:Params→Obj:=fun P=>oF vN "number_calls" "number_calls" (top 15) 0 vN vN
def te3749495744513070960:=@rfl _ tw3749495744513070960
def tw15704309664226099439:Params→Obj:=fun P=>oF vN "tree_and_place" "Demands.tree_and_place" (L2.inClass (top 22) 5) 0 vN vN
def te15704309664226099439:=@rfl _ tw15704309664226099439
def tw14119223149268925795:Params→Obj:=fun P=>oF vN "mode_behind" "mode_behind" (top 30) 0 vN vN
def te14119223149268925795:=@rfl _ tw14119223149268925795
def tw3921821971464153557:Params→Obj:=fun P=>oF vN "by_rule" "TermBehind.by_rule" (L2.inClass (top 31) 2) 0 vN vN
def te3921821971464153557:=@rfl _ tw3921821971464153557
def tw4640765520824631170:Params→Obj:=fun P=>oF vF "meet_demand" "Demands.meet_demand" (L2.inClass (top 22) 3) 3 (vS "turnery.straying" 328) (vR 166)
def te4640765520824631170:=@rfl _ tw4640765520824631170
def tw3290849012926073678:Params→Obj:=fun P=>oF vF "_law_measure" "_law_measure" (top 48) 3 mN (vR 350)
def te3290849012926073678:=@rfl _ tw3290849012926073678
def tw5554024577925705112:Params→Obj:=fun P=>oF vF "rows_of" "rows_of" (top 12) 3 (vS "turnery.woods" 278) (vR 95)
def te5554024577925705112:=@rfl _ tw5554024577925705112
def tw16477067984603468103:Params→Obj:=fun P=>oF vN "rows_of" "rows_of" (top 12) 0 vN vN
def te16477067984603468103:=@rfl _ tw16477067984603468103
def tw10904131433527584011:Params→Obj:=fun P=>oF vF "look" "Demands.look" (L2.inClass (top 22) 2) 3 (vS "turnery.straying" 328) (vR 159)
def te10904131433527584011:=@rfl _ tw10904131433527584011
def tw9684495047005513470:Params→Obj:=fun P=>oF vF "with_parts" "with_parts" (top 9) 3 (vS "turnery.terms" 246) (vR 83)
def te9684495047005513470:=@rfl _ tw9684495047005513470
def tw543809382444015195:Params→Obj:=fun P=>oF vF "_law_chain" "_law_chain" (top 42) 3 mN (vR 312)
def te543809382444015195:=@rfl _ tw543809382444015195
def tw16187253367873608602:Params→Obj:=fun P=>oF vF "by_mode" "TermBehind.by_mode" (L2.inClass (top 31) 1) 3 (vS "turnery.behind" 442) (vR 227)
def te16187253367873608602:=@rfl _ tw16187253367873608602
def tw13655837364499243168:Params→Obj:=fun P=>oF vN "meet_fault" "Demands.meet_fault" (L2.inClass (top 22) 4) 0 vN vN
def te13655837364499243168:=@rfl _ tw13655837364499243168
def tw3247269021075879619:Params→Obj:=fun P=>oF vF "_law_names" "_law_names" (top 35) 3 mN (vR 265)
def te3247269021075879619:=@rfl _ tw3247269021075879619
def tw9676274727731328605:Params→Obj:=fun P=>oF vF "_law_plain" "_law_plain" (top 45) 3 mN (vR 331)
def te9676274727731328605:=@rfl _ tw9676274727731328605
def tw8309295606520024425:Params→Obj:=fun P=>oF vF "_law_is_term" "_law_is_term" (top 39) 3 mN (vR 293)
def te8309295606520024425:=@rfl _ tw8309295606520024425
def tw14935957403485312994:Params→Obj:=fun P=>oF vN "look" "Demands.look" (L2.inClass (top 22) 2) 0 vN vN
def te14935957403485312994:=@rfl _ tw14935957403485312994
def tw11576822505930109501:Params→Obj:=fun P=>oF vF "number_calls" "number_calls" (top 15) 3 (vS "turnery.numbering" 294) (vR 107)
def te11576822505930109501:=@rfl _ tw11576822505930109501
def tw12275208377692668077:Params→Obj:=fun P=>oF vF "look_by" "Demands.look_by" (L2.inClass (top 22) 1) 3 (vS "turnery.straying" 328) (vR 152)
def te12275208377692668077:=@rfl _ tw12275208377692668077
def tw7271088834451439305:Params→Obj:=fun P=>oF vN "_law_great" "_law_great" (top 36) 0 vN vN
def te7271088834451439305:=@rfl _ tw7271088834451439305
def tw3246838348247829618:Params→Obj:=fun P=>oF vN "_law_long" "_law_long" (top 44) 0 vN vN
def te3246838348247829618:=@rfl _ tw3246838348247829618
def tw1877063255767012684:Params→Obj:=fun P=>oF vF "row_above" "row_above" (top 18) 3 (vS "turnery.ways" 319) (vR 119)
def te1877063255767012684:=@rfl _ tw1877063255767012684
def tw137509182308031937:Params→Obj:=fun P=>oF vF "_law_due" "_law_due" (top 50) 3 mN (vR 364)
def te137509182308031937:=@rfl _ tw137509182308031937
def tw7632236230566232874:Params→Obj:=fun P=>oF vF "tree_and_place" "Demands.tree_and_place" (L2.inClass (top 22) 5) 3 (vS "turnery.straying" 328) (vR 180)
def te7632236230566232874:=@rfl _ tw7632236230566232874
def tw7857431635595041819:Params→Obj:=fun P=>oF vF "behind" "behind" (top 29) 3 (vS "turnery.behind" 442) (vR 201)
def te7857431635595041819:=@rfl _ tw7857431635595041819
def tw7439932694948278341:Params→Obj:=fun P=>oF vN "meet_demand" "Demands.meet_demand" (L2.inClass (top 22) 3) 0 vN vN
def te7439932694948278341:=@rfl _ tw7439932694948278341
def tw5500031750864979216:Params→Obj:=fun P=>oF vN "_law_mixed" "_law_mixed" (top 34) 0 vN vN
def te5500031750864979216:=@rfl _ tw5500031750864979216
def tw6168875953256074042:Params→Obj:=fun P=>oF vN "__init__" "Demands.__init__" (L2.inClass (top 22) 0) 0 vN vN
def te6168875953256074042:=@rfl _ tw6168875953256074042
def tw15679229051856419466:Params→Obj:=fun P=>oF vF "_law_one" "_law_one" (top 49) 3 mN (vR 357)
def te15679229051856419466:=@rfl _ tw15679229051856419466
def tw1034796392285977238:Params→Obj:=fun P=>oF vN "_law_names" "_law_names" (top 35) 0 vN vN
def te1034796392285977238:=@rfl _ tw1034796392285977238
def tw1653736474716839293:Params→Obj:=fun P=>oF vN "look_by" "Demands.look_by" (L2.inClass (top 22) 1) 0 vN vN
def te1653736474716839293:=@rfl _ tw1653736474716839293
def tw2464029769662118341:Params→Obj:=fun P=>oF vF "__init__" "TermBehind.__init__" (L2.inClass (top 31) 0) 3 (vS "turnery.behind" 442) (vR 220)
def te2464029769662118341:=@rfl _ tw2464029769662118341
def tw9202607039516798425:Params→Obj:=fun P=>oF vN "_law_chain" "_law_chain" (top 42) 0 vN vN
def te9202607039516798425:=@rfl _ tw9202607039516798425
def tw8336679652040802730:Params→Obj:=fun P=>oF vF "_law_mixed" "_law_mixed" (top 34) 3 mN (vR 260)
def te8336679652040802730:=@rfl _ tw8336679652040802730
def tw314976097470909283:Params→Obj:=fun P=>oF vN "own_wood" "own_wood" (top 11) 0 vN vN
def te314976097470909283:=@rfl _ tw314976097470909283
def tw6558775932923253474:Params→Obj:=fun P=>oF vF "_law_rule" "_law_rule" (top 37) 3 mN (vR 279)
def te6558775932923253474:=@rfl _ tw6558775932923253474
def tw2348441743995924113:Params→Obj:=fun P=>oF vN "__init__" "TermBehind.__init__" (L2.inClass (top 31) 0) 0 vN vN
def te2348441743995924113:=@rfl _ tw2348441743995924113
def tw3130430204046582797:Params→Obj:=fun P=>oF vN "_wall" "_wall" (top 0) 0 vN vN
def te3130430204046582797:=@rfl _ tw3130430204046582797
def tw13918323690984433218:Params→Obj:=fun P=>oF vF "own_wood" "own_wood" (top 11) 3 (vS "turnery.woods" 278) (vR 88)
def te13918323690984433218:=@rfl _ tw13918323690984433218
def tw14146710506673836913:Params→Obj:=fun P=>oF vN "rule_of" "rule_of" (top 24) 0 vN vN
def te14146710506673836913:=@rfl _ tw14146710506673836913
def tw9595454053710680785:Params→Obj:=fun P=>oF vF "_law_long" "_law_long" (top 44) 3 mN (vR 326)
def te9595454053710680785:=@rfl _ tw9595454053710680785
def tw3651975067569488574:Params→Obj:=fun P=>oF vN "is_call" "is_call" (top 6) 0 vN vN
def te3651975067569488574:=@rfl _ tw3651975067569488574
def tw15777016942487255971:Params→Obj:=fun P=>oF vN "numbered_mode" "numbered_mode" (top 16) 0 vN vN
def te15777016942487255971:=@rfl _ tw15777016942487255971
def tw1594072635543294955:Params→Obj:=fun P=>oF vF "_law_cell_at" "_law_cell_at" (top 33) 3 mN (vR 253)
def te1594072635543294955:=@rfl _ tw1594072635543294955
def tw12754586693411846234:Params→Obj:=fun P=>oF vF "_law_great" "_law_great" (top 36) 3 mN (vR 272)
def te12754586693411846234:=@rfl _ tw12754586693411846234
def tw8756334888746801414:Params→Obj:=fun P=>oF vN "_law_wide" "_law_wide" (top 43) 0 vN vN
def te8756334888746801414:=@rfl _ tw8756334888746801414
def tw18136456418568224630:Params→Obj:=fun P=>oF vN "calls_of" "calls_of" (top 7) 0 vN vN
def te18136456418568224630:=@rfl _ tw18136456418568224630
def tw2191517022014116052:Params→Obj:=fun P=>oF vN "levels_needed" "levels_needed" (top 21) 0 vN vN
def te2191517022014116052:=@rfl _ tw2191517022014116052
def tw2369123094345191423:Params→Obj:=fun P=>oF vN "_law_one" "_law_one" (top 49) 0 vN vN
def te2369123094345191423:=@rfl _ tw2369123094345191423
def tw17288193760478668376:Params→Obj:=fun P=>oF vF "with_modes" "with_modes" (top 8) 3 (vS "turnery.terms" 246) (vR 76)
def te17288193760478668376:=@rfl _ tw17288193760478668376
def tw4780917779532500822:Params→Obj:=fun P=>oF vN "_law_on" "_law_on" (top 47) 0 vN vN
def te4780917779532500822:=@rfl _ tw4780917779532500822
def tw2141159554621814284:Params→Obj:=fun P=>oF vF "numbered_mode" "numbered_mode" (top 16) 3 (vS "turnery.numbering" 294) (vR 112)
def te2141159554621814284:=@rfl _ tw2141159554621814284
def tw3944884703056269877:Params→Obj:=fun P=>oF vN "_law_cell_at" "_law_cell_at" (top 33) 0 vN vN
def te3944884703056269877:=@rfl _ tw3944884703056269877
def tw4779751922809726726:Params→Obj:=fun P=>oF vF "levels_needed" "levels_needed" (top 21) 3 (vS "turnery.straying" 328) (vR 133)
def te4779751922809726726:=@rfl _ tw4779751922809726726
def tw13859447171638218834:Params→Obj:=fun P=>oF vF "meet_fault" "Demands.meet_fault" (L2.inClass (top 22) 4) 3 (vS "turnery.straying" 328) (vR 173)
def te13859447171638218834:=@rfl _ tw13859447171638218834
def tw10693746863337650012:Params→Obj:=fun P=>oF vN "_law_whole" "_law_whole" (top 38) 0 vN vN
def te10693746863337650012:=@rfl _ tw10693746863337650012
def tw3548043727573330480:Params→Obj:=fun P=>oF vF "_law_leaves" "_law_leaves" (top 41) 3 mN (vR 305)
def te3548043727573330480:=@rfl _ tw3548043727573330480
def tw1961996116355610786:Params→Obj:=fun P=>oF vN "law" "law" (top 52) 0 vN vN
def te1961996116355610786:=@rfl _ tw1961996116355610786
def tw18073303861144158577:Params→Obj:=fun P=>oF vF "is_call" "is_call" (top 6) 3 (vS "turnery.terms" 246) (vR 64)
def te18073303861144158577:=@rfl _ tw18073303861144158577
def tw15278566069088834366:Params→Obj:=fun P=>oF vN "_law_is_term" "_law_is_term" (top 39) 0 vN vN
def te15278566069088834366:=@rfl _ tw15278566069088834366
def tw4407557466876291913:Params→Obj:=fun P=>oF vF "calls_of" "calls_of" (top 7) 3 (vS "turnery.terms" 246) (vR 71)
def te4407557466876291913:=@rfl _ tw4407557466876291913
def tw11828847069314931778:Params→Obj:=fun P=>oF vN "by_mode" "TermBehind.by_mode" (L2.inClass (top 31) 1) 0 vN vN
def te11828847069314931778:=@rfl _ tw11828847069314931778
def tw5448363506340050275:Params→Obj:=fun P=>oF vF "__init__" "Demands.__init__" (L2.inClass (top 22) 0) 3 (vS "turnery.straying" 328) (vR 145)
def te5448363506340050275:=@rfl _ tw5448363506340050275
def tw9528646180950567680:Params→Obj:=fun P=>oF vN "_law_right" "_law_right" (top 51) 0 vN vN
def te9528646180950567680:=@rfl _ tw9528646180950567680
def tw3789435052291990730:Params→Obj:=fun P=>oF vN "as_met" "as_met" (top 14) 0 vN vN
def te3789435052291990730:=@rfl _ tw3789435052291990730
def tw10668519889477711378:Params→Obj:=fun P=>oF vN "strays_at_all" "strays_at_all" (top 20) 0 vN vN
def te10668519889477711378:=@rfl _ tw10668519889477711378
def tw6204786937277923816:Params→Obj:=fun P=>oF vN "_law_due" "_law_due" (top 50) 0 vN vN
def te6204786937277923816:=@rfl _ tw6204786937277923816
def tw6112852858125691518:Params→Obj:=fun P=>oF vN "_law_same" "_law_same" (top 40) 0 vN vN
def te6112852858125691518:=@rfl _ tw6112852858125691518
def tw12348778344137368357:Params→Obj:=fun P=>oF vF "_law_whole" "_law_whole" (top 38) 3 mN (vR 286)
def te12348778344137368357:=@rfl _ tw12348778344137368357
def tw9839612368003280992:Params→Obj:=fun P=>oF vN "_law_leaves" "_law_leaves" (top 41) 0 vN vN
def te9839612368003280992:=@rfl _ tw9839612368003280992
def tw1203703795755831394:Params→Obj:=fun P=>oF vF "rule_of" "rule_of" (top 24) 3 (vS "turnery.turnings" 427) (vR 194)
def te1203703795755831394:=@rfl _ tw1203703795755831394
def tw11365118729988981054:Params→Obj:=fun P=>oF vF "by_rule" "TermBehind.by_rule" (L2.inClass (top 31) 2) 3 (vS "turnery.behind" 442) (vR 232)
def te11365118729988981054:=@rfl _ tw11365118729988981054
def tw7725269817320491530:Params→Obj:=fun P=>oF vF "_law_same" "_law_same" (top 40) 3 mN (vR 300)
def te7725269817320491530:=@rfl _ tw7725269817320491530
def tw4311311859129140530:Params→Obj:=fun P=>oF vN "_law_measure" "_law_measure" (top 48) 0 vN vN
def te4311311859129140530:=@rfl _ tw4311311859129140530
def tw10150195546263116712:Params→Obj:=fun P=>oF vF "_wall" "_wall" (top 0) 3 (vS "__main__" 164) (vR 20)
def te10150195546263116712:=@rfl _ tw10150195546263116712
def tw482222782002525968:Params→Obj:=fun P=>oF vN "behind" "behind" (top 29) 0 vN vN
def te482222782002525968:=@rfl _ tw482222782002525968
def tw4923829333920558197:Params→Obj:=fun P=>oF vF "as_met" "as_met" (top 14) 3 (vS "turnery.numbering" 294) (vR 100)
def te4923829333920558197:=@rfl _ tw4923829333920558197
def tw11812517635367930158:Params→Obj:=fun P=>oF vN "row_above" "row_above" (top 18) 0 vN vN
def te11812517635367930158:=@rfl _ tw11812517635367930158
def tw18316631757182867632:Params→Obj:=fun P=>oF vF "mode_behind" "mode_behind" (top 30) 3 (vS "turnery.behind" 442) (vR 206)
def te18316631757182867632:=@rfl _ tw18316631757182867632
def tw15018604087007156337:Params→Obj:=fun P=>oF vF "_law_wide" "_law_wide" (top 43) 3 mN (vR 319)
def te15018604087007156337:=@rfl _ tw15018604087007156337
def tw9844835688083904541:Params→Obj:=fun P=>oF vF "_law_spoiled" "_law_spoiled" (top 46) 3 mN (vR 338)
def te9844835688083904541:=@rfl _ tw9844835688083904541
def tw16759924801678049187:Params→Obj:=fun P=>oF vN "_law_spoiled" "_law_spoiled" (top 46) 0 vN vN
def te16759924801678049187:=@rfl _ tw16759924801678049187
def tw16458093255840992014:Params→Obj:=fun P=>oF vF "strays_at_all" "strays_at_all" (top 20) 3 (vS "turnery.straying" 328) (vR 126)
def te16458093255840992014:=@rfl _ tw16458093255840992014
def tw17305596464158564456:Params→Obj:=fun P=>oF vN "with_parts" "with_parts" (top 9) 0 vN vN
def te17305596464158564456:=@rfl _ tw17305596464158564456
def tw18087841829161838101:Params→Obj:=fun P=>oF vN "_law_rule" "_law_rule" (top 37) 0 vN vN
def te18087841829161838101:=@rfl _ tw18087841829161838101
def tw3273432631359893235:Params→Obj:=fun P=>oF vF "take_one" "TermBehind.take_one" (L2.inClass (top 31) 3) 3 (vS "turnery.behind" 442) (vR 239)
def te3273432631359893235:=@rfl _ tw3273432631359893235
def tw5275643363580273657:Params→Obj:=fun P=>oF vN "take_one" "TermBehind.take_one" (L2.inClass (top 31) 3) 0 vN vN
def te5275643363580273657:=@rfl _ tw5275643363580273657
end PySem.W.Fast
noncomputable def PySem.W.Fast.tw4921806864226855700:PySem.Program:=PySem.Challenge.pw_turnery_k68_terms_too_great
theorem PySem.W.Fast.te4921806864226855700:(PySem.Challenge.pw_turnery_k68_terms_too_great:PySem.Program)=PySem.W.Fast.tw4921806864226855700:=rfl
noncomputable def PySem.W.Fast.tw11599585403980988000:PySem.Program:={ PySem.Challenge.pw_turnery_k68_terms_too_great with main:={ PySem.Challenge.pw_turnery_k68_terms_too_great.main with body:=[K68.top 0,K68.top 2,K68.top 3,K68.top 4,K68.top 6,K68.top 7,K68.top 8,K68.top 9,K68.top 11,K68.top 12,K68.top 14,K68.top 15,K68.top 16,K68.top 18,K68.top 20,K68.top 21,K68.top 22,K68.top 24,K68.top 26,K68.top 27,K68.top 28,K68.top 29,K68.top 30,K68.top 31,K68.top 33,K68.top 34,K68.top 35,K68.top 36,K68.top 37,K68.top 38,K68.top 39,K68.top 40,K68.top 41,K68.top 42,K68.top 43,K68.top 44,K68.top 45,K68.top 46,K68.top 47,K68.top 48,K68.top 49,K68.top 50,K68.top 51,K68.top 52] } }
theorem PySem.W.Fast.te11599585403980988000:({ PySem.Challenge.pw_turnery_k68_terms_too_great with main:={ PySem.Challenge.pw_turnery_k68_terms_too_great.main with body:=[K68.top 0,K68.top 2,K68.top 3,K68.top 4,K68.top 6,K68.top 7,K68.top 8,K68.top 9,K68.top 11,K68.top 12,K68.top 14,K68.top 15,K68.top 16,K68.top 18,K68.top 20,K68.top 21,K68.top 22,K68.top 24,K68.top 26,K68.top 27,K68.top 28,K68.top 29,K68.top 30,K68.top 31,K68.top 33,K68.top 34,K68.top 35,K68.top 36,K68.top 37,K68.top 38,K68.top 39,K68.top 40,K68.top 41,K68.top 42,K68.top 43,K68.top 44,K68.top 45,K68.top 46,K68.top 47,K68.top 48,K68.top 49,K68.top 50,K68.top 51,K68.top 52] } }:PySem.Program)=PySem.W.Fast.tw11599585403980988000:=rfl
noncomputable def PySem.W.Fast.tw10786002623068171620:List PySem.Stmt:=(PySem.Challenge.pw_turnery_k68_terms_too_great.main.body.drop 0).take 3
theorem PySem.W.Fast.te10786002623068171620:((PySem.Challenge.pw_turnery_k68_terms_too_great.main.body.drop 0).take 3:List PySem.Stmt)=PySem.W.Fast.tw10786002623068171620:=rfl
noncomputable def PySem.W.Fast.tw1351725881492179388:List PySem.Stmt:=(PySem.Challenge.pw_turnery_k68_terms_too_great.main.body.drop 3).take 1
theorem PySem.W.Fast.te1351725881492179388:((PySem.Challenge.pw_turnery_k68_terms_too_great.main.body.drop 3).take 1:List PySem.Stmt)=PySem.W.Fast.tw1351725881492179388:=rfl
noncomputable def PySem.W.Fast.tw8540295941886823561:List PySem.Stmt:=(PySem.Challenge.pw_turnery_k68_terms_too_great.main.body.drop 4).take 8
theorem PySem.W.Fast.te8540295941886823561:((PySem.Challenge.pw_turnery_k68_terms_too_great.main.body.drop 4).take 8:List PySem.Stmt)=PySem.W.Fast.tw8540295941886823561:=rfl
noncomputable def PySem.W.Fast.tw11311245099338479386:List PySem.Stmt:=(PySem.Challenge.pw_turnery_k68_terms_too_great.main.body.drop 12).take 10
theorem PySem.W.Fast.te11311245099338479386:((PySem.Challenge.pw_turnery_k68_terms_too_great.main.body.drop 12).take 10:List PySem.Stmt)=PySem.W.Fast.tw11311245099338479386:=rfl
noncomputable def PySem.W.Fast.tw11196119418810560329:List PySem.Stmt:=(PySem.Challenge.pw_turnery_k68_terms_too_great.main.body.drop 22).take 1
theorem PySem.W.Fast.te11196119418810560329:((PySem.Challenge.pw_turnery_k68_terms_too_great.main.body.drop 22).take 1:List PySem.Stmt)=PySem.W.Fast.tw11196119418810560329:=rfl
noncomputable def PySem.W.Fast.tw16696798128002012944:List PySem.Stmt:=(PySem.Challenge.pw_turnery_k68_terms_too_great.main.body.drop 23).take 8
theorem PySem.W.Fast.te16696798128002012944:((PySem.Challenge.pw_turnery_k68_terms_too_great.main.body.drop 23).take 8:List PySem.Stmt)=PySem.W.Fast.tw16696798128002012944:=rfl
noncomputable def PySem.W.Fast.tw15426281869458779412:List PySem.Stmt:=(PySem.Challenge.pw_turnery_k68_terms_too_great.main.body.drop 31).take 4
theorem PySem.W.Fast.te15426281869458779412:((PySem.Challenge.pw_turnery_k68_terms_too_great.main.body.drop 31).take 4:List PySem.Stmt)=PySem.W.Fast.tw15426281869458779412:=rfl
noncomputable def PySem.W.Fast.tw5473228081674917786:List PySem.Stmt:=(PySem.Challenge.pw_turnery_k68_terms_too_great.main.body.drop 35).take 12
theorem PySem.W.Fast.te5473228081674917786:((PySem.Challenge.pw_turnery_k68_terms_too_great.main.body.drop 35).take 12:List PySem.Stmt)=PySem.W.Fast.tw5473228081674917786:=rfl
noncomputable def PySem.W.Fast.tw4050225988086376804:List PySem.Stmt:=(PySem.Challenge.pw_turnery_k68_terms_too_great.main.body.drop 47).take 6
theorem PySem.W.Fast.te4050225988086376804:((PySem.Challenge.pw_turnery_k68_terms_too_great.main.body.drop 47).take 6:List PySem.Stmt)=PySem.W.Fast.tw4050225988086376804:=rfl
section
open PySem
open K68
noncomputable def K68.x11 (P:Params):Obj:={ cls:=Value.type "tuple", data:=Data.seq #[] }
def K68.x12 (P:Params):Obj:={ cls:=vN,data:=Data.fields #[vI 1 0,vI 0 0,vR 20,vI 5 0,vI 0 0,vR 27,vI 7 0,vI 0 0,vR 40,vI 9 0,vI 0 0,vR 52,vI 12 0,vI 0 0,vR 64,vI 14 0,vI 0 0,vR 71,vI 21 0,vI 0 0,vR 76,vI 25 0,vI 0 0,vR 83,vI 28 0,vI 0 0,vR 88,vI 30 0,vI 0 0,vR 95,vI 33 0,vI 0 0,vR 100,vI 44 0,vI 0 0,vR 107,vI 50 0,vI 0 0,vR 112,vI 53 0,vI 0 0,vR 119,vI 56 0,vI 0 0,vR 126,vI 58 0,vI 0 0,vR 133,vI 61 0,vI 0 0,vR 140,vI 104 0,vI 0 0,vR 194,vI 115 0,vI 0 0,vR 201,vI 120 0,vI 0 0,vR 206,vI 123 0,vI 0 0,vR 213,vI 150 0,vI 0 0,vR 253,vI 154 0,vI 0 0,vR 260,vI 158 0,vI 0 0,vR 265,vI 171 0,vI 0 0,vR 272,vI 173 0,vI 0 0,vR 279,vI 179 0,vI 0 0,vR 286,vI 181 0,vI 0 0,vR 293,vI 194 0,vI 0 0,vR 300,vI 202 0,vI 0 0,vR 305,vI 204 0,vI 0 0,vR 312,vI 209 0,vI 0 0,vR 319,vI 222 0,vI 0 0,vR 326,vI 228 0,vI 0 0,vR 331,vI 232 0,vI 0 0,vR 338,vI 238 0,vI 0 0,vR 343,vI 244 0,vI 0 0,vR 350,vI 252 0,vI 0 0,vR 357,vI 260 0,vI 0 0,vR 364,vI 267 0,vI 0 0,vR 371,vI 285 0,vI 0 0,vR 376] }
def K68.x13 (P:Params):Obj:={ cls:=Value.type "code", data:=Data.fields #[vS "<module>" 182,vS "<module>" 183,vS "/claim/cut.py" 184,vI 1 0,vI 0 0,vI 0 0,vI 0 0,vI 0 0,vR 11,Value.bool false,vI 181 0,vR 12,vN,vN,vN,vN,vI 185 0,vI 1 0,vS "/claim/cut.py" 186] }
def K68.x14 (P:Params):Obj:={ cls:=Value.type "frame", slots:=#[some (vR 13),some (vR 3),some (vR 3),none,some (vS "__main__" 164),none,some (vR 0)] }
noncomputable def K68.x19 (P:Params):Obj:=W.Fast.tw3130430204046582797 P
noncomputable def K68.x23 (P:Params):Obj:={ cls:=Value.type "builtin_function_or_method", data:=Data.fields #[Value.builtin "type.__prepare__", Value.type "type"] }
def K68.x24 (P:Params):Obj:={ cls:=Value.type "dict", data:=Data.dict #[hE P "__module__" 203 (vS "turnery.errors" 194),hE P "__qualname__" 205 (vS "TurnError" 204),hE P "__firstlineno__" 207 (vI 5 206),hE P "__static_attributes__" 208 (vR 29)] 4 }
noncomputable def K68.x25 (P:Params):Obj:={ cls:=Value.type "tuple", data:=Data.seq #[] }
def K68.x27 (P:Params):Obj:={ cls:=Value.type "code", data:=Data.fields #[vS "TurnError" 198,vS "TurnError" 199,vS "/claim/cut.py" 200,vI 5 0,vI 0 0,vI 0 0,vI 0 0,vI 0 0,vR 25,Value.bool false,vI 181 0,vR 26,vN,vN,vN,vN,vI 201 0,vI 5 0,vS "/claim/cut.py" 202] }
def K68.x28 (P:Params):Obj:={ cls:=Value.type "frame", slots:=#[some (vR 27),some (vR 3),some (vR 24),none,some (vS "turnery.errors" 194),none,some (vR 0)] }
def K68.x33 (P:Params):Obj:={ cls:=Value.type "super", data:=Data.fields #[vR 31,vR 31,vR 31] }
def K68.x34 (P:Params):Obj:={ cls:=Value.type "builtin_function_or_method", data:=Data.fields #[Value.builtin "object.__init_subclass__", vR 31] }
noncomputable def K68.x36 (P:Params):Obj:={ cls:=Value.type "builtin_function_or_method", data:=Data.fields #[Value.builtin "type.__prepare__", Value.type "type"] }
def K68.x37 (P:Params):Obj:={ cls:=Value.type "dict", data:=Data.dict #[hE P "__module__" 221 (vS "turnery.errors" 194),hE P "__qualname__" 223 (vS "TooGreat" 222),hE P "__firstlineno__" 225 (vI 7 224),hE P "__static_attributes__" 226 (vR 42)] 4 }
noncomputable def K68.x38 (P:Params):Obj:={ cls:=Value.type "tuple", data:=Data.seq #[] }
def K68.x40 (P:Params):Obj:={ cls:=Value.type "code", data:=Data.fields #[vS "TooGreat" 216,vS "TooGreat" 217,vS "/claim/cut.py" 218,vI 7 0,vI 0 0,vI 0 0,vI 0 0,vI 0 0,vR 38,Value.bool false,vI 181 0,vR 39,vN,vN,vN,vN,vI 219 0,vI 7 0,vS "/claim/cut.py" 220] }
def K68.x41 (P:Params):Obj:={ cls:=Value.type "frame", slots:=#[some (vR 40),some (vR 3),some (vR 37),none,some (vS "turnery.errors" 194),none,some (vR 0)] }
def K68.x45 (P:Params):Obj:={ cls:=Value.type "super", data:=Data.fields #[vR 44,vR 44,vR 44] }
def K68.x46 (P:Params):Obj:={ cls:=Value.type "builtin_function_or_method", data:=Data.fields #[Value.builtin "object.__init_subclass__", vR 44] }
noncomputable def K68.x48 (P:Params):Obj:={ cls:=Value.type "builtin_function_or_method", data:=Data.fields #[Value.builtin "type.__prepare__", Value.type "type"] }
def K68.x49 (P:Params):Obj:={ cls:=Value.type "dict", data:=Data.dict #[hE P "__module__" 237 (vS "turnery.errors" 194),hE P "__qualname__" 239 (vS "Strays" 238),hE P "__firstlineno__" 241 (vI 9 240),hE P "__static_attributes__" 242 (vR 54)] 4 }
noncomputable def K68.x50 (P:Params):Obj:={ cls:=Value.type "tuple", data:=Data.seq #[] }
def K68.x52 (P:Params):Obj:={ cls:=Value.type "code", data:=Data.fields #[vS "Strays" 232,vS "Strays" 233,vS "/claim/cut.py" 234,vI 9 0,vI 0 0,vI 0 0,vI 0 0,vI 0 0,vR 50,Value.bool false,vI 181 0,vR 51,vN,vN,vN,vN,vI 235 0,vI 9 0,vS "/claim/cut.py" 236] }
def K68.x53 (P:Params):Obj:={ cls:=Value.type "frame", slots:=#[some (vR 52),some (vR 3),some (vR 49),none,some (vS "turnery.errors" 194),none,some (vR 0)] }
def K68.x57 (P:Params):Obj:={ cls:=Value.type "super", data:=Data.fields #[vR 56,vR 56,vR 56] }
def K68.x58 (P:Params):Obj:={ cls:=Value.type "builtin_function_or_method", data:=Data.fields #[Value.builtin "object.__init_subclass__", vR 56] }
noncomputable def K68.x63 (P:Params):Obj:=W.Fast.tw3651975067569488574 P
noncomputable def K68.x70 (P:Params):Obj:=W.Fast.tw18136456418568224630 P
noncomputable def K68.x75 (P:Params):Obj:=W.Fast.tw2157625236355917227 P
noncomputable def K68.x82 (P:Params):Obj:=W.Fast.tw17305596464158564456 P
noncomputable def K68.x87 (P:Params):Obj:=W.Fast.tw314976097470909283 P
noncomputable def K68.x94 (P:Params):Obj:=W.Fast.tw16477067984603468103 P
noncomputable def K68.x99 (P:Params):Obj:=W.Fast.tw3789435052291990730 P
noncomputable def K68.x106 (P:Params):Obj:=W.Fast.tw3749495744513070960 P
noncomputable def K68.x111 (P:Params):Obj:=W.Fast.tw15777016942487255971 P
noncomputable def K68.x118 (P:Params):Obj:=W.Fast.tw11812517635367930158 P
noncomputable def K68.x125 (P:Params):Obj:=W.Fast.tw10668519889477711378 P
noncomputable def K68.x132 (P:Params):Obj:=W.Fast.tw2191517022014116052 P
noncomputable def K68.x135 (P:Params):Obj:={ cls:=Value.type "tuple", data:=Data.seq #[] }
noncomputable def K68.x136 (P:Params):Obj:={ cls:=Value.type "builtin_function_or_method", data:=Data.fields #[Value.builtin "type.__prepare__", Value.type "type"] }
def K68.x137 (P:Params):Obj:={ cls:=Value.type "dict", data:=Data.dict #[hE P "__module__" 353 (vS "turnery.straying" 328),hE P "__qualname__" 355 (vS "Demands" 354),hE P "__firstlineno__" 357 (vI 61 356),hE P "__init__" 363 (vR 146),hE P "look_by" 375 (vR 153),hE P "look" 389 (vR 160),hE P "meet_demand" 398 (vR 167),hE P "meet_fault" 406 (vR 174),hE P "tree_and_place" 413 (vR 181),hE P "__static_attributes__" 419 (vR 182)] 10 }
noncomputable def K68.x138 (P:Params):Obj:={ cls:=Value.type "tuple", data:=Data.seq #[] }
def K68.x139 (P:Params):Obj:={ cls:=vN,data:=Data.fields #[vI 63 0,vI 4 0,vR 145,vI 75 0,vI 4 0,vR 152,vI 81 0,vI 4 0,vR 159,vI 92 0,vI 4 0,vR 166,vI 97 0,vI 4 0,vR 173,vI 101 0,vI 4 0,vR 180] }
def K68.x140 (P:Params):Obj:={ cls:=Value.type "code", data:=Data.fields #[vS "Demands" 348,vS "Demands" 349,vS "/claim/cut.py" 350,vI 61 0,vI 0 0,vI 0 0,vI 0 0,vI 0 0,vR 138,Value.bool false,vI 181 0,vR 139,vN,vN,vN,vN,vI 351 0,vI 61 0,vS "/claim/cut.py" 352] }
def K68.x141 (P:Params):Obj:={ cls:=Value.type "frame", slots:=#[some (vR 140),some (vR 3),some (vR 137),none,some (vS "turnery.straying" 328),none,some (vR 0)] }
noncomputable def K68.x144 (P:Params):Obj:=W.Fast.tw6168875953256074042 P
noncomputable def K68.x151 (P:Params):Obj:=W.Fast.tw1653736474716839293 P
noncomputable def K68.x158 (P:Params):Obj:=W.Fast.tw14935957403485312994 P
noncomputable def K68.x165 (P:Params):Obj:=W.Fast.tw7439932694948278341 P
noncomputable def K68.x172 (P:Params):Obj:=W.Fast.tw13655837364499243168 P
noncomputable def K68.x179 (P:Params):Obj:=W.Fast.tw15704309664226099439 P
def K68.x187 (P:Params):Obj:={ cls:=Value.type "super", data:=Data.fields #[vR 184,vR 184,vR 184] }
def K68.x188 (P:Params):Obj:={ cls:=Value.type "builtin_function_or_method", data:=Data.fields #[Value.builtin "object.__init_subclass__", vR 184] }
noncomputable def K68.x193 (P:Params):Obj:=W.Fast.tw14146710506673836913 P
noncomputable def K68.x200 (P:Params):Obj:=W.Fast.tw482222782002525968 P
noncomputable def K68.x205 (P:Params):Obj:=W.Fast.tw14119223149268925795 P
noncomputable def K68.x208 (P:Params):Obj:={ cls:=Value.type "tuple", data:=Data.seq #[] }
noncomputable def K68.x209 (P:Params):Obj:={ cls:=Value.type "builtin_function_or_method", data:=Data.fields #[Value.builtin "type.__prepare__", Value.type "type"] }
def K68.x210 (P:Params):Obj:={ cls:=Value.type "dict", data:=Data.dict #[hE P "__module__" 474 (vS "turnery.behind" 442),hE P "__qualname__" 476 (vS "TermBehind" 475),hE P "__firstlineno__" 478 (vI 123 477),hE P "__init__" 486 (vR 221),hE P "by_mode" 496 (vR 228),hE P "by_rule" 502 (vR 233),hE P "take_one" 510 (vR 240),hE P "__static_attributes__" 513 (vR 241)] 8 }
noncomputable def K68.x211 (P:Params):Obj:={ cls:=Value.type "tuple", data:=Data.seq #[] }
def K68.x212 (P:Params):Obj:={ cls:=vN,data:=Data.fields #[vI 125 0,vI 4 0,vR 220,vI 129 0,vI 4 0,vR 227,vI 135 0,vI 4 0,vR 232,vI 143 0,vI 4 0,vR 239] }
def K68.x213 (P:Params):Obj:={ cls:=Value.type "code", data:=Data.fields #[vS "TermBehind" 469,vS "TermBehind" 470,vS "/claim/cut.py" 471,vI 123 0,vI 0 0,vI 0 0,vI 0 0,vI 0 0,vR 211,Value.bool false,vI 181 0,vR 212,vN,vN,vN,vN,vI 472 0,vI 123 0,vS "/claim/cut.py" 473] }
def K68.x214 (P:Params):Obj:={ cls:=Value.type "frame", slots:=#[some (vR 213),some (vR 3),some (vR 210),none,some (vS "turnery.behind" 442),none,some (vR 0)] }
noncomputable def K68.x219 (P:Params):Obj:=W.Fast.tw2348441743995924113 P
noncomputable def K68.x226 (P:Params):Obj:=W.Fast.tw11828847069314931778 P
noncomputable def K68.x231 (P:Params):Obj:=W.Fast.tw3921821971464153557 P
noncomputable def K68.x238 (P:Params):Obj:=W.Fast.tw5275643363580273657 P
def K68.x246 (P:Params):Obj:={ cls:=Value.type "super", data:=Data.fields #[vR 243,vR 243,vR 243] }
def K68.x247 (P:Params):Obj:={ cls:=Value.type "builtin_function_or_method", data:=Data.fields #[Value.builtin "object.__init_subclass__", vR 243] }
noncomputable def K68.x252 (P:Params):Obj:=W.Fast.tw3944884703056269877 P
noncomputable def K68.x259 (P:Params):Obj:=W.Fast.tw5500031750864979216 P
noncomputable def K68.x264 (P:Params):Obj:=W.Fast.tw1034796392285977238 P
noncomputable def K68.x271 (P:Params):Obj:=W.Fast.tw7271088834451439305 P
noncomputable def K68.x278 (P:Params):Obj:=W.Fast.tw18087841829161838101 P
noncomputable def K68.x285 (P:Params):Obj:=W.Fast.tw10693746863337650012 P
noncomputable def K68.x292 (P:Params):Obj:=W.Fast.tw15278566069088834366 P
noncomputable def K68.x299 (P:Params):Obj:=W.Fast.tw6112852858125691518 P
noncomputable def K68.x304 (P:Params):Obj:=W.Fast.tw9839612368003280992 P
noncomputable def K68.x311 (P:Params):Obj:=W.Fast.tw9202607039516798425 P
noncomputable def K68.x318 (P:Params):Obj:=W.Fast.tw8756334888746801414 P
noncomputable def K68.x325 (P:Params):Obj:=W.Fast.tw3246838348247829618 P
noncomputable def K68.x330 (P:Params):Obj:=W.Fast.tw16514880814690438054 P
noncomputable def K68.x337 (P:Params):Obj:=W.Fast.tw16759924801678049187 P
noncomputable def K68.x342 (P:Params):Obj:=W.Fast.tw4780917779532500822 P
noncomputable def K68.x349 (P:Params):Obj:=W.Fast.tw4311311859129140530 P
noncomputable def K68.x356 (P:Params):Obj:=W.Fast.tw2369123094345191423 P
noncomputable def K68.x363 (P:Params):Obj:=W.Fast.tw6204786937277923816 P
noncomputable def K68.x370 (P:Params):Obj:=W.Fast.tw9528646180950567680 P
noncomputable def K68.x375 (P:Params):Obj:=W.Fast.tw1961996116355610786 P
def _root_.PySem.W.Fast.tw7411716583416865614:Params→Heap:=fun P=>{ objs:=⟨[W.boot_o_0 P,W.boot_o_1 P,Obj.mk vN none (Data.dict #[]) #[],x3 P,W.boot_o_4 P,W.boot_o_5 P,W.boot_o_6 P,W.boot_o_7 P,W.boot_o_8 P,W.boot_o_9 P,W.boot_o_10 P,x11 P,x12 P,x13 P,x14 P,oT #[],oE,oT #[vS "k" 190],oT #[],x19 P,x20 P,x21 P,oT #[Value.type "ValueError"],x23 P,x24 P,x25 P,oE,x27 P,x28 P,oT #[],x30 P,x31 P,x32 P,x33 P,x34 P,oT #[vR 31],x36 P,x37 P,x38 P,oE,x40 P,x41 P,oT #[],x43 P,x44 P,x45 P,x46 P,oT #[vR 31],x48 P,x49 P,x50 P,oE,x52 P,x53 P,oT #[],x55 P,x56 P,x57 P,x58 P,oT #[],oE,oT #[vS "term" 251],oT #[],x63 P,x64 P,x65 P,oT #[],oE,x68 P,oT #[],x70 P,x71 P,x72 P,oT #[],oE,x75 P,x76 P,x77 P,oT #[],oE,oT #[vS "term" 273,vS "parts" 274],oT #[],x82 P,x83 P,x84 P,oT #[],oE,x87 P,x88 P,x89 P,oT #[],oE,oT #[vS "wood" 289,vS "kind" 290],oT #[],x94 P,x95 P,x96 P,oT #[],oE,x99 P,x100 P,x101 P,oT #[],oE,x104 P,oT #[],x106 P,x107 P,x108 P,oT #[],oE,x111 P,x112 P,x113 P,oT #[],oE,oT #[vS "wood" 324],oT #[],x118 P,x119 P,x120 P,oT #[],oE,oT #[vS "turning" 333,vS "wood" 334],oT #[],x125 P,x126 P,x127 P,oT #[],oE,oT #[vS "fault" 341,vS "spot" 342],oT #[],x132 P,x133 P,x134 P,x135 P,x136 P,x137 P,x138 P,x139 P,x140 P,x141 P,oT #[],oE,x144 P,x145 P,x146 P,oT #[],oE,x149 P,oT #[],x151 P,x152 P,x153 P,oT #[],oE,x156 P,oT #[],x158 P,x159 P,x160 P,oT #[],oE,x163 P,oT #[],x165 P,x166 P,x167 P,oT #[],oE,oT #[vS "self" 402,vS "fault" 403],oT #[],x172 P,x173 P,x174 P,oT #[],oE,oT #[vS "self" 410],oT #[],x179 P,x180 P,x181 P,x182 P,x183 P,x184 P,x185 P,x186 P,x187 P,x188 P,oT #[],oE,x191 P,oT #[],x193 P,x194 P,x195 P,oT #[],oE,x198 P,oT #[vS "one" 456,vS "other" 457],x200 P,x201 P,x202 P,oT #[],oE,x205 P,x206 P,x207 P,x208 P,x209 P,x210 P,x211 P,x212 P,x213 P,x214 P,oT #[],oE,oT #[vS "self" 482,vS "other" 483],oT #[],x219 P,x220 P,x221 P,oT #[],oE,x224 P,oT #[],x226 P,x227 P,x228 P,oT #[],oE,x231 P,x232 P,x233 P,oT #[],oE,oT #[vS "self" 506,vS "room" 507],oT #[],x238 P,x239 P,x240 P,oT #[vS "left" 511,vS "other" 512],x242 P,x243 P,x244 P,x245 P,x246 P,x247 P,oT #[],oE,x250 P,oT #[],x252 P,x253 P,x254 P,oT #[],oE,x257 P,oT #[],x259 P,x260 P,x261 P,oT #[],oE,x264 P,x265 P,x266 P,oT #[],oE,oT #[vS "_law_cell" 549],oT #[],x271 P,x272 P,x273 P,oT #[],oE,x276 P,oT #[],x278 P,x279 P,x280 P,oT #[],oE,oT #[vS "_law_found" 569],oT #[],x285 P,x286 P,x287 P,oT #[],oE,x290 P,oT #[],x292 P,x293 P,x294 P,oT #[],oE,x297 P,oT #[],x299 P,x300 P,x301 P,oT #[],oE,x304 P,x305 P,x306 P,oT #[],oE,x309 P,oT #[],x311 P,x312 P,x313 P,oT #[],oE,x316 P,oT #[],x318 P,x319 P,x320 P,oT #[],oE,x323 P,oT #[],x325 P,x326 P,x327 P,oT #[],oE,x330 P,x331 P,x332 P,oT #[],oE,x335 P,oT #[],x337 P,x338 P,x339 P,oT #[],oE,x342 P,x343 P,x344 P,oT #[],oE,x347 P,oT #[],x349 P,x350 P,x351 P,oT #[],oE,x354 P,oT #[],x356 P,x357 P,x358 P,oT #[],oE,x361 P,oT #[],x363 P,x364 P,x365 P,oT #[],oE,x368 P,oT #[],x370 P,x371 P,x372 P,oT #[],oE,x375 P,x376 P,x377 P]⟩ }
def _root_.PySem.W.Fast.te7411716583416865614:=@rfl _ PySem.W.Fast.tw7411716583416865614
noncomputable def K68.N:W.BT:=.nil
noncomputable def K68.B (o:Obj) (l r:W.BT):W.BT:=.node o l r
def _root_.PySem.W.Fast.tw14234471907649697155:Params→W.BT:=fun P=>B (W.boot_o_0 P) (B (W.boot_o_1 P) (B (x3 P) (B (W.boot_o_7 P) (B (oT #[]) (B (x31 P) (B (x63 P) (B (x127 P) (4:) N) (B (x191 P) (B (x319 P) N N) N)) (B (x95 P) (B (x159 P) (B (x287 P) N N) N) (B (oE) (B (x351 P) N N) N))) (B (oT #[vR 31]) (B (oE) (B (oE) (B (x271 P) N N) N) (B (x207 P) (B (x335 P) N N) N)) (B (x111 P) (B (oT #[]) (B (oE) N N) N) (B (x239 P) (B (oE) N N) N)))) (B (x23 P) (B (oE) (B (x71 P) (B (x135 P) (B (oE) N N) N) (B (oT #[vS "one" 456,vS "other" 457]) (B (x327 P) N N) N)) (B (oE) (B (x167 P) (4:) N) (B (x231 P) (4:) N))) (B (x55 P) (B (x87 P) (B (x151 P) (B (x279 P) N N) N) (B (oT #[]) (B (x343 P) N N) N)) (B (x119 P) (B (x183 P) (B (x311 P) N N) N) (B (x247 P) (B (x375 P) N N) N))))) (B (x11 P) (B (x19 P) (B (oT #[vR 31]) (B (oE) (B (oT #[]) (B (x259 P) N N) N) (B (x195 P) (B (x323 P) N N) N)) (B (x99 P) (B (x163 P) (4:) N) (B (x227 P) (4:) N))) (B (oE) (B (x83 P) (B (oT #[]) (B (oE) N N) N) (B (x211 P) (B (x339 P) N N) N)) (B (oE) (B (x179 P) (4:) N) (B (x243 P) (B (x371 P) N N) N)))) (B (x27 P) (B (x43 P) (B (x75 P) (B (x139 P) (4:) N) (B (oT #[]) (B (x331 P) N N) N)) (B (x107 P) (B (oT #[]) (B (x299 P) N N) N) (B (oE) (B (x363 P) N N) N))) (B (oT #[]) (B (oE) (B (oE) (B (oT #[vS "_law_found" 569]) N N) N) (B (x219 P) (B (x347 P) N N) N)) (B (oT #[vS "turning" 333,vS "wood" 334]) (B (x187 P) (B (oE) N N) N) (4:)))))) (B (W.boot_o_5 P) (B (W.boot_o_9 P) (B (oT #[vS "k" 190]) (B (x33 P) (B (x65 P) (B (oE) (B (x257 P) N N) N) (B (x193 P) (4:) N)) (B (oT #[]) (B (oT #[]) (B (oE) N N) N) (B (oT #[]) (B (oE) N N) N))) (B (x49 P) (B (oT #[]) (B (x145 P) (B (x273 P) N N) N) (B (x209 P) (B (x337 P) N N) N)) (B (x113 P) (B (oT #[vS "self" 410]) (B (x305 P) N N) N) (B (oT #[vS "left" 511,vS "other" 512]) (4:) N)))) (B (x25 P) (B (x41 P) (B (oT #[]) (B (x137 P) (B (x265 P) N N) N) (B (x201 P) (B (oE) N N) N)) (B (oT #[]) (B (oE) (B (x297 P) N N) N) (B (x233 P) (B (x361 P) N N) N))) (B (x57 P) (B (x89 P) (B (x153 P) (4:) N) (B (oT #[vS "self" 482,vS "other" 483]) (4:) N)) (B (oT #[]) (B (x185 P) (B (x313 P) N N) N) (B (oE) (B (x377 P) N N) N))))) (B (x13 P) (B (x21 P) (B (x37 P) (B (oT #[]) (B (x133 P) (B (x261 P) N N) N) (B (oE) (B (x325 P) N N) N)) (B (x101 P) (B (x165 P) (B (x293 P) N N) N) (B (oT #[]) (B (x357 P) N N) N))) (B (x53 P) (B (oT #[]) (B (x149 P) (4:) N) (B (x213 P) (B (oE) N N) N)) (B (oT #[]) (B (x181 P) (B (x309 P) N N) N) (B (x245 P) (4:) N)))) (B (oT #[]) (B (x45 P) (B (x77 P) (B (x141 P) (B (oT #[vS "_law_cell" 549]) N N) N) (B (x205 P) (4:) N)) (B (oT #[]) (B (x173 P) (B (x301 P) N N) N) (B (oT #[]) (B (x365 P) N N) N))) (B (oT #[vS "term" 251]) (B (oT #[]) (B (oT #[]) (B (x285 P) N N) N) (B (x221 P) (B (x349 P) N N) N)) (B (x125 P) (B (oT #[]) (4:) N) (B (x253 P) N N))))))) (B (Obj.mk vN none (Data.dict #[]) #[]) (B (W.boot_o_4 P) (B (W.boot_o_8 P) (B (oE) (B (x32 P) (B (x64 P) (B (oT #[]) (B (oE) N N) N) (B (oT #[]) (B (x320 P) N N) N)) (B (x96 P) (B (x160 P) (4:) N) (B (x224 P) (4:) N))) (B (x48 P) (B (oT #[vS "term" 273,vS "parts" 274]) (B (x144 P) (B (x272 P) N N) N) (B (x208 P) (4:) N)) (B (x112 P) (B (oE) (B (x304 P) N N) N) (B (x240 P) (B (x368 P) N N) N)))) (B (x24 P) (B (x40 P) (B (x72 P) (B (x136 P) (B (x264 P) N N) N) (B (x200 P) (4:) N)) (B (x104 P) (B (oT #[]) (B (oE) N N) N) (B (x232 P) (B (oE) N N) N))) (B (x56 P) (B (x88 P) (B (x152 P) (B (x280 P) N N) N) (B (oE) (B (x344 P) N N) N)) (B (x120 P) (B (x184 P) (B (x312 P) N N) N) (B (oT #[]) (B (x376 P) N N) N))))) (B (x12 P) (B (x20 P) (B (x36 P) (B (x68 P) (B (x132 P) (B (x260 P) N N) N) (B (oT #[]) (4:) N)) (B (x100 P) (B (oT #[]) (B (x292 P) N N) N) (B (x228 P) (B (x356 P) N N) N))) (B (x52 P) (B (x84 P) (B (oE) (B (x276 P) N N) N) (B (x212 P) (4:) N)) (B (oT #[vS "wood" 324]) (B (x180 P) (B (oE) N N) N) (B (x244 P) (B (x372 P) N N) N)))) (B (x28 P) (B (x44 P) (B (x76 P) (B (x140 P) (B (oE) N N) N) (B (oE) (B (x332 P) N N) N)) (B (x108 P) (B (x172 P) (B (x300 P) N N) N) (B (oT #[vS "self" 506,vS "room" 507]) (B (x364 P) N N) N))) (B (oE) (B (oT #[vS "wood" 289,vS "kind" 290]) (B (x156 P) (4:) N) (B (x220 P) (4:) N)) (B (oT #[]) (B (x188 P) (B (x316 P) N N) N) (B (x252 P) N N)))))) (B (W.boot_o_6 P) (B (W.boot_o_10 P) (B (oT #[]) (B (x34 P) (B (oT #[]) (B (oT #[vS "fault" 341,vS "spot" 342]) (4:) N) (B (x194 P) (B (oE) N N) N)) (B (oE) (B (oE) (B (x290 P) N N) N) (B (x226 P) (B (x354 P) N N) N))) (B (x50 P) (B (x82 P) (B (x146 P) (4:) N) (B (x210 P) (B (x338 P) N N) N)) (B (oT #[]) (B (oT #[]) (B (x306 P) N N) N) (B (x242 P) (B (x370 P) N N) N)))) (B (oE) (B (oT #[]) (B (oE) (B (x138 P) (B (x266 P) N N) N) (B (x202 P) (B (x330 P) N N) N)) (B (x106 P) (B (oT #[vS "self" 402,vS "fault" 403]) (4:) N) (B (oT #[]) (4:) N))) (B (x58 P) (B (oT #[]) (B (oT #[]) (B (oE) N N) N) (B (oT #[]) (B (oE) N N) N)) (B (oE) (B (x186 P) (4:) N) (B (x250 P) N N))))) (B (x14 P) (B (oT #[Value.type "ValueError"]) (B (x38 P) (B (x70 P) (B (x134 P) (4:) N) (B (x198 P) (B (x326 P) N N) N)) (B (oT #[]) (B (x166 P) (B (x294 P) N N) N) (B (oE) (B (x358 P) N N) N))) (B (oT #[]) (B (oE) (B (oT #[]) (B (x278 P) N N) N) (B (x214 P) (B (x342 P) N N) N)) (B (x118 P) (B (x182 P) (4:) N) (B (x246 P) (B (oE) N N) N)))) (B (x30 P) (B (x46 P) (B (oT #[]) (B (oT #[]) (4:) N) (B (x206 P) (B (oE) N N) N)) (B (oE) (B (x174 P) (4:) N) (B (x238 P) (4:) N))) (B (oT #[]) (B (x94 P) (B (x158 P) (B (x286 P) N N) N) (B (oT #[]) (B (x350 P) N N) N)) (B (x126 P) (B (oE) (B (x318 P) N N) N) (B (x254 P) N N)))))))
def _root_.PySem.W.Fast.te14234471907649697155:=@rfl _ PySem.W.Fast.tw14234471907649697155
def K68.y3_391 (P:Params):Obj:={ cls:=Value.type "dict", data:=Data.dict #[hE P "__name__" 165 mN,hE P "__doc__" 166 (vN),hE P "__package__" 167 (vN),hE P "__loader__" 168 (Value.builtin "__main__.__loader__#opaque"),hE P "__spec__" 169 (vN),hE P "__annotations__" 170 (vR 6),hE P "__builtins__" 171 (vR 4),hE P "__file__" 173 (vS "/claim/cut.py" 172),hE P "__cached__" 174 (vN),hE P "_wall" 193 (vR 21),hE P "TurnError" 213 (vR 31),hE P "TooGreat" 229 (vR 44),hE P "Strays" 245 (vR 56),hE P "is_call" 254 (vR 65),hE P "calls_of" 263 (vR 72),hE P "with_modes" 269 (vR 77),hE P "with_parts" 277 (vR 84),hE P "own_wood" 285 (vR 89),hE P "rows_of" 293 (vR 96),hE P "as_met" 301 (vR 101),hE P "number_calls" 312 (vR 108),hE P "numbered_mode" 318 (vR 113),hE P "row_above" 327 (vR 120),hE P "strays_at_all" 337 (vR 127),hE P "levels_needed" 345 (vR 134),hE P "Demands" 426 (vR 184),hE P "rule_of" 441 (vR 195),hE P "MOST_MODES" 445 (vI 40 444),hE P "MOST_SIZE" 447 (vI 200 446),hE P "MOST_LEVELS" 449 (vI 30 448),hE P "behind" 460 (vR 202),hE P "mode_behind" 466 (vR 207),hE P "TermBehind" 520 (vR 243),hE P "_law_cell_at" 530 (vR 254),hE P "_law_mixed" 539 (vR 261),hE P "_law_names" 545 (vR 266),hE P "_law_great" 552 (vR 273),hE P "_law_rule" 565 (vR 280),hE P "_law_whole" 572 (vR 287),hE P "_law_is_term" 580 (vR 294),hE P "_law_same" 591 (vR 301),hE P "_law_leaves" 597 (vR 306),hE P "_law_chain" 609 (vR 313),hE P "_law_wide" 626 (vR 320),hE P "_law_long" 640 (vR 327),hE P "_law_plain" 646 (vR 332),hE P "_law_spoiled" 657 (vR 339)] 47 }
def K68.y12_391 (P:Params):Obj:={ cls:=vN,data:=Data.fields #[vI 1 0,vI 0 0,vR 20,vI 5 0,vI 0 0,vR 27,vI 7 0,vI 0 0,vR 40,vI 9 0,vI 0 0,vR 52,vI 12 0,vI 0 0,vR 64,vI 14 0,vI 0 0,vR 71,vI 21 0,vI 0 0,vR 76,vI 25 0,vI 0 0,vR 83,vI 28 0,vI 0 0,vR 88,vI 30 0,vI 0 0,vR 95,vI 33 0,vI 0 0,vR 100,vI 44 0,vI 0 0,vR 107,vI 50 0,vI 0 0,vR 112,vI 53 0,vI 0 0,vR 119,vI 56 0,vI 0 0,vR 126,vI 58 0,vI 0 0,vR 133,vI 61 0,vI 0 0,vR 140,vI 104 0,vI 0 0,vR 194,vI 115 0,vI 0 0,vR 201,vI 120 0,vI 0 0,vR 206,vI 123 0,vI 0 0,vR 213,vI 150 0,vI 0 0,vR 253,vI 154 0,vI 0 0,vR 260,vI 158 0,vI 0 0,vR 265,vI 171 0,vI 0 0,vR 272,vI 173 0,vI 0 0,vR 279,vI 179 0,vI 0 0,vR 286,vI 181 0,vI 0 0,vR 293,vI 194 0,vI 0 0,vR 300,vI 202 0,vI 0 0,vR 305,vI 204 0,vI 0 0,vR 312,vI 209 0,vI 0 0,vR 319,vI 222 0,vI 0 0,vR 326,vI 228 0,vI 0 0,vR 331,vI 232 0,vI 0 0,vR 338] }
def _root_.PySem.W.Fast.tw17980968418304004383:Params→W.BT:=fun P=>B (W.boot_o_0 P) (B (W.boot_o_1 P) (B (y3_391 P) (B (W.boot_o_7 P) (B (oT #[]) (B (x31 P) (B (x63 P) (B (x127 P) (4:) N) (B (x191 P) (B (x319 P) N N) N)) (B (x95 P) (B (x159 P) (B (x287 P) N N) N) (B (oE) N N))) (B (oT #[vR 31]) (B (oE) (B (oE) (B (x271 P) N N) N) (B (x207 P) (B (x335 P) N N) N)) (B (x111 P) (B (oT #[]) (B (oE) N N) N) (B (x239 P) N N)))) (B (x23 P) (B (oE) (B (x71 P) (B (x135 P) (B (oE) N N) N) (B (oT #[vS "one" 456,vS "other" 457]) (B (x327 P) N N) N)) (B (oE) (B (x167 P) (4:) N) (B (x231 P) N N))) (B (x55 P) (B (x87 P) (B (x151 P) (B (x279 P) N N) N) (4:)) (B (x119 P) (B (x183 P) (B (x311 P) N N) N) (B (x247 P) N N))))) (B (x11 P) (B (x19 P) (B (oT #[vR 31]) (B (oE) (B (oT #[]) (B (x259 P) N N) N) (B (x195 P) (B (x323 P) N N) N)) (B (x99 P) (B (x163 P) (4:) N) (B (x227 P) N N))) (B (oE) (B (x83 P) (B (oT #[]) (B (oE) N N) N) (B (x211 P) (B (x339 P) N N) N)) (B (oE) (B (x179 P) (4:) N) (B (x243 P) N N)))) (B (x27 P) (B (x43 P) (B (x75 P) (B (x139 P) (4:) N) (B (oT #[]) (B (x331 P) N N) N)) (B (x107 P) (B (oT #[]) (B (x299 P) N N) N) (B (oE) N N))) (B (oT #[]) (B (oE) (B (oE) (B (oT #[vS "_law_found" 569]) N N) N) (B (x219 P) N N)) (B (oT #[vS "turning" 333,vS "wood" 334]) (B (x187 P) (B (oE) N N) N) (4:)))))) (B (W.boot_o_5 P) (B (W.boot_o_9 P) (B (oT #[vS "k" 190]) (B (x33 P) (B (x65 P) (B (oE) (B (x257 P) N N) N) (B (x193 P) (4:) N)) (B (oT #[]) (B (oT #[]) (B (oE) N N) N) (4:))) (B (x49 P) (B (oT #[]) (B (x145 P) (B (x273 P) N N) N) (B (x209 P) (B (x337 P) N N) N)) (B (x113 P) (B (oT #[vS "self" 410]) (B (x305 P) N N) N) (B (oT #[vS "left" 511,vS "other" 512]) N N)))) (B (x25 P) (B (x41 P) (B (oT #[]) (B (x137 P) (B (x265 P) N N) N) (B (x201 P) (B (oE) N N) N)) (B (oT #[]) (B (oE) (B (x297 P) N N) N) (B (x233 P) N N))) (B (x57 P) (B (x89 P) (B (x153 P) (4:) N) (B (oT #[vS "self" 482,vS "other" 483]) N N)) (B (oT #[]) (B (x185 P) (B (x313 P) N N) N) (B (oE) N N))))) (B (x13 P) (B (x21 P) (B (x37 P) (B (oT #[]) (B (x133 P) (B (x261 P) N N) N) (B (oE) (B (x325 P) N N) N)) (B (x101 P) (B (x165 P) (B (x293 P) N N) N) (4:))) (B (x53 P) (B (oT #[]) (B (x149 P) (4:) N) (B (x213 P) N N)) (B (oT #[]) (B (x181 P) (B (x309 P) N N) N) (B (x245 P) N N)))) (B (oT #[]) (B (x45 P) (B (x77 P) (B (x141 P) (B (oT #[vS "_law_cell" 549]) N N) N) (B (x205 P) (4:) N)) (B (oT #[]) (B (x173 P) (B (x301 P) N N) N) (4:))) (B (oT #[vS "term" 251]) (B (oT #[]) (B (oT #[]) (B (x285 P) N N) N) (B (x221 P) N N)) (B (x125 P) (B (oT #[]) (4:) N) (B (x253 P) N N))))))) (B (Obj.mk vN none (Data.dict #[]) #[]) (B (W.boot_o_4 P) (B (W.boot_o_8 P) (B (oE) (B (x32 P) (B (x64 P) (B (oT #[]) (B (oE) N N) N) (B (oT #[]) (B (x320 P) N N) N)) (B (x96 P) (B (x160 P) (4:) N) (B (x224 P) N N))) (B (x48 P) (B (oT #[vS "term" 273,vS "parts" 274]) (B (x144 P) (B (x272 P) N N) N) (B (x208 P) (4:) N)) (B (x112 P) (B (oE) (B (x304 P) N N) N) (B (x240 P) N N)))) (B (x24 P) (B (x40 P) (B (x72 P) (B (x136 P) (B (x264 P) N N) N) (B (x200 P) (4:) N)) (B (x104 P) (B (oT #[]) (B (oE) N N) N) (B (x232 P) N N))) (B (x56 P) (B (x88 P) (B (x152 P) (B (x280 P) N N) N) (B (oE) N N)) (B (x120 P) (B (x184 P) (B (x312 P) N N) N) (4:))))) (B (y12_391 P) (B (x20 P) (B (x36 P) (B (x68 P) (B (x132 P) (B (x260 P) N N) N) (B (oT #[]) (4:) N)) (B (x100 P) (B (oT #[]) (B (x292 P) N N) N) (B (x228 P) N N))) (B (x52 P) (B (x84 P) (B (oE) (B (x276 P) N N) N) (B (x212 P) N N)) (B (oT #[vS "wood" 324]) (B (x180 P) (B (oE) N N) N) (B (x244 P) N N)))) (B (x28 P) (B (x44 P) (B (x76 P) (B (x140 P) (B (oE) N N) N) (B (oE) (B (x332 P) N N) N)) (B (x108 P) (B (x172 P) (B (x300 P) N N) N) (B (oT #[vS "self" 506,vS "room" 507]) N N))) (B (oE) (B (oT #[vS "wood" 289,vS "kind" 290]) (B (x156 P) (4:) N) (B (x220 P) N N)) (B (oT #[]) (B (x188 P) (B (x316 P) N N) N) (B (x252 P) N N)))))) (B (W.boot_o_6 P) (B (W.boot_o_10 P) (B (oT #[]) (B (x34 P) (B (oT #[]) (B (oT #[vS "fault" 341,vS "spot" 342]) (4:) N) (B (x194 P) (B (oE) N N) N)) (B (oE) (B (oE) (B (x290 P) N N) N) (B (x226 P) N N))) (B (x50 P) (B (x82 P) (B (x146 P) (4:) N) (B (x210 P) (B (x338 P) N N) N)) (B (oT #[]) (B (oT #[]) (B (x306 P) N N) N) (B (x242 P) N N)))) (B (oE) (B (oT #[]) (B (oE) (B (x138 P) (B (x266 P) N N) N) (B (x202 P) (B (x330 P) N N) N)) (B (x106 P) (B (oT #[vS "self" 402,vS "fault" 403]) (4:) N) (4:))) (B (x58 P) (B (oT #[]) (B (oT #[]) (B (oE) N N) N) (4:)) (B (oE) (B (x186 P) (4:) N) (B (x250 P) N N))))) (B (x14 P) (B (oT #[Value.type "ValueError"]) (B (x38 P) (B (x70 P) (B (x134 P) (4:) N) (B (x198 P) (B (x326 P) N N) N)) (B (oT #[]) (B (x166 P) (B (x294 P) N N) N) (B (oE) N N))) (B (oT #[]) (B (oE) (B (oT #[]) (B (x278 P) N N) N) (B (x214 P) N N)) (B (x118 P) (B (x182 P) (4:) N) (B (x246 P) N N)))) (B (x30 P) (B (x46 P) (B (oT #[]) (B (oT #[]) (4:) N) (B (x206 P) (B (oE) N N) N)) (B (oE) (B (x174 P) (4:) N) (B (x238 P) N N))) (B (oT #[]) (B (x94 P) (B (x158 P) (B (x286 P) N N) N) (4:)) (B (x126 P) (B (oE) (B (x318 P) N N) N) (B (x254 P) N N)))))))
def _root_.PySem.W.Fast.te17980968418304004383:=@rfl _ PySem.W.Fast.tw17980968418304004383
def K68.y3_311 (P:Params):Obj:={ cls:=Value.type "dict", data:=Data.dict #[hE P "__name__" 165 mN,hE P "__doc__" 166 (vN),hE P "__package__" 167 (vN),hE P "__loader__" 168 (Value.builtin "__main__.__loader__#opaque"),hE P "__spec__" 169 (vN),hE P "__annotations__" 170 (vR 6),hE P "__builtins__" 171 (vR 4),hE P "__file__" 173 (vS "/claim/cut.py" 172),hE P "__cached__" 174 (vN),hE P "_wall" 193 (vR 21),hE P "TurnError" 213 (vR 31),hE P "TooGreat" 229 (vR 44),hE P "Strays" 245 (vR 56),hE P "is_call" 254 (vR 65),hE P "calls_of" 263 (vR 72),hE P "with_modes" 269 (vR 77),hE P "with_parts" 277 (vR 84),hE P "own_wood" 285 (vR 89),hE P "rows_of" 293 (vR 96),hE P "as_met" 301 (vR 101),hE P "number_calls" 312 (vR 108),hE P "numbered_mode" 318 (vR 113),hE P "row_above" 327 (vR 120),hE P "strays_at_all" 337 (vR 127),hE P "levels_needed" 345 (vR 134),hE P "Demands" 426 (vR 184),hE P "rule_of" 441 (vR 195),hE P "MOST_MODES" 445 (vI 40 444),hE P "MOST_SIZE" 447 (vI 200 446),hE P "MOST_LEVELS" 449 (vI 30 448),hE P "behind" 460 (vR 202),hE P "mode_behind" 466 (vR 207),hE P "TermBehind" 520 (vR 243),hE P "_law_cell_at" 530 (vR 254),hE P "_law_mixed" 539 (vR 261)] 35 }
def K68.y12_311 (P:Params):Obj:={ cls:=vN,data:=Data.fields #[vI 1 0,vI 0 0,vR 20,vI 5 0,vI 0 0,vR 27,vI 7 0,vI 0 0,vR 40,vI 9 0,vI 0 0,vR 52,vI 12 0,vI 0 0,vR 64,vI 14 0,vI 0 0,vR 71,vI 21 0,vI 0 0,vR 76,vI 25 0,vI 0 0,vR 83,vI 28 0,vI 0 0,vR 88,vI 30 0,vI 0 0,vR 95,vI 33 0,vI 0 0,vR 100,vI 44 0,vI 0 0,vR 107,vI 50 0,vI 0 0,vR 112,vI 53 0,vI 0 0,vR 119,vI 56 0,vI 0 0,vR 126,vI 58 0,vI 0 0,vR 133,vI 61 0,vI 0 0,vR 140,vI 104 0,vI 0 0,vR 194,vI 115 0,vI 0 0,vR 201,vI 120 0,vI 0 0,vR 206,vI 123 0,vI 0 0,vR 213,vI 150 0,vI 0 0,vR 253,vI 154 0,vI 0 0,vR 260] }
def _root_.PySem.W.Fast.tw14291962678741180374:Params→W.BT:=fun P=>B (W.boot_o_0 P) (B (W.boot_o_1 P) (B (y3_311 P) (B (W.boot_o_7 P) (B (oT #[]) (B (x31 P) (B (x63 P) (B (x127 P) (4:) N) (B (x191 P) N N)) (B (x95 P) (B (x159 P) N N) (B (oE) N N))) (B (oT #[vR 31]) (B (oE) (B (oE) N N) (B (x207 P) N N)) (B (x111 P) (4:) (B (x239 P) N N)))) (B (x23 P) (B (oE) (B (x71 P) (B (x135 P) N N) (B (oT #[vS "one" 456,vS "other" 457]) N N)) (B (oE) (B (x167 P) N N) (B (x231 P) N N))) (B (x55 P) (B (x87 P) (B (x151 P) N N) (4:)) (B (x119 P) (B (x183 P) N N) (B (x247 P) N N))))) (B (x11 P) (B (x19 P) (B (oT #[vR 31]) (B (oE) (B (oT #[]) (B (x259 P) N N) N) (B (x195 P) N N)) (B (x99 P) (B (x163 P) N N) (B (x227 P) N N))) (B (oE) (B (x83 P) (4:) (B (x211 P) N N)) (B (oE) (B (x179 P) N N) (B (x243 P) N N)))) (B (x27 P) (B (x43 P) (B (x75 P) (B (x139 P) N N) (4:)) (B (x107 P) (4:) (B (oE) N N))) (B (oT #[]) (B (oE) (B (oE) N N) (B (x219 P) N N)) (B (oT #[vS "turning" 333,vS "wood" 334]) (B (x187 P) N N) (4:)))))) (B (W.boot_o_5 P) (B (W.boot_o_9 P) (B (oT #[vS "k" 190]) (B (x33 P) (B (x65 P) (B (oE) (B (x257 P) N N) N) (B (x193 P) N N)) (B (oT #[]) (4:) (4:))) (B (x49 P) (B (oT #[]) (B (x145 P) N N) (B (x209 P) N N)) (B (x113 P) (B (oT #[vS "self" 410]) N N) (B (oT #[vS "left" 511,vS "other" 512]) N N)))) (B (x25 P) (B (x41 P) (B (oT #[]) (B (x137 P) N N) (B (x201 P) N N)) (B (oT #[]) (B (oE) N N) (B (x233 P) N N))) (B (x57 P) (B (x89 P) (B (x153 P) N N) (B (oT #[vS "self" 482,vS "other" 483]) N N)) (B (oT #[]) (B (x185 P) N N) (B (oE) N N))))) (B (x13 P) (B (x21 P) (B (x37 P) (B (oT #[]) (B (x133 P) (B (x261 P) N N) N) (B (oE) N N)) (B (x101 P) (B (x165 P) N N) (4:))) (B (x53 P) (B (oT #[]) (B (x149 P) N N) (B (x213 P) N N)) (B (oT #[]) (B (x181 P) N N) (B (x245 P) N N)))) (B (oT #[]) (B (x45 P) (B (x77 P) (B (x141 P) N N) (B (x205 P) N N)) (B (oT #[]) (B (x173 P) N N) (4:))) (B (oT #[vS "term" 251]) (B (oT #[]) (4:) (B (x221 P) N N)) (B (x125 P) (4:) (B (x253 P) N N))))))) (B (Obj.mk vN none (Data.dict #[]) #[]) (B (W.boot_o_4 P) (B (W.boot_o_8 P) (B (oE) (B (x32 P) (B (x64 P) (B (oT #[]) (B (oE) N N) N) (4:)) (B (x96 P) (B (x160 P) N N) (B (x224 P) N N))) (B (x48 P) (B (oT #[vS "term" 273,vS "parts" 274]) (B (x144 P) N N) (B (x208 P) N N)) (B (x112 P) (B (oE) N N) (B (x240 P) N N)))) (B (x24 P) (B (x40 P) (B (x72 P) (B (x136 P) N N) (B (x200 P) N N)) (B (x104 P) (4:) (B (x232 P) N N))) (B (x56 P) (B (x88 P) (B (x152 P) N N) (B (oE) N N)) (B (x120 P) (B (x184 P) N N) (4:))))) (B (y12_311 P) (B (x20 P) (B (x36 P) (B (x68 P) (B (x132 P) (B (x260 P) N N) N) (4:)) (B (x100 P) (4:) (B (x228 P) N N))) (B (x52 P) (B (x84 P) (B (oE) N N) (B (x212 P) N N)) (B (oT #[vS "wood" 324]) (B (x180 P) N N) (B (x244 P) N N)))) (B (x28 P) (B (x44 P) (B (x76 P) (B (x140 P) N N) (B (oE) N N)) (B (x108 P) (B (x172 P) N N) (B (oT #[vS "self" 506,vS "room" 507]) N N))) (B (oE) (B (oT #[vS "wood" 289,vS "kind" 290]) (B (x156 P) N N) (B (x220 P) N N)) (B (oT #[]) (B (x188 P) N N) (B (x252 P) N N)))))) (B (W.boot_o_6 P) (B (W.boot_o_10 P) (B (oT #[]) (B (x34 P) (B (oT #[]) (B (oT #[vS "fault" 341,vS "spot" 342]) (4:) N) (B (x194 P) N N)) (B (oE) (B (oE) N N) (B (x226 P) N N))) (B (x50 P) (B (x82 P) (B (x146 P) N N) (B (x210 P) N N)) (B (oT #[]) (4:) (B (x242 P) N N)))) (B (oE) (B (oT #[]) (B (oE) (B (x138 P) N N) (B (x202 P) N N)) (B (x106 P) (B (oT #[vS "self" 402,vS "fault" 403]) N N) (4:))) (B (x58 P) (B (oT #[]) (4:) (4:)) (B (oE) (B (x186 P) N N) (B (x250 P) N N))))) (B (x14 P) (B (oT #[Value.type "ValueError"]) (B (x38 P) (B (x70 P) (B (x134 P) N N) (B (x198 P) N N)) (B (oT #[]) (B (x166 P) N N) (B (oE) N N))) (B (oT #[]) (B (oE) (4:) (B (x214 P) N N)) (B (x118 P) (B (x182 P) N N) (B (x246 P) N N)))) (B (x30 P) (B (x46 P) (B (oT #[]) (4:) (B (x206 P) N N)) (B (oE) (B (x174 P) N N) (B (x238 P) N N))) (B (oT #[]) (B (x94 P) (B (x158 P) N N) (4:)) (B (x126 P) (B (oE) N N) (B (x254 P) N N)))))))
def _root_.PySem.W.Fast.te14291962678741180374:=@rfl _ PySem.W.Fast.tw14291962678741180374
end
open PySem PySem.W PyProof.Rows
set_option maxRecDepth 100000 in
set_option maxHeartbeats 0 in
theorem PySem.Challenge.cw_turnery_k68_terms_too_great_holds : PySem.Challenge.rw_turnery_k68_terms_too_great.Holds := by
 w_on;o_law;k_head;(case hw=>w_witness2)
 k_fill
 refine K68.walk (c1:=201) (T1:=197) (l:=PySem.Challenge.rw_turnery_k68_terms_too_great) rfl rfl (fun w h Y=>PySem.W.km_in_of Y) ?tb1 ?F
 case tb1 =>
  intro w
  refine' L2.TabAt.mk ⟨_,?a⟩ ?b ?c ?d;(case a=>exact rfl);(case b=>kernel_rfl);(case c=>kernel_rfl);(case d=>kernel_rfl)
 case F =>
  intro w mg fa h KX G hmg
  refine' K68.all_mk (c1:=201) (T1:=197) KX G hmg ?d1 ?d2 ?d3 ?d4 ?d5 ?d6 ?d7 ?d8 ?d9 ?d10 ?d11 ?d12 ?d13 ?d14 ?d15 ?d16 ?d17 ?d18 ?d19 ?d20 ?d21 ?d22 ?d23 ?d24 ?d25 ?d26 ?d27 ?d28 ?d29 ?d30 ?d31 ?d32 ?d33 ?d34 ?d35 ?z1 ?z2 ?z3 ?z4 ?z5 ?z6 ?z7 ?z8 ?z9 ?z10 ?z11 ?z12 ?z13 ?y1 ?ht1 ?hh1 ?gA ?gB ?gC ?gM ?gX ?gN ?gS ?gT ?qa ?xa ?va ?ea1 ?ea2 ?ea3 ?ea4 ?ea5 ?qb ?xb ?vb ?eb1 ?eb2 ?eb3 ?eb4 ?eb5 ?jnn ?jns ?jsn ?jss ?s1 ?s2
  (case ht1=>kernel_rfl);(case hh1=>kernel_rfl)
  (case d1=>refine' L2.DefAt.mk' ?a ?l ?c ?k;(case a=>k_is);(case l=>k_is);(case c=>k_is);(case k=>k_is))
  (case d2=>refine' L2.DefAt.mk' ?a ?l ?c ?k;(case a=>k_is);(case l=>k_is);(case c=>k_is);(case k=>k_is))
  (case d3=>refine' L2.DefAt.mk' ?a ?l ?c ?k;(case a=>k_is);(case l=>k_is);(case c=>k_is);(case k=>k_is))
  (case d4=>refine' L2.DefAt.mk' ?a ?l ?c ?k;(case a=>k_is);(case l=>k_is);(case c=>k_is);(case k=>k_is))
  (case d5=>refine' L2.DefAt.mk' ?a ?l ?c ?k;(case a=>k_is);(case l=>k_is);(case c=>k_is);(case k=>k_is))
  (case d6=>refine' L2.DefAt.mk' ?a ?l ?c ?k;(case a=>k_is);(case l=>k_is);(case c=>k_is);(case k=>k_is))
  (case d7=>refine' L2.DefAt.mk' ?a ?l ?c ?k;(case a=>k_is);(case l=>k_is);(case c=>k_is);(case k=>k_is))
  (case d8=>refine' L2.DefAt.mk' ?a ?l ?c ?k;(case a=>k_is);(case l=>k_is);(case c=>k_is);(case k=>k_is))
  (case d9=>refine' L2.DefAt.mk' ?a ?l ?c ?k;(case a=>k_is);(case l=>k_is);(case c=>k_is);(case k=>k_is))
  (case d10=>refine' L2.DefAt.mk' ?a ?l ?c ?k;(case a=>k_is);(case l=>k_is);(case c=>k_is);(case k=>k_is))
  (case d11=>refine' L2.DefAt.mk' ?a ?l ?c ?k;(case a=>k_is);(case l=>k_is);(case c=>k_is);(case k=>k_is))
  (case d12=>refine' L2.DefAt.mk' ?a ?l ?c ?k;(case a=>k_is);(case l=>k_is);(case c=>k_is);(case k=>k_is))
  (case d13=>refine' L2.DefAt.mk' ?a ?l ?c ?k;(case a=>k_is);(case l=>k_is);(case c=>k_is);(case k=>k_is))
  (case d14=>refine' L2.DefAt.mk' ?a ?l ?c ?k;(case a=>k_is);(case l=>k_is);(case c=>k_is);(case k=>k_is))
  (case d15=>refine' L2.DefAt.mk' ?a ?l ?c ?k;(case a=>k_is);(case l=>k_is);(case c=>k_is);(case k=>k_is))
  (case d16=>refine' L2.DefAt.mk' ?a ?l ?c ?k;(case a=>k_is);(case l=>k_is);(case c=>k_is);(case k=>k_is))
  (case d17=>refine' L2.DefAt.mk' ?a ?l ?c ?k;(case a=>k_is);(case l=>k_is);(case c=>k_is);(case k=>k_is))
  (case d18=>refine' L2.DefAt.mk' ?a ?l ?c ?k;(case a=>k_is);(case l=>k_is);(case c=>k_is);(case k=>k_is))
  (case d19=>refine' L2.DefAt.mk' ?a ?l ?c ?k;(case a=>k_is);(case l=>k_is);(case c=>k_is);(case k=>k_is))
  (case d20=>refine' L2.DefAt.mk' ?a ?l ?c ?k;(case a=>k_is);(case l=>k_is);(case c=>k_is);(case k=>k_is))
  (case d21=>refine' L2.DefAt.mk' ?a ?l ?c ?k;(case a=>k_is);(case l=>k_is);(case c=>k_is);(case k=>k_is))
  (case d22=>refine' L2.DefAt.mk' ?a ?l ?c ?k;(case a=>k_is);(case l=>k_is);(case c=>k_is);(case k=>k_is))
  (case d23=>refine' L2.DefAt.mk' ?a ?l ?c ?k;(case a=>k_is);(case l=>k_is);(case c=>k_is);(case k=>k_is))
  (case d24=>refine' L2.DefAt.mk' ?a ?l ?c ?k;(case a=>k_is);(case l=>k_is);(case c=>k_is);(case k=>k_is))
  (case d25=>refine' L2.DefAt.mk' ?a ?l ?c ?k;(case a=>k_is);(case l=>k_is);(case c=>k_is);(case k=>k_is))
  (case d26=>refine' L2.DefAt.mk' ?a ?l ?c ?k;(case a=>k_is);(case l=>k_is);(case c=>k_is);(case k=>k_is))
  (case d27=>refine' L2.DefAt.mk' ?a ?l ?c ?k;(case a=>k_is);(case l=>k_is);(case c=>k_is);(case k=>k_is))
  (case d28=>refine' L2.DefAt.mk' ?a ?l ?c ?k;(case a=>k_is);(case l=>k_is);(case c=>k_is);(case k=>k_is))
  (case d29=>refine' L2.DefAt.mk' ?a ?l ?c ?k;(case a=>k_is);(case l=>k_is);(case c=>k_is);(case k=>k_is))
  (case d30=>refine' L2.DefAt.mk' ?a ?l ?c ?k;(case a=>k_is);(case l=>k_is);(case c=>k_is);(case k=>k_is))
  (case d31=>refine' L2.DefAt.mk' ?a ?l ?c ?k;(case a=>k_is);(case l=>k_is);(case c=>k_is);(case k=>k_is))
  (case d32=>refine' L2.DefAt.mk' ?a ?l ?c ?k;(case a=>k_is);(case l=>k_is);(case c=>k_is);(case k=>k_is))
  (case d33=>refine' L2.DefAt.mk' ?a ?l ?c ?k;(case a=>k_is);(case l=>k_is);(case c=>k_is);(case k=>k_is))
  (case d34=>refine' L2.DefAt.mk' ?a ?l ?c ?k;(case a=>k_is);(case l=>k_is);(case c=>k_is);(case k=>k_is))
  (case d35=>refine' L2.DefAt.mk' ?a ?l ?c ?k;(case a=>k_is);(case l=>k_is);(case c=>k_is);(case k=>k_is))
  (case z1=>k_is);(case z2=>k_is);(case z3=>k_is);(case z4=>k_is);(case z5=>k_is);(case z6=>k_is);(case z7=>k_is);(case z8=>k_is);(case z9=>k_is);(case z10=>k_is);(case z11=>k_is);(case z12=>k_is);(case z13=>k_is)
  (case y1=>k_is)
  (case gA=>k_is)
  (case gB=>k_is)
  (case gC=>k_is)
  (case gM=>k_is)
  (case gX=>k_is)
  (case gN=>k_is)
  (case gS=>k_is)
  (case gT=>k_is)
  (case qa=>kernel_rfl)
  (case xa=>kernel_rfl)
  (case va=>kernel_rfl)
  (case ea1=>kernel_rfl)
  (case ea2=>kernel_rfl)
  (case ea3=>kernel_rfl)
  (case ea4=>kernel_rfl)
  (case ea5=>kernel_rfl)
  (case qb=>kernel_rfl)
  (case xb=>kernel_rfl)
  (case vb=>kernel_rfl)
  (case eb1=>kernel_rfl)
  (case eb2=>kernel_rfl)
  (case eb3=>kernel_rfl)
  (case eb4=>kernel_rfl)
  (case eb5=>kernel_rfl)
  (case jnn=>kernel_rfl)
  (case jns=>kernel_rfl)
  (case jsn=>kernel_rfl)
  (case jss=>kernel_rfl)
  case s1 =>
   refine' K68.DmK.mk' ?aC ?pg ?hd ?po ?sa ?n1 ?n2 ?n3 ?n4 ?n5 ?mk ?kc ?m1 ?m2 ?m3 ?m4 ?m5
   (case aC=>k_is);(case pg=>k_is);(case hd=>k_is);(case po=>k_is);(case sa=>k_is);(case n1=>k_is);(case n2=>k_is);(case n3=>k_is);(case n4=>k_is);(case n5=>k_is);(case mk=>k_is);(case kc=>k_is)
   (case m1=>refine' L2.MethAt.mk' ?a ?i ?l ?c ?k;(case a=>k_is);(case i=>k_is);(case l=>k_is);(case c=>k_is);(case k=>k_is))
   (case m2=>refine' L2.MethAt.mk' ?a ?i ?l ?c ?k;(case a=>k_is);(case i=>k_is);(case l=>k_is);(case c=>k_is);(case k=>k_is))
   (case m3=>refine' L2.MethAt.mk' ?a ?i ?l ?c ?k;(case a=>k_is);(case i=>k_is);(case l=>k_is);(case c=>k_is);(case k=>k_is))
   (case m4=>refine' L2.MethAt.mk' ?a ?i ?l ?c ?k;(case a=>k_is);(case i=>k_is);(case l=>k_is);(case c=>k_is);(case k=>k_is))
   (case m5=>refine' L2.MethAt.mk' ?a ?i ?l ?c ?k;(case a=>k_is);(case i=>k_is);(case l=>k_is);(case c=>k_is);(case k=>k_is))
  case s2 =>
   refine' K68.TbK.mk' ?aC ?pg ?hd ?po ?sa ?n1 ?n2 ?mk ?kc ?m1 ?m2 ?m3 ?m4
   (case aC=>k_is);(case pg=>k_is);(case hd=>k_is);(case po=>k_is);(case sa=>k_is);(case n1=>k_is);(case n2=>k_is);(case mk=>k_is);(case kc=>k_is)
   (case m1=>refine' L2.MethAt.mk' ?a ?i ?l ?c ?k;(case a=>k_is);(case i=>k_is);(case l=>k_is);(case c=>k_is);(case k=>k_is))
   (case m2=>refine' L2.MethAt.mk' ?a ?i ?l ?c ?k;(case a=>k_is);(case i=>k_is);(case l=>k_is);(case c=>k_is);(case k=>k_is))
   (case m3=>refine' L2.MethAt.mk' ?a ?i ?l ?c ?k;(case a=>k_is);(case i=>k_is);(case l=>k_is);(case c=>k_is);(case k=>k_is))
   (case m4=>refine' L2.MethAt.mk' ?a ?i ?l ?c ?k;(case a=>k_is);(case i=>k_is);(case l=>k_is);(case c=>k_is);(case k=>k_is))
