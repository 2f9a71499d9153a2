import PyProof.Rows.All
import Wide.All
import OpenK.AllK
import Wide.FinOn
import Lean
import PyProof.EqAt
import PyProof.EqKinds
import PyProof.TupleCall
import KE.KSortTup
import KE.KRevIter
import PyProof.MeetsSeq
import PyProof.SeqRoads2
import KE.KLam
import KE.KNestM
import KE.KTryDeep
import KE.KTryOn
import OpenK.KOwn
import PySem.Challenge.RW_turnery_k52_whole_a_paper_tells_the_trut
set_option hygiene false
set_option compiler.extract_closed false
local macro_rules|`((0:))=>`((by decide +kernel))
local macro_rules|`((1:))=>`(⟨rfl,rfl,rfl,by decide +kernel,rfl,by decide +kernel,by decide +kernel⟩)
local macro_rules|`((2:))=>`((vS "law_turnery_k52_whole_a_paper_tells_the_trut" 340))
local macro_rules|`((3:))=>`((Qh Qk (pv 0) Qd (fun _ _=>rfl)))
local macro_rules|`((4:))=>`((fun cdv A outer s H vs Q E hr h=>?_))
local macro_rules|`((5:))=>`(⟨fun vs H Q E h=>absurd h (no vs H Q E),fun A outer s H args us vs Q E _ _ _ _ h=>absurd h (no vs H Q E)⟩)
local macro_rules|`((6:))=>`((B (oT #[]) N N))
local macro_rules|`((7:))=>`((by lia))
local macro_rules|`((8:))=>`((model X.prog X.w))
local macro_rules|`((9:))=>`((Nat.le_refl _))
local macro_rules|`((10:))=>`((fun vs H Q E h=>?_))
local macro_rules|`((11:))=>`((ms.length:Int))
local macro_rules|`((12:))=>`((Addr × Obj))
local macro_rules|`((13:))=>`((Or.inl rfl))
local macro_rules|`((14:))=>`(((s.heap.update a (Obj.mapSeq fun _=>(#[]:Array Value))).push (seqObj "tuple" vs.toArray 0)))
local macro_rules|`((15:))=>`((QE X (xs ++ caps) scope cl s3.heap.objs.size fp s3 H3))
local macro_rules|`((16:))=>`((QE X (x :: caps) scope cl s3.heap.objs.size fp s3 H3))
local macro_rules|`((17:))=>`((B (oE) N N))
local macro_rules|`((18:))=>`((fun _ _ _ _=>QF))
local macro_rules|`((19:))=>`((by show 2≤sizeLine;decide))
local macro_rules|`((20:))=>`((by show 0≤sizeLine;decide))
local macro_rules|`((21:))=>`((QE X (xs ++ caps) scope cl C fp s₀ H₀))
local macro_rules|`((22:))=>`(⟨by decide,by decide⟩)
local macro_rules|`((23:))=>`((ms.map fun m=>V.ref m.1))
local macro_rules|`((24:))=>`((by rw [List.length_map,List.length_map,List.length_take];lia))
local macro_rules|`((25:))=>`((CompG.many (xs:=["_law_kind", "_law_rules"]) (caps:=[]) (cap:=[]) (cs:=[]) rfl rfl (0:) (0:) (0:) (0:) (0:) (0:) rfl rfl rfl))
local macro_rules|`((26:))=>`((fun _ _=>rfl))
local macro_rules|`((27:))=>`((CompG.many (xs:=["_law_name", "_law_branches"]) (caps:=[]) (cap:=[]) (cs:=[]) rfl rfl (0:) (0:) (0:) (0:) (0:) (0:) rfl rfl rfl))
local macro_rules|`((28:))=>`((by decide))
local macro_rules|`((29:))=>`(((ms2.map fun m=>V.ref m.1).length:Int))
local macro_rules|`((30:))=>`((by show 3≤sizeLine;decide))
local macro_rules|`((31:))=>`((Qa (Qn RC hr (Qa (pv 0) (Qa (Qd) Qc))) (Qa (Qd) Qc)))
local macro_rules|`((32:))=>`((CompG.many (xs:=["part"]) (caps:=["terms"]) (cap:=[1]) (cs:=[_]) rfl rfl (0:) (0:) (0:) (0:) (0:) (0:) rfl rfl rfl))
local macro_rules|`((33:))=>`((CompG.many (xs:=["_law_part"]) (caps:=[]) (cap:=[]) (cs:=[]) rfl rfl (0:) (0:) (0:) (0:) (0:) (0:) rfl rfl rfl))
local macro_rules|`((34:))=>`((by rw [List.length_map];lia))
local macro_rules|`((35:))=>`((YL PySem.F.plainAttrs_list PySem.F.slot_list_pop PySem.F.type_list_pop YV (pv 2)))
local macro_rules|`((36:))=>`((Option Tm))
local macro_rules|`((37:))=>`((.ListComp elt [⟨tg,iter,ifs,0⟩] scope pos))
local macro_rules|`((38:))=>`((List.mem_append_right _ (List.mem_append_right _ (Zn hb e))))
local macro_rules|`((39:))=>`((QG I q (by simp)))
local macro_rules|`((40:))=>`(⟨X.K,fs,ms,nr,sr⟩)
local macro_rules|`((41:))=>`((compEnvC scope cl s3.heap.objs.size X.env))
local macro_rules|`((42:))=>`((SqT.of Qb))
local macro_rules|`((43:))=>`(⟨_,List.getElem?_eq_getElem (7:)⟩)
local macro_rules|`((44:))=>`((Qq Qm rfl G.len PySem.boot_len (Qa (pv 3) Qc)))
local macro_rules|`((45:))=>`((vS "turnery.terms" 187))
local macro_rules|`((46:))=>`((Q1 ms.length ++ [some (Qt (mo:Int) 0)]))
local macro_rules|`((47:))=>`((Qa (pv 1) Qc))
local macro_rules|`((48:))=>`((fun y H6=>∃ ys,H6 acc=some (.lst ys)∧ys.length < sizeLine∧∃ m',m' < m∧W (i + 1) m' (upd H6 acc (.lst (ys ++ [y])))))
local macro_rules|`((49:))=>`(⟨_,rfl,rfl,_,rfl,ZZ (fun hc=>?_) (fun hc=>⟨_,_,_,_,_,_,_,_,_,_,_,_,_,_,hs0⟩)⟩)
local macro_rules|`((50:))=>`((by show 1≤sizeLine;decide))
local macro_rules|`((51:))=>`((List V→Hp→VK→Prop))
local macro_rules|`((52:))=>`((x == ("__debug__" : Str)))
local macro_rules|`((53:))=>`((oT #[]))
local macro_rules|`((54:))=>`((Option.some.inj hx))
local macro_rules|`((55:))=>`(((List.range ms3.length).map fun (i:Nat)=>(i:Int)))
local macro_rules|`((56:))=>`((vS "turnery.papers" 299))
local macro_rules|`((57:))=>`((fun i ys H'=>H' acc=some (.lst ys)∧Same H H'∧R i ys H'∧ys.length≤i))
local macro_rules|`((58:))=>`((ms1.map fun m=>V.ref m.1))
local macro_rules|`((59:))=>`((upd H1 acc (.lst [])))
noncomputable section
set_option Elab.async false
set_option linter.all false
set_option maxRecDepth 100000
namespace L2
open PySem PySem.Spec PyProof.Rows
abbrev Key:=Sum Int Str
def Mi:Key→Value→Bool
 | .inl k,v=>Value.isInt k v
 | .inr x,v=>Value.isStrOf x v
def Pe (w:World):Key→Int
 | .inl k=>hashInt k
 | .inr x=>hashStr w x
theorem QW:∀ {k:Key} {v:Value},Mi k v=true→(∃ i t,k=Sum.inl i∧v=Value.int i t)∨(∃ x t,k=Sum.inr x∧v=Value.str x t)
 | .inl i,v,h=>by
  obtain ⟨t,e⟩:=Value.isInt_shape (k:=i) (v:=v) h
  exact .inl ⟨i,t,rfl,e⟩
 | .inr x,v,h=>by
  obtain ⟨t,e⟩:=Value.isStrOf_shape (x:=x) (v:=v) h
  exact .inr ⟨x,t,rfl,e⟩
theorem Nj (a b:Int):decide ((Sum.inl a:Key)=Sum.inl b)=(a == b):=by
 by_cases e:a=b
 ·subst e;simp
 ·have h:¬ (Sum.inl a:Key)=Sum.inl b:=fun q=>e (Sum.inl.inj q)
  rw [decide_eq_false h]
  exact (beq_eq_false_iff_ne.mpr e).symm
theorem M7 (a b:Str):decide ((Sum.inr a:Key)=Sum.inr b)=decide (a=b):=by
 by_cases e:a=b
 ·subst e;simp
 ·have h:¬ (Sum.inr a:Key)=Sum.inr b:=fun q=>e (Sum.inr.inj q)
  rw [decide_eq_false h,decide_eq_false e]
theorem MZ (a:Int) (b:Str):decide ((Sum.inl a:Key)=Sum.inr b)=false:=decide_eq_false (fun q=>nomatch q)
theorem MS (a:Str) (b:Int):decide ((Sum.inr a:Key)=Sum.inl b)=false:=decide_eq_false (fun q=>nomatch q)
def Wf (prog:Program) (w:World):PySem.KeyKind prog w Key where
 is:=Mi
 hash:=Pe w
 inj:=fun v a b ha hb=>by
  rcases QW ha with ⟨i,t,rfl,rfl⟩ | ⟨x,t,rfl,rfl⟩
  ·rcases QW hb with ⟨j,u,rfl,e⟩ | ⟨y,u,rfl,e⟩
   ·injection e with e1 _;rw [e1]
   ·exact nomatch e
  ·rcases QW hb with ⟨j,u,rfl,e⟩ | ⟨y,u,rfl,e⟩
   ·exact nomatch e
   ·injection e with e1 _;rw [e1]
 byValue:=fun k v h=>by
  rcases QW h with ⟨i,t,rfl,rfl⟩ | ⟨x,t,rfl,rfl⟩ <;> rfl
 pyHash:=fun hv h=>by
  rcases QW hv with ⟨i,t,rfl,rfl⟩ | ⟨x,t,rfl,rfl⟩
  ·exact wpAny_pyHash_int h
  ·exact wpAny_pyHash_str h
 eqBool:=fun hu hv h=>by
  rcases QW hu with ⟨i,t,rfl,rfl⟩ | ⟨x,t,rfl,rfl⟩
  ·rcases QW hv with ⟨j,u,rfl,rfl⟩ | ⟨y,u,rfl,rfl⟩
   ·rw [Nj] at h;exact wpAny_eqBool_int h
   ·rw [MZ] at h;exact SeqAt.EqAt.int_str i t y u _ _ _ _ h
  ·rcases QW hv with ⟨j,u,rfl,rfl⟩ | ⟨y,u,rfl,rfl⟩
   ·rw [MS] at h;exact SeqAt.EqAt.str_int x t j u _ _ _ _ h
   ·rw [M7] at h;exact wpAny_eqBool_str h
 «strs»:=fun k x t v h=>by
  rcases QW h with ⟨i,u,rfl,e⟩ | ⟨y,u,rfl,e⟩
  ·exact nomatch e
  ·injection e with e1 _
   subst e1
   cases v <;> rfl
end L2
namespace L2
open PySem PySem.Spec PyProof.Rows
inductive V where
 | non | bl (b:Bool) | int (i:Int) | str (x:Str) | byt (b:Array UInt8) | flt (b:UInt64) | ref (a:Addr) | ty (n:String)
 deriving DecidableEq
def RelV:V→Value→Prop
 | .non,u=>u=Value.none
 | .bl b,u=>u=Value.bool b
 | .int i,u=>∃ t,u=Value.int i t
 | .str x,u=>∃ t,u=Value.str x t
 | .byt b,u=>∃ t,u=Value.bytes b t
 | .flt b,u=>∃ t,u=Value.float b t
 | .ref a,u=>u=Value.ref a
 | .ty n,u=>u=Value.type n
abbrev Vals:List V→List Value→Prop:=Paired RelV
theorem Vals.length {xs:List V} {us:List Value} (r:Vals xs us):xs.length=us.length:=Paired.length r
theorem Vals.get:∀ {xs:List V} {us:List Value} {i:Nat} {x:V},Vals xs us→xs[i]?=some x→∃ u,us[i]?=some u∧RelV x u
 | _,_,_,_,.nil,e=>by simp at e
 | _,_,0,_,.cons r _,e=>by simp at e;subst e;exact ⟨_,rfl,r⟩
 | _,_,i + 1,x,.cons _ t,e=>by
  obtain ⟨u,h1,h2⟩:=Vals.get (i:=i) (x:=x) t (by simpa using e)
  exact ⟨u,by simpa using h1,h2⟩
theorem Vals.set {x:V} {u:Value} (r:RelV x u):∀ {xs:List V} {us:List Value} (i:Nat),Vals xs us→Vals (xs.set i x) (us.set i u)
 | _,_,_,.nil=>.nil
 | _,_,0,.cons _ t=>.cons r t
 | _,_,i + 1,.cons q t=>.cons q (Vals.set r i t)
theorem Vals.append:∀ {xs ys:List V} {us ws:List Value},Vals xs us→Vals ys ws→Vals (xs ++ ys) (us ++ ws)
 | _,_,_,_,.nil,s=>s
 | _,_,_,_,.cons r t,s=>.cons r (Vals.append t s)
theorem Vals.take:∀ {xs:List V} {us:List Value} (n:Nat),Vals xs us→Vals (xs.take n) (us.take n)
 | _,_,0,_=>.nil
 | _,_,_ + 1,.nil=>.nil
 | _,_,n + 1,.cons r t=>.cons r (Vals.take n t)
theorem Vals.drop:∀ {xs:List V} {us:List Value} (n:Nat),Vals xs us→Vals (xs.drop n) (us.drop n)
 | _,_,0,r=>r
 | _,_,_ + 1,.nil=>.nil
 | _,_,n + 1,.cons _ t=>Vals.drop n t
def M2:Option V→Option Value→Prop
 | some v,some u=>RelV v u
 | none,none=>True
 | _,_=>False
def KV {κ:Type}:List (κ × V)→List (κ × Value)→Prop:=Paired fun (p:κ × V) (q:κ × Value)=>p.1=q.1∧RelV p.2 q.2
def kV:Key→V
 | .inl i=>.int i
 | .inr x=>.str x
inductive HO where
 /-- a list -/
 | lst (xs:List V)
 /-- a tuple (never changes) -/
 | tup (xs:List V)
 /-- a dict whose keys are ints and texts;one whose keys are tuples of ints and texts (the empty one is both) -/
 | dK (kvs:List (Key × V)) | dT (kvs:List (List Key × V))
 /-- a set of ints: its members,its size -/
 | set (S:Int→Bool) (n:Nat)
 /-- an instance of the class at C,its dict at dx,its attributes -/
 | ins (C dx:Addr) (fs:List (Str × V))
 /-- the dict of the instance at x -/
 | own (x:Addr)
 /-- the dict of an exception -/
 | xd (fs:List (Str × V))
 /-- a bound method,f of x -/
 | met (f x:Addr)
 /-- a range object lo,lo + 1,.. below hi -/
 | rng (lo hi:Int)
 /-- a thing that is known to the object (the script;a dict while a loop walks it): read,never written while it is so -/
 | frz (o:Obj) (u:HO)
 /-- a code object's table -/
 | tbl (ps:Array Value)
 /-- any other thing,by what is true of its one object (a def of one's own: SetO a S n:=HO.ext fun h=>..) -/
 | ext (φ:Heap→Prop)
abbrev Hp:=Addr→Option HO
def upd (H:Hp) (a:Addr) (o:HO):Hp:=fun b=>if b=a then some o else H b
theorem Qb {H:Hp} {a:Addr} {o:HO}:upd H a o a=some o:=by unfold upd;rw [if_pos rfl]
theorem Qi {H:Hp} {a b:Addr} {o:HO} (h:b≠a):upd H a o b=H b:=by unfold upd;rw [if_neg h]
theorem Wi {H:Hp} {a b:Addr} {o u:HO} (h:H a=some o) (h':H b=some u) (d:o≠u):a≠b:=by
 intro e;subst e;rw [h] at h';exact d (Option.some.inj h')
theorem Qg {H:Hp} {a b:Addr} {o:HO} (h:H a=some o) (h':H b=none):a≠b:=by
 intro e;subst e;rw [h] at h';cases h'
section
variable (P:Program) (w:World)
def ObjOk (H:Hp) (h:Heap) (a:Addr):HO→Prop
 | .lst xs=>xs.length≤sizeLine∧∃ (its:List Value) (n:Nat),Vals xs its∧h.get? a=some { cls:=.type "list", data:=.seq its.toArray n }
 | .tup xs=>xs.length≤sizeLine∧∃ its:List Value,Vals xs its∧IsTup h a its.toArray
 | .dK kvs=>kvs.length≤sizeLine∧(a == sysModules)=false∧∃ vs,KV kvs vs∧h.DictOf (Wf P w) a vs
 | .dT kvs=>kvs.length≤sizeLine∧(a == sysModules)=false∧∃ xs:List (List Key × Addr × Value),
  Paired (fun (p:List Key × V) (q:List Key × Addr × Value)=>p.1=q.1∧H q.2.1=some (.tup (p.1.map kV))∧RelV p.2 q.2.2) kvs xs ∧
  ∃ o es ep,h.get? a=some o∧o.ExactDict∧o.data=.dict es ep∧es.toList=xs.map (entryOfKey (tupleKind (Wf P w)))∧(xs.map (·.1)).Nodup
 | .set S n=>h.SetOf (intKind P w) a S n
 | .ins C dx fs=>H dx=some (.own a)∧fs.length≤1000∧dx≠a∧h.get? a=some (PySem.W.instObj C dx) ∧
  ∃ mA,h.Ns1 dx mA∧(∀ f,M2 (fs.lookup f) (mA f))∧PySem.Within mA (fs.map (·.1))
 | .own _=>∃ o,h.get? a=some o
 | .xd fs=>∃ mA,h.Ns1 a mA∧∀ f,M2 (fs.lookup f) (mA f)
 | .rng lo hi=>∃ t u v,h.get? a=some { cls:=.type "range", data:=.fields #[.int lo t,.int hi u,.int 1 v] }
 | .frz o u=>h.get? a=some o∧ObjOk H h a u
 | .tbl ps=>h.get? a=some { cls:=.none,data:=.fields ps }
 | .met f x=>h.get? a=some (PySem.W.methodObj (.ref f) (.ref x))
 | .ext φ=>φ h∧(∃ o,h.get? a=some o)∧∀ h1 h2:Heap,φ h1→(∀ o,h1.get? a=some o→h2.get? a=some o)→φ h2
def HOk (H:Hp) (h:Heap):Prop:=∀ a o,H a=some o→ObjOk P w H h a o
end
section
variable {P:Program} {w:World} {H H':Hp} {h h':Heap} {a:Addr} {o:HO}
theorem ObjOk.lt (x:ObjOk P w H h a o):a < h.objs.size:=by
 cases o with
 | lst xs=>obtain ⟨_,_,_,_,e⟩:=x;exact Heap.lt_size e
 | tup xs=>obtain ⟨_,_,_,p⟩:=x;exact p.lt
 | dK kvs=>obtain ⟨_,_,_,_,o,_,_,e,_⟩:=x;exact Heap.lt_size e
 | dT kvs=>obtain ⟨_,_,_,_,o,_,_,e,_⟩:=x;exact Heap.lt_size e
 | set S n=>obtain ⟨o,_,_,_,e,_⟩:=x;exact Heap.lt_size e
 | ins C dx fs=>obtain ⟨_,_,_,e,_⟩:=x;exact Heap.lt_size e
 | own y=>obtain ⟨_,e⟩:=x;exact Heap.lt_size e
 | xd fs=>obtain ⟨_,⟨_,_,_,e,_⟩,_⟩:=x;exact Heap.lt_size e
 | rng lo hi=>obtain ⟨_,_,_,e⟩:=x;exact Heap.lt_size e
 | frz ob u=>obtain ⟨e,_⟩:=x;exact Heap.lt_size e
 | tbl ps=>exact Heap.lt_size (show h.get? a=some _ from x)
 | met f y=>exact Heap.lt_size (show h.get? a=some _ from x)
 | ext φ=>obtain ⟨_,⟨_,e⟩,_⟩:=x;exact Heap.lt_size e
theorem Paired.mapP {α β:Type} {F G:α→β→Prop}:∀ {l₁:List α} {l₂:List β},Paired F l₁ l₂→(∀ a b,F a b→G a b)→Paired G l₁ l₂
 | _,_,.nil,_=>.nil
 | _,_,.cons r t,f=>.cons (f _ _ r) (Paired.mapP t f)
theorem ObjOk.stay (x:ObjOk P w H h a o) (k:∀ b u,(b=a∨H b=some (.own a))→h.get? b=some u→h'.get? b=some u)
 (ho:∀ b,H b=some (.own a)→H' b=some (.own a)) (ht:∀ b xs,H b=some (.tup xs)→H' b=some (.tup xs)):ObjOk P w H' h' a o:=by
 induction o with
 | lst xs=>obtain ⟨z,its,n,r,e⟩:=x;exact ⟨z,its,n,r,k _ _ (.inl rfl) e⟩
 | tup xs=>obtain ⟨z,its,r,ob,e,c⟩:=x;exact ⟨z,its,r,ob,k _ _ (.inl rfl) e,c⟩
 | dK kvs=>obtain ⟨z,y,vs,r,ob,es,ep,e,c⟩:=x;exact ⟨z,y,vs,r,ob,es,ep,k _ _ (.inl rfl) e,c⟩
 | dT kvs =>
  obtain ⟨z,y,xs,r,ob,es,ep,e,c⟩:=x
  exact ⟨z,y,xs,Paired.mapP r fun p q z=>⟨z.1,ht _ _ z.2.1,z.2.2⟩,ob,es,ep,k _ _ (.inl rfl) e,c⟩
 | set S n=>obtain ⟨ob,es,ep,t,e,c⟩:=x;exact ⟨ob,es,ep,t,k _ _ (.inl rfl) e,c⟩
 | ins C dx fs =>
  obtain ⟨d,z,ne,e,mA,⟨od,es,ep,e2,c⟩,r⟩:=x
  exact ⟨ho _ d,z,ne,k _ _ (.inl rfl) e,mA,⟨od,es,ep,k _ _ (.inr d) e2,c⟩,r⟩
 | own y=>obtain ⟨ob,e⟩:=x;exact ⟨ob,k _ _ (.inl rfl) e⟩
 | xd fs=>obtain ⟨mA,⟨od,es,ep,e,c⟩,r⟩:=x;exact ⟨mA,⟨od,es,ep,k _ _ (.inl rfl) e,c⟩,r⟩
 | rng lo hi=>obtain ⟨t,u,v,e⟩:=x;exact ⟨t,u,v,k _ _ (.inl rfl) e⟩
 | frz ob u ih=>obtain ⟨e,q⟩:=x;exact ⟨k _ _ (.inl rfl) e,ih q⟩
 | tbl ps =>
  have e:h.get? a=some { cls:=.none,data:=.fields ps }:=x
  show h'.get? a=some { cls:=.none,data:=.fields ps }
  exact k a _ (.inl rfl) e
 | met f y =>
  have e:h.get? a=some (PySem.W.methodObj (.ref f) (.ref y)):=x
  show h'.get? a=some (PySem.W.methodObj (.ref f) (.ref y))
  exact k a _ (.inl rfl) e
 | ext φ=>obtain ⟨p,⟨o,e⟩,st⟩:=x;exact ⟨st _ _ p fun o q=>k _ _ (.inl rfl) q,⟨o,k _ _ (.inl rfl) e⟩,st⟩
theorem HOk.lt (x:HOk P w H h) (e:H a=some o):a < h.objs.size:=(x a o e).lt
theorem HOk.fresh (x:HOk P w H h) (e:h.objs.size≤a):H a=none:=by
 cases q:H a with
 | none=>rfl
 | some u=>exact absurd (Nat.lt_of_lt_of_le (x.lt q) e) (Nat.lt_irrefl _)
theorem HOk.kept (x:HOk P w H h) (k:∀ b u,h.get? b=some u→h'.get? b=some u):HOk P w H h':=fun a o e =>
 (x a o e).stay (fun b u _ q=>k b u q) (fun _ q=>q) fun _ _ q=>q
theorem HOk.laid (x:HOk P w H h) (k:∀ b u,h.get? b=some u→h'.get? b=some u) (hp:h.objs.size≤a) (new:ObjOk P w (upd H a o) h' a o):HOk P w (upd H a o) h':=fun b u e=>by
 have hn:=x.fresh hp
 by_cases hb:b=a
 ·subst hb;rw [Qb] at e;cases e;exact new
 ·rw [Qi hb] at e
  exact (x b u e).stay (fun c v _ q=>k c v q) (fun c q=>by rw [Qi (Qg q hn)];exact q) fun c xs q=>by rw [Qi (Qg q hn)];exact q
end
def Rd (H:Hp) (a:Addr) (u:HO):Prop:=H a=some u∨∃ o,H a=some (.frz o u)
theorem Rd.ok {P:Program} {w:World} {H:Hp} {h:Heap} {a:Addr} {u:HO} (r:Rd H a u) (x:HOk P w H h):ObjOk P w H h a u:=by
 rcases r with r | ⟨o,r⟩
 ·exact x a u r
 ·obtain ⟨_,q⟩:=x a _ r
  exact q
def Mut:Option HO→Prop
 | some (.lst _)=>True
 | some (.dK _)=>True
 | some (.dT _)=>True
 | some (.set _ _)=>True
 | some (.ins _ _ _)=>True
 | some (.ext _)=>True
 | _=>False
section
variable {P:Program} {w:World} {H:Hp} {h h':Heap} {x e:Addr} {o':HO}
theorem HOk.write (ok:HOk P w H h) (mu:Mut (H x)) (he:e=x∨H e=some (.own x)) (k:∀ b u,b≠e→h.get? b=some u→h'.get? b=some u) (heo:∃ u,h'.get? e=some u)
 (new:ObjOk P w (upd H x o') h' x o'):HOk P w (upd H x o') h':=fun b u q=>by
 have nown:∀ c y,H c=some (.own y)→c≠x:=fun c y r z=>by subst z;rw [r] at mu;exact mu
 have ntup:∀ c xs,H c=some (.tup xs)→c≠x:=fun c xs r z=>by subst z;rw [r] at mu;exact mu
 by_cases hb:b=x
 ·subst hb;rw [Qb] at q;cases q;exact new
 ·rw [Qi hb] at q
  by_cases hbe:b=e
  ·have q':H b=some (.own x):=by
    rcases he with z | z
    ·exact absurd (hbe.trans z) hb
    ·rw [hbe];exact z
   rw [q] at q';cases q'
   obtain ⟨v,hv⟩:=heo
   exact ⟨v,by rw [hbe];exact hv⟩
  ·refine (ok b u q).stay (fun c v hc r=>k c v ?_ r) (fun c r=>by rw [Qi (nown c b r)];exact r) fun c xs r=>by rw [Qi (ntup c xs r)];exact r
   rcases hc with rfl | hc
   ·exact hbe
   ·rintro rfl
    rcases he with z | z
    ·exact nown c b hc z
    ·rw [hc] at z;cases z;exact hb rfl
end
structure Un (fs ex:List Addr) (H H':Hp) (h h':Heap):Prop where
 keep:∀ b o,h.get? b=some o→H b=none→b ∉ fs→b ∉ ex→h'.get? b=some o
 slot:∀ b o,h.get? b=some o→H b=none→b ∈ fs→b ∉ ex→∃ sl,h'.get? b=some { o with slots:=sl }
 free:∀ b o,h.get? b=some o→H b=none→b ∉ ex→H' b=none
 there:∀ b o,h.get? b=some o→b ∉ ex→∃ o',h'.get? b=some o'
 tups:∀ b xs,H b=some (.tup xs)→H' b=some (.tup xs)
 frzs:∀ b o u,H b=some (.frz o u)→H' b=some (.frz o u)
 tbls:∀ b ps,H b=some (.tbl ps)→∃ more,H' b=some (.tbl (ps ++ more))
section
variable {fs fs' ex ex':List Addr} {H H1 H2:Hp} {h h1 h2 h':Heap} {a x e:Addr} {o:HO}
theorem Un.any (u:Un fs ex H H1 h h1) {b:Addr} {ob:Obj} (q:h.get? b=some ob) (n:H b=none) (hx:b ∉ ex):∃ sl,h1.get? b=some { ob with slots:=sl }:=by
 by_cases hb:b ∈ fs
 ·exact u.slot b ob q n hb hx
 ·exact ⟨ob.slots,u.keep b ob q n hb hx⟩
theorem Un.kept (k:∀ b u,h.get? b=some u→h'.get? b=some u):Un fs ex H H h h' :=
 ⟨fun b ob q _ _ _=>k b ob q,fun b ob q _ _ _=>⟨ob.slots,k b ob q⟩,fun _ _ _ n _=>n,fun b ob q _=>⟨ob,k b ob q⟩,fun _ _ q=>q,fun _ _ _ q=>q,fun _ ps q=>⟨#[],by rw [q];simp⟩⟩
theorem Un.refl:Un fs ex H H h h:=Un.kept fun _ _ q=>q
theorem Un.laid (k:∀ b u,h.get? b=some u→h'.get? b=some u) (hp:h.objs.size≤a) (hn:H a=none):Un fs ex H (upd H a o) h h' where
 keep:=fun b u q _ _ _=>k b u q
 slot:=fun b u q _ _ _=>⟨u.slots,k b u q⟩
 free:=fun b u q n _=>by rw [Qi (Nat.ne_of_lt (Nat.lt_of_lt_of_le (Heap.lt_size q) hp))];exact n
 there:=fun b u q _=>⟨u,k b u q⟩
 tups:=fun b xs q=>by rw [Qi (Qg q hn)];exact q
 frzs:=fun b u xs q=>by rw [Qi (Qg q hn)];exact q
 tbls:=fun b ps q=>⟨#[],by rw [Qi (Qg q hn),q];simp⟩
theorem Un.write (mu:Mut (H x)) (he:e=x∨H e=some (.own x)) (k:∀ b u,b≠e→h.get? b=some u→h'.get? b=some u) (heo:∃ u,h'.get? e=some u):Un fs ex H (upd H x o) h h':=by
 have hx:∀ b,H b=none→b≠x:=fun b n z=>by subst z;rw [n] at mu;exact mu
 have hb:∀ b,H b=none→b≠e:=fun b n z=>by
  subst z
  rcases he with r | r
  ·exact hx b n r
  ·rw [n] at r;cases r
 have hm:∀ b u,H b=some u→¬ Mut (some u)→b≠x:=fun b u q nm z=>by subst z;rw [q] at mu;exact nm mu
 refine ⟨fun b u q n _ _=>k b u (hb b n) q,fun b u q n _ _=>⟨u.slots,k b u (hb b n) q⟩,fun b u q n _=>by rw [Qi (hx b n)];exact n,fun b u q _=>?_,fun b xs q=>by rw [Qi (hm b _ q fun z=>z)];exact q,fun b u xs q=>by rw [Qi (hm b _ q fun z=>z)];exact q,fun b ps q=>⟨#[],by rw [Qi (hm b _ q fun z=>z),q];simp⟩⟩
 by_cases hbe:b=e
 ·subst hbe;exact heo
 ·exact ⟨u,k b u hbe q⟩
end
def trk (h:Heap) (H:Hp):List Addr:=(List.range h.objs.size).filter fun a=>(H a).isSome
def Jn (h:Heap) (H:Hp):Heap:=PySem.W.hideAll h (trk h H)
theorem Ve (h:Heap) (H:Hp):(Jn h H).objs.size=h.objs.size:=PySem.W.hideAll_size _ _
theorem Gk {h:Heap} {H:Hp} {b:Addr} {o:Obj} (e:h.get? b=some o) (n:H b=none):(Jn h H).get? b=some o :=
 PySem.W.hideAll_get _ e fun hm=>by
  have q:(H b).isSome=true:=(List.mem_filter.mp hm).2
  rw [n] at q;simp at q
theorem LJ {h:Heap} {H:Hp} {b:Addr} {o:Obj} (e:(Jn h H).get? b=some o):h.get? b=some o∧H b=none:=by
 have e':h.get? b=some o:=PySem.W.of_hideAll (trk h H) e
 refine ⟨e',?_⟩
 cases q:H b with
 | none=>rfl
 | some x =>
  have hm:b ∈ trk h H:=List.mem_filter.mpr ⟨List.mem_range.mpr (Heap.lt_size e'),by simp [q]⟩
  have z:(Jn h H).get? b=none:=PySem.W.hideAll_none (trk h H) hm
  rw [z] at e;cases e
def Lh (g h:Heap) (L:Addr):List (12:):=(List.range h.objs.size).filterMap fun a=>if a=L∨(g.get? a).isSome=true then none else (h.get? a).map fun o=>(a,o)
def rest (g h:Heap) (L d:Addr):List (12:):=(Lh g h L).filter fun p=>decide (p.1≠d)
end L2
namespace L2
open PySem PySem.Spec PyProof.Rows
structure Mod (K:PySem.W.Frag) (mg:Str→Option Value) (base:Heap):Prop where
 kin:K.In base
 glob:base.Ns mainGlobals mg
 blt:∃ mb,base.Ns builtinsNs mb∧∀ x:Str,x ≠ "__name__" → mb x=bootBuiltins x
 nolimit:base.NoLimit
structure Cx where
 prog:Program
 w:World
 K:PySem.W.Frag
 mg:Str→Option Value
 base:Heap
 A:Around
 N:List Str
 s₀:Shared
 H₀:Hp
 env:Env
 outer:List Env
 stack:List Env
 ex:List Addr
 fn:Str→Bool
 calm:Bool
 pn:List (12:)
 xe:Value→Shared→Prop
def frs (l:List Env):List Addr:=l.filterMap (·.frame)
abbrev Cx.fs (X:Cx):List Addr:=frs X.outer
def Vis (sc:Scope) (x:Str):Prop:=sc.names.lookup x=some .local∨sc.names.lookup x=some .cell∨sc.names.lookup x=some .free
def Loc (sc:Scope) (x:Str):Prop:=sc.names.lookup x=some .local∨sc.names.lookup x=some .cell
def Pj (env:Env) (h:Heap) (m:Str→Option Value) (x:Str) (u:Value):Prop :=
 (env.kindOf x=some .local∧m x=some u)∨((env.kindOf x=some .cell∨env.kindOf x=some .free)∧∃ c,env.cells.lookup x=some c∧h.IsCell c (some u))
structure Cx.Ok (X:Cx):Prop where
 mod:Mod X.K X.mg X.base
 kind:X.env.scope.kind=.function
 glob:X.env.globals=mainGlobals
 blt:X.env.builtins=builtinsNs
 above:X.s₀.heap.objs.size≤X.env.locals
 inj:∀ x y c,X.env.cells.lookup x=some c→X.env.cells.lookup y=some c→x=y
 has:∀ x,(X.env.kindOf x=some .cell∨X.env.kindOf x=some .free)→∃ c,X.env.cells.lookup x=some c
 cab:∀ x c,X.fn x=true→X.env.cells.lookup x=some c→X.s₀.heap.objs.size≤c
 hd:X.calm=true→X.A.handled=none
 frames:X.A.frames=some X.stack
 stk:X.stack=X.outer∨(X.stack=X.env :: X.outer∧X.env.frame=some X.env.locals)
 exf:∀ b ∈ X.ex,b≠X.env.locals∧∀ x c,X.env.cells.lookup x=some c→c≠b
 bs:∀ b o,X.base.get? b=some o→X.s₀.heap.get? b=some o∧X.H₀ b=none
 bsz:X.base.objs.size≤X.s₀.heap.objs.size
 noex:∀ b o,X.base.get? b=some o→b ∉ X.ex
 exfs:∀ b ∈ X.ex,b ∉ X.fs
 funs:X.s₀.heap.FunFrames X.base X.outer
 frf:∀ b ∈ X.fs,X.H₀ b=none
structure Inv (X:Cx) (pins:List (12:)) (σ:List (Option V)) (H:Hp) (s:Shared):Prop where
 ok:X.Ok
 os:s.os=X.s₀.os
 bare:AllBare s.gens
 base:Un X.fs X.ex X.H₀ H X.s₀.heap s.heap
 loc:∃ m,s.heap.Ns X.env.locals m∧∀ (i:Nat) (x:Str) (v:V),X.N[i]?=some x→σ[i]?=some (some v)→Vis X.env.scope x→∃ u,RelV v u∧Pj X.env s.heap m x u
 cell:∀ x c,X.env.cells.lookup x=some c→∃ v,s.heap.IsCell c v
 free:H X.env.locals=none
 freeC:∀ x c,X.env.cells.lookup x=some c→H c=none
 pin:∀ p ∈ X.pn ++ pins,s.heap.get? p.1=some p.2∧H p.1=none∧p.1≠X.env.locals∧p.1 ∉ X.fs∧∀ v,p.2.data≠.cell v
 hok:HOk X.prog X.w H s.heap
 len:σ.length=X.N.length
section
variable {X:Cx} {pins:List (12:)} {σ:List (Option V)} {H H':Hp} {s:Shared} {h':Heap}
theorem Cx.Ok.nofr (ok:X.Ok) {b:Addr} {o:Obj} (e:X.base.get? b=some o):b ∉ X.fs:=fun hb=>by
 have:=(ok.funs.mem hb).1
 rw [e] at this;cases this
theorem Inv.bs (I:Inv X pins σ H s):∀ b o,X.base.get? b=some o→s.heap.get? b=some o∧H b=none:=fun b o e =>
 ⟨I.base.keep b o (I.ok.bs b o e).1 (I.ok.bs b o e).2 (I.ok.nofr e) (I.ok.noex b o e),I.base.free b o (I.ok.bs b o e).1 (I.ok.bs b o e).2 (I.ok.noex b o e)⟩
theorem Inv.bk (I:Inv X pins σ H s):∀ b o,X.base.get? b=some o→s.heap.get? b=some o:=fun b o e=>(I.bs b o e).1
theorem Inv.mod (I:Inv X pins σ H s):Mod X.K X.mg X.base:=I.ok.mod
theorem Inv.kIn (I:Inv X pins σ H s):X.K.In s.heap:=I.ok.mod.kin.keeps I.bk
theorem Inv.fr (I:Inv X pins σ H s):∃ m,Fr X.base X.env.locals s.heap m :=
 let ⟨m,hn,_⟩:=I.loc
 ⟨m,hn,I.bk,Nat.le_trans I.ok.bsz I.ok.above⟩
theorem Inv.lt (I:Inv X pins σ H s):X.env.locals < s.heap.objs.size:=let ⟨_,hn,_⟩:=I.loc;hn.lt
theorem Inv.sz (I:Inv X pins σ H s):X.s₀.heap.objs.size≤s.heap.objs.size:=Nat.le_trans I.ok.above (Nat.le_of_lt I.lt)
theorem Inv.nofs (I:Inv X pins σ H s) {a:Addr} (h:s.heap.objs.size≤a):a ∉ X.fs:=fun hb=>by
 obtain ⟨_,o,ho,_⟩:=I.ok.funs.mem hb
 exact absurd (Nat.lt_of_lt_of_le (Heap.lt_size ho) (Nat.le_trans I.sz h)) (Nat.lt_irrefl _)
theorem Inv.cne (I:Inv X pins σ H s):∀ x c,X.env.cells.lookup x=some c→c≠X.env.locals:=fun x c e z=>by
 obtain ⟨v,o,ho,hd⟩:=I.cell x c e
 obtain ⟨m,⟨o',es,ep,ho',hd',_⟩,_⟩:=I.loc
 rw [z,ho'] at ho;cases ho;rw [hd'] at hd;cases hd
theorem Inv.funs (I:Inv X pins σ H s):s.heap.FunFrames X.base X.outer:=by
 have all:∀ (l:List Env),(∀ b ∈ frs l,b ∈ X.fs)→X.s₀.heap.FunFrames X.base l→s.heap.FunFrames X.base l:=by
  intro l
  induction l with
  | nil=>intro _ _;trivial
  | cons env r ih =>
   intro hs hl
   obtain ⟨hk,⟨L,o,hf,hn,ho,hd⟩,hr⟩:=hl
   have hL:L ∈ X.fs:=hs L (by unfold frs;rw [List.filterMap_cons,hf];exact List.mem_cons_self)
   obtain ⟨sl,e⟩:=I.base.slot L o ho (I.ok.frf L hL) hL fun z=>I.ok.exfs L z hL
   exact ⟨hk,⟨L,_,hf,hn,e,hd⟩,ih (fun b hb=>hs b (by unfold frs;rw [List.filterMap_cons,hf];exact List.mem_cons_of_mem _ hb)) hr⟩
 exact all X.outer (fun _ hb=>hb) I.ok.funs
theorem Inv.stack (I:Inv X pins σ H s):s.heap.FunFrames X.base X.stack:=by
 rcases I.ok.stk with e | ⟨e,hf⟩
 ·rw [e];exact I.funs
 ·rw [e]
  obtain ⟨m,hn,_⟩:=I.loc
  refine .cons (by rw [I.ok.kind];decide) hf hn ?_ I.funs
  exact Heap.get?_none_of_le (Nat.le_trans I.ok.bsz I.ok.above)
theorem Inv.stkSub (I:Inv X pins σ H s):∀ b ∈ frs X.stack,b ∈ X.env.locals :: X.fs:=fun b hb=>by
 rcases I.ok.stk with e | ⟨e,hf⟩
 ·rw [e] at hb;exact List.mem_cons_of_mem _ hb
 ·rw [e] at hb
  unfold frs at hb
  rw [List.filterMap_cons,hf] at hb
  exact hb
theorem Inv.stkFree (I:Inv X pins σ H s):∀ b ∈ frs X.stack,H b=none:=fun b hb=>by
 rcases List.mem_cons.mp (I.stkSub b hb) with e | hb
 ·rw [e];exact I.free
 ·obtain ⟨_,o,ho,_⟩:=I.ok.funs.mem hb
  exact I.base.free b o ho (I.ok.frf b hb) fun z=>I.ok.exfs b z hb
theorem Inv.step {g':Array GenState} {t':Nat} {d':Drawn} {ch:List Addr} (I:Inv X pins σ H s)
 (hch:∀ b ∈ ch,(b ∈ X.ex∨X.s₀.heap.objs.size≤b)∧b≠X.env.locals∧(∀ x c,X.env.cells.lookup x=some c→c≠b)∧∀ p ∈ X.pn ++ pins,p.1≠b)
 (keep:∀ b o,b≠X.env.locals→b ∉ X.fs→b ∉ ch→s.heap.get? b=some o→H b=none→h'.get? b=some o)
 (slot:∀ b o,b≠X.env.locals→b ∈ X.fs→b ∉ ch→s.heap.get? b=some o→H b=none→∃ sl,h'.get? b=some { o with slots:=sl }) (free:∀ b o,b ∉ ch→s.heap.get? b=some o→H b=none→H' b=none)
 (there:∀ b o,b ∉ ch→s.heap.get? b=some o→∃ o',h'.get? b=some o')
 (tups:∀ b xs,H b=some (.tup xs)→H' b=some (.tup xs)) (frzs:∀ b o u,H b=some (.frz o u)→H' b=some (.frz o u)) (tbls:∀ b ps,H b=some (.tbl ps)→∃ more,H' b=some (.tbl (ps ++ more)))
 (ns:∀ m,s.heap.Ns X.env.locals m→h'.Ns X.env.locals m) (hok:HOk X.prog X.w H' h') (hg:AllBare g') :
 Inv X pins σ H' { s with heap:=h',gens:=g',drawn:=d',toks:=t' }:=by
 have neL:∀ b o,X.s₀.heap.get? b=some o→b≠X.env.locals:=fun b o e=>Nat.ne_of_lt (Nat.lt_of_lt_of_le (Heap.lt_size e) I.ok.above)
 have neC:∀ b o,X.s₀.heap.get? b=some o→b ∉ X.ex→b ∉ ch:=fun b o e hx hb=>by
  rcases (hch b hb).1 with z | z
  ·exact hx z
  ·exact absurd (Nat.lt_of_lt_of_le (Heap.lt_size e) z) (Nat.lt_irrefl _)
 have cellK:∀ x c,X.env.cells.lookup x=some c→∀ v,s.heap.IsCell c v→h'.IsCell c v:=fun x c e v ⟨o,ho,hd⟩=>by
  have nch:c ∉ ch:=fun z=>(hch c z).2.2.1 x c e rfl
  by_cases hc:c ∈ X.fs
  ·obtain ⟨sl,q⟩:=slot c o (I.cne x c e) hc nch ho (I.freeC x c e)
   exact ⟨_,q,hd⟩
  ·exact ⟨o,keep c o (I.cne x c e) hc nch ho (I.freeC x c e),hd⟩
 refine ⟨I.ok,I.os,hg,⟨fun b o e n hb hx=>?_,fun b o e n hb hx=>?_,fun b o e n hx=>?_,fun b o e hx=>?_,fun b xs e=>tups b xs (I.base.tups b xs e),fun b o xs e=>frzs b o xs (I.base.frzs b o xs e),fun b ps e=>?_⟩,?_,fun x c e=>?_,?_,fun x c e=>?_,fun p hp=>?_,hok,I.len⟩
 ·exact keep b o (neL b o e) hb (neC b o e hx) (I.base.keep b o e n hb hx) (I.base.free b o e n hx)
 ·obtain ⟨sl,e1⟩:=I.base.slot b o e n hb hx
  obtain ⟨sl',e2⟩:=slot b _ (neL b o e) hb (neC b o e hx) e1 (I.base.free b o e n hx)
  exact ⟨sl',e2⟩
 ·obtain ⟨o',e1⟩:=I.base.there b o e hx
  exact free b o' (neC b o e hx) e1 (I.base.free b o e n hx)
 ·obtain ⟨o',e1⟩:=I.base.there b o e hx
  exact there b o' (neC b o e hx) e1
 ·obtain ⟨m1,e1⟩:=I.base.tbls b ps e
  obtain ⟨m2,e2⟩:=tbls b _ e1
  exact ⟨m1 ++ m2,by rw [e2,Array.append_assoc]⟩
 ·obtain ⟨m,hn,hl⟩:=I.loc
  refine ⟨m,ns m hn,fun i x v e1 e2 e3=>?_⟩
  obtain ⟨u,r,l⟩:=hl i x v e1 e2 e3
  refine ⟨u,r,?_⟩
  rcases l with l | ⟨k,c,e,z⟩
  ·exact .inl l
  ·exact .inr ⟨k,c,e,cellK x c e _ z⟩
 ·obtain ⟨v,z⟩:=I.cell x c e
  exact ⟨v,cellK x c e v z⟩
 ·obtain ⟨m,⟨o,_,_,ho,_⟩,_⟩:=I.loc
  exact free _ o (fun z=>(hch _ z).2.1 rfl) ho I.free
 ·obtain ⟨v,o,ho,hd⟩:=I.cell x c e
  exact free c o (fun z=>(hch c z).2.2.1 x c e rfl) ho (I.freeC x c e)
 ·obtain ⟨e,n,ne,nf,d⟩:=I.pin p hp
  have nch:p.1 ∉ ch:=fun z=>(hch p.1 z).2.2.2 p hp rfl
  exact ⟨keep p.1 p.2 ne nf nch e n,free p.1 p.2 nch e n,ne,nf,d⟩
theorem Inv.un {t':Nat} (I:Inv X pins σ H s) (u:Un X.fs [] H H' s.heap h') (hok:HOk X.prog X.w H' h'):Inv X pins σ H' { s with heap:=h',toks:=t' }:=by
 obtain ⟨m,⟨o,es,ep,ho,r⟩,_⟩:=id I.loc
 obtain ⟨sl,hL⟩:=u.any ho I.free (by simp)
 exact I.step (g':=s.gens) (d':=s.drawn) (ch:=[]) (fun _ z=>nomatch z) (fun b o _ hb _ e n=>u.keep b o e n hb (by simp)) (fun b o _ hb _ e n=>u.slot b o e n hb (by simp)) (fun b o _ e n=>u.free b o e n (by simp)) (fun b o _ e=>u.there b o e (by simp)) u.tups u.frzs u.tbls (fun m' hm=>by
  obtain ⟨o',es',ep',ho',r'⟩:=hm
  rw [ho] at ho';cases ho'
  exact ⟨_,es',ep',hL,r'⟩) hok I.bare
theorem Inv.call {g':Array GenState} {t':Nat} {d':Drawn} {ch:List Addr} (I:Inv X pins σ H s) (u:Un (frs X.stack) ch H H' s.heap h') (hok:HOk X.prog X.w H' h') (hg:AllBare g')
 (hch:∀ b ∈ ch,(b ∈ X.ex∨X.s₀.heap.objs.size≤b)∧b≠X.env.locals∧(∀ x c,X.env.cells.lookup x=some c→c≠b)∧∀ p ∈ X.pn ++ pins,p.1≠b) :
 Inv X pins σ H' { s with heap:=h',gens:=g',drawn:=d',toks:=t' }:=by
 obtain ⟨m,⟨o,es,ep,ho,r⟩,_⟩:=id I.loc
 obtain ⟨sl,hL⟩:=u.any ho I.free fun z=>(hch _ z).2.1 rfl
 exact I.step (ch:=ch) hch (fun b o hL hb hc e n=>u.keep b o e n (fun z=>(List.mem_cons.mp (I.stkSub b z)).elim hL hb) hc) (fun b o _ _ hc e n=>u.any e n hc) (fun b o hc e n=>u.free b o e n hc) (fun b o hc e=>u.there b o e hc) u.tups u.frzs u.tbls (fun m' hm=>by
  obtain ⟨o',es',ep',ho',r'⟩:=hm
  rw [ho] at ho';cases ho'
  exact ⟨_,es',ep',hL,r'⟩) hok hg
theorem Inv.turned {t':Nat} {it:Addr} (I:Inv X pins σ H s) (k:∀ b o,b≠it→s.heap.get? b=some o→h'.get? b=some o) (hn:H it=none) (hL:it≠X.env.locals)
 (h1:it ∈ X.ex∨X.s₀.heap.objs.size≤it) (h2:∀ x c,X.env.cells.lookup x=some c→c≠it) (h3:∀ p ∈ X.pn ++ pins,p.1≠it):Inv X pins σ H { s with heap:=h',toks:=t' }:=by
 have nit:∀ b u,H b=some u→b≠it:=fun b u e z=>by rw [z,hn] at e;cases e
 refine I.step (g':=s.gens) (d':=s.drawn) (ch:=[it]) (fun b hb=>?_) (fun b o _ _ hc e _=>k b o (fun z=>hc (by simp [z])) e) (fun b o _ _ hc e _=>⟨o.slots,k b o (fun z=>hc (by simp [z])) e⟩) (fun _ _ _ _ n=>n)
  (fun b o hc e=>⟨o,k b o (fun z=>hc (by simp [z])) e⟩) (fun _ _ e=>e) (fun _ _ _ e=>e) (fun b ps e=>⟨#[],by rw [e];simp⟩) (fun m hm=>?_) (fun b u e=>?_) I.bare
 ·have e:b=it:=by simpa using hb
  subst e
  exact ⟨h1,hL,h2,h3⟩
 ·obtain ⟨o,es,ep,ho,r⟩:=hm
  exact ⟨o,es,ep,k _ o (Ne.symm hL) ho,r⟩
 ·refine (I.hok b u e).stay (fun c v hc q=>k c v ?_ q) (fun _ q=>q) fun _ _ q=>q
  rcases hc with z | z
  ·rw [z];exact nit b u e
  ·exact nit c _ z
theorem Inv.tok (I:Inv X pins σ H s) (t:Nat):Inv X pins σ H { s with toks:=t }:=I.un (h':=s.heap) (t':=t) Un.refl I.hok
theorem Inv.kept {t':Nat} (I:Inv X pins σ H s) (k:∀ b u,s.heap.get? b=some u→h'.get? b=some u):Inv X pins σ H { s with heap:=h',toks:=t' }:=I.un (Un.kept k) (I.hok.kept k)
theorem Inv.laid {a:Addr} {o:HO} {t':Nat} (I:Inv X pins σ H s) (k:∀ b u,s.heap.get? b=some u→h'.get? b=some u) (hp:s.heap.objs.size≤a) (new:ObjOk X.prog X.w (upd H a o) h' a o) :
 Inv X pins σ (upd H a o) { s with heap:=h',toks:=t' }:=I.un (Un.laid k hp (I.hok.fresh hp)) (I.hok.laid k hp new)
theorem Inv.write {x e:Addr} {o:HO} {t':Nat} (I:Inv X pins σ H s) (mu:Mut (H x)) (he:e=x∨H e=some (.own x)) (k:∀ b u,b≠e→s.heap.get? b=some u→h'.get? b=some u) (heo:∃ u,h'.get? e=some u)
 (new:ObjOk X.prog X.w (upd H x o) h' x o):Inv X pins σ (upd H x o) { s with heap:=h',toks:=t' }:=I.un (Un.write mu he k heo) (I.hok.write mu he k heo new)
theorem Inv.pins_of {pins':List (12:)} (I:Inv X pins σ H s) (h:∀ p ∈ pins',s.heap.get? p.1=some p.2∧H p.1=none∧p.1≠X.env.locals∧p.1 ∉ X.fs∧∀ v,p.2.data≠.cell v):Inv X pins' σ H s :=
 ⟨I.ok,I.os,I.bare,I.base,I.loc,I.cell,I.free,I.freeC,fun p hp=>(List.mem_append.mp hp).elim (fun z=>I.pin p (List.mem_append_left _ z)) (h p),I.hok,I.len⟩
theorem J5 {N:List Str} (hN:N.Nodup) {i j:Nat} {x:Str} (a:N[i]?=some x) (b:N[j]?=some x):i=j:=by
 obtain ⟨h1,e1⟩:=List.getElem?_eq_some_iff.mp a
 obtain ⟨h2,e2⟩:=List.getElem?_eq_some_iff.mp b
 exact (List.getElem_inj hN).mp (e1.trans e2.symm)
theorem U6 {M:Model} {A:Around} {E:Value→Shared→Prop} {i:Nat} {x:Str} {v:V} {u:Value} {Q:Unit→Shared→Prop} (I:Inv X pins σ H s) (hN:X.N.Nodup) (hi:X.N[i]?=some x) (hx:Loc X.env.scope x) (r:RelV v u)
 (h:∀ s',Inv X pins (σ.set i (some v)) H s'→(∃ a,Heap.SameBut a s.heap s'.heap∧(a=X.env.locals∨X.env.cells.lookup x=some a))→Q () s') (hf:X.fn x=true∨X.env.scope.names.lookup x=some .local:=by first | exact .inl rfl | exact .inr rfl | assumption):wpAny M A (storeName X.env x u) Q E s:=by
 obtain ⟨m,hn,hl⟩:=id I.loc
 have hcls:(X.env.scope.kind == .class || (X.env.scope.kind == .module && X.env.locals != X.env.globals))=false:=by rw [I.ok.kind];rfl
 have hiσ:i < σ.length:=by rw [I.len];exact (List.getElem?_eq_some_iff.mp hi).1
 have cne:=I.cne
 have tracked:∀ {a:Addr} {h':Heap},(∃ o,s.heap.get? a=some o∧H a=none)→Heap.SameBut a s.heap h'→HOk X.prog X.w H h':=fun {a h'} ha hs b ob e=>by
  obtain ⟨_,_,hfree⟩:=ha
  refine (I.hok b ob e).stay (fun c w' hc q=>(hs.2 c ?_).trans q) (fun _ q=>q) fun _ _ q=>q
  rintro rfl
  rcases hc with rfl | hc
  ·rw [hfree] at e;cases e
  ·rw [hfree] at hc;cases hc
 rcases hx with hk | hk
 ·refine wpAny_storeName_local hk hn (fun h' hn' hs=>?_) hcls
  obtain ⟨oL,_,_,hoL,_⟩:=id hn
  refine h _ ⟨I.ok,I.os,I.bare,⟨fun b o e n hb hx=>?_,fun b o e n hb hx=>?_,I.base.free,fun b o e hx=>?_,I.base.tups,I.base.frzs,I.base.tbls⟩,⟨_,hn',fun j y v' e1 e2 e3=>?_⟩,fun y c e=>?_,I.free,I.freeC,fun p hp=>?_,tracked ⟨oL,hoL,I.free⟩ hs,by simpa using I.len⟩ ⟨_,hs,.inl rfl⟩
  ·exact (hs.2 b (Nat.ne_of_lt (Nat.lt_of_lt_of_le (Heap.lt_size e) I.ok.above))).trans (I.base.keep b o e n hb hx)
  ·obtain ⟨sl,e1⟩:=I.base.slot b o e n hb hx
   exact ⟨sl,(hs.2 b (Nat.ne_of_lt (Nat.lt_of_lt_of_le (Heap.lt_size e) I.ok.above))).trans e1⟩
  ·obtain ⟨o',e1⟩:=I.base.there b o e hx
   exact ⟨o',(hs.2 b (Nat.ne_of_lt (Nat.lt_of_lt_of_le (Heap.lt_size e) I.ok.above))).trans e1⟩
  ·by_cases hj:j=i
   ·subst hj
    rw [hi] at e1;cases e1
    rw [List.getElem?_set_self hiσ] at e2
    cases e2
    exact ⟨u,r,.inl ⟨hk,by simp⟩⟩
   ·rw [List.getElem?_set_ne (Ne.symm hj)] at e2
    obtain ⟨u',r',q⟩:=hl j y v' e1 e2 e3
    refine ⟨u',r',?_⟩
    rcases q with ⟨k,e⟩ | ⟨k,c,e,z⟩
    ·refine .inl ⟨k,?_⟩
     have:y≠x:=fun e=>hj (J5 hN e1 (e ▸ hi))
     simp [this,e]
    ·exact .inr ⟨k,c,e,z.sameBut hs (cne y c e)⟩
  ·obtain ⟨w',z⟩:=I.cell y c e
   exact ⟨w',z.sameBut hs (cne y c e)⟩
  ·obtain ⟨e,n,ne,nf,d⟩:=I.pin p hp
   exact ⟨(hs.2 p.1 ne).trans e,n,ne,nf,d⟩
 ·have hfn:X.fn x=true:=by
   rcases hf with z | z
   ·exact z
   ·rw [z] at hk;cases hk
  obtain ⟨c,hc⟩:=I.ok.has x (.inl hk)
  obtain ⟨w',z⟩:=I.cell x c hc
  refine wpAny_storeName_cell I.ok.kind hk hc z (fun h' hc' hs=>?_)
  obtain ⟨oc,hoc,hocd⟩:=id z
  refine h { s with heap:=h' } ⟨I.ok,I.os,I.bare,⟨fun b o e n hb hx=>?_,fun b o e n hb hx=>?_,I.base.free,fun b o e hx=>?_,I.base.tups,I.base.frzs,I.base.tbls⟩,⟨m,hn.sameBut hs (Ne.symm (cne x c hc)),fun j y v' e1 e2 e3=>?_⟩,fun y c' e=>?_,I.free,I.freeC,fun p hp=>?_,tracked ⟨oc,hoc,I.freeC x c hc⟩ hs,by simpa using I.len⟩ ⟨c,hs,.inr hc⟩
  ·exact (hs.2 b (Nat.ne_of_lt (Nat.lt_of_lt_of_le (Heap.lt_size e) (I.ok.cab x c hfn hc)))).trans (I.base.keep b o e n hb hx)
  ·obtain ⟨sl,e1⟩:=I.base.slot b o e n hb hx
   exact ⟨sl,(hs.2 b (Nat.ne_of_lt (Nat.lt_of_lt_of_le (Heap.lt_size e) (I.ok.cab x c hfn hc)))).trans e1⟩
  ·obtain ⟨o',e1⟩:=I.base.there b o e hx
   exact ⟨o',(hs.2 b (Nat.ne_of_lt (Nat.lt_of_lt_of_le (Heap.lt_size e) (I.ok.cab x c hfn hc)))).trans e1⟩
  ·by_cases hj:j=i
   ·subst hj
    rw [hi] at e1;cases e1
    rw [List.getElem?_set_self hiσ] at e2
    cases e2
    exact ⟨u,r,.inr ⟨.inl hk,c,hc,hc'⟩⟩
   ·rw [List.getElem?_set_ne (Ne.symm hj)] at e2
    obtain ⟨u',r',q⟩:=hl j y v' e1 e2 e3
    refine ⟨u',r',?_⟩
    rcases q with q | ⟨k,c',e,z'⟩
    ·exact .inl q
    ·refine .inr ⟨k,c',e,z'.sameBut hs ?_⟩
     rintro rfl
     exact hj (J5 hN e1 (I.ok.inj _ _ _ e hc ▸ hi))
  ·by_cases hcc:c'=c
   ·subst hcc;exact ⟨_,hc'⟩
   ·obtain ⟨w2,z2⟩:=I.cell y c' e
    exact ⟨w2,z2.sameBut hs hcc⟩
  ·obtain ⟨e,n,ne,nf,d⟩:=I.pin p hp
   refine ⟨(hs.2 p.1 ?_).trans e,n,ne,nf,d⟩
   intro q
   rw [q,hoc] at e
   have q':oc=p.2:=Option.some.inj e
   exact d w' (by rw [← q'];exact hocd)
theorem UA {M:Model} {A:Around} {E:Value→Shared→Prop} {i:Nat} {x:Str} {v:V} {u:Value} {Q:Unit→Shared→Prop} (I:Inv X pins σ H s) (hN:X.N.Nodup) (hi:X.N[i]?=some x) (hx:Loc X.env.scope x) (r:RelV v u)
 (h:∀ s',Inv X pins (σ.set i (some v)) H s'→Q () s') (hf:X.fn x=true∨X.env.scope.names.lookup x=some .local:=by first | exact .inl rfl | exact .inr rfl | assumption):wpAny M A (storeName X.env x u) Q E s :=
 U6 I hN hi hx r (fun s' I' _=>h s' I') hf
theorem Inv.call' {s':Shared} {ch:List Addr} (I:Inv X pins σ H s) (ho:s'.os=s.os) (u:Un (frs X.stack) ch H H' s.heap s'.heap) (hok:HOk X.prog X.w H' s'.heap) (hg:AllBare s'.gens)
 (hch:∀ b ∈ ch,(b ∈ X.ex∨X.s₀.heap.objs.size≤b)∧b≠X.env.locals∧(∀ x c,X.env.cells.lookup x=some c→c≠b)∧∀ p ∈ X.pn ++ pins,p.1≠b):Inv X pins σ H' s':=by
 obtain ⟨h',g',d',t',o'⟩:=s'
 have e:o'=s.os:=ho
 subst e
 exact I.call (g':=g') (t':=t') (d':=d') u hok hg hch
end
abbrev XK:=Value→Option Addr→Hp→Prop
abbrev St:=List (Option V)
abbrev VK:=V→Hp→Prop
abbrev TE:=St→Hp→VK→Prop
abbrev TT:=St→Hp→(Bool→Hp→Prop)→Prop
abbrev TA:=St→Hp→(List V→Hp→Prop)→Prop
structure Ends where
 nx:St→Hp→Prop
 rt:VK
 bk:St→Hp→Prop:=fun _ _=>False
 ct:St→Hp→Prop:=fun _ _=>False
abbrev TS:=Ends→St→Hp→Prop
def EP (X:Cx) (pins:List (12:)) (σ:St) (Q:VK) (u:Value) (s':Shared):Prop:=∃ v H',Inv X pins σ H' s'∧RelV v u∧Q v H'
def TP (X:Cx) (pins:List (12:)) (σ:St) (Q:Bool→Hp→Prop) (b:Bool) (s':Shared):Prop:=∃ H',Inv X pins σ H' s'∧Q b H'
def AP (X:Cx) (pins:List (12:)) (σ:St) (Q:List V→Hp→Prop) (us:List Value) (s':Shared):Prop:=∃ vs H',Inv X pins σ H' s'∧Vals vs us∧Q vs H'
def SP (X:Cx) (pins:List (12:)) (D:Ends) (f:Flow) (s':Shared):Prop :=
 match f with
 | .next=>∃ σ' H',Inv X pins σ' H' s'∧D.nx σ' H'
 | .brk=>∃ σ' H',Inv X pins σ' H' s'∧D.bk σ' H'
 | .cont=>∃ σ' H',Inv X pins σ' H' s'∧D.ct σ' H'
 | .ret u=>∃ v σ' H',Inv X pins σ' H' s'∧RelV v u∧D.rt v H'
def PE (X:Cx) (e:Expr) (t:TE):Prop :=
 ∀ (pins:List (12:)) (s:Shared) (σ:St) (H:Hp) (Q:VK),Inv X pins σ H s→t σ H Q→wpAny (8:) X.A (eval e X.env) (EP X pins σ Q) X.xe s
def PT (X:Cx) (e:Expr) (t:TT):Prop :=
 ∀ (pins:List (12:)) (s:Shared) (σ:St) (H:Hp) (Q:Bool→Hp→Prop),Inv X pins σ H s→t σ H Q→wpAny (8:) X.A (isTrue e X.env (eval e X.env)) (TP X pins σ Q) X.xe s
def PW (X:Cx) (e:Expr) (t:TT):Prop :=
 ∀ (whole:Sem Value) (pins:List (12:)) (s:Shared) (σ:St) (H:Hp) (Q:Bool→Hp→Prop),Inv X pins σ H s→t σ H Q→wpAny (8:) X.A (isTrue e X.env whole) (TP X pins σ Q) X.xe s
theorem PW.pt {X:Cx} {e:Expr} {t:TT} (h:PW X e t):PT X e t:=h _
def PA (X:Cx) (es:List Expr) (t:TA):Prop :=
 ∀ (pos:Pos) (pins:List (12:)) (s:Shared) (σ:St) (H:Hp) (Q:List V→Hp→Prop),Inv X pins σ H s→t σ H Q→wpAny (8:) X.A (spliced (backTo pos (starEach es X.env))) (AP X pins σ Q) X.xe s
def PS (X:Cx) (st:Stmt) (t:TS):Prop :=
 ∀ (pins:List (12:)) (s:Shared) (σ:St) (H:Hp) (D:Ends),Inv X pins σ H s→t D σ H→wpAny (8:) X.A (exec st X.env) (SP X pins D) X.xe s
def PSs (X:Cx) (st:List Stmt) (t:TS):Prop :=
 ∀ (pins:List (12:)) (s:Shared) (σ:St) (H:Hp) (D:Ends),Inv X pins σ H s→t D σ H→wpAny (8:) X.A (execs st X.env) (SP X pins D) X.xe s
theorem thn {α:Type} {t:Sem α} {Q Q':α→Shared→Prop} {M:Model} {A:Around} {E:Value→Shared→Prop} {s:Shared} (h:wpAny M A t Q E s) (hQ:∀ a s,Q a s→Q' a s):wpAny M A t Q' E s:=wpAny_mono h hQ fun _ _ x=>x
end L2
namespace L2
open PySem PySem.Spec PyProof.Rows
section
variable {X:Cx}
theorem bin {a b:Expr} {ta tb:TE} (ha:PE X a ta) (hb:PE X b tb) {pins:List (12:)} {s:Shared} {σ:St} {H:Hp} {R:V→V→Hp→Prop} (I:Inv X pins σ H s) (h:ta σ H fun x H1=>tb σ H1 fun y H2=>R x y H2)
 {α:Type} {Q:α→Shared→Prop} {f:Value→Value→Sem α}
 (hf:∀ v u s2 x y H2,Inv X pins σ H2 s2→RelV x v→RelV y u→R x y H2→wpAny (8:) X.A (f v u) Q X.xe s2) :
 wpAny (8:) X.A (eval a X.env) (fun v s₁=>wpAny (8:) X.A (eval b X.env) (fun u s₂=>wpAny (8:) X.A (f v u) Q X.xe s₂) X.xe s₁) X.xe s:=by
 refine thn (ha pins s σ H _ I h) fun v s1 ⟨x,H1,I1,r1,q1⟩=>?_
 refine thn (hb pins s1 σ H1 _ I1 q1) fun u s2 ⟨y,H2,I2,r2,q2⟩=>?_
 exact hf v u s2 x y H2 I2 r1 r2 q2
def Q6 (i:Nat):TE:=fun σ H Q=>∃ v,σ[i]?=some (some v)∧Q v H
def tC (v:V):TE:=fun _ H Q=>Q v H
theorem VP {i:Nat} {x:Str} {pos:Pos} (hN:X.N[i]?=some x) (hv:Vis X.env.scope x) (hd:(52:)=false:=by decide) (hcd:(x == ("__classdict__" : Str))=false:=by decide):PE X (.Name x pos) (Q6 i):=by
 intro pins s σ H Q I h
 obtain ⟨v,e,h⟩:=h
 obtain ⟨m,hn,hl⟩:=I.loc
 obtain ⟨u,r,l⟩:=hl i x v hN e hv
 have fin:EP X pins σ Q u s:=⟨v,H,I,r,h⟩
 rcases l with ⟨hk,hm⟩ | ⟨hk,c,hc,hcell⟩
 ·exact wpAny_Name (wpAny_loadName_local I.ok.kind hk hn hm fin) hd
 ·rcases hk with hk | hk
  ·exact wpAny_Name (wpAny_loadName_cell I.ok.kind hk hc hcell fin) hd
  ·exact wpAny_Name (wpAny_loadName_free I.ok.kind hk hc hcell fin hcd) hd
theorem Qd {i j pos}:PE X (.Constant (.int i) j pos) (tC (.int i)):=fun _ _ _ H _ I h=>wpAny_Constant_int ⟨.int i,H,I.tok _,⟨_,rfl⟩,h⟩
theorem Z3 {b j pos}:PE X (.Constant (.bool b) j pos) (tC (.bl b)):=fun _ _ _ H _ I h=>Constant_bool ⟨.bl b,H,I,rfl,h⟩
theorem YW {j pos}:PE X (.Constant .none j pos) (tC .non):=fun _ _ _ H _ I h=>Constant_none ⟨.non,H,I,rfl,h⟩
theorem QX {x j pos}:PE X (.Constant (.str x) j pos) (tC (.str x)):=fun _ _ _ H _ I h=>Calls.Constant_str ⟨.str x,H,I.tok _,⟨_,rfl⟩,h⟩
def Gl (X:Cx) (x:Str):Prop:=X.env.kindOf x=some .globalImplicit
theorem LK {E:Value→Shared→Prop} {pins:List (12:)} {s:Shared} {σ:St} {H:Hp} {x:Str} {u:Value} {pos:Pos} {Q:Value→Shared→Prop} (I:Inv X pins σ H s) (hg:Gl X x) (hm:X.mg x=some u) (h:Q u s)
 (hd:(52:)=false:=by decide):wpAny (8:) X.A (eval (.Name x pos) X.env) Q E s :=
 Calls.Name_function_global I.ok.kind hg (Calls.loadGlobal_global (by rw [I.ok.glob];exact I.mod.glob.keeps I.bk) hm h) hd
theorem YS {E:Value→Shared→Prop} {pins:List (12:)} {s:Shared} {σ:St} {H:Hp} {x:Str} {u:Value} {pos:Pos} {Q:Value→Shared→Prop} (I:Inv X pins σ H s) (hg:Gl X x) (hm:X.mg x=none) (hv:bootBuiltins x=some u) (h:Q u s)
 (hn:x ≠ "__name__" := by decide) (hd:(52:)=false:=by decide):wpAny (8:) X.A (eval (.Name x pos) X.env) Q E s:=by
 obtain ⟨mb,h1,h2⟩:=I.mod.blt
 exact Calls.Name_function_global I.ok.kind hg (Calls.loadGlobal_builtin (by rw [I.ok.glob];exact I.mod.glob.keeps I.bk) hm (by rw [I.ok.blt];exact h1.keeps I.bk) ((h2 x hn).trans hv) h) hd
theorem G5 {x:Str} {v:V} {u:Value} {pos:Pos} (hg:Gl X x) (hm:X.mg x=none) (hv:bootBuiltins x=some u) (r:RelV v u) (hn:x ≠ "__name__" := by decide) (hd:(52:)=false:=by decide):PE X (.Name x pos) (tC v) :=
 fun _ _ _ H _ I h=>YS I hg hm hv ⟨v,H,I,r,h⟩ hn hd
variable {a b:Expr} {ta tb:TE} {pos:Pos}
def tB (t:TE):TT:=fun σ H Q=>t σ H fun x H1=>∃ c,x=.bl c∧Q c H1
theorem ZK {e:Expr} {t:TE} (h:PE X e t) (he:∀ whole,isTrue e X.env whole=(do let v ← whole;standAt e.pos;holding [v] (truthy v)):=by intro _;rfl):PT X e (tB t):=by
 intro pins s σ H Q I hw
 refine isTrue_plain (thn (h pins s σ H _ I hw) fun v s1 ⟨x,H1,I1,r1,q1⟩=>?_) (he _)
 obtain ⟨d,rfl,q⟩:=q1
 cases r1
 exact wpAny_truthy_bool ⟨H1,I1,q⟩
variable {tA tB':TT} {rest:List Expr}
def OZ (t u:TT):TT:=fun σ H Q=>t σ H fun c H1=>if c=true then u σ H1 Q else Q false H1
def tOr (t u:TT):TT:=fun σ H Q=>t σ H fun c H1=>if c=true then Q true H1 else u σ H1 Q
def OU (t:TT):TT:=fun σ H Q=>t σ H fun c H1=>Q (!c) H1
theorem pw_and1 (ha:PT X a tA):PW X (.BoolOp .And [a] pos) tA:=by
 intro wh pins s σ H Q I h
 refine isTrue_and (thn (ha pins s σ H Q I h) fun c s1 e=>?_)
 cases c with
 | true=>exact isTrue_and_nil e
 | false=>exact e
theorem pw_or1 (ha:PT X a tA):PW X (.BoolOp .Or [a] pos) tA:=by
 intro wh pins s σ H Q I h
 refine isTrue_or (thn (ha pins s σ H Q I h) fun c s1 e=>?_)
 cases c with
 | false=>exact isTrue_or_nil e
 | true=>exact e
theorem pw_and (ha:PT X a tA) (hb:PW X (.BoolOp .And (b :: rest) pos) tB'):PW X (.BoolOp .And (a :: b :: rest) pos) (OZ tA tB'):=by
 intro wh pins s σ H Q I h
 refine isTrue_and (thn (ha pins s σ H _ I h) fun c s1 ⟨H1,I1,q1⟩=>?_)
 cases c with
 | true=>exact hb wh pins s1 σ H1 Q I1 q1
 | false=>exact ⟨H1,I1,q1⟩
theorem pw_or (ha:PT X a tA) (hb:PW X (.BoolOp .Or (b :: rest) pos) tB'):PW X (.BoolOp .Or (a :: b :: rest) pos) (tOr tA tB'):=by
 intro wh pins s σ H Q I h
 refine isTrue_or (thn (ha pins s σ H _ I h) fun c s1 ⟨H1,I1,q1⟩=>?_)
 cases c with
 | true=>exact ⟨H1,I1,q1⟩
 | false=>exact hb wh pins s1 σ H1 Q I1 q1
theorem Yz (ha:PT X a tA):PT X (.UnaryOp .Not a pos) (OU tA):=by
 intro pins s σ H Q I h
 exact isTrue_not (ha pins s σ H (fun c H1=>Q (!c) H1) I h)
def N6 (ta tb:TE):TE:=fun σ H Q=>ta σ H fun x H1=>∃ c,x=.bl c∧if c=true then tb σ H1 Q else Q (.bl false) H1
def Pg (ta tb:TE):TE:=fun σ H Q=>ta σ H fun x H1=>∃ c,x=.bl c∧if c=true then Q (.bl true) H1 else tb σ H1 Q
def NL (ta:TE):TE:=fun σ H Q=>ta σ H fun x H1=>∃ c,x=.bl c∧Q (.bl (!c)) H1
theorem Uy {op} {t:TE} (h:PE X a t):PE X (.BoolOp op [a] pos) t:=fun pins s σ H Q I hw=>BoolOp_one (h pins s σ H Q I hw)
theorem Vr (ha:PE X a ta) (hb:PE X (.BoolOp .And (b :: rest) pos) tb):PE X (.BoolOp .And (a :: b :: rest) pos) (N6 ta tb):=by
 intro pins s σ H Q I h
 refine BoolOp_and (thn (ha pins s σ H _ I h) fun v s1 ⟨x,H1,I1,r1,q1⟩=>?_)
 obtain ⟨c,rfl,q1⟩:=q1
 cases r1
 refine wpAny_truthy_bool ?_
 cases c with
 | true=>exact hb pins s1 σ H1 Q I1 q1
 | false=>exact ⟨.bl false,H1,I1,rfl,q1⟩
theorem Ww (ha:PE X a ta) (hb:PE X (.BoolOp .Or (b :: rest) pos) tb):PE X (.BoolOp .Or (a :: b :: rest) pos) (Pg ta tb):=by
 intro pins s σ H Q I h
 refine BoolOp_or (thn (ha pins s σ H _ I h) fun v s1 ⟨x,H1,I1,r1,q1⟩=>?_)
 obtain ⟨c,rfl,q1⟩:=q1
 cases r1
 refine wpAny_truthy_bool ?_
 cases c with
 | false=>exact hb pins s1 σ H1 Q I1 q1
 | true=>exact ⟨.bl true,H1,I1,rfl,q1⟩
theorem XI (ha:PE X a ta):PE X (.UnaryOp .Not a pos) (NL ta):=by
 intro pins s σ H Q I h
 refine UnaryOp_ (thn (ha pins s σ H _ I h) fun v s1 ⟨x,H1,I1,r1,q1⟩=>?_)
 obtain ⟨c,rfl,q1⟩:=q1
 cases r1
 exact not_of (wpAny_truthy_bool ⟨.bl (!c),H1,I1,rfl,q1⟩)
def tIf (t:TT) (ta tb:TE):TE:=fun σ H Q=>t σ H fun c H1=>if c=true then ta σ H1 Q else tb σ H1 Q
theorem Xb {c:Expr} (hc:PT X c tA) (ha:PE X a ta) (hb:PE X b tb):PE X (.IfExp c a b pos) (tIf tA ta tb):=by
 intro pins s σ H Q I h
 refine wpAny_IfExp (thn (hc pins s σ H _ I h) fun d s1 ⟨H1,I1,q1⟩=>?_)
 cases d with
 | true=>exact ha pins s1 σ H1 Q I1 q1
 | false=>exact hb pins s1 σ H1 Q I1 q1
end
end L2
namespace L2
open PySem PySem.Spec PyProof.Rows
def SqL (K:PySem.W.Frag) (H:Hp) (a:Addr) (xs:List V):Prop :=
 Rd H a (.lst xs) ∨
  ∃ (o:Obj) (its:Array Value) (n:Nat),K.lookup a=some o∧o.cls=.type "list" ∧ o.dict=none∧o.data=.seq its n∧its.size≤sizeLine∧Vals xs its.toList
def SqT (K:PySem.W.Frag) (H:Hp) (a:Addr) (xs:List V):Prop :=
 Rd H a (.tup xs) ∨
  ∃ (o:Obj) (its:Array Value) (n:Nat),K.lookup a=some o∧o.cls=.type "tuple" ∧ o.data=.seq its n∧its.size≤sizeLine∧Vals xs its.toList
def O4:Value→Option V
 | .none=>some .non
 | .bool b=>some (.bl b)
 | .int i _=>some (.int i)
 | .str x _=>some (.str x)
 | .bytes b _=>some (.byt b)
 | .float b _=>some (.flt b)
 | .ref a=>some (.ref a)
 | .type n=>some (.ty n)
 | _=>none
theorem RelV.abs {x:V} {u:Value} (r:RelV x u):O4 u=some x:=by
 cases x with
 | non=>cases r;rfl
 | bl _=>cases r;rfl
 | int _=>obtain ⟨t,rfl⟩:=r;rfl
 | str _=>obtain ⟨t,rfl⟩:=r;rfl
 | byt _=>obtain ⟨t,rfl⟩:=r;rfl
 | flt _=>obtain ⟨t,rfl⟩:=r;rfl
 | ref _=>cases r;rfl
 | ty _=>cases r;rfl
theorem RelV.inj {x y:V} {u:Value} (r:RelV x u) (q:RelV y u):x=y:=Option.some.inj (r.abs.symm.trans q.abs)
theorem Vals.inj:∀ {xs ys:List V} {us:List Value},Vals xs us→Vals ys us→xs=ys
 | _,_,_,.nil,.nil=>rfl
 | _,_,_,.cons r t,.cons r' t'=>by rw [r.inj r',Vals.inj t t']
section
variable {X:Cx} {pins:List (12:)} {σ:St} {H:Hp} {s:Shared} {a:Addr} {xs ys:List V}
theorem SqL.of {K:PySem.W.Frag} (h:H a=some (.lst xs)):SqL K H a xs:=.inl (.inl h)
theorem SqT.of {K:PySem.W.Frag} (h:H a=some (.tup xs)):SqT K H a xs:=.inl (.inl h)
theorem Inv.list (I:Inv X pins σ H s) (h:SqL X.K H a xs):∃ its:List Value,Vals xs its∧PlainL s.heap a its.toArray∧xs.length≤sizeLine:=by
 rcases h with h | ⟨o,its,n,hk,hc,hd,hs,hz,r⟩
 ·obtain ⟨z,its,n,r,e⟩:=h.ok I.hok
  exact ⟨its,r,⟨_,n,e,rfl,rfl,rfl⟩,z⟩
 ·refine ⟨its.toList,r,⟨o,n,I.kIn a o hk,hc,hd,by simpa using hs⟩,?_⟩
  have e:=r.length
  simp only [Array.length_toList] at e
  lia
theorem Inv.tuple (I:Inv X pins σ H s) (h:SqT X.K H a xs):∃ its:List Value,Vals xs its∧IsTup s.heap a its.toArray∧xs.length≤sizeLine:=by
 rcases h with h | ⟨o,its,n,hk,hc,hs,hz,r⟩
 ·obtain ⟨z,its,r,p⟩:=h.ok I.hok
  exact ⟨its,r,p,z⟩
 ·refine ⟨its.toList,r,⟨o,I.kIn a o hk,hc,n,by simpa using hs⟩,?_⟩
  have e:=r.length
  simp only [Array.length_toList] at e
  lia
theorem Inv.list_inj (I:Inv X pins σ H s) (h:SqL X.K H a xs) (h':SqL X.K H a ys):xs=ys:=by
 obtain ⟨its,r,⟨o,n,e,_,_,d⟩,_⟩:=I.list h
 obtain ⟨its',r',⟨o',n',e',_,_,d'⟩,_⟩:=I.list h'
 rw [e] at e';cases e'
 rw [d] at d'
 injection d' with d1 _
 have:its=its':=by simpa using congrArg Array.toList d1
 subst this
 exact r.inj r'
theorem Inv.tuple_inj (I:Inv X pins σ H s) (h:SqT X.K H a xs) (h':SqT X.K H a ys):xs=ys:=by
 obtain ⟨its,r,⟨o,e,_,n,d⟩,_⟩:=I.tuple h
 obtain ⟨its',r',⟨o',e',_,n',d'⟩,_⟩:=I.tuple h'
 rw [e] at e';cases e'
 rw [d] at d'
 injection d' with d1 _
 have:its=its':=by simpa using congrArg Array.toList d1
 subst this
 exact r.inj r'
end
abbrev Cx.wish (X:Cx) (E:Value→Shared→Prop):Cx:={ X with xe:=E }
abbrev Cx.nox (X:Cx):Cx:=X.wish fun _ _=>False
theorem Cx.Ok.wish {X:Cx} (ok:X.Ok) (E:Value→Shared→Prop):(X.wish E).Ok :=
 ⟨ok.mod,ok.kind,ok.glob,ok.blt,ok.above,ok.inj,ok.has,ok.cab,ok.hd,ok.frames,ok.stk,ok.exf,ok.bs,ok.bsz,ok.noex,ok.exfs,ok.funs,ok.frf⟩
theorem Cx.Ok.unwish {X:Cx} {E:Value→Shared→Prop} (ok:(X.wish E).Ok):X.Ok :=
 ⟨ok.mod,ok.kind,ok.glob,ok.blt,ok.above,ok.inj,ok.has,ok.cab,ok.hd,ok.frames,ok.stk,ok.exf,ok.bs,ok.bsz,ok.noex,ok.exfs,ok.funs,ok.frf⟩
section
variable {X:Cx} {pins:List (12:)} {σ:St} {H:Hp} {s:Shared} {E:Value→Shared→Prop}
theorem Inv.wish (I:Inv X pins σ H s) (E:Value→Shared→Prop):Inv (X.wish E) pins σ H s:=⟨I.ok.wish E,I.os,I.bare,I.base,I.loc,I.cell,I.free,I.freeC,I.pin,I.hok,I.len⟩
theorem Inv.unwish (I:Inv (X.wish E) pins σ H s):Inv X pins σ H s:=⟨I.ok.unwish,I.os,I.bare,I.base,I.loc,I.cell,I.free,I.freeC,I.pin,I.hok,I.len⟩
theorem SP.unwish {D:Ends} {f:Flow} {s':Shared} (h:SP (X.wish E) pins D f s'):SP X pins D f s':=by
 cases f with
 | next=>obtain ⟨σ',H',I,q⟩:=h;exact ⟨σ',H',I.unwish,q⟩
 | brk=>obtain ⟨σ',H',I,q⟩:=h;exact ⟨σ',H',I.unwish,q⟩
 | cont=>obtain ⟨σ',H',I,q⟩:=h;exact ⟨σ',H',I.unwish,q⟩
 | ret u=>obtain ⟨v,σ',H',I,r,q⟩:=h;exact ⟨v,σ',H',I.unwish,r,q⟩
theorem PSs.nox {st:List Stmt} {t:TS} (h:PSs X.nox st t):PSs X st t:=fun pins s σ H D I hw =>
 wpAny_mono (h pins s σ H D (I.wish _) hw) (fun _ _ q=>q.unwish) fun _ _ z=>False.elim z
end
section
variable {X:Cx} {st:Stmt} {rest:List Stmt} {t u:TS} {e:Expr} {te:TE} {pos:Pos}
def Oa:TS:=fun D σ H=>D.nx σ H
def Pi (t u:TS):TS:=fun D σ H=>t { D with nx:=u D } σ H
theorem QB:PSs X [] Oa:=fun _ _ σ H _ I h=>wpAny_execs_nil ⟨σ,H,I,h⟩
theorem Qf (h1:PS X st t) (h2:PSs X rest u):PSs X (st :: rest) (Pi t u):=by
 intro pins s σ H D I h
 refine wpAny_execs_cons (thn (h1 pins s σ H { D with nx:=u D } I h) fun f s1 q=>?_)
 cases f with
 | next =>
  obtain ⟨σ',H',I',q⟩:=q
  exact h2 pins s1 σ' H' D I' q
 | ret v=>exact q
 | brk=>exact q
 | cont=>exact q
theorem Qj (h1:PS X st t):PSs X [st] t:=by
 intro pins s σ H D I h
 refine wpAny_execs_cons (thn (h1 pins s σ H D I h) fun f s1 q=>?_)
 cases f with
 | next=>exact wpAny_execs_nil q
 | ret v=>exact q
 | brk=>exact q
 | cont=>exact q
theorem Inv.quiet {pins:List (12:)} {σ:St} {H:Hp} {s:Shared} (I:Inv X pins σ H s):interactive X.env=false:=by simp [interactive,I.ok.kind]
def N4 (te:TE):TS:=fun D σ H=>te σ H fun _ H1=>D.nx σ H1
theorem Q8 (he:PE X e te) (hs:swapsWith e none pos.line X.env=pure false:=by rfl):PS X (.Expr e pos) (N4 te):=by
 intro pins s σ H D I h
 exact wpAny_Expr_any (thn (he pins s σ H _ I h) fun v s1 ⟨x,H1,I1,r1,q1⟩=>⟨σ,H1,I1,q1⟩) I.quiet hs
def Pa (te:TE):TS:=fun D σ H=>te σ H D.rt
theorem Qs (he:PE X e te):PS X (.Return (some e) pos) (Pa te):=by
 intro pins s σ H D I h
 exact wpAny_Return_some (thn (he pins s σ H _ I h) fun v s1 ⟨x,H1,I1,r1,q1⟩=>⟨x,σ,H1,I1,r1,q1⟩)
def Pl (c:TT) (t u:TS):TS:=fun D σ H=>c σ H fun b H1=>if b=true then t D σ H1 else u D σ H1
theorem QN {c:Expr} {a b:List Stmt} {tc:TT} (hc:PT X c tc) (ha:PSs X a t) (hb:PSs X b u):PS X (.If c a b pos) (Pl tc t u):=by
 intro pins s σ H D I h
 refine wpAny_If (thn (hc pins s σ H _ I h) fun d s1 ⟨H1,I1,q1⟩=>?_)
 cases d with
 | true=>exact ha pins s1 σ H1 D I1 q1
 | false=>exact hb pins s1 σ H1 D I1 q1
def Ng:TS:=fun _ _ _=>False
theorem Vn:PS X st Ng:=fun _ _ _ _ _ _ h=>h.elim
end
abbrev TG:=V→St→Hp→(St→Hp→Prop)→Prop
abbrev TGs:=List V→St→Hp→(St→Hp→Prop)→Prop
def PG (X:Cx) (target:Expr) (t:TG):Prop :=
 ∀ (pins:List (12:)) (s:Shared) (σ:St) (H:Hp) (v:V) (u:Value) (Q:St→Hp→Prop),Inv X pins σ H s→RelV v u→t v σ H Q →
  wpAny (8:) X.A (assign target X.env u) (fun _ s'=>∃ σ' H',Inv X pins σ' H' s'∧Q σ' H') X.xe s
def PGs (X:Cx) (ts:List Expr) (t:TGs):Prop :=
 ∀ (pins:List (12:)) (s:Shared) (σ:St) (H:Hp) (vs:List V) (us:List Value) (Q:St→Hp→Prop),Inv X pins σ H s→Vals vs us→t vs σ H Q →
  wpAny (8:) X.A (assignInOrder ((assignEach ts X.env).map (·.2)) us) (fun _ s'=>∃ σ' H',Inv X pins σ' H' s'∧Q σ' H') X.xe s
abbrev MQ:=V→V→V→Hp→(Hp→Prop)→Prop
def Oq (X:Cx) (t:MQ):Prop :=
 ∀ (pins:List (12:)) (s:Shared) (σ:St) (H:Hp) (o i v:V) (ov iv u:Value) (Q:Hp→Prop),Inv X pins σ H s→RelV o ov→RelV i iv→RelV v u→t o i v H Q →
  wpAny (8:) X.A (setItem ov iv u) (fun _ s'=>∃ H',Inv X pins σ H' s'∧Q H') X.xe s
section
variable {X:Cx} {pos:Pos}
def QV (i:Nat):TG:=fun v σ H Q=>Q (σ.set i (some v)) H
theorem QC {i:Nat} {x:Str} (hN:X.N.Nodup) (hi:X.N[i]?=some x) (hx:Loc X.env.scope x) (hf:X.fn x=true∨X.env.scope.names.lookup x=some .local:=by first | exact .inl rfl | exact .inr rfl | assumption):PG X (.Name x pos) (QV i):=by
 intro pins s σ H v u Q I r h
 exact wpAny_assign_Name (UA I hN hi hx r (fun s' I'=>⟨_,H,I',h⟩) hf)
def Vc:TGs:=fun vs σ H Q=>vs=[]∧Q σ H
def Yn (t:TG) (u:TGs):TGs:=fun vs σ H Q=>∃ v r,vs=v :: r∧t v σ H fun σ' H'=>u r σ' H' Q
theorem Zv:PGs X [] Vc:=by
 intro pins s σ H vs us Q I r h
 obtain ⟨e,h⟩:=h
 subst e
 cases r
 exact assignInOrder_nil ⟨σ,H,I,h⟩
theorem QK {e:Expr} {es:List Expr} {t:TG} {u:TGs} (h1:PG X e t) (h2:PGs X es u)
 (hs:(assignEach (e :: es) X.env).map (·.2)=assign e X.env :: (assignEach es X.env).map (·.2):=by rfl):PGs X (e :: es) (Yn t u):=by
 intro pins s σ H vs us Q I r h
 obtain ⟨v,vr,e1,h⟩:=h
 subst e1
 cases r with
 | cons r rr =>
  rw [hs]
  refine assignInOrder_cons (thn (h1 pins s σ H _ _ _ I r h) fun _ s1 ⟨σ1,H1,I1,q1⟩=>?_)
  exact h2 pins s1 σ1 H1 _ _ Q I1 rr q1
def VE (K:PySem.W.Frag) (n:Nat) (t:TGs):TG:=fun v σ H Q=>∃ a xs,v=.ref a∧SqT K H a xs∧xs.length=n∧t xs σ H Q
theorem ZM {es:List Expr} {k:Nat} {t:TGs} {n:Nat} (hc:X.calm=true) (h:PGs X es t)
 (hn:(assignEach es X.env).length=n:=by rfl) (hst:(assignEach es X.env).findIdx? (·.1)=none:=by rfl):PG X (.Tuple es k pos) (VE X.K n t):=by
 intro pins s σ H v u Q I r hw
 obtain ⟨a,xs,e1,hq,hl,hw⟩:=hw
 subst e1
 cases r
 obtain ⟨its,rv,ht,hz⟩:=I.tuple hq
 refine assign_Tuple_tuple (I.ok.hd hc) ht (by simp [hn,← hl,rv.length]) hst fun h' hx=>?_
 have I1:Inv X pins σ H { s with heap:=h' }:=I.kept (t':=s.toks) fun b o e=>hx b o (Nat.ne_of_lt (Heap.lt_size e)) e
 exact h pins _ σ H xs _ Q I1 (by simpa using rv) hw
def Pd (to ti:TE) (t:MQ):TG:=fun v σ H Q=>to σ H fun o H1=>ti σ H1 fun i H2=>t o i v H2 fun H3=>Q σ H3
theorem Jy {o i:Expr} {to ti:TE} {t:MQ} (ho:PE X o to) (hi:PE X i ti) (hs:Oq X t)
 (ha:∀ v,assign (.Subscript o i pos) X.env v=(do
  let ov ← holding [v] (eval o X.env)
  let iv ← holding [v,ov] (eval i X.env)
  standAt pos
  holding [v,ov,iv] (setItem ov iv v)
  release [v,ov,iv] []):=by intro _;rfl):PG X (.Subscript o i pos) (Pd to ti t):=by
 intro pins s σ H v u Q I r h
 rw [ha]
 refine wpAny_bind (wpAny_holding (thn (ho pins s σ H _ I h) fun ov s1 ⟨x,H1,I1,r1,q1⟩=>?_))
 refine wpAny_bind (wpAny_holding (thn (hi pins s1 σ H1 _ I1 q1) fun iv s2 ⟨y,H2,I2,r2,q2⟩=>?_))
 refine wpAny_bind (wpAny_standAt (wpAny_bind (wpAny_holding (thn (hs pins s2 σ H2 x y v ov iv u _ I2 r1 r2 r q2) fun _ s3 ⟨H3,I3,q3⟩=>?_))))
 exact wpAny_release ⟨σ,H3,I3,q3⟩
def MV (te:TE) (g:TG):TS:=fun D σ H=>te σ H fun x H1=>g x σ H1 D.nx
theorem ZL {tg e:Expr} {te:TE} {g:TG} (he:PE X e te) (hg:PG X tg g) (hs:swapsWithSole [tg] e pos.line X.env=pure false:=by rfl) (hw:swappedStores [tg] e X.env=pure none:=by rfl)
 (h1:(assignEach [tg] X.env).map (·.2)=[assign tg X.env]:=by rfl):PS X (.Assign [tg] e pos) (MV te g):=by
 intro pins s σ H D I h
 refine wpAny_Assign_stores (thn (he pins s σ H _ I h) fun v s1 ⟨x,H1,I1,r1,q1⟩=>?_) hs hw
 rw [h1]
 exact thn (hg pins s1 σ H1 x v _ I1 r1 q1) fun _ s2 q=>q
theorem Qr {i:Nat} {x:Str} {e:Expr} {te:TE} {pos':Pos} (hN:X.N.Nodup) (hi:X.N[i]?=some x) (hx:Loc X.env.scope x) (he:PE X e te) (hs:swapsWith e (some (.Name x pos')) pos.line X.env=pure false:=by rfl) (hf:X.fn x=true∨X.env.scope.names.lookup x=some .local:=by first | exact .inl rfl | exact .inr rfl | assumption) :
 PS X (.Assign [.Name x pos'] e pos) (MV te (QV i)):=by
 intro pins s σ H D I h
 refine wpAny_Assign_Name (thn (he pins s σ H _ I h) fun v s1 ⟨y,H1,I1,r1,q1⟩=>?_) hs
 exact UA I1 hN hi hx r1 (fun s2 I2=>⟨_,H1,I2,q1⟩) hf
end
section
variable {X:Cx} {pos:Pos}
def Mu (c:TT) (tb:TS):TS:=fun D σ H=>∃ W:Nat→St→Hp→Prop,(∃ m,W m σ H)∧∀ m σ H,W m σ H →
 c σ H fun b H1=>if b=true then ∃ N:St→Hp→Prop,(∀ σ' H',N σ' H'→∃ m',m' < m∧W m' σ' H')∧tb { D with nx:=N,ct:=N,bk:=D.nx } σ H1 else D.nx σ H1
theorem GJ {c:Expr} {body:List Stmt} {tc:TT} {tb:TS} (hp:PassesOwn (8:) X.A X.env X.xe) (hc:PT X c tc) (hb:PSs X body tb):PS X (.While c body [] pos) (Mu tc tb):=by
 intro pins s σ H D I h
 obtain ⟨W,⟨m0,w0⟩,turn⟩:=h
 refine wpAny_While (codeAny_whileLoop (fun n s'=>∃ σ' H',Inv X pins σ' H' s'∧W n σ' H') ?_ m0 ⟨σ,H,I,w0⟩)
 rintro n s1 ⟨σ1,H1,I1,w1⟩
 refine wpAny_passesOwn hp (thn (hc pins s1 σ1 H1 _ I1 (turn n σ1 H1 w1)) fun b s2 ⟨H2,I2,q2⟩=>?_)
 cases b with
 | true =>
  obtain ⟨N,hN,q2⟩:=q2
  rw [if_pos rfl]
  refine wpAny_passesOwn hp (thn (hb pins s2 σ1 H2 _ I2 q2) fun f s3 q3=>?_)
  cases f with
  | next =>
   obtain ⟨σ3,H3,I3,n3⟩:=q3
   obtain ⟨m',hm,w3⟩:=hN σ3 H3 n3
   exact ⟨m',hm,σ3,H3,I3,w3⟩
  | cont =>
   obtain ⟨σ3,H3,I3,n3⟩:=q3
   obtain ⟨m',hm,w3⟩:=hN σ3 H3 n3
   exact ⟨m',hm,σ3,H3,I3,w3⟩
  | brk=>exact q3
  | ret v=>exact q3
 | false =>
  rw [if_neg Bool.false_ne_true]
  exact wpAny_execs_nil ⟨σ1,H2,I2,q2⟩
end
structure It where
 go:Nat→Hp→Prop
 yld:Nat→Hp→V→Hp→Prop
 stop:Nat→Hp→Prop
def YT (X:Cx) (pins:List (12:)) (H:Hp) (b:Addr):Prop :=
 H b=none∧b≠X.env.locals∧b ∉ X.fs∧(b ∈ X.ex∨X.s₀.heap.objs.size≤b)∧(∀ x c,X.env.cells.lookup x=some c→c≠b)∧∀ p ∈ X.pn ++ pins,p.1≠b
theorem Inv.fpOk {X:Cx} {pins:List (12:)} {σ:St} {H H':Hp} {s:Shared} {b:Addr} (I:Inv X pins σ H s) (hb:s.heap.objs.size≤b) (hn:H' b=none):YT X pins H' b:=by
 refine ⟨hn,Nat.ne_of_gt (Nat.lt_of_lt_of_le I.lt hb),I.nofs hb,.inr (Nat.le_trans I.sz hb),fun x c e z=>?_,fun p hp z=>?_⟩
 ·obtain ⟨v,q⟩:=I.cell x c e
  exact absurd (Nat.lt_of_lt_of_le q.lt (by rw [z];exact hb)) (Nat.lt_irrefl _)
 ·exact absurd (Nat.lt_of_lt_of_le (Heap.lt_size (I.pin p hp).1) (by rw [z];exact hb)) (Nat.lt_irrefl _)
structure Turn (P:Program) (w:World) (K:PySem.W.Frag) (tg:Expr) (J:It) (fp:List Addr) (it:Addr) (tn:Nat→Heap→Prop):Prop where
 mem:it ∈ fp
 obj:∀ i h,tn i h→∀ b ∈ fp,∃ o,h.get? b=some o∧∀ v,o.data≠.cell v
 keep:∀ i h h',tn i h→(∀ b ∈ fp,∀ o,h.get? b=some o→h'.get? b=some o)→tn i h'
 item:∀ (X:Cx),X.prog=P→X.w=w→X.K=K→X.calm=true→∀ (i:Nat) (pins:List (12:)) (s:Shared) (σ:St) (H:Hp) (E:Value→Shared→Prop),Inv X pins σ H s→(∀ b ∈ fp,YT X pins H b)→tn i s.heap→J.go i H →
  wpAny (model P w) X.A (pyNext (.ref it)) (fun r s1=>∃ u,r=some u ∧
   wpAny (model P w) X.A (letOwnedTupleGo tg (.ref it) u) (fun _ s2=>∃ x H',Inv X pins σ H' s2∧RelV x u∧J.yld i H x H'∧tn (i + 1) s2.heap∧∀ b ∈ fp,H' b=none) E s1) E s
 done:∀ (X:Cx),X.prog=P→X.w=w→X.K=K→X.calm=true→∀ (i:Nat) (pins:List (12:)) (s:Shared) (σ:St) (H:Hp) (E:Value→Shared→Prop),Inv X pins σ H s→(∀ b ∈ fp,YT X pins H b)→tn i s.heap→J.stop i H →
  wpAny (model P w) X.A (pyNext (.ref it)) (fun r s1=>r=none∧Inv X pins σ H s1) E s
 self:∀ (A:Around) (i:Nat) (s:Shared) (Q:Value→Shared→Prop) (E:Value→Shared→Prop),tn i s.heap→Q (.ref it) s→wpAny (model P w) A (pyIter (.ref it)) Q E s
abbrev TI:=St→Hp→(It→Hp→Prop)→Prop
def PIE (X:Cx) (pins:List (12:)) (σ:St) (tg:Expr) (R:It→Hp→Prop) (itv:Value) (s2:Shared):Prop :=
 ∃ (it:Addr) (fp:List Addr) (tn:Nat→Heap→Prop) (J:It) (H':Hp),itv=.ref it∧Inv X pins σ H' s2∧Turn X.prog X.w X.K tg J fp it tn∧tn 0 s2.heap∧(∀ b ∈ fp,YT X pins H' b)∧R J H'
def PI (X:Cx) (tg iter:Expr) (wi:TI):Prop :=
 ∀ (pins:List (12:)) (s:Shared) (σ:St) (H:Hp) (R:It→Hp→Prop),Inv X pins σ H s→wi σ H R →
  wpAny (8:) X.A (eval iter X.env) (fun v s1=>wpAny (8:) X.A (pyIter v) (PIE X pins σ tg R) X.xe s1) X.xe s
theorem GY {M:Model} {A:Around} {E:Value→Shared→Prop} {s:Shared} {tg:Expr} {it:Addr} {u:Value} {o:Obj} {n:String} {vs:Array Value} {Q:Unit→Shared→Prop} (ho:s.heap.get? it=some o) (hc:o.cls=.type n) (hd:o.data=.fields vs)
 (hn:["enumerate", "zip", "dict_itemiterator", "dict_reverseitemiterator", "odict_iterator", "itertools.zip_longest", "itertools.pairwise"].contains n=false) (hQ:Q () s):wpAny M A (letOwnedTupleGo tg (.ref it) u) Q E s:=by
 unfold letOwnedTupleGo
 cases tg <;> first
  | exact wpAny_pure hQ
  | (cases u <;> first
   | exact wpAny_pure hQ
   | (refine wpAny_bind (wpAny_load ho ?_)
      rw [hc,hd]
      show wpAny M A (if (["enumerate", "zip", "dict_itemiterator", "dict_reverseitemiterator", "odict_iterator", "itertools.zip_longest", "itertools.pairwise"].contains n && vs[0]? == some (rawInt _))=true then _ else _) Q E s
      rw [if_neg (by intro h;rw [hn,Bool.false_and] at h;cases h)]
      exact wpAny_pure hQ))
def Itl (K:PySem.W.Frag) (a:Addr):It :=
 ⟨fun i H=>∃ xs x,SqL K H a xs∧xs[i]?=some x,fun i H x H'=>H'=H∧∀ xs,SqL K H a xs→xs[i]?=some x,fun i H=>∃ xs,SqL K H a xs∧xs.length≤i⟩
def Itt (K:PySem.W.Frag) (a:Addr):It :=
 ⟨fun i H=>∃ xs x,SqT K H a xs∧xs[i]?=some x,fun i H x H'=>H'=H∧∀ xs,SqT K H a xs→xs[i]?=some x,fun i H=>∃ xs,SqT K H a xs∧xs.length≤i⟩
def Itr (lo:Int) (n:Nat):It:=⟨fun i _=>i < n,fun i H x H'=>H'=H∧x=.int (lo + i),fun i _=>n≤i⟩
theorem Vd {P:Program} {w:World} {K:PySem.W.Frag} {tg:Expr} (a it:Addr):Turn P w K tg (Itl K a) [it] it (fun i h=>h.IsListIter it a i) where
 mem:=by simp
 obj:=fun i h st b hb=>by
  have e:b=it:=by simpa using hb
  subst e
  obtain ⟨o,e,c,d⟩:=st
  exact ⟨o,e,fun v z=>by rw [d] at z;cases z⟩
 keep:=fun i h h' st k=>st.at fun o e=>k it (by simp) o e
 item:=by
  intro X hP hw hK hc i pins s σ H E I hf st hg
  subst hP hw hK
  obtain ⟨xs,x,hq,hx⟩:=hg
  obtain ⟨its,rv,p,hz⟩:=I.list hq
  obtain ⟨u,hu,ru⟩:=rv.get hx
  obtain ⟨f0,f1,f2,f3,f4,f5⟩:=hf it (by simp)
  refine wpAny_pyNext_list_item st p.isList (x:=u) (by simpa using hu) fun h' st' sb=>?_
  have I1:Inv X pins σ H { s with heap:=h' }:=I.turned (t':=s.toks) (fun b o hb e=>(sb.2 b hb).trans e) f0 f1 f3 f4 f5
  obtain ⟨o,e,c,d⟩:=id st'
  exact ⟨u,rfl,GY (s:={ s with heap:=h' }) e c d (28:) ⟨x,H,I1,ru,⟨rfl,fun ys hy=>by rw [I.list_inj hy hq];exact hx⟩,st',fun b hb=>(hf b hb).1⟩⟩
 done:=by
  intro X hP hw hK hc i pins s σ H E I hf st hg
  subst hP hw hK
  obtain ⟨xs,hq,hx⟩:=hg
  obtain ⟨its,rv,p,hz⟩:=I.list hq
  obtain ⟨f0,f1,f2,f3,f4,f5⟩:=hf it (by simp)
  have hl:=rv.length
  exact wpAny_pyNext_list_end (I.ok.hd hc) st p.isList (by simp;lia) fun h' eb=>⟨rfl,I.turned (t':=s.toks) (fun b o hb e=>eb b o hb e) f0 f1 f3 f4 f5⟩
 self:=fun _ _ _ _ _ st h=>wpAny_pyIter_listiter st h
theorem XN {P:Program} {w:World} {K:PySem.W.Frag} {tg:Expr} (a it:Addr):Turn P w K tg (Itt K a) [it] it (fun i h=>h.IsTupleIter it a i) where
 mem:=by simp
 obj:=fun i h st b hb=>by
  have e:b=it:=by simpa using hb
  subst e
  obtain ⟨o,e,c,d⟩:=st
  exact ⟨o,e,fun v z=>by rw [d] at z;cases z⟩
 keep:=fun i h h' st k=>st.at fun o e=>k it (by simp) o e
 item:=by
  intro X hP hw hK hc i pins s σ H E I hf st hg
  subst hP hw hK
  obtain ⟨xs,x,hq,hx⟩:=hg
  obtain ⟨its,rv,p,hz⟩:=I.tuple hq
  obtain ⟨u,hu,ru⟩:=rv.get hx
  obtain ⟨f0,f1,f2,f3,f4,f5⟩:=hf it (by simp)
  refine wpAny_pyNext_tuple_item st (show s.heap.IsTuple a its.toArray from p) (x:=u) (by simpa using hu) fun h' st' sb=>?_
  have I1:Inv X pins σ H { s with heap:=h' }:=I.turned (t':=s.toks) (fun b o hb e=>(sb.2 b hb).trans e) f0 f1 f3 f4 f5
  obtain ⟨o,e,c,d⟩:=id st'
  exact ⟨u,rfl,GY (s:={ s with heap:=h' }) e c d (28:) ⟨x,H,I1,ru,⟨rfl,fun ys hy=>by rw [I.tuple_inj hy hq];exact hx⟩,st',fun b hb=>(hf b hb).1⟩⟩
 done:=by
  intro X hP hw hK hc i pins s σ H E I hf st hg
  subst hP hw hK
  obtain ⟨xs,hq,hx⟩:=hg
  obtain ⟨its,rv,p,hz⟩:=I.tuple hq
  obtain ⟨f0,f1,f2,f3,f4,f5⟩:=hf it (by simp)
  have hl:=rv.length
  exact wpAny_pyNext_tuple_end (I.ok.hd hc) st (show s.heap.IsTuple a its.toArray from p) (by simp;lia) fun h' eb=>⟨rfl,I.turned (t':=s.toks) (fun b o hb e=>eb b o hb e) f0 f1 f3 f4 f5⟩
 self:=fun _ _ _ _ _ st h=>wpAny_pyIter_tupleiter st h
theorem Xx {P:Program} {w:World} {K:PySem.W.Frag} {tg:Expr} (it:Addr) (lo:Int) (n:Nat):Turn P w K tg (Itr lo n) [it] it (fun i h=>IsRangeIter h it (lo + (i:Nat) * 1) ((n:Int) - (i:Nat)) 1) where
 mem:=by simp
 obj:=fun i h st b hb=>by
  have e:b=it:=by simpa using hb
  subst e
  exact ⟨_,st,fun v z=>by
   have z':Data.fields _=Data.cell v:=z
   cases z'⟩
 keep:=fun i h h' st k=>k it (by simp) _ st
 item:=by
  intro X hP hw hK hc i pins s σ H E I hf st hg
  subst hP hw hK
  obtain ⟨f0,f1,f2,f3,f4,f5⟩:=hf it (by simp)
  have W:=Walks.range (prog:=X.prog) (w:=X.w) (I.ok.hd hc) it lo 1 n
  refine W.item i s _ _ hg st fun v h' tk hv st' kk=>?_
  obtain ⟨t,rfl⟩:=hv
  have I1:Inv X pins σ H { s with heap:=h',toks:=tk }:=I.turned (fun b o hb e=>kk b o (by simpa using hb) e) f0 f1 f3 f4 f5
  refine ⟨_,rfl,GY (s:={ s with heap:=h',toks:=tk }) (n:="range_iterator") st' rfl rfl (28:) ⟨.int (lo + i),H,I1,⟨t,?_⟩,⟨rfl,rfl⟩,st',fun b hb=>(hf b hb).1⟩⟩
  rw [Int.mul_one]
 done:=by
  intro X hP hw hK hc i pins s σ H E I hf st hg
  subst hP hw hK
  obtain ⟨f0,f1,f2,f3,f4,f5⟩:=hf it (by simp)
  exact wpAny_pyNext_range_end (I.ok.hd hc) st (by have:n≤i:=hg;lia) fun h' eb=>⟨rfl,I.turned (t':=s.toks) (fun b o hb e=>eb b o hb e) f0 f1 f3 f4 f5⟩
 self:=fun _ _ _ _ _ st h=>wpAny_pyIter_rangeiter st h
end L2
namespace L2
open PySem PySem.Spec PyProof.Rows
section
variable {X:Cx} {tg:Expr}
def Mc (K:PySem.W.Frag) (tl:TE):TI:=fun σ H R=>tl σ H fun x H1=>∃ a,x=.ref a∧(∃ xs,SqL K H1 a xs)∧R (Itl K a) H1
def O1 (K:PySem.W.Frag) (tl:TE):TI:=fun σ H R=>tl σ H fun x H1=>∃ a,x=.ref a∧(∃ xs,SqT K H1 a xs)∧R (Itt K a) H1
theorem QJ {l:Expr} {tl:TE} (hl:PE X l tl):PI X tg l (Mc X.K tl):=by
 intro pins s σ H R I h
 refine thn (hl pins s σ H _ I h) fun v s1 ⟨x,H1,I1,r1,q1⟩=>?_
 obtain ⟨a,e,⟨xs,hq⟩,q⟩:=q1
 subst e
 cases r1
 obtain ⟨its,rv,p,hz⟩:=I1.list hq
 refine wpAny_pyIter_list p.isList ?_
 refine ⟨s1.heap.objs.size,[s1.heap.objs.size],_,_,H1,rfl,I1.kept (t':=s1.toks) fun b o e=>Heap.get?_push_of_some _ e,Vd a _,⟨_,Heap.get?_push_size _ rfl,rfl,rfl⟩,fun b hb=>?_,q⟩
 have e:b=s1.heap.objs.size:=by simpa using hb
 subst e
 exact I1.fpOk (9:) (I1.hok.fresh (9:))
theorem Zu {l:Expr} {tl:TE} (hl:PE X l tl):PI X tg l (O1 X.K tl):=by
 intro pins s σ H R I h
 refine thn (hl pins s σ H _ I h) fun v s1 ⟨x,H1,I1,r1,q1⟩=>?_
 obtain ⟨a,e,⟨xs,hq⟩,q⟩:=q1
 subst e
 cases r1
 obtain ⟨its,rv,p,hz⟩:=I1.tuple hq
 refine wpAny_pyIter_tuple (show s1.heap.IsTuple a its.toArray from p) ?_
 refine ⟨s1.heap.objs.size,[s1.heap.objs.size],_,_,H1,rfl,I1.kept (t':=s1.toks) fun b o e=>Heap.get?_push_of_some _ e,XN a _,⟨_,Heap.get?_push_size _ rfl,rfl,rfl⟩,fun b hb=>?_,q⟩
 have e:b=s1.heap.objs.size:=by simpa using hb
 subst e
 exact I1.fpOk (9:) (I1.hok.fresh (9:))
theorem V9 {pins:List (12:)} {σ:St} {H:Hp} {s:Shared} {R:It→Hp→Prop} {E:Value→Shared→Prop} {lo hi:Int} {t u v:Tok} {tk:Nat} (I:Inv X pins σ H s) (h1:-(2 ^ 62)≤lo) (h2:lo < 2 ^ 62) (h3:-(2 ^ 62)≤hi) (h4:hi < 2 ^ 62)
 (q:R (Itr lo (hi - lo).toNat) H):wpAny (8:) X.A (pyIter (.ref s.heap.objs.size)) (PIE X pins σ tg R) E { s with heap:=s.heap.push { cls:=.type "range", data:=.fields #[.int lo t,.int hi u,.int 1 v] },toks:=tk }:=by
 refine wpAny_pyIter_range (IsRange.new ..) (small_one h1 h2 h3 h4) ?_
 have I1:Inv X pins σ H { s with heap:=s.heap.push { cls:=.type "range", data:=.fields #[.int lo t,.int hi u,.int 1 v] },toks:=tk }:=I.kept fun b o e=>Heap.get?_push_of_some _ e
 refine ⟨(s.heap.push { cls:=.type "range", data:=.fields #[.int lo t,.int hi u,.int 1 v] }).objs.size,[(s.heap.push { cls:=.type "range", data:=.fields #[.int lo t,.int hi u,.int 1 v] }).objs.size],_,_,H,rfl,I1.kept (t':=tk) fun b o e=>Heap.get?_push_of_some _ e,Xx _ lo (hi - lo).toNat,?_,fun b hb=>?_,q⟩
 ·have e1:lo + ((0:Nat):Int) * 1=lo:=by simp
  have e2:(((hi - lo).toNat:Nat):Int) - ((0:Nat):Int)=Builtin.Range.rangeSize lo hi 1:=by rw [rangeSize_one];split <;> lia
  show IsRangeIter _ _ (lo + ((0:Nat):Int) * 1) ((((hi - lo).toNat:Nat):Int) - ((0:Nat):Int)) 1
  rw [e1,e2]
  exact Heap.get?_push_size _ rfl
 ·have e:b=(s.heap.push { cls:=.type "range", data:=.fields #[.int lo t,.int hi u,.int 1 v] }).objs.size:=by simpa using hb
  subst e
  exact I1.fpOk (9:) (I1.hok.fresh (9:))
def Oc (ta:TA):TI:=fun σ H R=>ta σ H fun vs H1=>∃ j:Int,vs=[.int j]∧-(2 ^ 62)≤j∧j < 2 ^ 62∧R (Itr 0 j.toNat) H1
theorem QI {a:Expr} {ta:TA} {p pos:Pos} (hg:Gl X "range") (hm:X.mg "range" = none) (ha:PA X [a] ta) (hs:starEach [a] X.env=[(false,eval a X.env)]:=by rfl):PI X tg (.Call (.Name "range" p) [a] [] pos) (Oc ta):=by
 intro pins s σ H R I h
 refine Call_ (YS I hg hm boot_range (PyProof.Rows.callWith_type1 (thn (ha pos pins s σ H _ I h) fun us s1 ⟨vs,H1,I1,r1,q1⟩=>?_) hs rfl))
 obtain ⟨j,e,q1,q2,q⟩:=q1
 subst e
 cases r1 with
 | cons r rr =>
  cases rr
  obtain ⟨t,rfl⟩:=r
  exact call_range_1 (V9 I1 (7:) (7:) q1 q2 (by simpa using q))
def OQ (wi:TI) (g:TG) (tb:TS):TS:=fun D σ H=>wi σ H fun J H1=>∃ W:Nat→Nat→St→Hp→Prop,(∃ m,W 0 m σ H1)∧∀ i m σ H,W i m σ H →
 (J.stop i H∧D.nx σ H)∨(J.go i H∧∃ N:St→Hp→Prop,(∀ σ' H',N σ' H'→∃ m',m' < m∧W (i + 1) m' σ' H')∧∀ x H',J.yld i H x H'→g x σ H' fun σ2 H2=>tb { D with nx:=N,ct:=N,bk:=D.nx } σ2 H2)
def YA (fp:List Addr) (h:Heap):List (12:):=fp.filterMap fun b=>(h.get? b).map fun o=>(b,o)
theorem Zn {fp:List Addr} {h:Heap} {b:Addr} {o:Obj} (hb:b ∈ fp) (e:h.get? b=some o):(b,o) ∈ YA fp h:=List.mem_filterMap.mpr ⟨b,hb,by rw [e];rfl⟩
theorem WU {fp:List Addr} {h:Heap} {p:Addr × Obj} (hp:p ∈ YA fp h):p.1 ∈ fp∧h.get? p.1=some p.2:=by
 obtain ⟨b,hb,e⟩:=List.mem_filterMap.mp hp
 cases q:h.get? b with
 | none=>rw [q] at e;cases e
 | some o =>
  rw [q] at e
  have e':(b,o)=p:=Option.some.inj e
  subst e'
  exact ⟨hb,q⟩
theorem Inv.pinned {pins:List (12:)} {σ:St} {H:Hp} {s:Shared} {fp:List Addr} (I:Inv X pins σ H s) (hf:∀ b ∈ fp,YT X pins H b) (ho:∀ b ∈ fp,∃ o,s.heap.get? b=some o∧∀ v,o.data≠.cell v):Inv X (pins ++ YA fp s.heap) σ H s :=
 I.pins_of fun p hp=>(List.mem_append.mp hp).elim (fun z=>I.pin p (List.mem_append_right _ z)) fun z=>by
  obtain ⟨hb,e⟩:=WU z
  obtain ⟨f0,f1,f2,_⟩:=hf p.1 hb
  obtain ⟨o,e',d⟩:=ho p.1 hb
  rw [e] at e';cases e'
  exact ⟨e,f0,f1,f2,d⟩
theorem Inv.unpinned {pins pl:List (12:)} {σ:St} {H:Hp} {s:Shared} (I:Inv X (pins ++ pl) σ H s):Inv X pins σ H s:=I.pins_of fun p hp=>I.pin p (List.mem_append_right _ (List.mem_append_left _ hp))
theorem Q5 {iter:Expr} {body:List Stmt} {wi:TI} {g:TG} {tb:TS} {pos:Pos} (hp:PassesOwn (8:) X.A X.env X.xe) (hc:X.calm=true) (hi:PI X tg iter wi) (hg:PG X tg g) (hb:PSs X body tb)
 (hs:∀ x,foldedSetIterable iter X.env x=pure x:=by intro _;rfl):PS X (.For tg iter body [] pos) (OQ wi g tb):=by
 intro pins s σ H D I h
 refine wpAny_For (thn (hi pins s σ H _ I h) fun v s1 h1=>thn h1 fun itv s2 h2=>?_) hs
 obtain ⟨it,fp,tn,J,H2,e,I2,T,st2,f2,W,⟨m0,w0⟩,turn⟩:=h2
 subst e
 have stat:∀ {H':Hp},(∀ b ∈ fp,H' b=none)→∀ b ∈ fp,YT X pins H' b:=fun hn b hb=>⟨hn b hb,(f2 b hb).2⟩
 refine codeAny_forLoop_any (fun n s'=>∃ i σ' H',Inv X pins σ' H' s'∧tn i s'.heap∧(∀ b ∈ fp,H' b=none)∧W i n σ' H') ?_ m0 ⟨0,σ,H2,I2,st2,fun b hb=>(f2 b hb).1,w0⟩
 rintro n s3 ⟨i,σ3,H3,I3,st3,fr3,w3⟩
 rcases turn i n σ3 H3 w3 with ⟨stop,qn⟩ | ⟨go,N,hN,step⟩
 ·refine wpAny_passesOwn hp (thn (T.done X rfl rfl rfl hc i pins s3 σ3 H3 X.xe I3 (stat fr3) st3 stop) fun r s4 ⟨hr,I4⟩=>?_)
  subst hr
  exact wpAny_execs_nil ⟨σ3,H3,I4,qn⟩
 ·refine wpAny_passesOwn hp (thn (T.item X rfl rfl rfl hc i pins s3 σ3 H3 X.xe I3 (stat fr3) st3 go) fun r s4 ⟨u,hr,h4⟩=>?_)
  subst hr
  refine wpAny_passesOwn hp (thn h4 fun _ s5 ⟨x,H5,I5,r5,y5,st5,fr5⟩=>?_)
  have I5':=I5.pinned (stat fr5) (T.obj _ _ st5)
  refine wpAny_passesOwn hp (thn (hg _ s5 σ3 H5 x u _ I5' r5 (step x H5 y5)) fun _ s6 ⟨σ6,H6,I6,q6⟩=>?_)
  refine wpAny_passesOwn hp (thn (hb _ s6 σ6 H6 _ I6 q6) fun f s7 q7=>?_)
  have again:∀ {σ7:St} {H7:Hp},Inv X (pins ++ YA fp s5.heap) σ7 H7 s7→N σ7 H7→∃ m,m < n∧∃ i σ' H',Inv X pins σ' H' s7∧tn i s7.heap∧(∀ b ∈ fp,H' b=none)∧W i m σ' H':=fun {σ7 H7} I7 n7=>by
   obtain ⟨m',hm,w7⟩:=hN σ7 H7 n7
   refine ⟨m',hm,i + 1,σ7,H7,I7.unpinned,T.keep _ _ _ st5 fun b hb o e=>(I7.pin (b,o) (38:)).1,fun b hb=>?_,w7⟩
   obtain ⟨o,e,d⟩:=T.obj _ _ st5 b hb
   exact (I7.pin (b,o) (38:)).2.1
  cases f with
  | next=>obtain ⟨σ7,H7,I7,n7⟩:=q7;exact again I7 n7
  | cont=>obtain ⟨σ7,H7,I7,n7⟩:=q7;exact again I7 n7
  | brk=>obtain ⟨σ7,H7,I7,q7⟩:=q7;exact ⟨σ7,H7,I7.unpinned,q7⟩
  | ret v=>obtain ⟨x7,σ7,H7,I7,r7,q7⟩:=q7;exact ⟨x7,σ7,H7,I7.unpinned,r7,q7⟩
end
theorem Yb {K:PySem.W.Frag} {a:Addr} {xs:List V} {g:TG} {tb:TS} {D:Ends} {σ:St} {H:Hp} (Pv:Nat→St→Hp→Prop) (h0:Pv 0 σ H) (hl:∀ i σ H,i≤xs.length→Pv i σ H→SqL K H a xs)
 (hs:∀ i x σ H,xs[i]?=some x→Pv i σ H→g x σ H fun σ2 H2=>tb { D with nx:=Pv (i + 1),ct:=Pv (i + 1),bk:=D.nx } σ2 H2) (hd:∀ σ H,Pv xs.length σ H→D.nx σ H) :
 ∃ W:Nat→Nat→St→Hp→Prop,(∃ m,W 0 m σ H)∧∀ i m σ H,W i m σ H →
  ((Itl K a).stop i H∧D.nx σ H)∨((Itl K a).go i H∧∃ N:St→Hp→Prop,(∀ σ' H',N σ' H'→∃ m',m' < m∧W (i + 1) m' σ' H')∧∀ x H',(Itl K a).yld i H x H'→g x σ H' fun σ2 H2=>tb { D with nx:=N,ct:=N,bk:=D.nx } σ2 H2):=by
 refine ⟨fun i m σ H=>m=xs.length - i∧i≤xs.length∧Pv i σ H,⟨xs.length,by simp,Nat.zero_le _,h0⟩,?_⟩
 rintro i m σ H ⟨rfl,hi,p⟩
 have q:=hl i σ H hi p
 by_cases hlt:i < xs.length
 ·refine .inr ⟨⟨xs,xs[i],q,by simp [hlt]⟩,Pv (i + 1),fun σ' H' p'=>⟨xs.length - (i + 1),by lia,rfl,hlt,p'⟩,fun x H' y=>?_⟩
  obtain ⟨e,y⟩:=y
  subst e
  exact hs i x σ _ (y xs q) p
 ·have e:i=xs.length:=by lia
  subst e
  exact .inl ⟨⟨xs,q,Nat.le_refl _⟩,hd σ H p⟩
theorem WF {K:PySem.W.Frag} {a:Addr} {xs:List V} {g:TG} {tb:TS} {D:Ends} {σ:St} {H:Hp} (Pv:Nat→St→Hp→Prop) (h0:Pv 0 σ H) (hl:∀ i σ H,i≤xs.length→Pv i σ H→SqT K H a xs)
 (hs:∀ i x σ H,xs[i]?=some x→Pv i σ H→g x σ H fun σ2 H2=>tb { D with nx:=Pv (i + 1),ct:=Pv (i + 1),bk:=D.nx } σ2 H2) (hd:∀ σ H,Pv xs.length σ H→D.nx σ H) :
 ∃ W:Nat→Nat→St→Hp→Prop,(∃ m,W 0 m σ H)∧∀ i m σ H,W i m σ H →
  ((Itt K a).stop i H∧D.nx σ H)∨((Itt K a).go i H∧∃ N:St→Hp→Prop,(∀ σ' H',N σ' H'→∃ m',m' < m∧W (i + 1) m' σ' H')∧∀ x H',(Itt K a).yld i H x H'→g x σ H' fun σ2 H2=>tb { D with nx:=N,ct:=N,bk:=D.nx } σ2 H2):=by
 refine ⟨fun i m σ H=>m=xs.length - i∧i≤xs.length∧Pv i σ H,⟨xs.length,by simp,Nat.zero_le _,h0⟩,?_⟩
 rintro i m σ H ⟨rfl,hi,p⟩
 have q:=hl i σ H hi p
 by_cases hlt:i < xs.length
 ·refine .inr ⟨⟨xs,xs[i],q,by simp [hlt]⟩,Pv (i + 1),fun σ' H' p'=>⟨xs.length - (i + 1),by lia,rfl,hlt,p'⟩,fun x H' y=>?_⟩
  obtain ⟨e,y⟩:=y
  subst e
  exact hs i x σ _ (y xs q) p
 ·have e:i=xs.length:=by lia
  subst e
  exact .inl ⟨⟨xs,q,Nat.le_refl _⟩,hd σ H p⟩
theorem Q3 {lo:Int} {n:Nat} {g:TG} {tb:TS} {D:Ends} {σ:St} {H:Hp} (Pv:Nat→St→Hp→Prop) (h0:Pv 0 σ H)
 (hs:∀ i σ H,i < n→Pv i σ H→g (.int (lo + i)) σ H fun σ2 H2=>tb { D with nx:=Pv (i + 1),ct:=Pv (i + 1),bk:=D.nx } σ2 H2) (hd:∀ σ H,Pv n σ H→D.nx σ H) :
 ∃ W:Nat→Nat→St→Hp→Prop,(∃ m,W 0 m σ H)∧∀ i m σ H,W i m σ H →
  ((Itr lo n).stop i H∧D.nx σ H)∨((Itr lo n).go i H∧∃ N:St→Hp→Prop,(∀ σ' H',N σ' H'→∃ m',m' < m∧W (i + 1) m' σ' H')∧∀ x H',(Itr lo n).yld i H x H'→g x σ H' fun σ2 H2=>tb { D with nx:=N,ct:=N,bk:=D.nx } σ2 H2):=by
 refine ⟨fun i m σ H=>m=n - i∧i≤n∧Pv i σ H,⟨n,by simp,Nat.zero_le _,h0⟩,?_⟩
 rintro i m σ H ⟨rfl,hi,p⟩
 by_cases hlt:i < n
 ·refine .inr ⟨hlt,Pv (i + 1),fun σ' H' p'=>⟨n - (i + 1),by lia,rfl,hlt,p'⟩,fun x H' y=>?_⟩
  obtain ⟨e,y⟩:=y
  subst e y
  exact hs i σ _ hlt p
 ·have e:i=n:=by lia
  subst e
  exact .inl ⟨Nat.le_refl _,hd σ H p⟩
end L2
namespace L2
open PySem PySem.Spec PyProof.Rows
abbrev R2:=V→V→Hp→VK→Prop
def OpR (X:Cx) (f:Value→Value→Sem Value) (r:R2):Prop :=
 ∀ (pins:List (12:)) (s:Shared) (σ:St) (H:Hp) (x y:V) (v u:Value) (Q:VK),Inv X pins σ H s→RelV x v→RelV y u→r x y H Q →
  wpAny (8:) X.A (f v u) (EP X pins σ Q) X.xe s
def ZC (X:Cx) (f:Value) (r:List V→Hp→VK→Prop):Prop :=
 ∀ (pins:List (12:)) (s:Shared) (σ:St) (H:Hp) (xs:List V) (us:List Value) (Q:VK),Inv X pins σ H s→Vals xs us→r xs H Q →
  wpAny (8:) X.A (call f us) (EP X pins σ Q) X.xe s
def tOp (r:R2) (ta tb:TE):TE:=fun σ H Q=>ta σ H fun x H1=>tb σ H1 fun y H2=>r x y H2 Q
def rI (C:Int→Int→Prop) (g:Int→Int→V):R2:=fun x y H Q=>∃ i j,x=.int i∧y=.int j∧C i j∧Q (g i j) H
def rI0 (g:Int→Int→V):R2:=fun x y H Q=>∃ i j,x=.int i∧y=.int j∧Q (g i j) H
def rU (g:Int→V):V→Hp→VK→Prop:=fun x H Q=>∃ i,x=.int i∧Q (g i) H
section
variable {X:Cx} {a b c:Expr} {ta tb tc:TE} {pos:Pos}
theorem Na (ha:PE X a ta) (hb:PE X b tb) {pins:List (12:)} {s:Shared} {σ:St} {H:Hp} {R:V→V→Hp→Prop} (I:Inv X pins σ H s)
 (h:ta σ H fun x H1=>tb σ H1 fun y H2=>R x y H2) {Q:Value→Shared→Prop} {f:Value→Value→Sem Value}
 (hf:∀ v u s2 x y H2,Inv X pins σ H2 s2→RelV x v→RelV y u→R x y H2→wpAny (8:) X.A (f v u) Q X.xe s2) :
 wpAny (8:) X.A (eval a X.env) (fun v s₁=>wpAny (8:) X.A (eval b X.env) (fun u s₂=>wpAny (8:) X.A (f v u) Q X.xe s₂) X.xe s₁) X.xe s:=by
 refine thn (ha pins s σ H _ I h) fun v s1 ⟨x,H1,I1,r1,q1⟩=>?_
 refine thn (hb pins s1 σ H1 _ I1 q1) fun u s2 ⟨y,H2,I2,r2,q2⟩=>?_
 exact hf v u s2 x y H2 I2 r1 r2 q2
theorem Ql {op:Operator} {r:R2} (ho:OpR X (binaryOp op) r) (ha:PE X a ta) (hb:PE X b tb):PE X (.BinOp a op b pos) (tOp r ta tb):=by
 intro pins s σ H Q I h
 exact wpAny_BinOp (Na ha hb I h fun v u s2 x y H2 I2 rx ry q=>ho pins s2 σ H2 x y v u Q I2 rx ry q)
theorem opI {f:Value→Value→Sem Value} {C:Int→Int→Prop} {g:Int→Int→Int}
 (rule:∀ (i j:Int) (t u:Tok) (s:Shared) (Q:Value→Shared→Prop) (E:Value→Shared→Prop),C i j→Q (.int (g i j) s.toks) { s with toks:=s.toks + 1 }→wpAny (8:) X.A (f (.int i t) (.int j u)) Q E s) :
 OpR X f (rI C fun i j=>.int (g i j)):=by
 intro pins s σ H x y v u Q I rx ry h
 obtain ⟨i,j,rfl,rfl,hc,q⟩:=h
 obtain ⟨t,rfl⟩:=rx
 obtain ⟨t',rfl⟩:=ry
 exact rule i j t t' s _ _ hc ⟨.int (g i j),H,I.tok _,⟨_,rfl⟩,q⟩
theorem NF {f:Value→Value→Sem Value} {g:Int→Int→Int}
 (rule:∀ (i j:Int) (t u:Tok) (s:Shared) (Q:Value→Shared→Prop) (E:Value→Shared→Prop),Q (.int (g i j) s.toks) { s with toks:=s.toks + 1 }→wpAny (8:) X.A (f (.int i t) (.int j u)) Q E s) :
 OpR X f (rI0 fun i j=>.int (g i j)):=by
 intro pins s σ H x y v u Q I rx ry h
 obtain ⟨i,j,rfl,rfl,q⟩:=h
 obtain ⟨t,rfl⟩:=rx
 obtain ⟨t',rfl⟩:=ry
 exact rule i j t t' s _ _ ⟨.int (g i j),H,I.tok _,⟨_,rfl⟩,q⟩
theorem LO {f:Value→Value→Sem Value} {g:Int→Int→Bool}
 (rule:∀ (i j:Int) (t u:Tok) (s:Shared) (Q:Value→Shared→Prop) (E:Value→Shared→Prop),Q (.bool (g i j)) s→wpAny (8:) X.A (f (.int i t) (.int j u)) Q E s) :
 OpR X f (rI0 fun i j=>.bl (g i j)):=by
 intro pins s σ H x y v u Q I rx ry h
 obtain ⟨i,j,rfl,rfl,q⟩:=h
 obtain ⟨t,rfl⟩:=rx
 obtain ⟨t',rfl⟩:=ry
 exact rule i j t t' s _ _ ⟨.bl (g i j),H,I,rfl,q⟩
def Od (i j:Int):Prop:=0 < j∧j < 1073741824
def Ph (i j:Int):Prop:=0≤j∧j≤1000000∧i.natAbs < 2 ^ 64
def CMul (i j:Int):Prop:=(-(2 ^ 64) < i∧i < 2 ^ 64)∨(-(2 ^ 64) < j∧j < 2 ^ 64)
theorem CMul.ok {i j:Int} (h:CMul i j):IntMulOk i j:=by
 rcases h with ⟨h1,h2⟩ | ⟨h1,h2⟩
 ·exact .of_left (intBits_le_64 h1 h2)
 ·exact .of_right (intBits_le_64 h1 h2)
theorem QR:OpR X (binaryOp .Add) (rI0 fun i j=>.int (i + j)):=NF fun _ _ _ _ _ _ _ q=>add_int q
theorem Zt:OpR X (binaryOp .Sub) (rI0 fun i j=>.int (i - j)):=NF fun _ _ _ _ _ _ _ q=>sub_int q
theorem Yd:OpR X (binaryOp .Mult) (rI CMul fun i j=>.int (i * j)):=opI fun _ _ _ _ _ _ _ hc q=>mul_int q hc.ok
theorem QY:OpR X (binaryOp .FloorDiv) (rI Od fun i j=>.int (i / j)):=opI fun i j _ _ _ _ _ hc q=>by
 have h1:(0:Int) < j:=hc.1
 have h2:j < 1073741824:=hc.2
 exact floordiv_int (7:) (by rw [Int.fdiv_eq_ediv_of_nonneg i (7:)];exact q) (.inl (PyProof.noPylong_small (7:)))
theorem Qv:OpR X (binaryOp .Mod) (rI (fun _ j=>0 < j) fun i j=>.int (i % j)):=opI fun i j _ _ _ _ _ hc q=>by
 have h1:(0:Int) < j:=hc
 exact mod_int' (7:) (by rw [Int.fmod_eq_emod_of_nonneg i (7:)];exact q)
theorem JA:OpR X (binaryOp .Pow) (rI Ph fun i j=>.int (i ^ j.toNat)):=opI fun _ _ _ _ _ _ _ hc q=>pow_int_small hc.1 hc.2.1 hc.2.2 q
end
def OG:V→V→Bool
 | .non,.non=>true | .non,.int _=>true | .int _,.non=>true | .non,.bl _=>true | .bl _,.non=>true | .non,.str _=>true | .str _,.non=>true
 | .int _,.int _=>true | .bl _,.bl _=>true | .str _,.str _=>true | .byt _,.byt _=>true
 | .int _,.str _=>true | .str _,.int _=>true | .bl _,.str _=>true | .str _,.bl _=>true
 | _,_=>false
def rEq:R2:=fun x y H Q=>OG x y=true∧Q (.bl (decide (x=y))) H
def rNe:R2:=fun x y H Q=>OG x y=true∧Q (.bl (!decide (x=y))) H
theorem Wm {i j:Int}:decide (V.int i=V.int j)=(i == j):=by
 rw [Bool.eq_iff_iff]
 simp
theorem VS {i j:Bool}:decide (V.bl i=V.bl j)=(i == j):=by
 rw [Bool.eq_iff_iff]
 simp
theorem Wx {i j:Str}:decide (V.str i=V.str j)=(i == j):=by
 rw [Bool.eq_iff_iff]
 simp
theorem WI {i j:Array UInt8}:decide (V.byt i=V.byt j)=(i.toList == j.toList):=by
 rw [Bool.eq_iff_iff]
 cases i
 cases j
 simp
section
variable {X:Cx} {a b c:Expr} {ta tb tc:TE} {pos:Pos}
theorem QG {pins:List (12:)} {σ:St} {H:Hp} {s:Shared} {Q:VK} {k k':Bool} (I:Inv X pins σ H s) (q:Q (.bl k) H) (e:k=k'):EP X pins σ Q (.bool k') s:=by
 subst e
 exact ⟨.bl k,H,I,rfl,q⟩
theorem Q2:OpR X (compareOp .Eq) rEq:=by
 intro pins s σ H x y v u Q I rx ry h
 obtain ⟨hs,q⟩:=h
 cases x with
 | non =>
  cases rx
  cases y with
  | non=>cases ry;exact PySem.EqNone.eq_none_none (39:)
  | bl j=>cases ry;exact PySem.EqNone.eq_none_bool (39:)
  | int j=>obtain ⟨t',rfl⟩:=ry;exact PySem.EqNone.eq_none_int (39:)
  | str j=>obtain ⟨t',rfl⟩:=ry;exact PySem.EqNone.eq_none_str (39:)
  | _=>exact absurd (show false=true from hs) Bool.false_ne_true
 | bl i =>
  cases rx
  cases y with
  | non=>cases ry;exact PySem.EqNone.eq_bool_none (39:)
  | bl j=>cases ry;exact eq_bool (QG I q VS)
  | str j=>obtain ⟨t',rfl⟩:=ry;exact PySem.EqMixed.eq_bool_str (39:)
  | _=>exact absurd (show false=true from hs) Bool.false_ne_true
 | int i =>
  obtain ⟨t,rfl⟩:=rx
  cases y with
  | non=>cases ry;exact PySem.EqNone.eq_int_none (39:)
  | int j=>obtain ⟨t',rfl⟩:=ry;exact eq_int (QG I q Wm)
  | str j=>obtain ⟨t',rfl⟩:=ry;exact PySem.EqMixed.eq_int_str (39:)
  | _=>exact absurd (show false=true from hs) Bool.false_ne_true
 | str i =>
  obtain ⟨t,rfl⟩:=rx
  cases y with
  | non=>cases ry;exact PySem.EqNone.eq_str_none (39:)
  | bl j=>cases ry;exact PySem.EqMixed.eq_str_bool (39:)
  | int j=>obtain ⟨t',rfl⟩:=ry;exact PySem.EqMixed.eq_str_int (39:)
  | str j=>obtain ⟨t',rfl⟩:=ry;exact eq_str (QG I q Wx)
  | _=>exact absurd (show false=true from hs) Bool.false_ne_true
 | byt i =>
  obtain ⟨t,rfl⟩:=rx
  cases y with
  | byt j=>obtain ⟨t',rfl⟩:=ry;exact PySem.W.eq_bytes (QG I q WI)
  | _=>exact absurd (show false=true from hs) Bool.false_ne_true
 | _=>cases y <;> exact absurd (show false=true from hs) Bool.false_ne_true
theorem Gx:OpR X (compareOp .NotEq) rNe:=by
 intro pins s σ H x y v u Q I rx ry h
 obtain ⟨hs,q⟩:=h
 cases x with
 | non =>
  cases rx
  cases y with
  | non=>cases ry;exact PySem.EqNone.ne_none_none (39:)
  | bl j=>cases ry;exact PySem.EqNone.ne_none_bool (39:)
  | int j=>obtain ⟨t',rfl⟩:=ry;exact PySem.EqNone.ne_none_int (39:)
  | str j=>obtain ⟨t',rfl⟩:=ry;exact PySem.EqNone.ne_none_str (39:)
  | _=>exact absurd (show false=true from hs) Bool.false_ne_true
 | bl i =>
  cases rx
  cases y with
  | non=>cases ry;exact PySem.EqNone.ne_bool_none (39:)
  | bl j=>cases ry;exact ne_bool (QG I q (congrArg not VS))
  | str j=>obtain ⟨t',rfl⟩:=ry;exact PySem.EqMixed.ne_bool_str (39:)
  | _=>exact absurd (show false=true from hs) Bool.false_ne_true
 | int i =>
  obtain ⟨t,rfl⟩:=rx
  cases y with
  | non=>cases ry;exact PySem.EqNone.ne_int_none (39:)
  | int j=>obtain ⟨t',rfl⟩:=ry;exact ne_int (QG I q (congrArg not Wm))
  | str j=>obtain ⟨t',rfl⟩:=ry;exact PySem.EqMixed.ne_int_str (39:)
  | _=>exact absurd (show false=true from hs) Bool.false_ne_true
 | str i =>
  obtain ⟨t,rfl⟩:=rx
  cases y with
  | non=>cases ry;exact PySem.EqNone.ne_str_none (39:)
  | bl j=>cases ry;exact PySem.EqMixed.ne_str_bool (39:)
  | int j=>obtain ⟨t',rfl⟩:=ry;exact PySem.EqMixed.ne_str_int (39:)
  | str j=>obtain ⟨t',rfl⟩:=ry;exact ne_str (QG I q (congrArg not Wx))
  | _=>exact absurd (show false=true from hs) Bool.false_ne_true
 | byt i =>
  obtain ⟨t,rfl⟩:=rx
  cases y with
  | byt j=>obtain ⟨t',rfl⟩:=ry;exact PySem.W.ne_bytes (QG I q (congrArg not WI))
  | _=>exact absurd (show false=true from hs) Bool.false_ne_true
 | _=>cases y <;> exact absurd (show false=true from hs) Bool.false_ne_true
theorem UU:OpR X (compareOp .Lt) (rI0 fun i j=>.bl (decide (i < j))):=LO fun _ _ _ _ _ _ _ q=>lt_int q
theorem WC:OpR X (compareOp .LtE) (rI0 fun i j=>.bl (decide (i≤j))):=LO fun _ _ _ _ _ _ _ q=>le_int q
theorem GD:OpR X (compareOp .Gt) (rI0 fun i j=>.bl (decide (j < i))):=LO fun _ _ _ _ _ _ _ q=>gt_int q
theorem NY:OpR X (compareOp .GtE) (rI0 fun i j=>.bl (decide (j≤i))):=LO fun _ _ _ _ _ _ _ q=>ge_int q
theorem WL:OpR X (compareOp .Lt) (fun x y H Q=>∃ i j,x=.str i∧y=.str j∧Q (.bl (decide (i.cps.toList < j.cps.toList))) H):=by
 intro pins s σ H x y v u Q I rx ry h
 obtain ⟨i,j,rfl,rfl,q⟩:=h
 obtain ⟨t,rfl⟩:=rx
 obtain ⟨t',rfl⟩:=ry
 exact lt_str (QG I q rfl)
theorem Gh:OpR X (compareOp .Is) (fun x y H Q=>y=.non∧Q (.bl (decide (x=.non))) H):=by
 intro pins s σ H x y v u Q I rx ry h
 obtain ⟨rfl,q⟩:=h
 cases ry
 refine is_none_gen (QG I q ?_)
 cases x <;> first
  | (cases rx;rfl)
  | (obtain ⟨t,rfl⟩:=rx;rfl)
theorem JH:OpR X (compareOp .IsNot) (fun x y H Q=>y=.non∧Q (.bl (!decide (x=.non))) H):=by
 intro pins s σ H x y v u Q I rx ry h
 obtain ⟨rfl,q⟩:=h
 cases ry
 refine isnot_none_gen (QG I q ?_)
 cases x <;> first
  | (cases rx;rfl)
  | (obtain ⟨t,rfl⟩:=rx;rfl)
theorem QA (b:Expr) {op:CmpOp} (h:op≠.In:=by decide) (h2:op≠.NotIn:=by decide):behindInMarks op b=false:=by
 have e1:(op == CmpOp.In)=false:=by cases op <;> first | rfl | exact absurd rfl h
 have e2:(op == CmpOp.NotIn)=false:=by cases op <;> first | rfl | exact absurd rfl h2
 cases b <;> simp [behindInMarks,e1,e2]
theorem ZH {op:CmpOp} {r:R2} (ho:OpR X (compareOp op) r) (ha:PE X a ta) (hb:PE X b tb) (hm:behindInMarks op b=false):PE X (.Compare a [op] [b] pos) (tOp r ta tb):=by
 intro pins s σ H Q I h
 exact wpAny_Compare1 (Na ha hb I h fun v u s2 x y H2 I2 rx ry q=>ho pins s2 σ H2 x y v u Q I2 rx ry q) hm
def L5 (t:TE):TT:=fun σ H Q=>t σ H fun x H'=>∃ k,x=.bl k∧Q k H'
theorem Qx {op:CmpOp} {r:R2} (ho:OpR X (compareOp op) r) (ha:PE X a ta) (hb:PE X b tb) (hm:behindInMarks op b=false):PT X (.Compare a [op] [b] pos) (L5 (tOp r ta tb)):=by
 intro pins s σ H Q I h
 refine wpAny_isTrue_Compare1 (thn (ha pins s σ H _ I h) fun v s1 ⟨x,H1,I1,r1,q1⟩=>thn (hb pins s1 σ H1 _ I1 q1) fun u s2 ⟨y,H2,I2,r2,q2⟩ =>
  thn (ho pins s2 σ H2 x y v u _ I2 r1 r2 q2) fun c s3 ⟨z,H3,I3,r3,k,e,q3⟩=>?_) hm
 subst e
 cases r3
 exact wpAny_truthy_bool ⟨H3,I3,q3⟩
def MH (r r':R2) (ta tb tc:TE):TE:=fun σ H Q=>ta σ H fun x H1=>tb σ H1 fun y H2=>r x y H2 fun z H3=>∃ k,z=.bl k ∧
 (if k=true then tc σ H3 fun w' H4=>r' y w' H4 Q else Q (.bl false) H3)
theorem J7 {op op':CmpOp} {r r':R2} (ho:OpR X (compareOp op) r) (ho':OpR X (compareOp op') r') (ha:PE X a ta) (hb:PE X b tb) (hc:PE X c tc)
 (hm:lastMarks [op,op'] [b,c]=false:=by with_unfolding_all rfl):PT X (.Compare a [op,op'] [b,c] pos) (L5 (MH r r' ta tb tc)):=by
 intro pins s σ H Q I h
 refine isTrue_chain (thn (ha pins s σ H _ I h) fun v s1 ⟨x,H1,I1,r1,q1⟩=>test_link (thn (hb pins s1 σ H1 _ I1 q1) fun u s2 ⟨y,H2,I2,r2,q2⟩ =>
  thn (ho pins s2 σ H2 x y v u _ I2 r1 r2 q2) fun d s3 ⟨z,H3,I3,r3,k,e,q3⟩=>?_)) hm
 subst e
 cases r3
 refine wpAny_truthy_bool ?_
 cases k with
 | false =>
  obtain ⟨k',e',q'⟩:=q3
  cases e'
  exact ite_ff ⟨H3,I3,q'⟩
 | true =>
  refine ite_tt (test_last (thn (hc pins s3 σ H3 _ I3 q3) fun w' s4 ⟨z',H4,I4,r4,q4⟩=>thn (ho' pins s4 σ H4 y z' u w' _ I4 r2 r4 q4) fun d' s5 ⟨z2,H5,I5,r5,k2,e2,q5⟩=>?_))
  subst e2
  cases r5
  exact wpAny_truthy_bool ⟨H5,I5,q5⟩
theorem Uz:(sizeLine:Nat) < 2 ^ 63:=by rw [sizeLine_eq];decide
theorem XG:OpR X (binaryOp .Add) (fun x y H Q=>∃ i j,x=.str i∧y=.str j∧i.length + j.length≤sizeLine∧Q (.str (i ++ j)) H):=by
 intro pins s σ H x y v u Q I rx ry h
 obtain ⟨i,j,rfl,rfl,hz,q⟩:=h
 obtain ⟨t,rfl⟩:=rx
 obtain ⟨t',rfl⟩:=ry
 exact add_str (fun t' tk=>⟨.str (i ++ j),H,I.tok _,⟨_,rfl⟩,q⟩) hz
theorem Wl {x:V} {us:List Value} (r:Vals [x] us):∃ u,us=[u]∧RelV x u:=by
 cases r with
 | cons r1 r2=>cases r2;exact ⟨_,rfl,r1⟩
theorem OC {x y:V} {us:List Value} (r:Vals [x,y] us):∃ u w',us=[u,w']∧RelV x u∧RelV y w':=by
 cases r with
 | cons r1 r2 =>
  cases r2 with
  | cons r3 r4=>cases r4;exact ⟨_,_,rfl,r1,r3⟩
end
end L2
namespace L2
open PySem PySem.Spec PyProof.Rows
structure ObjM (h:Heap) (x dx C:Addr) (mA:Str→Option Value):Prop where
 obj:h.get? x=some (PySem.W.instObj C dx)
 ns:h.Ns1 dx mA
 ne:dx≠x
theorem WV {h:Heap} {dx:Addr} {mA:Str→Option Value} (n:h.Ns1 dx mA):∃ od,h.get? dx=some od∧∀ name,PySem.W.lookIn name od=some (mA name):=by
 obtain ⟨o,es,ep,ho,hd,hk,_,hm⟩:=n
 refine ⟨o,ho,fun name=>?_⟩
 have e:=hm name
 unfold nsFind findBy at e
 rw [← Array.find?_toList] at e
 unfold PySem.W.lookIn
 rw [hd]
 dsimp only
 split
 ·rename_i y q
  rw [q] at e
  exact congrArg some e
 ·rename_i q
  rw [q] at e
  have a:es.toList.any (·.refKey)=false:=by
   rw [List.any_eq_false]
   intro y hy
   obtain ⟨z,t,hkey⟩:=hk y (Array.mem_toList_iff.mp hy)
   simp [DictEntry.refKey,hkey]
  have a':¬ es.toList.any (·.refKey)=true:=by rw [a];exact Bool.false_ne_true
  rw [if_neg a']
  exact congrArg some e
theorem ObjM.look {h:Heap} {x dx C:Addr} {mA:Str→Option Value} (I:ObjM h x dx C mA):∃ od,PySem.W.InstAt h x (PySem.W.instObj C dx) C (some od)∧∀ name,PySem.W.lookIn name od=some (mA name) :=
 let ⟨od,ho,hl⟩:=WV I.ns
 ⟨od,⟨I.obj,rfl,rfl,ho⟩,hl⟩
section
variable {prog:Program} {w:World} {A:Around} {E:Value→Shared→Prop} {s:Shared} {K:PySem.W.Frag} {x dx C f:Addr} {mA:Str→Option Value} {name:Str} {v:Value}
end
section
variable {P:Program} {w:World} {H H':Hp} {h h':Heap} {a C dx:Addr} {fs fs':List (Str × V)}
theorem LA (hok:HOk P w H h) (e:H a=some (.ins C dx fs)):∃ mA,ObjM h a dx C mA∧(∀ f,M2 (fs.lookup f) (mA f))∧PySem.Within mA (fs.map (·.1))∧fs.length≤1000∧H dx=some (.own a):=by
 obtain ⟨d,z,ne,ob,mA,n,r,q⟩:=(show ObjOk P w H h a (.ins C dx fs) from hok a _ e)
 exact ⟨mA,⟨ob,n,ne⟩,r,q,z,d⟩
end
structure Cls (K:PySem.W.Frag) (C:Addr):Prop where
 pg:PySem.W.plainGet K C Str.empty=true
 hd:PySem.W.hasDictIn K C=true
 po:PySem.W.plainOver K C=true
 sa:PySem.W.findIn K (.ref C) "__setattr__" = some (some (.builtin "object.__setattr__"))
theorem Cls.get {K:PySem.W.Frag} {C:Addr} (c:Cls K C) (f:Str):PySem.W.plainGet K C f=true:=c.pg
section
variable {X:Cx} {pins:List (12:)} {σ:St} {H:Hp} {s:Shared} {a C dx:Addr} {fs:List (Str × V)} {f:Str} {v:V} {A:Around} {E:Value→Shared→Prop}
end
section
variable {X:Cx} {o e value:Expr} {f:Str} {pos pos' tpos:Pos} {ta tv:TE}
end
section
variable {X:Cx} {pins:List (12:)} {σ:St} {H:Hp} {s:Shared} {A:Around} {E:Value→Shared→Prop} {Q:Value→Shared→Prop} {c:Value} {b:Bool}
inductive TyOf (K:PySem.W.Frag) (H:Hp):V→Value→Prop where
 | non:TyOf K H .non (.type "NoneType")
 | bl (x:Bool):TyOf K H (.bl x) (.type "bool")
 | int (i:Int):TyOf K H (.int i) (.type "int")
 | str (x:Str):TyOf K H (.str x) (.type "str")
 | flt (x:UInt64):TyOf K H (.flt x) (.type "float")
 | lst {a:Addr} {xs:List V} (e:H a=some (.lst xs)):TyOf K H (.ref a) (.type "list")
 | frz {a:Addr} {o:Obj} {xs:List V} (e:H a=some (.frz o (.lst xs))):TyOf K H (.ref a) (.type "list")
 | tup {a:Addr} {xs:List V} (e:H a=some (.tup xs)):TyOf K H (.ref a) (.type "tuple")
 | dK {a:Addr} {kvs:List (Key × V)} (e:H a=some (.dK kvs)):TyOf K H (.ref a) (.type "dict")
 | dT {a:Addr} {kvs:List (List Key × V)} (e:H a=some (.dT kvs)):TyOf K H (.ref a) (.type "dict")
 | ins {a C dx:Addr} {fs:List (Str × V)} (e:H a=some (.ins C dx fs)) (cl:Cls K C) (ha:PySem.W.findIn K (.ref C) "__class__" = some (some (.builtin "object.__class__")))
  (hn:PySem.W.specialIn K (.builtin "object.__class__") "__get__" = some (some (.builtin "getset_descriptor.__get__"))) (htk:PySem.W.takesIn K (.builtin "object.__class__")=some true)
  (hm:PySem.W.mroIn K C (.type "object")=some true):TyOf K H (.ref a) (.ref C)
theorem WJ {x:V} {u t:Value} (I:Inv X pins σ H s) (rx:RelV x u) (ty:TyOf X.K H x t) (e:PySem.W.kitOne X.K t c=some b) (h:∀ tk,Q (.bool b) { s with toks:=tk }) :
 wpAny (8:) A (call (.builtin "isinstance") [u,c]) Q E s:=by
 cases ty with
 | non=>cases (show u=Value.none from rx);exact PySem.W.kia_one PySem.W.kitx_none I.kIn True.intro e (fun z=>nomatch z) h
 | bl y=>cases (show u=Value.bool y from rx);exact PySem.W.kia_one PySem.W.kitx_bool I.kIn True.intro e (fun z=>nomatch z) h
 | int i=>obtain ⟨t,q⟩:=(show ∃ t,u=Value.int i t from rx);cases q;exact PySem.W.kia_one PySem.W.kitx_int I.kIn True.intro e (fun z=>nomatch z) h
 | str y=>obtain ⟨t,q⟩:=(show ∃ t,u=Value.str y t from rx);cases q;exact PySem.W.kia_one PySem.W.kitx_str I.kIn True.intro e (fun z=>nomatch z) h
 | flt y=>obtain ⟨t,q⟩:=(show ∃ t,u=Value.float y t from rx);cases q;exact PySem.W.kia_one PySem.W.kitx_float I.kIn True.intro e (fun z=>nomatch z) h
 | @lst a xs ea =>
  cases (show u=Value.ref a from rx)
  obtain ⟨_,_,n,_,h1⟩:=(show ObjOk X.prog X.w H s.heap a (.lst xs) from I.hok a _ ea)
  exact PySem.W.kia_one PySem.W.kitx_list I.kIn ⟨_,h1,rfl⟩ e (fun z=>nomatch z) h
 | @frz a ob xs ea =>
  cases (show u=Value.ref a from rx)
  obtain ⟨_,_,_,n,_,h1⟩:=(show ObjOk X.prog X.w H s.heap a (.frz ob (.lst xs)) from I.hok a _ ea)
  exact PySem.W.kia_one PySem.W.kitx_list I.kIn ⟨_,h1,rfl⟩ e (fun z=>nomatch z) h
 | @tup a xs ea =>
  cases (show u=Value.ref a from rx)
  obtain ⟨_,_,_,p⟩:=(show ObjOk X.prog X.w H s.heap a (.tup xs) from I.hok a _ ea)
  obtain ⟨o,h1,h2,_⟩:=p
  exact PySem.W.kia_one PySem.W.kitx_tuple I.kIn ⟨o,h1,h2⟩ e (fun z=>nomatch z) h
 | @dK a kvs ea =>
  cases (show u=Value.ref a from rx)
  obtain ⟨_,_,vs,_,p⟩:=(show ObjOk X.prog X.w H s.heap a (.dK kvs) from I.hok a _ ea)
  obtain ⟨o,es,ep,h1,h2,_⟩:=p
  exact PySem.W.kia_one PySem.W.kitx_dict I.kIn ⟨o,h1,h2.1⟩ e (fun z=>nomatch z) h
 | @dT a kvs ea =>
  cases (show u=Value.ref a from rx)
  obtain ⟨_,_,xs,_,o,es,ep,h1,h2,_⟩:=(show ObjOk X.prog X.w H s.heap a (.dT kvs) from I.hok a _ ea)
  exact PySem.W.kia_one PySem.W.kitx_dict I.kIn ⟨o,h1,h2.1⟩ e (fun z=>nomatch z) h
 | @ins a C dx fs ea cl ha hn htk hm =>
  cases (show u=Value.ref a from rx)
  obtain ⟨mA,O,_⟩:=LA I.hok ea
  obtain ⟨od,J,_⟩:=O.look
  exact PySem.W.kia_one (PySem.W.kitx_own (cl.get _) cl.hd ha hn htk hm) I.kIn J e (fun z=>nomatch z) h
end
end L2
namespace L2
open PySem PySem.Spec PyProof.Rows
structure Room (k:Nat) (A:Around):Prop where
 hd:A.handled=none
 dp:A.depth + 3 * k + 5 < recursionLimit
 un:A.units + 16 * k + 200 < cLine
theorem Room.mono {j k:Nat} {A:Around} (r:Room k A) (h:j≤k):Room j A:=⟨r.hd,by have:=r.dp;lia,by have:=r.un;lia⟩
theorem Room.deeper {k:Nat} {A:Around} (r:Room (k + 1) A) (env:Env):Room k (A.deeper env) :=
 ⟨r.hd,by have:=r.dp;show A.depth + 1 + 3 * k + 5 < _;lia,by have:=r.un;show A.units + 3 + 16 * k + 200 < _;lia⟩
theorem Room.depth {k:Nat} {A:Around} (r:Room k A):A.depth < recursionLimit:=by have:=r.dp;lia
theorem Room.units {k:Nat} {A:Around} (r:Room k A):A.units + 64 < cLine:=by have:=r.un;lia
def ZR:TA:=fun _ H Q=>Q [] H
def QL (ta:TE) (tr:TA):TA:=fun σ H Q=>ta σ H fun x H1=>tr σ H1 fun xs H2=>Q (x :: xs) H2
section
variable {X:Cx} {e:Expr} {es:List Expr} {te:TE} {t:TA} {pos:Pos}
theorem Qc:PA X [] ZR:=fun _ _ _ _ H Q I h=>Calls.spliced_nil ⟨[],H,I,.nil,h⟩
theorem Qa (ha:PE X e te) (hr:PA X es t) (hs:starEach (e :: es) X.env=(false,eval e X.env) :: starEach es X.env:=by rfl):PA X (e :: es) (QL te t):=by
 intro pos pins s σ H Q I h
 rw [hs]
 show wpAny _ _ (spliced ((false,eval e X.env) :: backTo pos (starEach es X.env))) _ _ s
 refine Calls.spliced_cons (thn (ha pins s σ H _ I h) fun u s1 ⟨x,H1,I1,r1,q1⟩=>?_)
 exact thn (hr pos pins s1 σ H1 _ I1 q1) fun us s2 ⟨xs,H2,I2,r2,q2⟩=>⟨x :: xs,H2,I2,.cons r1 r2,q2⟩
def Lc (t:TA):TE:=fun σ H Q=>t σ H fun xs H1=>xs.length≤sizeLine∧∀ p,H1 p=none→Q (.ref p) (upd H1 p (.tup xs))
def O0 (t:TA):TE:=fun σ H Q=>t σ H fun xs H1=>xs.length≤sizeLine∧∀ p,H1 p=none→Q (.ref p) (upd H1 p (.lst xs))
theorem Qy {x1} (h:PA X es t):PE X (.Tuple es x1 pos) (Lc t):=by
 intro pins s σ H Q I hq
 refine wpAny_Tuple_spliced (thn (h pos pins s σ H _ I hq) fun us s1 ⟨xs,H1,I1,r,z,q⟩=>⟨by rw [← r.length];exact z,?_⟩)
 have hf:H1 s1.heap.objs.size=none:=I1.hok.fresh (9:)
 refine ⟨.ref s1.heap.objs.size,upd H1 s1.heap.objs.size (.tup xs),I1.laid (t':=s1.toks) (fun b u e=>Heap.get?_push_of_some _ e) (9:) ?_,rfl,q _ hf⟩
 exact ⟨z,us,r,⟨_,Heap.get?_push_size _ rfl,rfl,_,rfl⟩⟩
theorem QM (h:PA X es t):PE X (.List es pos) (O0 t):=by
 intro pins s σ H Q I hq
 refine wpAny_List_spliced (thn (h pos pins s σ H _ I hq) fun us s1 ⟨xs,H1,I1,r,z,q⟩=>⟨by rw [← r.length];exact z,?_⟩)
 have hf:H1 s1.heap.objs.size=none:=I1.hok.fresh (9:)
 refine ⟨.ref s1.heap.objs.size,upd H1 s1.heap.objs.size (.lst xs),I1.laid (t':=s1.toks) (fun b u e=>Heap.get?_push_of_some _ e) (9:) ?_,rfl,q _ hf⟩
 exact ⟨z,us,0,r,Heap.get?_push_size _ rfl⟩
end
abbrev Sp:=List V→Hp→VK→XK→Prop
abbrev CXT:=List Env→Hp→Shared→XK→Value→Shared→Prop
structure Env0 (P:Program) (w:World) (K:PySem.W.Frag) (mg:Str→Option Value) (base:Heap) (A:Around) (outer:List Env) (s:Shared) (H:Hp):Prop where
 frames:A.frames=some outer
 mod:Mod K mg base
 bs:∀ b o,base.get? b=some o→s.heap.get? b=some o∧H b=none
 bsz:base.objs.size≤s.heap.objs.size
 funs:s.heap.FunFrames base outer
 frf:∀ b ∈ frs outer,H b=none
 hok:HOk P w H s.heap
 bare:AllBare s.gens
def CE (outer:List Env) (P:Program) (w:World) (H:Hp) (s:Shared) (Q:VK) (u:Value) (s':Shared):Prop :=
 ∃ v H',s'.os=s.os∧AllBare s'.gens∧Un (frs outer) [] H H' s.heap s'.heap∧HOk P w H' s'.heap∧RelV v u∧Q v H'
def CR (CX:CXT) (outer:List Env) (P:Program) (w:World) (H:Hp) (s:Shared) (Q:VK) (E:XK) (r:Result) (s':Shared):Prop :=
 match r with
 | .ok (.ret u)=>CE outer P w H s Q u s'
 | .ok _=>False
 | .error e=>CX outer H s E e s'
structure FnOk (P:Program) (w:World) (K:PySem.W.Frag) (mg:Str→Option Value) (base:Heap) (CX:CXT) (k:Nat) (f:Addr) (fd:FuncData) (ps:List Str) (sp:Sp):Prop where
 len:∀ vs H Q E,sp vs H Q E→vs.length=ps.length
 run:∀ (A:Around) (outer:List Env) (s:Shared) (H:Hp) (args:Args) (us:List Value) (vs:List V) (Q:VK) (E:XK),Room k A→Env0 P w K mg base A outer s H→BindsTo s fd args (ps.zip us)→Vals vs us→sp vs H Q E →
  codeAny (model P w) A (.call (.ref f) args) (CR CX outer P w H s Q E) s
section
variable {X:Cx} {pins:List (12:)} {σ:St} {H:Hp} {s s':Shared}
theorem Inv.env0 (I:Inv X pins σ H s):Env0 X.prog X.w X.K X.mg X.base X.A X.stack s H :=
 ⟨I.ok.frames,I.ok.mod,I.bs,Nat.le_trans I.ok.bsz I.sz,I.stack,I.stkFree,I.hok,I.bare⟩
theorem Inv.after {Q:VK} {u:Value} (I:Inv X pins σ H s) (h:CE X.stack X.prog X.w H s Q u s'):EP X pins σ Q u s':=by
 obtain ⟨v,H',os,bare,un,hok,r,q⟩:=h
 obtain ⟨hh,g,d,t,os'⟩:=s'
 obtain rfl:os'=s.os:=os
 exact ⟨v,H',I.call (h':=hh) (g':=g) (d':=d) (t':=t) (ch:=[]) un hok bare (fun b z=>absurd z (by simp)),r,q⟩
end
def Zz (sp:Sp) (dvs:List V) (E:XK) (t:TA):TE:=fun σ H Q=>t σ H fun vs H1=>sp (vs ++ dvs) H1 Q E
def Binds (K:PySem.W.Frag) (fd:FuncData) (ps:List Str) (ds:List Value):Prop :=
 ∀ (s:Shared) (us:List Value),K.In s.heap→(us ++ ds).length=ps.length→BindsTo s fd ⟨us,[]⟩ (ps.zip (us ++ ds))
theorem Binds.all {K:PySem.W.Frag} {fd:FuncData} {ps:List Str} (h:∀ us:List Value,us.length=ps.length→bindArgs fd ⟨us,[]⟩=pure (ps.zip us)):Binds K fd ps []:=fun s us _ hl=>by
 rw [List.append_nil] at hl ⊢
 exact .of_eq (h us hl)
def XJ (CX:CXT) (X:Cx) (E:XK):Prop:=∀ (pins:List (12:)) (σ:St) (H:Hp) (s:Shared) (e:Value) (s':Shared),Inv X pins σ H s→CX X.stack H s E e s'→X.xe e s'
section
variable {X:Cx} {CX:CXT} {k:Nat} {f C:Addr} {fd:FuncData} {ps:List Str} {sp:Sp} {dvs:List V} {ds:List Value} {E:XK} {x m:Str} {p pos apos:Pos} {e o:Expr} {es:List Expr} {ta:TE} {t:TA}
theorem Mn {pins:List (12:)} {σ:St} {H:Hp} {s:Shared} {Q:VK} {us:List Value} {vs:List V} (F:FnOk X.prog X.w X.K X.mg X.base CX k f fd ps sp) (hr:Room k X.A) (hb:Binds X.K fd ps ds) (hd:Vals dvs ds) (hx:XJ CX X E)
 (I:Inv X pins σ H s) (r:Vals vs us) (h:sp (vs ++ dvs) H Q E):wpAny (8:) X.A (call (.ref f) us) (EP X pins σ Q) X.xe s:=by
 have r2:Vals (vs ++ dvs) (us ++ ds):=r.append hd
 have hl:(us ++ ds).length=ps.length:=by rw [← r2.length];exact F.len _ _ _ _ h
 refine wpAny_call (codeAny_mono (F.run X.A X.stack s H ⟨us,[]⟩ (us ++ ds) (vs ++ dvs) Q E hr I.env0 (hb s us I.kIn hl) r2 h) fun r s' hq=>?_)
 cases r with
 | error e=>exact hx pins σ H s e s' I hq
 | ok fl =>
  cases fl with
  | ret u=>exact I.after hq
  | next=>exact False.elim hq
  | brk=>exact False.elim hq
  | cont=>exact False.elim hq
theorem G7 (F:FnOk X.prog X.w X.K X.mg X.base CX k f fd ps sp) (hr:Room k X.A) (hg:Gl X x) (hm:X.mg x=some (.ref f)) (hk:PySem.W.keepIn X.K (.ref f)=true) (hb:Binds X.K fd ps ds) (hd:Vals dvs ds) (hx:XJ CX X E)
 (ha:PA X (e :: es) t) (hdb:(52:)=false:=by decide) (he:starEach (e :: es) X.env=(false,eval e X.env) :: starEach es X.env:=by rfl) (hpl:(backTo pos (starEach es X.env)).any (·.1)=false:=by rfl) :
 PE X (.Call (.Name x p) (e :: es) [] pos) (Zz sp dvs E t):=by
 intro pins s σ H Q I h
 refine wpAny_Call_Name_kw (LK I hg hm ?_ hdb)
 refine PySem.W.callWith_K (h₀:=X.base) I.ok.mod.kin hk (thn (ha pos pins s σ H _ I h) fun us s1 ⟨vs,H1,I1,r,q⟩=>⟨I1.kIn,?_⟩) he hpl
 exact Mn F hr hb hd hx I1 r q
structure Mk (K:PySem.W.Frag) (C f:Addr):Prop where
 makes:PySem.W.makesIn K C=true
 init:PySem.W.findIn K (.ref C) "__init__" = some (some (.ref f))
 fn:PySem.W.isFn K (.ref f)=true
 kp:PySem.W.keepIn K (.ref C)=true
end
section
variable {X:Cx} {CX:CXT} {k:Nat} {f C:Addr} {fd:FuncData} {ps ks:List Str} {sp:Sp} {E:XK} {x m:Str} {p pos apos kpos:Pos} {e o:Expr} {es:List Expr} {kws:List Keyword} {te ta:TE} {t tk:TA} {nm:Option Str}
variable {g:List Value→List Value→List Value} {gV:List V→List V→List V}
end
structure FnScope (N P:List Str) (sc:Scope):Prop where
 kind:sc.kind=.function
 co:sc.isCoroutine=false
 gen:sc.isGenerator=false
 nd:N.Nodup
 pre:N.take P.length=P
 par:∀ x ∈ P,sc.names.lookup x=some .local∨sc.names.lookup x=some .cell
 nofree:∀ y ∈ sc.names,y.2≠.free
theorem UZ {kindOf:Str→Option NameKind} {x:Str}:∀ {binds:List (Str × Value)} {m:Str→Option Value},(∀ v,(x,v) ∉ binds)→bindL kindOf binds m x=m x
 | [],_,_=>rfl
 | (n,v) :: r,m,h=>by
  unfold bindL
  rw [UZ fun w hw=>h w (List.mem_cons_of_mem _ hw)]
  split
  ·have:x≠n:=by rintro rfl;exact h v List.mem_cons_self
   simp [this]
  ·rfl
theorem UV {kindOf:Str→Option NameKind} {x:Str}:∀ {binds:List (Str × Value)} {m:Str→Option Value},(∀ v,(x,v) ∉ binds)→bindC kindOf binds m x=m x
 | [],_,_=>rfl
 | (n,v) :: r,m,h=>by
  unfold bindC
  rw [UV fun w hw=>h w (List.mem_cons_of_mem _ hw)]
  split
  ·rfl
  ·have:x≠n:=by rintro rfl;exact h v List.mem_cons_self
   simp [this]
theorem U0 {kindOf:Str→Option NameKind} {x:Str} {v:Value}:∀ {P:List Str} {vs:List Value} {i:Nat} {m:Str→Option Value},P.Nodup→P[i]?=some x→vs[i]?=some v→kindOf x=some .local →
 bindL kindOf (P.zip vs) m x=some v
 | [],_,_,_,_,h,_,_=>by simp at h
 | _ :: _,[],_,_,_,_,h,_=>by simp at h
 | p :: P,w :: vs,0,m,nd,h1,h2,hk=>by
  simp at h1 h2;subst h1;subst h2
  show bindL kindOf ((p,w) :: P.zip vs) m p=_
  unfold bindL
  rw [UZ fun v hv=>(List.nodup_cons.mp nd).1 (List.of_mem_zip hv).1,if_pos hk]
  simp
 | p :: P,w :: vs,i + 1,m,nd,h1,h2,hk=>by
  show bindL kindOf ((p,w) :: P.zip vs) m x=_
  unfold bindL
  exact U0 (i:=i) (List.nodup_cons.mp nd).2 (by simpa using h1) (by simpa using h2) hk
theorem U2 {kindOf:Str→Option NameKind} {x:Str} {v:Value}:∀ {P:List Str} {vs:List Value} {i:Nat} {m:Str→Option Value},P.Nodup→P[i]?=some x→vs[i]?=some v→kindOf x≠some .local →
 bindC kindOf (P.zip vs) m x=some v
 | [],_,_,_,_,h,_,_=>by simp at h
 | _ :: _,[],_,_,_,_,h,_=>by simp at h
 | p :: P,w :: vs,0,m,nd,h1,h2,hk=>by
  simp at h1 h2;subst h1;subst h2
  show bindC kindOf ((p,w) :: P.zip vs) m p=_
  unfold bindC
  rw [UV fun v hv=>(List.nodup_cons.mp nd).1 (List.of_mem_zip hv).1,if_neg hk]
  simp
 | p :: P,w :: vs,i + 1,m,nd,h1,h2,hk=>by
  show bindC kindOf ((p,w) :: P.zip vs) m x=_
  unfold bindC
  exact U2 (i:=i) (List.nodup_cons.mp nd).2 (by simpa using h1) (by simpa using h2) hk
def Yo (N:List Str) (vs:List V):St:=vs.map some ++ List.replicate (N.length - vs.length) none
def Xs (CX:CXT) (P:Program) (w:World) (K:PySem.W.Frag) (mg:Str→Option Value) (base:Heap) (N:List Str) (qual:Str) (scope:Scope) (f:Addr) (cd:Value) (A:Around) (outer:List Env) (s:Shared) (H:Hp) (E:XK):Cx where
 prog:=P
 w:=w
 K:=K
 mg:=mg
 base:=base
 A:=A.deeper (envOfC qual scope s.heap.objs.size f cd)
 N:=N
 s₀:=s
 H₀:=H
 env:=envOfC qual scope s.heap.objs.size f cd
 outer:=outer
 stack:=envOfC qual scope s.heap.objs.size f cd :: outer
 ex:=[]
 calm:=true
 fn:=fun _=>true
 pn:=[]
 xe:=fun e s'=>wpAny (model P w) (A.deeper (envOfC qual scope s.heap.objs.size f cd)) (leaving (envOfC qual scope s.heap.objs.size f cd) e) (fun _ s''=>CX outer H s E e s'') (fun e' s''=>CX outer H s E e' s'') s'
theorem Xl {sc:Scope} {n:Nat} {x:Str} (h:sc.names.lookup x=some .cell):∃ c,(cellsFrom n sc.names []).lookup x=some c:=by
 have q:=PySem.W.cellsFrom_some sc.names n [] (.inl h)
 exact Option.isSome_iff_exists.mp q
theorem W4 {CX:CXT} {P:Program} {w:World} {K:PySem.W.Frag} {mg:Str→Option Value} {base:Heap} {N ps:List Str} {qual:Str} {scope:Scope} {f:Addr} {cd:Value} {A:Around} {outer:List Env} {s s1:Shared} {H:Hp} {E:XK} {us:List Value} {vs:List V}
 (S:FnScope N ps scope) (hd:A.handled=none) (e0:Env0 P w K mg base A outer s H) (hl:vs.length=ps.length) (r:Vals vs us)
 (x:InCallC s s.heap.objs.size (bindL (envOfC qual scope s.heap.objs.size f cd).kindOf (ps.zip us) fun _=>none) (cellsFrom (s.heap.objs.size + 1) scope.names []) (bindC (envOfC qual scope s.heap.objs.size f cd).kindOf (ps.zip us) fun _=>none) s1) :
 Inv (Xs CX P w K mg base N qual scope f cd A outer s H E) [] (Yo N vs) H s1:=by
 have hpl:ps.length≤N.length:=by have:=congrArg List.length S.pre;rw [List.length_take] at this;lia
 obtain ⟨h1,tk,rfl,hk⟩:=x.done
 have noA:∀ b:Addr,b ∉ (Xs CX P w K mg base N qual scope f cd A outer s H E).ex:=fun b z=>absurd (show b ∈ ([]:List Addr) from z) (by simp)
 refine ⟨⟨e0.mod,S.kind,rfl,rfl,Nat.le_refl _,fun y z c h1 h2=>?_,fun y hy=>?_,fun y c _ h=>?_,fun _=>hd,Around.frames_deeper e0.frames,.inr ⟨rfl,rfl⟩,fun b z=>absurd z (noA b),e0.bs,e0.bsz,fun b _ _=>noA b,fun b z=>absurd z (noA b),e0.funs,e0.frf⟩,rfl,e0.bare,Un.kept hk,⟨_,x.toInCall.ns,fun i y v h1 h2 h3=>?_⟩,fun y c h=>⟨_,x.cell y c h⟩,e0.hok.fresh (9:),fun y c h=>?_,fun p hp=>absurd (show p ∈ ([]:List (12:)) from hp) (by simp),e0.hok.kept hk,?_⟩
 ·exact name_of_addr x.apart (PySem.mem_of_lookup h1) (PySem.mem_of_lookup h2)
 ·have hy:scope.names.lookup y=some .cell∨scope.names.lookup y=some .free:=hy
  rcases hy with hy | hy
  ·exact Xl hy
  ·exact absurd rfl (S.nofree _ (PySem.mem_of_lookup hy))
 ·exact Nat.le_of_lt (x.above y c (PySem.mem_of_lookup h))
 ·have hi:i < vs.length:=by
   unfold Yo at h2
   by_cases hi:i < vs.length
   ·exact hi
   ·rw [List.getElem?_append_right (by simpa using hi)] at h2
    rw [List.getElem?_replicate] at h2
    split at h2 <;> cases h2
  have ha:vs[i]?=some v:=by
   unfold Yo at h2
   rw [List.getElem?_append_left (by simpa using hi),List.getElem?_map] at h2
   cases e:vs[i]? with
   | none=>rw [e] at h2;cases h2
   | some a=>rw [e] at h2;cases h2;rfl
  obtain ⟨u,hu,rv⟩:=r.get ha
  have hp:ps[i]?=some y:=by
   rw [← S.pre,List.getElem?_take_of_lt (7:)];exact h1
  have ndP:ps.Nodup:=by rw [← S.pre];exact S.nd.sublist (List.take_sublist _ _)
  refine ⟨u,rv,?_⟩
  rcases S.par y (List.mem_of_getElem? hp) with k | k
  ·exact .inl ⟨k,U0 ndP hp hu k⟩
  ·obtain ⟨c,e⟩:=Xl (n:=s.heap.objs.size + 1) k
   refine .inr ⟨.inl k,c,e,?_⟩
   have q:=x.cell y c e
   rw [U2 ndP hp hu (by show scope.names.lookup y≠_;rw [k];decide)] at q
   exact q
 ·exact e0.hok.fresh (Nat.le_of_lt (x.above y c (PySem.mem_of_lookup h)))
 ·unfold Yo
  show _=N.length
  rw [List.length_append,List.length_map,List.length_replicate]
  lia
theorem L9 {CX:CXT} {P:Program} {w:World} {K:PySem.W.Frag} {mg:Str→Option Value} {base:Heap} {k:Nat} {f:Addr} {name qual:Str} {params:Arguments} {body:List Stmt} {scope:Scope} {dV kV doc pm cdv ct oc:Value} {an od:Option Addr}
 {osl:Array (Option Value)} {N ps:List Str} {sp:Sp} (lk:K.lookup f=some ⟨oc,od,.func (PySem.W.fnOf name qual params body scope dV kV doc pm an cdv ct),osl⟩) (hcd:PySem.W.codeIn K cdv qual=true) (S:FnScope N ps scope)
 (len:∀ vs H Q E,sp vs H Q E→vs.length=ps.length)
 (hbody:∀ (A:Around) (outer:List Env) (s:Shared) (H:Hp) (vs:List V) (Q:VK) (E:XK),Room k (A.deeper (envOfC qual scope s.heap.objs.size f cdv))→sp vs H Q E →
  ∃ t,PSs (Xs CX P w K mg base N qual scope f cdv A outer s H E) body t∧t { nx:=fun _ H'=>Q .non H',rt:=Q } (Yo N vs) H) :
 FnOk P w K mg base CX (k + 1) f (PySem.W.fnOf name qual params body scope dV kV doc pm an cdv ct) ps sp:=by
 refine ⟨len,fun A outer s H args us vs Q E hr e0 hb r hsp=>?_⟩
 have hl:=len _ _ _ _ hsp
 have KX:K.In s.heap:=e0.mod.kin.keeps fun b o e=>(e0.bs b o e).1
 have lim:s.heap.NoLimit:=e0.mod.nolimit.keeps fun b o e=>(e0.bs b o e).1
 have hkind:∀ y ∈ ps.zip us,scope.names.lookup y.1=some .local∨(scope.names.lookup y.1=some .cell∧((cellsFrom (s.heap.objs.size + 1) scope.names []).lookup y.1).isSome=true):=fun ⟨n,v⟩ hy=>by
  rcases S.par n (List.of_mem_zip hy).1 with q | q
  ·exact .inl q
  ·exact .inr ⟨q,PySem.W.cellsFrom_some _ _ _ (.inl q)⟩
 refine codeAny_call_function hr.depth (KX _ _ lk) rfl S.co S.gen rfl (PySem.W.codeRec_of KX hcd) (hb _ _ _ _ ?_)
 refine wpAny_newFunctionEnv_cells S.kind hkind fun env he s1 x=>?_
 subst he
 refine ⟨lim.keeps x.toInCall.keep,codeAny_func ?_⟩
 obtain ⟨t,ht,hq⟩:=hbody A outer s H vs Q E (hr.deeper _) hsp
 have I:Inv (Xs CX P w K mg base N qual scope f cdv A outer s H E) [] (Yo N vs) H s1:=W4 S hr.hd e0 hl r x
 refine wpAny_mono (ht [] s1 (Yo N vs) H _ I hq) (fun fl s' hs=>?_) fun e s' hs=>hs
 have fin:∀ {σ':St} {H':Hp} {v:V} {u:Value},Inv (Xs CX P w K mg base N qual scope f cdv A outer s H E) [] σ' H' s'→RelV v u→Q v H'→CE outer P w H s Q u s' :=
  fun {σ' H' v u} J rv q=>⟨v,H',J.os,J.bare,J.base,J.hok,rv,q⟩
 cases fl with
 | ret u =>
  obtain ⟨v,σ',H',J,rv,q⟩:=hs
  exact fin J rv q
 | next =>
  obtain ⟨σ',H',J,q⟩:=hs
  exact fin (v:=V.non) (u:=Value.none) J rfl q
 | brk =>
  obtain ⟨_,_,_,q⟩:=hs
  exact False.elim q
 | cont =>
  obtain ⟨_,_,_,q⟩:=hs
  exact False.elim q
end L2
namespace L2
open PySem PySem.Spec PyProof.Rows
section
variable {X:Cx} {x:Str} {p pos:Pos} {e:Expr} {es:List Expr} {t:TA} {id T:String} {r:List V→Hp→VK→Prop}
def tCB (r:List V→Hp→VK→Prop) (t:TA):TE:=fun σ H Q=>t σ H fun vs H1=>r vs H1 Q
theorem Qq (hc:ZC X (.builtin id) r) (hg:Gl X x) (hm:X.mg x=none) (hv:bootBuiltins x=some (.builtin id)) (ha:PA X (e :: es) t) (hn:x ≠ "__name__" := by decide) (hdb:(52:)=false:=by decide)
 (he:starEach (e :: es) X.env=(false,eval e X.env) :: starEach es X.env:=by rfl) (hpl:(backTo pos (starEach es X.env)).any (·.1)=false:=by rfl):PE X (.Call (.Name x p) (e :: es) [] pos) (tCB r t):=by
 intro pins s σ H Q I h
 refine wpAny_Call_Name_kw (YS I hg hm hv ?_ hn hdb)
 exact PyProof.Rows.callWith_builtin1 (thn (ha pos pins s σ H _ I h) fun us s1 ⟨vs,H1,I1,r1,q1⟩=>hc pins s1 σ H1 vs us Q I1 r1 q1) he hpl
theorem QO (hc:ZC X (.type T) r) (hg:Gl X x) (hm:X.mg x=none) (hv:bootBuiltins x=some (.type T)) (ha:PA X (e :: es) t) (hn:x ≠ "__name__" := by decide) (hdb:(52:)=false:=by decide)
 (he:starEach (e :: es) X.env=(false,eval e X.env) :: starEach es X.env:=by rfl) (hpl:(backTo pos (starEach es X.env)).any (·.1)=false:=by rfl):PE X (.Call (.Name x p) (e :: es) [] pos) (tCB r t):=by
 intro pins s σ H Q I h
 refine wpAny_Call_Name_kw (YS I hg hm hv ?_ hn hdb)
 exact PyProof.Rows.callWith_type1 (thn (ha pos pins s σ H _ I h) fun us s1 ⟨vs,H1,I1,r1,q1⟩=>hc pins s1 σ H1 vs us Q I1 r1 q1) he hpl
end
end L2
namespace HT
open PySem PyProof.Rows
def Mh:List Int→List Int→Bool
 | [],[]=>false
 | [],_ :: _=>true
 | _ :: _,[]=>false
 | x :: xs,y :: ys=>if x=y then Mh xs ys else decide (x < y)
section
open PySem.SeqAt
open PySem.AutoSeq1 (wpAny_loadPart')
open PySem.MeetsSeq PySem.MeetsSeq2 PySem.MeetsSeq3
end
section
variable {prog:Program} {w:World} {A:Around} {E:Value→Shared→Prop} {s:Shared}
theorem cat_tup {t b:Addr} {vs ws:List Value} {Q:Value→Shared→Prop} (ht:IsTup s.heap t vs.toArray) (hb:IsTup s.heap b ws.toArray) (hv:vs≠[])
 (h1:ws=[]→Q (.ref t) s) (h2:ws≠[]→Q (.ref s.heap.objs.size) { s with heap:=s.heap.push { cls:=.type "tuple", data:=.seq (vs ++ ws).toArray } })
 (hsz:vs.length + ws.length≤sizeLine):wpAny (model prog w) A (binaryOp .Add (.ref t) (.ref b)) Q E s:=by
 obtain ⟨⟨cls,dd,data,sl⟩,ho,hc,n,hd⟩:=id ht
 obtain ⟨⟨cls2,dd2,data2,sl2⟩,ho2,hc2,n2,hd2⟩:=id hb
 simp only at hc hd hc2 hd2
 subst hc hd hc2 hd2
 have e:vs.toArray ++ ws.toArray=(vs ++ ws).toArray:=by simp
 by_cases hw:ws=[]
 ·exact concat_meets ⟨_,ho,rfl⟩ ⟨_,ho2,rfl⟩ noFill_tuple_add seq_tuple_add PySem.F.slot_tuple_add PySem.F.entry_tuple_add (PySem.F.args_tuple_add_2 _ _)
   (tuple_addW1 t b vs.toArray ws.toArray n n2 dd dd2 sl sl2 (by simpa using hv) (by simp [hw])) ⟨ho,ho2,h1 hw⟩
 ·refine concat_meets ⟨_,ho,rfl⟩ ⟨_,ho2,rfl⟩ noFill_tuple_add seq_tuple_add PySem.F.slot_tuple_add PySem.F.entry_tuple_add (PySem.F.args_tuple_add_2 _ _)
   (tuple_addW2 t b vs.toArray ws.toArray n n2 dd dd2 sl sl2 (by simpa using hv) (by simpa using hw) (by rw [List.size_toArray,List.size_toArray];exact hsz)) ⟨ho,ho2,?_⟩
  rw [e]
  exact h2 hw
def sIx (n d:Nat):Option Int→Nat
 | none=>d
 | some v=>if v < 0 then (v + (n:Int)).toNat else min v.toNat n
theorem sIx_none (n d:Nat):sIx n d none=d:=rfl
theorem sIx_nat (n d k:Nat):sIx n d (some (k:Int))=min k n:=by
 show (if (k:Int) < 0 then ((k:Int)+(n:Int)).toNat else min (k:Int).toNat n)=min k n
 rw [if_neg (7:),Int.toNat_natCast]
end
end HT
namespace L2
open PySem PySem.Spec PyProof.Rows
abbrev TO:=St→Hp→(Option Int→Hp→Prop)→Prop
def PO (X:Cx) (e:Option Expr) (t:TO):Prop :=
 ∀ (pins:List (12:)) (s:Shared) (σ:St) (H:Hp) (Q:Option Int→Hp→Prop),Inv X pins σ H s→t σ H Q →
  wpAny (8:) X.A (evalPart e X.env) (fun u s'=>∃ o H',Inv X pins σ H' s'∧IsPart u o∧Q o H') X.xe s
def LN:TO:=fun _ H Q=>Q none H
def NG (t:TE):TO:=fun σ H Q=>t σ H fun x H1=>∃ i,x=.int i∧Q (some i) H1
section
variable {X:Cx} {e:Expr} {te:TE} {lo hi:Option Expr} {tl th:TO} {pos p2:Pos}
theorem Ji:PO X none LN:=by
 intro pins s σ H Q I h
 rw [evalPart_none]
 exact wpAny_pure ⟨none,H,I,.none,h⟩
theorem Jo (h:PE X e te):PO X (some e) (NG te):=by
 intro pins s σ H Q I hw
 rw [evalPart_some]
 refine thn (h pins s σ H _ I hw) fun u s1 ⟨x,H1,I1,r1,q1⟩=>?_
 obtain ⟨i,rfl,q⟩:=q1
 obtain ⟨t,rfl⟩:=r1
 exact ⟨some i,H1,I1,.int i t,q⟩
def SlR (X:Cx) (r:V→Option Int→Option Int→Hp→VK→Prop):Prop :=
 ∀ (pins:List (12:)) (s:Shared) (σ:St) (H:Hp) (x:V) (v vl vu:Value) (lo hi:Option Int) (sl:Addr) (Q:VK),Inv X pins σ H s→RelV x v→s.heap.IsSliceOf sl vl vu .none→IsPart vl lo→IsPart vu hi→r x lo hi H Q →
  ∃ T id,typeLookup (.type T) "__getitem__" = pure (some (.builtin id))∧s.TypeIs v T∧wpAny (8:) X.A (getItem v (.ref sl)) (EP X pins σ Q) X.xe s
def tSl (r:V→Option Int→Option Int→Hp→VK→Prop) (te:TE) (tl th:TO):TE:=fun σ H Q=>te σ H fun x H1=>tl σ H1 fun l H2=>th σ H2 fun u H3=>r x l u H3 Q
theorem UN {r:V→Option Int→Option Int→Hp→VK→Prop} (hr:SlR X r) (he:PE X e te) (hl:PO X lo tl) (hu:PO X hi th):PE X (.Subscript e (.Slice lo hi none p2) pos) (tSl r te tl th):=by
 intro pins s σ H Q I h
 refine Subscript_ (thn (he pins s σ H _ I h) fun v s1 ⟨x,H1,I1,r1,q1⟩=>?_)
 refine wpAny_Slice (thn (hl pins s1 σ H1 _ I1 q1) fun vl s2 ⟨l,H2,I2,pl,q2⟩=>thn (hu pins s2 σ H2 _ I2 q2) fun vu s3 ⟨u,H3,I3,pu,q3⟩=>?_)
 rw [evalPart_none]
 refine wpAny_pure ?_
 have I4:Inv X pins σ H3 { s3 with heap:=s3.heap.push { cls:=.type "slice", data:=.fields #[vl,vu,.none] } }:=I3.kept (t':=s3.toks) fun b ob q=>Heap.get?_push_of_some _ q
 obtain ⟨T,id,hT,ht,hg⟩:=hr pins { s3 with heap:=s3.heap.push { cls:=.type "slice", data:=.fields #[vl,vu,.none] } } σ H3 x v vl vu l u s3.heap.objs.size Q I4 r1 (Heap.IsSliceOf.new ..) pl pu q3
 show wpAny (8:) X.A (subscriptTail e (.Slice lo hi none p2) v (.ref s3.heap.objs.size)) (EP X pins σ Q) X.xe { s3 with heap:=s3.heap.push { cls:=.type "slice", data:=.fields #[vl,vu,.none] } }
 exact tail_any (ops:=[.ref s3.heap.objs.size,v]) ht hT hg (by with_unfolding_all rfl)
def cutV (xs:List V) (lo hi:Option Int):List V:=(xs.drop (HT.sIx xs.length 0 lo)).take (HT.sIx xs.length xs.length hi - HT.sIx xs.length 0 lo)
theorem JR (xs:List V) (lo hi:Option Int):(cutV xs lo hi).length≤xs.length:=by
 unfold cutV
 rw [List.length_take,List.length_drop]
 lia
def Ot (K:PySem.W.Frag):R2:=fun x y H Q=>∃ a b xs ys,x=.ref a∧y=.ref b∧SqT K H a xs∧SqT K H b ys∧xs≠[]∧xs.length + ys.length≤sizeLine ∧
 (ys=[]→Q (.ref a) H)∧(ys≠[]→∀ p,H p=none→Q (.ref p) (upd H p (.tup (xs ++ ys))))
theorem Vals.nil_iff {xs:List V} {us:List Value} (r:Vals xs us):us=[] ↔ xs=[]:=by
 cases r with
 | nil=>simp
 | cons _ _=>simp
theorem LZ:OpR X (binaryOp .Add) (Ot X.K):=by
 intro pins s σ H x y v u Q I rx ry h
 obtain ⟨a,b,xs,ys,rfl,rfl,ha,hb,hx,hz,q1,q2⟩:=h
 cases rx
 cases ry
 obtain ⟨its,r1,p1,_⟩:=I.tuple ha
 obtain ⟨its2,r2,p2,_⟩:=I.tuple hb
 refine HT.cat_tup p1 p2 (fun z=>hx (r1.nil_iff.mp z)) (fun z=>⟨.ref a,H,I,rfl,q1 (r2.nil_iff.mp z)⟩) (fun z=>?_) (by rw [← r1.length,← r2.length];exact hz)
 refine ⟨.ref s.heap.objs.size,_,I.laid (t':=s.toks) (o:=.tup (xs ++ ys)) (fun b ob q=>Heap.get?_push_of_some _ q) (9:) ?_,rfl,q2 (fun w=>z (r2.nil_iff.mpr w)) _ (I.hok.fresh (9:))⟩
 exact ⟨by rw [List.length_append];exact hz,_,r1.append r2,IsTup.new _ _⟩
end
end L2
namespace L2
open PySem PySem.Spec PyProof.Rows
def ixN (n:Nat) (i:Int):Option Nat:=if 0≤i then (if i < n then some i.toNat else none) else if -(n:Int)≤i then some (i + n).toNat else none
def atI {α:Type} (xs:List α) (i:Int):Option α:=(ixN xs.length i).bind fun j=>xs[j]?
theorem WB {n:Nat} {i:Int} {j:Nat} (h:ixN n i=some j):seqIndex? i n=some j∧j < n∧-(n:Int)≤i∧i < n:=by
 unfold ixN at h
 by_cases h0:0≤i
 ·rw [if_pos h0] at h
  by_cases h1:i < n
  ·rw [if_pos h1] at h
   have e:i.toNat=j:=Option.some.inj h
   exact ⟨by rw [seqIndex_of h0 h1,e],by lia,by lia,h1⟩
  ·rw [if_neg h1] at h;cases h
 ·rw [if_neg h0] at h
  by_cases h1:-(n:Int)≤i
  ·rw [if_pos h1] at h
   have e:(i + n).toNat=j:=Option.some.inj h
   exact ⟨by rw [seqIndex_neg (7:) h1,e],by lia,h1,by lia⟩
  ·rw [if_neg h1] at h;cases h
theorem JF {α:Type} {xs:List α} {i:Int} {v:α} (h:atI xs i=some v):∃ j,seqIndex? i xs.length=some j∧xs[j]?=some v∧j < xs.length∧-(xs.length:Int)≤i∧i < xs.length:=by
 unfold atI at h
 cases e:ixN xs.length i with
 | none=>rw [e] at h;cases h
 | some j =>
  rw [e] at h
  obtain ⟨h1,h2,h3,h4⟩:=WB e
  exact ⟨j,h1,h,h2,h3,h4⟩
theorem Qu {α:Type} {xs:List α} {j:Nat} {v:α} (h:xs[j]?=some v):atI xs (j:Int)=some v:=by
 have hj:j < xs.length:=(List.getElem?_eq_some_iff.mp h).1
 have e:ixN xs.length (j:Int)=some j:=by
  unfold ixN
  rw [if_pos (7:),if_pos (7:)];simp
 unfold atI;rw [e];exact h
def WH (b:Expr):Prop:=∀ o i,subscripted b false o i=operate [o,i] (getItem o i)
def IxR (X:Cx) (r:R2):Prop :=
 ∀ (value slice:Expr) (pins:List (12:)) (s:Shared) (σ:St) (H:Hp) (x y:V) (v u:Value) (Q:VK),Inv X pins σ H s→RelV x v→RelV y u→r x y H Q →
  subscripted slice false v u=operate [v,u] (getItem v u)→wpAny (8:) X.A (subscriptTail value slice v u) (EP X pins σ Q) X.xe s
def MtR (X:Cx) (id:String) (r:V→List V→Hp→VK→Prop):Prop :=
 ∀ (pins:List (12:)) (s:Shared) (σ:St) (H:Hp) (x:V) (xs:List V) (v:Value) (us:List Value) (Q:VK),Inv X pins σ H s→RelV x v→Vals xs us→r x xs H Q →
  wpAny (8:) X.A (call (.builtin id) (v :: us)) (EP X pins σ Q) X.xe s
section
variable {X:Cx} {a b:Expr} {ta tb:TE} {pos:Pos}
theorem Qh {r:R2} (hr:IxR X r) (ha:PE X a ta) (hb:PE X b tb) (hs:WH b):PE X (.Subscript a b pos) (tOp r ta tb):=by
 intro pins s σ H Q I h
 exact Subscript_ (Na ha hb I h fun v u s2 x y H2 I2 rx ry q=>hr a b pins s2 σ H2 x y v u Q I2 rx ry q (hs _ _))
def WN (K:PySem.W.Frag):R2:=fun x y H Q=>∃ p xs i v,x=.ref p∧y=.int i∧SqL K H p xs∧atI xs i=some v∧Q v H
def Vh (K:PySem.W.Frag):R2:=fun x y H Q=>∃ p xs i v,x=.ref p∧y=.int i∧SqT K H p xs∧atI xs i=some v∧Q v H
def OO:R2:=fun x y H Q=>∃ z i c,x=.str z∧y=.int i∧z.length≤sizeLine∧atI z.cps.toList i=some c∧Q (.str ⟨#[c]⟩) H
theorem Qo:IxR X (WN X.K):=by
 intro value slice pins s σ H x y v u Q I rx ry h hs
 obtain ⟨p,xs,i,z,rfl,rfl,hq,he,q⟩:=h
 cases rx
 obtain ⟨t,rfl⟩:=ry
 obtain ⟨its,r,pl,hz⟩:=I.list hq
 obtain ⟨j,h1,h2,h3,h4,h5⟩:=JF he
 obtain ⟨w,ew,rw'⟩:=r.get h2
 have hl:=r.length
 have hn:=Uz
 have fin:EP X pins σ Q w s:=⟨z,H,I,rw',q⟩
 by_cases h0:0≤i
 ·have hj:i.toNat=j:=by
   rw [seqIndex_of h0 h5] at h1
   exact Option.some.inj h1
  exact item_listR pl.isList h0 (7:) (by rw [hj];simpa using ew) fin hs
 ·have hj:(i + (its.toArray.size:Int)).toNat=j:=by
   rw [seqIndex_neg (7:) h4] at h1
   rw [List.size_toArray,← hl]
   exact Option.some.inj h1
  exact subscriptTail_builtinR (x:=w) pl.isList.typeIs slot_list_getitem.lookup
   (wpAny_getItem_list_neg (Q:=fun r s'=>r=w∧EP X pins σ Q r s') pl.isList (7:) (by rw [List.size_toArray] <;> lia) (7:) (by rw [hj];simpa using ew) ⟨rfl,fin⟩) hs
theorem Qk:IxR X (Vh X.K):=by
 intro value slice pins s σ H x y v u Q I rx ry h hs
 obtain ⟨p,xs,i,z,rfl,rfl,hq,he,q⟩:=h
 cases rx
 obtain ⟨t,rfl⟩:=ry
 obtain ⟨its,r,pl,hz⟩:=I.tuple hq
 obtain ⟨j,h1,h2,h3,h4,h5⟩:=JF he
 obtain ⟨w,ew,rw'⟩:=r.get h2
 have hl:=r.length
 have hn:=Uz
 have fin:EP X pins σ Q w s:=⟨z,H,I,rw',q⟩
 exact subscriptTail_builtinR (x:=w) pl.typeIs slot_tuple_getitem.lookup
  (getItem_tuple (j:=j) (Q:=fun r s'=>r=w∧EP X pins σ Q r s') pl (7:) (7:) (by rw [List.size_toArray,← hl];exact h1) (by simpa using ew) ⟨rfl,fin⟩) hs
theorem Mt:IxR X OO:=by
 intro value slice pins s σ H x y v u Q I rx ry h hs
 obtain ⟨z,i,c,rfl,rfl,hz,he,q⟩:=h
 obtain ⟨t,rfl⟩:=rx
 obtain ⟨t',rfl⟩:=ry
 obtain ⟨j,h1,h2,h3,h4,h5⟩:=JF he
 have hl:z.cps.toList.length=z.length:=by simp [Str.length]
 rw [hl] at h1 h4 h5
 have hn:=Uz
 exact tail_any (typeIs_str s z t) slot_str_getitem.lookup (getItem_str (c:=c) (by
  have e1:decide (i < -(2 ^ 63:Int))=false:=decide_eq_false (7:)
  have e2:decide (i ≥ 2 ^ 63)=false:=decide_eq_false (7:)
  rw [e1,e2,Bool.or_false]) (by rw [h1];simpa using h2) ⟨.str ⟨#[c]⟩,H,I.tok _,⟨_,rfl⟩,q⟩) hs
theorem XE (its:List Value) (n j:Nat) (u:Value):Obj.mapSeq (·.setIfInBounds j u) { cls:=.type "list", data:=.seq its.toArray n }={ cls:=.type "list", data:=.seq (its.set j u).toArray n }:=by
 simp [Obj.mapSeq]
theorem Inv.lst {pins:List (12:)} {σ:St} {H:Hp} {s:Shared} {p:Addr} {xs:List V} (I:Inv X pins σ H s) (h:H p=some (.lst xs)) :
 ∃ (its:List Value) (n:Nat),Vals xs its∧s.heap.get? p=some { cls:=.type "list", data:=.seq its.toArray n }∧xs.length≤sizeLine:=by
 obtain ⟨z,its,n,r,e⟩:=I.hok p _ h
 exact ⟨its,n,r,e,z⟩
theorem Inv.lstUpd {pins:List (12:)} {σ:St} {H:Hp} {s:Shared} {p:Addr} {xs ys:List V} {its its':List Value} {n n':Nat} {f:Obj→Obj} (I:Inv X pins σ H s) (h:H p=some (.lst xs))
 (ho:s.heap.get? p=some { cls:=.type "list", data:=.seq its.toArray n }) (hf:f { cls:=.type "list", data:=.seq its.toArray n }={ cls:=.type "list", data:=.seq its'.toArray n' }) (r:Vals ys its') (hz:ys.length≤sizeLine) (t:Nat) :
 Inv X pins σ (upd H p (.lst ys)) { s with heap:=s.heap.update p f,toks:=t }:=by
 have e:(s.heap.update p f).get? p=some { cls:=.type "list", data:=.seq its'.toArray n' }:=by
  rw [Heap.get?_update_self f ho (by rw [hf] <;> rfl),hf]
 refine I.write (x:=p) (e:=p) (by rw [h];trivial) (.inl rfl) (fun b u hb q=>(Heap.get?_update_other _ _ (Ne.symm hb)).trans q) ⟨_,e⟩ ?_
 exact ⟨hz,its',n',r,e⟩
def OK:V→V→V→Hp→(Hp→Prop)→Prop:=fun o i v H Q=>∃ p xs k j,o=.ref p∧i=.int k∧H p=some (.lst xs)∧ixN xs.length k=some j∧Q (upd H p (.lst (xs.set j v)))
theorem YH:Oq X OK:=by
 intro pins s σ H o i v ov iv u Q I ro ri rv h
 obtain ⟨p,xs,k,j,rfl,rfl,hp,hj,q⟩:=h
 cases ro
 obtain ⟨t,rfl⟩:=ri
 obtain ⟨its,n,r,ho,hz⟩:=I.lst hp
 obtain ⟨h1,h2,h3,h4⟩:=WB hj
 have hl:=r.length
 have hn:=Uz
 have I':Inv X pins σ (upd H p (.lst (xs.set j v))) { s with heap:=s.heap.update p (Obj.mapSeq (·.setIfInBounds j u)) } :=
  I.lstUpd hp ho (XE its n j u) (r.set rv j) (by rw [List.length_set];exact hz) s.toks
 by_cases h0:0≤k
 ·have hk:k.toNat=j:=by
   rw [seqIndex_of h0 h4] at h1
   exact Option.some.inj h1
  exact PySem.W.ki_setAt ho h0 (7:) (by rw [List.size_toArray,← hl];exact h4) (by rw [hk];exact ⟨_,I',q⟩)
 ·have hk:(k + (its.toArray.size:Int)).toNat=j:=by
   rw [seqIndex_neg (7:) h3] at h1
   rw [List.size_toArray,← hl]
   exact Option.some.inj h1
  exact PySem.W.ki_setBack ho (7:) (by rw [List.size_toArray,← hl];exact h3) (7:) (by rw [hk];exact ⟨_,I',q⟩)
theorem Jl (lo hi:Option Int) (n:Nat):(sliceBounds lo hi none n).1=((HT.sIx n 0 lo:Nat):Int)∧(sliceBounds lo hi none n).2.1=((HT.sIx n n hi:Nat):Int)∧(sliceBounds lo hi none n).2.2=1:=by
 refine ⟨?_,?_,rfl⟩
 ·cases lo with
  | none=>simp [sliceBounds,HT.sIx]
  | some i =>
   simp only [sliceBounds,HT.sIx,Option.getD_none,show (1:Int) > 0 by decide,if_true]
   by_cases h:i < 0
   ·simp only [h,if_true] <;> lia
   ·simp only [h,if_false] <;> lia
 ·cases hi with
  | none=>simp [sliceBounds,HT.sIx]
  | some i =>
   simp only [sliceBounds,HT.sIx,Option.getD_none,show (1:Int) > 0 by decide,if_true]
   by_cases h:i < 0
   ·simp only [h,if_true] <;> lia
   ·simp only [h,if_false] <;> lia
theorem US (its:List Value) (lo hi:Option Int):slicePick its.toArray lo hi none=((its.drop (HT.sIx its.length 0 lo)).take (HT.sIx its.length its.length hi - HT.sIx its.length 0 lo)).toArray:=by
 obtain ⟨h1,h2,h3⟩:=Jl lo hi its.toArray.size
 unfold slicePick
 rw [h1,h2,h3]
 simp only [sliceRange_one,pick_run,List.size_toArray] <;> rfl
def OT (K:PySem.W.Frag):V→Option Int→Option Int→Hp→VK→Prop:=fun x lo hi H Q=>∃ a xs,x=.ref a∧SqL K H a xs∧∀ p,H p=none→Q (.ref p) (upd H p (.lst (cutV xs lo hi)))
theorem Jp:SlR X (OT X.K):=by
 intro pins s σ H x v vl vu lo hi sl Q I rx hs pl pu h
 obtain ⟨a,xs,rfl,hx,q⟩:=h
 cases rx
 obtain ⟨its,r,ht,hz⟩:=I.list hx
 have hlen:=r.length
 refine ⟨"list", _,slot_list_getitem.lookup,ht.isList.typeIs,?_⟩
 refine wpAny_getItem_list_slice ht.isList hs pl pu .none (by simp) ?_ (by rw [List.size_toArray] <;> lia)
 rw [US,← hlen]
 refine ⟨.ref s.heap.objs.size,_,I.laid (t':=s.toks) (o:=.lst (cutV xs lo hi)) (fun b ob q=>Heap.get?_push_of_some _ q) (9:) ?_,rfl,q _ (I.hok.fresh (9:))⟩
 exact ⟨Nat.le_trans (JR xs lo hi) hz,_,0,(r.drop (HT.sIx xs.length 0 lo)).take (HT.sIx xs.length xs.length hi - HT.sIx xs.length 0 lo),Heap.get?_push_size _ rfl⟩
theorem Qm:ZC X (.builtin "len") (fun xs H Q=>∃ p ys,xs=[.ref p]∧(SqL X.K H p ys∨SqT X.K H p ys)∧Q (.int ys.length) H):=by
 intro pins s σ H xs us Q I r h
 obtain ⟨p,ys,rfl,hq,q⟩:=h
 obtain ⟨u,rfl,rx⟩:=Wl r
 cases rx
 have hn:=Uz
 rcases hq with hq | hq
 ·obtain ⟨its,r',pl,hz⟩:=I.list hq
  have hlen:=r'.length
  exact Calls.call_len_list pl.isList (by simp only [List.size_toArray] <;> lia) ⟨.int ys.length,H,I.tok _,⟨s.toks + 1,by rw [List.size_toArray,hlen]⟩,q⟩
 ·obtain ⟨its,r',pl,hz⟩:=I.tuple hq
  have hlen:=r'.length
  exact len_tuple pl (by simp only [List.size_toArray] <;> lia) ⟨.int ys.length,H,I.tok _,⟨s.toks + 1,by rw [List.size_toArray,hlen]⟩,q⟩
theorem Zx:ZC X (.type "list") (fun xs H Q=>∃ p ys,xs=[.ref p]∧(SqL X.K H p ys∨SqT X.K H p ys)∧∀ l,H l=none→Q (.ref l) (upd H l (.lst ys))):=by
 intro pins s σ H xs us Q I r h
 obtain ⟨p,ys,rfl,hq,q⟩:=h
 obtain ⟨u,rfl,rx⟩:=Wl r
 cases rx
 have fin:∀ (its:List Value),Vals ys its→ys.length≤sizeLine→∀ (h':Heap) (c':Nat),(∀ b o',s.heap.get? b=some o'→h'.get? b=some o') →
  h'.get? s.heap.objs.size=some { cls:=.type "list", dict:=none,data:=.seq its.toArray c',slots:=#[] }→EP X pins σ Q (.ref s.heap.objs.size) { s with heap:=h' }:=fun its r' hz h' c' kp e =>
  ⟨.ref s.heap.objs.size,_,I.laid (t':=s.toks) kp (9:) (show ObjOk X.prog X.w _ h' _ (.lst ys) from ⟨hz,its,c',r',e⟩),rfl,q _ (I.hok.fresh (9:))⟩
 rcases hq with hq | hq
 ·obtain ⟨its,r',pl,hz⟩:=I.list hq
  have hlen:=r'.length
  obtain ⟨o,ho,hc,n,hd⟩:=pl.isList
  exact call_list_seq p (.inl rfl) ho hc hd (fun h' c' kp e=>fin its r' hz h' c' kp e) (by simp only [List.size_toArray] <;> lia)
 ·obtain ⟨its,r',pl,hz⟩:=I.tuple hq
  have hlen:=r'.length
  obtain ⟨o,ho,hc,n,hd⟩:=pl
  exact call_list_seq p (.inr rfl) ho hc hd (fun h' c' kp e=>fin its r' hz h' c' kp e) (by simp only [List.size_toArray] <;> lia)
theorem QS:ZC X (.type "tuple") (fun xs H Q=>∃ p ys,xs=[.ref p]∧((SqL X.K H p ys∧∀ l,H l=none→Q (.ref l) (upd H l (.tup ys)))∨(SqT X.K H p ys∧Q (.ref p) H))):=by
 intro pins s σ H xs us Q I r h
 obtain ⟨p,ys,rfl,h⟩:=h
 obtain ⟨u,rfl,rx⟩:=Wl r
 cases rx
 rcases h with ⟨hq,q⟩ | ⟨hq,q⟩
 ·obtain ⟨its,r',pl,hz⟩:=I.list hq
  have hlen:=r'.length
  refine call_tuple_list pl.isList (fun h' kp=>?_) (by simp only [List.size_toArray] <;> lia)
  have I1:Inv X pins σ H { s with heap:=h' }:=I.kept (t':=s.toks) kp
  have I2:Inv X pins σ (upd H h'.objs.size (.tup ys)) { s with heap:=h'.push { cls:=.type "tuple", data:=.seq its.toArray } } :=
   I1.laid (t':=s.toks) (fun b o e=>Heap.get?_push_of_some _ e) (9:) (show ObjOk X.prog X.w _ _ _ (.tup ys) from ⟨hz,its,r',IsTup.new _ _⟩)
  exact ⟨.ref h'.objs.size,_,I2,rfl,q _ (I1.hok.fresh (9:))⟩
 ·obtain ⟨its,r',pl,hz⟩:=I.tuple hq
  exact call_tuple_same pl ⟨.ref p,H,I,rfl,q⟩
def tyV (K:PySem.W.Frag) (T:String) (x:V) (H:Hp):Prop:=match x with
 | .str _=>T = "str"
 | .int _=>T = "int"
 | .ref p=>(T = "list" ∧ ∃ xs,SqL K H p xs)∨(T = "tuple" ∧ ∃ o,K.lookup p=some o∧o.cls=.type "tuple" ∧ o.dict=none) ∨
  (T = "dict" ∧ ((∃ kvs,H p=some (.dK kvs))∨∃ kvs,H p=some (.dT kvs)))∨(T = "set" ∧ ∃ S n,H p=some (.set S n))
 | _=>False
theorem VC {pins:List (12:)} {σ:St} {H:Hp} {s:Shared} {T:String} {x:V} {v:Value} (I:Inv X pins σ H s) (r:RelV x v) (ty:tyV X.K T x H) :
 s.TypeIs v T∧∀ a,v=.ref a→∃ ob,s.heap.get? a=some ob∧ob.dict=none:=by
 cases x with
 | str z =>
  obtain ⟨t,rfl⟩:=r
  cases (show T = "str" from ty)
  exact ⟨typeIs_str s z t,fun _ e=>nomatch e⟩
 | int i =>
  obtain ⟨t,rfl⟩:=r
  cases (show T = "int" from ty)
  exact ⟨typeIs_int s i t,fun _ e=>nomatch e⟩
 | ref p =>
  cases r
  rcases ty with ⟨rfl,xs,hq⟩ | ⟨rfl,o,hk,hc,hd⟩ | ⟨rfl,hk⟩ | ⟨rfl,S,n,hk⟩
  ·obtain ⟨its,_,pl,_⟩:=I.list hq
   refine ⟨pl.isList.typeIs,fun a e=>?_⟩
   cases e
   obtain ⟨o,n,e,c,hd,_⟩:=pl
   exact ⟨o,e,hd⟩
  ·refine ⟨⟨o,I.kIn p o hk,hc⟩,fun a e=>?_⟩
   cases e
   exact ⟨o,I.kIn _ o hk,hd⟩
  ·have z:∃ o,s.heap.get? p=some o∧o.ExactDict:=by
    rcases hk with ⟨kvs,hk⟩ | ⟨kvs,hk⟩
    ·obtain ⟨_,_,_,_,o,_,_,e,ex,_⟩:=I.hok p _ hk
     exact ⟨o,e,ex⟩
    ·obtain ⟨_,_,_,_,o,_,_,e,ex,_⟩:=I.hok p _ hk
     exact ⟨o,e,ex⟩
   obtain ⟨o,e,ex⟩:=z
   refine ⟨⟨o,e,ex.1⟩,fun a e2=>?_⟩
   cases e2
   exact ⟨o,e,ex.2.1⟩
  ·obtain ⟨o,_,_,_,e,ex,_⟩:=I.hok p _ hk
   refine ⟨⟨o,e,ex.1⟩,fun a e2=>?_⟩
   cases e2
   exact ⟨o,e,ex.2.1⟩
 | _=>exact False.elim ty
def O2 (K:PySem.W.Frag) (T:String) (r:V→List V→Hp→VK→Prop) (to:TE):TE:=fun σ H Q=>to σ H fun x H1=>tyV K T x H1∧r x [] H1 Q
def tBM (K:PySem.W.Frag) (T:String) (r:V→List V→Hp→VK→Prop) (to:TE) (t:TA):TE:=fun σ H Q=>to σ H fun x H1=>tyV K T x H1∧t σ H1 fun xs H2=>r x xs H2 Q
variable {o e:Expr} {es:List Expr} {to:TE} {t:TA} {name:Str} {apos cpos:Pos} {T id:String} {r:V→List V→Hp→VK→Prop}
theorem YL (pa:PlainAttrs T) (slot:Slot T name id) (hty:typeOf (.builtin id)=pure (.type "method_descriptor")) (hm:MtR X id r) (ho:PE X o to)
 (hbase:attributeBase o name X.env (eval o X.env)=eval o X.env:=by rfl) (hline:(apos.endLine == cpos.line)=true:=by rfl):PE X (.Call (.Attribute o name apos) [] [] cpos) (O2 X.K T r to):=by
 intro pins s σ H Q I h
 refine wpAny_Call_method0_late hbase hline (thn (ho pins s σ H _ I h) fun v s1 ⟨x,H1,I1,r1,ty,q1⟩=>?_)
 obtain ⟨h1,h2⟩:=VC I1 r1 ty
 exact ⟨T,id,pa,slot,hty,h1,h2,Calls.callWith_builtin rfl (PySem.evalArgs_none (hm pins s1 σ H1 x [] v [] Q I1 r1 .nil q1))⟩
theorem Z1 (pa:PlainAttrs T) (slot:Slot T name id) (hty:typeOf (.builtin id)=pure (.type "method_descriptor")) (hm:MtR X id r) (ho:PE X o to) (ha:PA X (e :: es) t)
 (hbase:attributeBase o name X.env (eval o X.env)=eval o X.env:=by rfl)
 (hfew:((backTo cpos (starEach (e :: es) X.env)).all (fun x=>!x.1) && (backToKw cpos (keywordEach [] X.env)).all (fun x=>x.1.isSome)
  && decide ((e :: es).length + ([]:List Keyword).length + (if ([]:List Keyword).isEmpty then 0 else 1) < 30))=true:=by rfl)
 (hline:(apos.endLine == cpos.line)=true:=by rfl) (hs:starEach (e :: es) X.env=(false,eval e X.env) :: starEach es X.env:=by rfl) (hplain:(backTo cpos (starEach es X.env)).any (·.1)=false:=by rfl) :
 PE X (.Call (.Attribute o name apos) (e :: es) [] cpos) (tBM X.K T r to t):=by
 intro pins s σ H Q I h
 refine wpAny_Call_method_late hbase hfew hline rfl (thn (ho pins s σ H _ I h) fun v s1 ⟨x,H1,I1,r1,ty,q1⟩=>?_)
 obtain ⟨h1,h2⟩:=VC I1 r1 ty
 refine ⟨T,id,pa,slot,hty,h1,h2,?_⟩
 have hA:=ha cpos pins s1 σ H1 _ I1 q1
 rw [hs] at hA ⊢
 refine Calls.callWith_builtin (by show (false || (backTo cpos (starEach es X.env)).any (·.1))=false;rw [hplain] <;> rfl) (Calls.evalArgs_plain ?_)
 exact thn hA fun us s2 ⟨vs,H2,I2,r2,q2⟩=>hm pins s2 σ H2 x vs v us Q I2 r1 r2 q2
/- xs.append(e),list.index on a module's tuple .. are MtR facts of 06m -/
end
end L2
namespace L2
open PySem PySem.Spec PyProof.Rows
def MtM (X:Cx) (id:String) (r:V→List V→Hp→VK→Prop):Prop :=
 ∀ (pins:List (12:)) (s:Shared) (σ:St) (H:Hp) (x:V) (xs:List V) (v:Value) (us:List Value) (Q:VK),Inv X pins σ H s→RelV x v→Vals xs us→r x xs H Q →
  wpAny (8:) X.A (call (.builtin id) (v :: us)) (EP X pins σ Q) X.xe s
theorem Vals.one:∀ {x:V} {us:List Value},Vals [x] us→∃ u,us=[u]∧RelV x u
 | _,_,.cons r .nil=>⟨_,rfl,r⟩
theorem Vals.two:∀ {x y:V} {us:List Value},Vals [x,y] us→∃ u v,us=[u,v]∧RelV x u∧RelV y v
 | _,_,_,.cons r (.cons q .nil)=>⟨_,_,rfl,r,q⟩
theorem Vals.zero:∀ {us:List Value},Vals [] us→us=[]
 | _,.nil=>rfl
theorem Vals.dropLast {xs:List V} {us:List Value} (h:Vals xs us):Vals xs.dropLast us.dropLast:=by
 induction h with
 | nil=>exact .nil
 | cons r t ih =>
  cases t with
  | nil=>exact .nil
  | cons q t'=>exact .cons r ih
theorem XQ {α:Type} (l:List α):l.eraseIdx (l.length - 1)=l.dropLast:=by
 induction l with
 | nil=>rfl
 | cons a r ih =>
  cases r with
  | nil=>rfl
  | cons b r =>
   have e:(a :: b :: r).length - 1=((b :: r).length - 1)+1:=by
    have h1:(a :: b :: r).length=r.length + 2:=rfl
    have h2:(b :: r).length=r.length + 1:=rfl
    lia
   rw [e,List.eraseIdx_cons_succ,ih]
   all_goals rfl
section
variable {X:Cx} {pins:List (12:)} {σ:St} {H:Hp} {s:Shared} {l b:Addr} {xs ys zs:List V}
theorem Inv.lset {its its':List Value} {n:Nat} {f:Array Value→Array Value} {t':Nat} (I:Inv X pins σ H s) (hH:H l=some (.lst xs))
 (e:s.heap.get? l=some { cls:=.type "list", data:=.seq its.toArray n }) (hf:f its.toArray=its'.toArray) (hv:Vals ys its') (hz:ys.length≤sizeLine) :
 Inv X pins σ (upd H l (.lst ys)) { s with heap:=s.heap.update l (Obj.mapSeq f),toks:=t' }:=by
 have q:=PySem.IsL.update e f
 rw [hf] at q
 refine I.write (x:=l) (e:=l) (by rw [hH];exact trivial) (.inl rfl) (fun b' u hb hu=>(Heap.get?_update_other s.heap (Obj.mapSeq f) (Ne.symm hb)).trans hu) ⟨_,q⟩ ?_
 exact ⟨hz,its',_,hv,q⟩
theorem Inv.lnew {its:List Value} {t':Nat} (I:Inv X pins σ H s) (hv:Vals ys its) (hz:ys.length≤sizeLine) :
 Inv X pins σ (upd H s.heap.objs.size (.lst ys)) { s with heap:=s.heap.push { cls:=.type "list", data:=.seq its.toArray },toks:=t' } :=
 I.laid (fun _ _ q=>Heap.get?_push_of_some _ q) (9:) ⟨hz,its,0,hv,Heap.get?_push_size _ rfl⟩
theorem Inv.fresh (I:Inv X pins σ H s):H s.heap.objs.size=none:=I.hok.fresh (9:)
theorem Inv.lstM (I:Inv X pins σ H s) (hH:H l=some (.lst xs)):xs.length≤sizeLine∧∃ (its:List Value) (n:Nat),Vals xs its∧xs.length=its.length∧s.heap.get? l=some { cls:=.type "list", data:=.seq its.toArray n }:=by
 obtain ⟨z,its,n,r,e⟩:=I.hok l _ hH
 exact ⟨z,its,n,r,r.length,e⟩
theorem VX {n:Nat} (h:n≤sizeLine):Builtin.List.listTooLong n=false:=by
 unfold Builtin.List.listTooLong
 exact decide_eq_false (7:)
end
section
variable {X:Cx}
def Le:V→List V→Hp→VK→Prop:=fun x vs H Q=>∃ l xs y,x=.ref l∧vs=[y]∧H l=some (.lst xs)∧xs.length < sizeLine∧Q .non (upd H l (.lst (xs ++ [y])))
theorem QU:MtM X "list.append" Le:=by
 intro pins s σ H x vs v us Q I rx rv h
 obtain ⟨l,xs,y,rfl,rfl,hH,hz,q⟩:=h
 cases rx
 obtain ⟨u,rfl,ru⟩:=rv.one
 obtain ⟨z,its,n,r,hl,e⟩:=I.lstM hH
 refine call_meets F.slot_list_append ⟨_,e,rfl⟩ F.entry_list_append (F.args_list_append_2 _ _) (PySem.list_append l its.toArray n u (by rw [List.size_toArray];lia)) ⟨e,?_⟩
 refine ⟨.non,_,I.lset (its':=its ++ [u]) hH e (by simp) (r.append (.cons ru .nil)) ?_,rfl,q⟩
 rw [List.length_append,List.length_singleton]
 lia
def LS:V→List V→Hp→VK→Prop:=fun x vs H Q=>∃ l b xs zs,x=.ref l∧vs=[.ref b]∧H l=some (.lst xs)∧H b=some (.lst zs)∧xs.length + zs.length≤sizeLine∧Q .non (upd H l (.lst (xs ++ zs)))
theorem WS:MtM X "list.extend" LS:=by
 intro pins s σ H x vs v us Q I rx rv h
 obtain ⟨l,b,xs,zs,rfl,rfl,hH,hB,hz,q⟩:=h
 cases rx
 obtain ⟨u,rfl,ru⟩:=rv.one
 cases ru
 obtain ⟨z,its,n,r,hl,e⟩:=I.lstM hH
 obtain ⟨z2,its2,n2,r2,hl2,e2⟩:=I.lstM hB
 have hsz:its.toArray.size + its2.toArray.size≤sizeLine:=by rw [List.size_toArray,List.size_toArray];lia
 have hlong:¬ (!its.toArray.isEmpty && Builtin.List.listTooLong (its.toArray.size + its2.toArray.size))=true:=by
  rw [VX hsz,Bool.and_false]
  exact Bool.false_ne_true
 refine call_meets F.slot_list_extend ⟨_,e,rfl⟩ F.entry_list_extend (F.args_list_extend_2 _ _)
  (AutoSeq1.list_extend_list_list_0 l its.toArray n b its2.toArray n2 hlong (by rw [List.size_toArray];lia) (7:)) ⟨e,e2,?_⟩
 refine ⟨.non,_,I.lset (its':=its ++ its2) hH e (by simp) (r.append r2) ?_,rfl,q⟩
 rw [List.length_append]
 lia
def Po:V→List V→Hp→VK→Prop:=fun x vs H Q=>∃ l xs y,x=.ref l∧vs=[]∧H l=some (.lst xs)∧xs[xs.length - 1]?=some y∧Q y (upd H l (.lst xs.dropLast))
theorem YV:MtM X "list.pop" Po:=by
 intro pins s σ H x vs v us Q I rx rv h
 obtain ⟨l,xs,y,rfl,rfl,hH,hy,q⟩:=h
 cases rx
 have hus:=rv.zero
 subst hus
 obtain ⟨z,its,n,r,hl,e⟩:=I.lstM hH
 obtain ⟨u,hu,ru⟩:=r.get hy
 have hy':its.toArray[its.toArray.size - 1]?=some u:=by
  show its.toArray[its.length - 1]?=some u
  rw [← Array.getElem?_toList,← hl]
  exact hu
 refine call_meets F.slot_list_pop ⟨_,e,rfl⟩ F.entry_list_pop (F.args_list_pop_1 _) (MeetsSeq.list_pop_last l its.toArray n u hy' (by rw [List.size_toArray];lia)) ⟨e,?_⟩
 refine ⟨y,_,I.lset (its':=its.dropLast) hH e ?_ r.dropLast ?_,ru,q⟩
 ·show its.toArray.eraseIdxIfInBounds (its.toArray.size - 1)=its.dropLast.toArray
  rw [List.size_toArray,List.eraseIdxIfInBounds_toArray,XQ]
 ·rw [List.length_dropLast]
  lia
end
section
variable {prog:Program} {w:World} {A:Around} {E:Value→Shared→Prop} {s:Shared}
set_option maxRecDepth 100000 in
end
section
variable {X:Cx}
end
end L2
namespace Att
open PySem PySem.W PySem.Calls PyProof.Rows
theorem Y6 {P:Params} {h:Heap}:∀ (ns:List Int) (vs:List Value),WellAll P h vs (ns.map WData.int)→IntsAre vs ns:=by
 intro ns
 induction ns with
 | nil =>
  intro vs w
  rw [List.map_nil] at w
  cases w
  exact .nil
 | cons n ns ih =>
  intro vs w
  rw [List.map_cons] at w
  cases w with
  | cons a b =>
   cases a
   exact .cons _ _ (ih _ b)
theorem WR {l:OpenLaw} {n:Nat} (hn:l.most=some n) {P:Params} {h:Heap} {args:List WData} {vals:List Value}
 (hpre:l.row.toRowW.claim.pre args=true) (hwl:WellAll P h vals args) :
 ∃ a vs ns,vals=[Value.ref a]∧args=[WData.list (ns.map WData.int)]∧h.get? a=some { cls:=.type "list", data:=.seq vs.toArray }∧IntsAre vs ns∧ns.length≤n:=by
 have hsh:WShape.hasAll [] args [.list .int]=true:=(pre_splitW hpre).1
 have hc:l.pre.holds [] { args:=args }=true:=(pre_splitW hpre).2
 obtain ⟨d,r,rfl,h1,h2⟩:=hasAllW_cons hsh
 obtain rfl:=hasAllW_nil h2
 obtain ⟨xs,rfl,h3⟩:=hasW_list h1
 obtain ⟨ns,rfl⟩:=items_int h3
 have hlen:ns.length≤n:=by
  unfold OpenLaw.pre at hc
  have h4:(WTm.not (.lt (.lit (.int (n:Int))) (.len (.arg 0)))).holds [] { args:=[.list (ns.map .int)] }=true:=by
   have h4:=(holds_andW hc).1
   rw [hn] at h4
   exact h4
  have h5:=condW_of h4 (w_not (w_lt w_lit (w_len_list (w_arg rfl))))
  rw [List.length_map] at h5
  refine Nat.le_of_not_lt fun q=>?_
  have q':(n:Int) < ((ns.length:Nat):Int):=by lia
  first
   | (rw [decide_eq_true q'] at h5;exact absurd h5 (28:))
   | (simp at h5;lia)
 cases hwl with
 | cons w1 w2 =>
  cases w2
  cases w1 with
  | list ho hall=>exact ⟨_,_,ns,rfl,rfl,ho,Y6 ns _ hall,hlen⟩
theorem WM (l:OpenLaw) (args:List WData):l.row.toRowW.claim.post args (.bool true) args=true :=
 postW_of (r:=l.row.toRowW) (X:=(true == true))
  (show WShape.has [] (.bool true) .bool=true by first | rfl | decide | simp [WShape.has,WShape.arms,WShape.armsAll])
  (show (WTm.eq .res (.lit (.bool true))).value [] { args:=args,res:=some (.bool true),after:=args }=some (.bool (true == true)) from w_eq_bool (w_res rfl) w_lit) rfl
theorem attach_call {l:OpenLaw} {n:Nat} {q:Program} {loose:List Str} {XP:(Str→Option Value)→Heap→Prop} {YP:World→Heap→Prop} {d:DefRec}
 (hn:l.most=some n) (hdf:d.params.defaults=[])
 (call:∀ (w:World) (s₀ s₁:Shared) (mg mb:Str→Option Value) (fa:Addr) (o:Obj) (pm cd doc:Value) (a:Addr) (vs:List Value) (ns:List Int),Ground q loose [] XP w s₀ mg mb s₁.heap→YP w s₁.heap →
  s₁.heap.get? fa=some o→o.data=.func (docDef d.name d.params d.body d.scope pm cd doc)→s₁.heap.CodeRec cd d.name→mg d.name=some (.ref fa) →
  s₁.heap.get? a=some { cls:=.type "list", data:=.seq vs.toArray }→IntsAre vs ns→ns.length≤n→s₁.gens=#[] →
  codeAny (model l.prog w) callerA (.call (.ref fa) ⟨[.ref a],[]⟩) (fun r s'=>r=.ok (.ret (.bool true))∧OldK s₁.heap s'.heap∧s'.os=s₁.os∧AllBare s'.gens) s₁) :
 WalkO q loose XP YP l.row.toRowW d [] (fun f vs=>PySem.call f vs):=by
 intro w s₀ s₁ mg mb G Y fa o pm cd doc dV kV ho hd hcd hD hmg hg args vals as hpre hlay hrd hwl hlo
 obtain rfl:dV=.none:=Dflts.none hD hdf
 obtain rfl:kV=.none:=Dflts.noKw hD
 obtain ⟨a,vs,ns,rfl,rfl,hobj,hints,hlen⟩:=WR hn hpre hwl
 refine enter_call (codeAny_mono (call w s₀ s₁ mg mb fa o pm cd doc a vs ns G Y ho (fd_plain hd) hcd hmg hobj hints hlen hg) fun r s' hq=>?_)
 obtain ⟨rfl,h2,h3,h4⟩:=hq
 exact ⟨.inl ⟨.bool true,.bool true,[],rfl,fun _=>rfl,.bool true,WM l _,fun _=>⟨List.Pairwise.nil,fun _ hm=>(nomatch hm)⟩⟩,h2,h3,h4⟩
section
variable {prog:Program} {w:World} {A:Around} {E:Value→Shared→Prop} {s:Shared} {K:Frag}
def OP (h:Heap) (L d:Addr):List (12:):=(List.range h.objs.size).filterMap fun a=>if a=L∨a=d then none else (h.get? a).map fun o=>(a,o)
end
end Att
namespace L2
open PySem PySem.Spec PyProof.Rows
theorem U1:∀ {vs:List Value} {ns:List Int},IntsAre vs ns→Vals (ns.map V.int) vs
 | _,_,.nil=>.nil
 | _,_,.cons n t h=>.cons ⟨t,rfl⟩ (U1 h)
def MU (H:Hp):Prop:=∀ b,H b=none∨∃ o xs,H b=some (.frz o (.lst xs))
theorem Gw {P:Program} {w:World} {K:PySem.W.Frag} {mg mb:Str→Option Value} {CX:CXT} {k:Nat} {fa a:Addr} {fd:FuncData} {x:Str} {sp:Sp} {s₁:Shared} {vs:List Value} {ns:List Int}
 (KX:K.In s₁.heap) (hns:s₁.heap.Ns mainGlobals mg) (hb:s₁.heap.Ns builtinsNs mb) (hbb:∀ x:Str,x ≠ "__name__" → mb x=bootBuiltins x) (hlim:s₁.heap.NoLimit) (hg:s₁.gens=#[])
 (ha:s₁.heap.get? a=some { cls:=.type "list", data:=.seq vs.toArray }) (hi:IntsAre vs ns) (hl:ns.length≤sizeLine) (hr:Room k callerA)
 (F:∀ base:Heap,K.In base→base.Ns mainGlobals mg→FnOk P w K mg base CX k fa fd [x] sp) (hbind:∀ (s:Shared) (u:Value),BindsTo s fd ⟨[u],[]⟩ [(x,u)])
 (hsp:∀ H:Hp,MU H→SqL K H a (ns.map V.int)→sp [.ref a] H (fun v _=>v=.bl true) fun _ _ _=>False)
 (hCX:∀ H e s',CX [] H s₁ (fun _ _ _=>False) e s'→False) :
 codeAny (model P w) callerA (.call (.ref fa) ⟨[.ref a],[]⟩) (fun r s'=>r=.ok (.ret (.bool true))∧OldK s₁.heap s'.heap∧s'.os=s₁.os∧AllBare s'.gens) s₁:=by
 have rv:=U1 hi
 have lenV:=hi.length
 have core:∀ H:Hp,MU H→SqL K H a (ns.map V.int)→HOk P w H s₁.heap→(∀ b,H b≠none→b=a)→(H a≠none→K.lookup a=none) →
  codeAny (model P w) callerA (.call (.ref fa) ⟨[.ref a],[]⟩) (fun r s'=>r=.ok (.ret (.bool true))∧OldK s₁.heap s'.heap∧s'.os=s₁.os∧AllBare s'.gens) s₁:=by
  intro H hO hS hok hA hK
  have base_of:∀ {b:Addr} {o:Obj},s₁.heap.get? b=some o→H b=none→(Jn s₁.heap H).get? b=some o:=fun e n=>Gk e n
  have noA:∀ {b:Addr} {o:Obj} {es:Array DictEntry} {ep:Nat},s₁.heap.get? b=some o→o.data=.dict es ep→H b=none:=fun {b o es ep} e d=>by
   cases q:H b with
   | none=>rfl
   | some u =>
    have e':b=a:=hA b (by rw [q];simp)
    subst e'
    rw [ha] at e;cases e
    have d':Data.seq vs.toArray _=Data.dict es ep:=d
    cases d'
  have nsK:∀ {b:Addr} {m:Str→Option Value},s₁.heap.Ns b m→(Jn s₁.heap H).Ns b m:=fun {b m} ⟨o,es,ep,e,d,r⟩=>⟨o,es,ep,base_of e (noA e d),d,r⟩
  have hKb:K.In (Jn s₁.heap H):=fun b o e=>base_of (KX b o e) (by
   cases q:H b with
   | none=>rfl
   | some u =>
    have e':b=a:=hA b (by rw [q];simp)
    subst e'
    rw [hK (by rw [q];simp)] at e;cases e)
  have hM:Mod K mg (Jn s₁.heap H):=⟨hKb,nsK hns,⟨mb,nsK hb,hbb⟩,let ⟨mc,h1,h2⟩:=hlim;⟨mc,nsK h1,h2⟩⟩
  have e0:Env0 P w K mg (Jn s₁.heap H) callerA [] s₁ H:=⟨rfl,hM,fun b o e=>LJ e,Nat.le_of_eq (Ve _ _),trivial,fun b hb=>absurd (show b ∈ ([]:List Addr) from hb) (by simp),hok,.of_eq hg⟩
  refine codeAny_mono ((F _ hKb (nsK hns)).run callerA [] s₁ H ⟨[.ref a],[]⟩ [.ref a] [.ref a] _ _ hr e0 (hbind s₁ (.ref a)) (.cons rfl .nil) (hsp H hO hS)) fun r s' h=>?_
  cases r with
  | error e=>exact (hCX H e s' h).elim
  | ok fl =>
   cases fl with
   | next=>exact False.elim h
   | brk=>exact False.elim h
   | cont=>exact False.elim h
   | ret u =>
    obtain ⟨v,H',os,bare,un,hok',r',q⟩:=h
    have q':v=.bl true:=q
    subst q'
    obtain rfl:u=Value.bool true:=r'
    refine ⟨rfl,OldK.of_keep fun b o e=>?_,os,bare⟩
    cases q:H b with
    | none=>exact un.keep b o e q (by intro z;exact absurd (show b ∈ ([]:List Addr) from z) (by simp)) (by simp)
    | some u =>
     rcases hO b with z | ⟨ob,xs,z⟩
     ·rw [q] at z;cases z
     ·have z2:=un.frzs b ob _ z
      obtain ⟨e1,_⟩:=hok b _ z
      obtain ⟨e2,_⟩:=hok' b _ z2
      rw [e] at e1;cases e1
      exact e2
 cases hk:K.lookup a with
 | some o =>
  have e:=KX a o hk
  rw [ha] at e
  cases e
  refine core (fun _=>none) (fun _=>.inl rfl) (.inr ⟨_,vs.toArray,_,hk,rfl,rfl,rfl,by rw [List.size_toArray,lenV];exact hl,by simpa using rv⟩) (fun b u z=>by have z':(none:Option HO)=some u:=z;cases z') (fun b z=>absurd rfl z) fun z=>absurd rfl z
 | none =>
  refine core (fun b=>if b=a then some (.frz { cls:=.type "list", data:=.seq vs.toArray } (.lst (ns.map V.int))) else none) (fun b=>?_) (.inl (.inr ⟨{ cls:=.type "list", data:=.seq vs.toArray },if_pos rfl⟩)) (fun b u z=>?_) (fun b z=>?_) fun _=>hk
  ·by_cases hb:b=a
   ·exact .inr ⟨_,_,if_pos hb⟩
   ·exact .inl (if_neg hb)
  ·by_cases hb:b=a
   ·have z':=(if_pos hb).symm.trans z
    cases z'
    subst hb
    exact ⟨ha,by rw [List.length_map];exact hl,vs,_,rv,ha⟩
   ·have z':=(if_neg hb).symm.trans z
    cases z'
  ·by_cases hb:b=a
   ·exact hb
   ·exact absurd (if_neg hb) z
end L2
namespace L2
open PySem PySem.Spec PyProof.Rows
abbrev KOf {K:PySem.W.Frag} {h:Heap} (_:K.In h):PySem.W.Frag:=K
theorem walk_of {l:PySem.W.OpenLaw} {n k:Nat} {q:Program} {loose:List Str} {XP:(Str→Option Value)→Heap→Prop} {YP:World→Heap→Prop} {d:DefRec} {K:Params→PySem.W.Frag} {CX:World→CXT} {sp:World→Sp} {x:Str}
 (hn:l.most=some n) (hn2:n≤sizeLine) (hdf:d.params.defaults=[]) (hr:Room k callerA)
 (hY:∀ (w:World) (h:Heap),YP w h→(K w.params).In h)
 (F:∀ (w:World) (mg:Str→Option Value) (fa:Addr) (h:Heap),(K w.params).In h→h.Ns mainGlobals mg→mg d.name=some (.ref fa) →
  ∃ fd:FuncData,(∀ (s:Shared) (u:Value),BindsTo s fd ⟨[u],[]⟩ [(x,u)]) ∧
   ∀ base:Heap,(K w.params).In base→base.Ns mainGlobals mg→FnOk l.prog w (K w.params) mg base (CX w) k fa fd [x] (sp w))
 (hsp:∀ (w:World) (H:Hp) (a:Addr) (ns:List Int),ns.length≤n→MU H→SqL (K w.params) H a (ns.map V.int)→sp w [.ref a] H (fun v _=>v=.bl true) fun _ _ _=>False)
 (hCX:∀ (w:World) (H:Hp) (s:Shared) (e:Value) (s':Shared),CX w [] H s (fun _ _ _=>False) e s'→False) :
 PySem.W.WalkO q loose XP YP l.row.toRowW d [] (fun f vs=>PySem.call f vs):=by
 refine Att.attach_call hn hdf fun w s₀ s₁ mg mb fa o pm cd doc a vs ns G Y ho hd hcd hmg hobj hints hlen hg=>?_
 have KX:=hY w _ Y
 obtain ⟨fd,hb,hF⟩:=F w mg fa _ KX G.T.g hmg
 exact Gw KX G.T.g G.T.b G.T.builtins G.T.nolimit hg hobj hints (Nat.le_trans hlen hn2) hr hF hb (fun H hO hS=>hsp w H a ns hlen hO hS) fun H e s'=>hCX w H s₁ e s'
end L2
/- THE LAST THEOREM (shape;LID,My.* are yours):
 My.Adr: a structure of the addresses that your layer names (classes,functions);My.Txt K t: a structure (Prop) of the equations over K;
 My.txt_mk:{K} {implicit addresses ..} (e1:nsIn K mainGlobals "law" = some (some (.ref f))) (e2:K.lookup f=some ⟨oc,od,.func (fnOf "law" "law" params body scope dV kV doc pm an cdv ct),sl⟩) (e3:codeIn K cdv "law" = true) .. : ∃ t,My.Txt K t
set_option maxRecDepth 100000 in
set_option maxHeartbeats 0 in
theorem PySem.Challenge.cw_LID_holds : PySem.Challenge.rw_LID.Holds := by
 w_on;o_law;k_head;(case hw=>w_witness2)
 k_fill
 refine L2.walk_of (l:=PySem.Challenge.rw_LID) (n:=63) (k:=40) (x:="script") (CX:=fun w=>..) (sp:=fun _=>My.sp_law) rfl (28:) rfl ⟨rfl,by decide,by decide⟩ (fun w h Y=>PySem.W.kIn_of Y) ?F ?S ?C
 case F =>
  intro w mg fa h KX G hmg
  have T:∃ t,My.Txt (L2.KOf KX) t:=by
   dsimp only [L2.KOf]                          -- K must stand as «<heap const> w.params» for k_is
   refine' My.txt_mk ?e1 ?e2 ?e3 ..
   (case e1=>PySem.W.k_is)                    -- in the order: a name -> its address -> its object -> its parts
   (case e2=>PySem.W.k_is)
   ..
  obtain ⟨t,T⟩:=T
  have e0:=hmg.symm.trans (PySem.W.mg_of KX G T.law)
  cases e0                                       -- fa is the law's own address
  exact ⟨_,fun s u=>.of_eq rfl,fun base kb nb=>My.law_fn T kb nb⟩     -- if «.of_eq rfl» comes too early: refine' ⟨_,?b,fun base kb nb=>My.law_fn T kb nb⟩;exact fun s u=>.of_eq rfl
 case S=>exact fun w H a ns hl hO hS=>..
 case C=>exact ..
(the tactic k_is has no namespace: write k_is) -/
namespace L2
open PySem PySem.Spec PyProof.Rows
def defArgs (s:Stmt):Arguments:=match s with
 | .FunctionDef _ a _ _ _ _ _ _ _ _=>a
 | _=>{ posonlyargs:=[],args:=[],vararg:=none,kwonlyargs:=[],kw_defaults:=[],kwarg:=none,defaults:=[] }
def defBody (s:Stmt):List Stmt:=match s with
 | .FunctionDef _ _ b _ _ _ _ _ _ _=>b
 | _=>[]
def defScope (s:Stmt):Scope:=match s with
 | .FunctionDef _ _ _ _ _ _ sc _ _ _=>sc
 | _=>{ kind:=.function,names:=[],isGenerator:=false,isCoroutine:=false }
abbrev CX0:CXT:=fun _ _ _ _ _ _=>False
abbrev E0:XK:=fun _ _ _=>False
theorem NV {X:Cx}:XJ CX0 X E0:=fun _ _ _ _ _ _ _ h=>h.elim
structure Fun (K:PySem.W.Frag) (x qual:Str) (st:Stmt) (f:Addr) (fd:FuncData):Prop where
 ex:∃ (oc:Value) (od:Option Addr) (kV doc pm:Value) (an:Option Addr) (cdv ct:Value) (osl:Array (Option Value)),
  fd=PySem.W.fnOf x qual (defArgs st) (defBody st) (defScope st) .none kV doc pm an cdv ct∧K.lookup f=some ⟨oc,od,.func fd,osl⟩∧PySem.W.codeIn K cdv qual=true
 kp:PySem.W.keepIn K (.ref f)=true
section
variable {P:Program} {w:World} {K:PySem.W.Frag} {mg:Str→Option Value} {base:Heap}
theorem Fun.ok {x qual:Str} {st:Stmt} {f:Addr} {fd:FuncData} {N ps:List Str} {k:Nat} {sp:Sp} (F:Fun K x qual st f fd) (S:FnScope N ps (defScope st)) (len:∀ vs H Q E,sp vs H Q E→vs.length=ps.length)
 (hbody:∀ (cdv:Value) (A:Around) (outer:List Env) (s:Shared) (H:Hp) (vs:List V) (Q:VK) (E:XK),Room k (A.deeper (envOfC qual (defScope st) s.heap.objs.size f cdv))→sp vs H Q E →
  ∃ t,PSs (Xs CX0 P w K mg base N qual (defScope st) f cdv A outer s H E).nox (defBody st) t∧t { nx:=fun _ H'=>Q .non H',rt:=Q } (Yo N vs) H):FnOk P w K mg base CX0 (k + 1) f fd ps sp:=by
 obtain ⟨oc,od,kV,doc,pm,an,cdv,ct,osl,rfl,lk,hcd⟩:=F.ex
 refine L9 lk hcd S len fun A outer s H vs Q E hr hsp=>?_
 obtain ⟨t,h,q⟩:=hbody cdv A outer s H vs Q E hr hsp
 exact ⟨t,h.nox,q⟩
theorem Fun.binds {x qual:Str} {st:Stmt} {f:Addr} {fd:FuncData} {ps:List Str} (F:Fun K x qual st f fd)
 (h:∀ (kV doc pm:Value) (an:Option Addr) (cdv ct:Value) (us:List Value),us.length=ps.length→bindArgs (PySem.W.fnOf x qual (defArgs st) (defBody st) (defScope st) .none kV doc pm an cdv ct) ⟨us,[]⟩=pure (ps.zip us)):Binds K fd ps []:=by
 obtain ⟨oc,od,kV,doc,pm,an,cdv,ct,osl,rfl,lk,hcd⟩:=F.ex
 exact .all (h kV doc pm an cdv ct)
theorem Ze {x qual:Str} {st:Stmt} {f:Addr} {oc:Value} {od an:Option Addr} {osl:Array (Option Value)} {kV doc pm cdv ct:Value} (l:K.lookup f=some ⟨oc,od,.func (PySem.W.fnOf x qual (defArgs st) (defBody st) (defScope st) .none kV doc pm an cdv ct),osl⟩)
 (c:PySem.W.codeIn K cdv qual=true) (k:PySem.W.keepIn K (.ref f)=true):Fun K x qual st f (PySem.W.fnOf x qual (defArgs st) (defBody st) (defScope st) .none kV doc pm an cdv ct):=⟨⟨oc,od,kV,doc,pm,an,cdv,ct,osl,rfl,l,c⟩,k⟩
end
section
variable {X:Cx}
theorem pv (i:Nat) {x:Str} {pos:Pos} (hN:X.N[i]?=some x:=by rfl) (hv:Vis X.env.scope x:=by first | exact Or.inl rfl | exact Or.inr (13:) | exact Or.inr (Or.inr rfl)) (hd:(52:)=false:=by decide)
 (hcd:(x == ("__classdict__" : Str))=false:=by decide):PE X (.Name x pos) (Q6 i):=VP hN hv hd hcd
end
theorem Zj {A B:Prop} (h:B):if false=true then A else B:=by
 rw [if_neg Bool.false_ne_true]
 exact h
theorem QH {A B:Prop} (h:A):if true=true then A else B:=by
 rw [if_pos rfl]
 exact h
theorem ZZ {c A B:Prop} [Decidable c] (h1:c→A) (h2:¬ c→B):if c then A else B:=by
 by_cases h:c
 ·rw [if_pos h]
  exact h1 h
 ·rw [if_neg h]
  exact h2 h
theorem Oj {c A B:Prop} [Decidable c] (hc:c) (h:B):if (!decide c)=true then A else B:=by
 rw [decide_eq_true hc]
 exact Zj h
def Same (H H':Hp):Prop:=∀ b o,H b=some o→H' b=some o
theorem Same.refl (H:Hp):Same H H:=fun _ _ h=>h
theorem Same.trans {H H1 H2:Hp} (a:Same H H1) (b:Same H1 H2):Same H H2:=fun c o h=>b c o (a c o h)
theorem Same.free {H H':Hp} (e:Same H H') {l:Addr} (h:H' l=Option.none):H l=Option.none:=by
 cases q:H l with
 | none=>rfl
 | some o =>
  rw [e l o q] at h
  cases h
theorem Same.seq {K:PySem.W.Frag} {H H':Hp} {a:Addr} {xs:List V} (e:Same H H') (h:SqL K H a xs):SqL K H' a xs:=by
 rcases h with (h | ⟨o,h⟩) | h
 ·exact .inl (.inl (e _ _ h))
 ·exact .inl (.inr ⟨o,e _ _ h⟩)
 ·exact .inr h
end L2
set_option maxHeartbeats 4000000
namespace L2
open PySem PySem.Spec PyProof.Rows
section
variable {X:Cx}
theorem Xm:ZC X (.builtin "isinstance") (fun xs H Q=>∃ x T t b,xs=[x,.ty T]∧TyOf X.K H x t∧PySem.W.kitOne X.K t (.type T)=some b∧Q (.bl b) H):=by
 intro pins s σ H xs us Q I r h
 obtain ⟨x,T,t,b,rfl,ty,e,q⟩:=h
 obtain ⟨u,c,rfl,rx,rc⟩:=OC r
 cases (show c=Value.type T from rc)
 exact WJ I rx ty e fun tk=>⟨.bl b,H,I.tok tk,rfl,q⟩
end
section
variable {X:Cx}
def WY (z:Str) (lo hi:Option Int):Str:=⟨((z.cps.toList.drop (HT.sIx z.length 0 lo)).take (HT.sIx z.length z.length hi - HT.sIx z.length 0 lo)).toArray⟩
end
mutual
inductive RdV (K:PySem.W.Frag) (H:Hp):V→PyData→Prop where
 | non:RdV K H .non .none
 | bl (b:Bool):RdV K H (.bl b) (.bool b)
 | int (i:Int):RdV K H (.int i) (.int i)
 | str (x:Str):RdV K H (.str x) (.str x)
 | lst {a:Addr} {xs:List V} {ds:List PyData}:SqL K H a xs→RdAll K H xs ds→RdV K H (.ref a) (.list ds)
 | tup {a:Addr} {xs:List V} {ds:List PyData}:SqT K H a xs→RdAll K H xs ds→RdV K H (.ref a) (.tuple ds)
inductive RdAll (K:PySem.W.Frag) (H:Hp):List V→List PyData→Prop where
 | nil:RdAll K H [] []
 | cons {v:V} {vs:List V} {d:PyData} {ds:List PyData}:RdV K H v d→RdAll K H vs ds→RdAll K H (v :: vs) (d :: ds)
end
section
variable {X:Cx} {pins:List (12:)} {σ:St} {H:Hp} {s:Shared}
mutual
theorem RdV.reads (I:Inv X pins σ H s):∀ {v:V} {d:PyData} {u:Value},RdV X.K H v d→RelV v u→∃ as,Reads s.heap u d as
 | _,_,u,.non,r=>by cases (show u=Value.none from r);exact ⟨_,.none⟩
 | _,_,u,.bl b,r=>by cases (show u=Value.bool b from r);exact ⟨_,.bool b⟩
 | _,_,u,.int i,r=>by obtain ⟨t,e⟩:=(show ∃ t,u=Value.int i t from r);cases e;exact ⟨_,.int i t⟩
 | _,_,u,.str x,r=>by obtain ⟨t,e⟩:=(show ∃ t,u=Value.str x t from r);cases e;exact ⟨_,.str x t⟩
 | _,_,u,@RdV.lst _ _ a xs ds hq hr,r=>by
  cases (show u=Value.ref a from r)
  obtain ⟨its,rv,⟨o,n,e,c,_,dt⟩,_⟩:=I.list hq
  obtain ⟨as,q⟩:=RdAll.reads I hr rv
  exact ⟨_,.list e c dt (by simpa using q)⟩
 | _,_,u,@RdV.tup _ _ a xs ds hq hr,r=>by
  cases (show u=Value.ref a from r)
  obtain ⟨its,rv,⟨o,e,c,n,dt⟩,_⟩:=I.tuple hq
  obtain ⟨as,q⟩:=RdAll.reads I hr rv
  exact ⟨_,.tuple e c dt (by simpa using q)⟩
theorem RdAll.reads (I:Inv X pins σ H s):∀ {vs:List V} {ds:List PyData} {us:List Value},RdAll X.K H vs ds→Vals vs us→∃ as,ReadsAll s.heap us ds as
 | _,_,_,.nil,r=>by cases r;exact ⟨_,.nil⟩
 | _,_,_,.cons h t,r=>by
  cases r with
  | cons r1 r2 =>
   obtain ⟨as,q⟩:=RdV.reads I h r1
   obtain ⟨bs,q2⟩:=RdAll.reads I t r2
   exact ⟨_,.cons q q2⟩
end
end
section
variable {X:Cx}
def Ld (K:PySem.W.Frag) (A:Around) (neg:Bool):R2:=fun x y H Q=>∃ d e:PyData,RdV K H x d∧RdV K H y e∧d.canLay0=true∧e.canLay0=true∧A.units + min d.depth e.depth < cLine∧Q (.bl (if neg then !PyData.eqv d e else PyData.eqv d e)) H
theorem Jj:OpR X (compareOp .Eq) (Ld X.K X.A false):=by
 intro pins s σ H x y v u Q I rx ry h
 obtain ⟨d,e,hd,he,cd,ce,hu,q⟩:=h
 obtain ⟨as,q1⟩:=hd.reads I rx
 obtain ⟨bs,q2⟩:=he.reads I ry
 exact SeqAt.compareEq_reads q1 q2 cd ce hu ⟨.bl _,H,I,rfl,q⟩
theorem XM:OpR X (compareOp .NotEq) (Ld X.K X.A true):=by
 intro pins s σ H x y v u Q I rx ry h
 obtain ⟨d,e,hd,he,cd,ce,hu,q⟩:=h
 obtain ⟨as,q1⟩:=hd.reads I rx
 obtain ⟨bs,q2⟩:=he.reads I ry
 exact SeqAt.compareNe_reads q1 q2 cd ce hu ⟨.bl _,H,I,rfl,q⟩
end
mutual
theorem Z6:∀ d:PyData,d.canLay0=true→PyData.eqv d d=true
 | .none,_=>by simp [PyData.eqv]
 | .bool _,_=>by simp [PyData.eqv]
 | .int _,_=>by simp [PyData.eqv]
 | .str _,_=>by simp [PyData.eqv]
 | .list xs,h=>by
  simp only [PyData.eqv]
  exact Z7 xs (by simpa [PyData.canLay0] using h)
 | .tuple xs,h=>by
  simp only [PyData.eqv]
  exact Z7 xs (by simpa [PyData.canLay0] using h)
 | .dict _,h=>by simp [PyData.canLay0] at h
theorem Z7:∀ ds:List PyData,PyData.canLayAll0 ds=true→PyData.eqvAll ds ds=true
 | [],_=>by simp [PyData.eqvAll]
 | d :: ds,h=>by
  simp only [PyData.canLayAll0,Bool.and_eq_true] at h
  simp only [PyData.eqvAll,Bool.and_eq_true]
  exact ⟨Z6 d h.1,Z7 ds h.2⟩
end
end L2
namespace L2
open PySem PySem.Spec PyProof.Rows
structure Fn (P:Program) (w:World) (K:PySem.W.Frag) (mg:Str→Option Value) (base:Heap) (k:Nat) (x:Str) (ps:List Str) (sp:Sp):Prop where
 ex:∃ (f:Addr) (fd:FuncData),FnOk P w K mg base CX0 k f fd ps sp∧Binds K fd ps []∧PySem.W.keepIn K (.ref f)=true∧mg x=some (.ref f)
theorem Qn {X:Cx} {k k':Nat} {x:Str} {ps:List Str} {sp:Sp} {p pos:Pos} {e:Expr} {es:List Expr} {t:TA} (F:Fn X.prog X.w X.K X.mg X.base k x ps sp) (hr:Room k' X.A) (ha:PA X (e :: es) t) (hk:k≤k':=by decide) (hg:Gl X x:=by rfl)
 (hdb:(52:)=false:=by decide) (he:starEach (e :: es) X.env=(false,eval e X.env) :: starEach es X.env:=by rfl) (hpl:(backTo pos (starEach es X.env)).any (·.1)=false:=by rfl) :
 PE X (.Call (.Name x p) (e :: es) [] pos) (Zz sp [] E0 t):=by
 obtain ⟨f,fd,h1,h2,h3,h4⟩:=F.ex
 exact G7 h1 (hr.mono hk) hg h4 h3 h2 .nil NV ha hdb he hpl
theorem JB {c A B:Prop} [Decidable c] (hc:c) (h:A):if decide c=true then A else B:=by
 rw [decide_eq_true hc]
 exact QH h
theorem JX {c A B:Prop} [Decidable c] (hc:¬ c) (h:B):if decide c=true then A else B:=by
 rw [decide_eq_false hc]
 exact Zj h
theorem MC {b:Bool} {A B:Prop} (h1:b=true→A) (h2:b=false→B):if b=true then A else B:=by
 cases b with
 | true=>exact QH (h1 rfl)
 | false=>exact Zj (h2 rfl)
theorem Qe {H:Hp} {p:Addr} (h:H p=Option.none) (o:HO):Same H (upd H p o):=fun b u q=>by rw [Qi (Qg q h)];exact q
def S (l:List Nat):Str:=⟨l.toArray⟩
theorem Gu (l:List Nat):(S l).cps.toList=l:=by simp [S]
theorem GE (l:List Nat):(S l).length=l.length:=by simp [S,Str.length]
theorem NS {a b:List Nat} (h:S a=S b):a=b:=by
 have:=congrArg (fun z:Str=>z.cps.toList) h
 simpa [Gu] using this
theorem Of (a b:List Nat):S a ++ S b=S (a ++ b):=by
 show Str.append (S a) (S b)=S (a ++ b)
 simp [Str.append,S]
end L2
namespace L2
open PySem PySem.Spec PyProof.Rows
def M9 (t:TS):TS:=fun D σ H=>∃ R:St→Hp→Prop,t { D with nx:=R } σ H∧∀ σ' H',R σ' H'→D.nx σ' H'
theorem Qz {X:Cx} {st:Stmt} {t:TS} (h:PS X st t):PS X st (M9 t):=by
 intro pins s σ H D I hw
 obtain ⟨R,h1,h2⟩:=hw
 refine thn (h pins s σ H { D with nx:=R } I h1) fun f s1 q=>?_
 cases f with
 | next =>
  obtain ⟨σ',H',I',q⟩:=q
  exact ⟨σ',H',I',h2 _ _ q⟩
 | brk=>exact q
 | cont=>exact q
 | ret v=>exact q
theorem Yq:∀ xs:List Str,PyData.depthAll (xs.map PyData.str)=0
 | []=>by simp [PyData.depthAll]
 | x :: r=>by simp [PyData.depthAll,PyData.depth,Yq r]
end L2
namespace L2
open PySem PySem.Spec PyProof.Rows
structure DefAt (K:PySem.W.Frag) (x:Str) (st:Stmt):Prop where
 ex:∃ (f:Addr) (oc:Value) (od:Option Addr) (kV doc pm:Value) (an:Option Addr) (cdv ct:Value) (osl:Array (Option Value)),
  PySem.W.nsIn K mainGlobals x=some (some (.ref f))∧K.lookup f=some ⟨oc,od,.func (PySem.W.fnOf x x (defArgs st) (defBody st) (defScope st) .none kV doc pm an cdv ct),osl⟩∧PySem.W.codeIn K cdv x=true∧PySem.W.keepIn K (.ref f)=true
theorem DefAt.mk' {K:PySem.W.Frag} {x:Str} {st:Stmt} {f:Addr} {oc:Value} {od:Option Addr} {kV doc pm:Value} {an:Option Addr} {cdv ct:Value} {osl:Array (Option Value)}
 (a:PySem.W.nsIn K mainGlobals x=some (some (.ref f))) (l:K.lookup f=some ⟨oc,od,.func (PySem.W.fnOf x x (defArgs st) (defBody st) (defScope st) .none kV doc pm an cdv ct),osl⟩) (c:PySem.W.codeIn K cdv x=true) (k:PySem.W.keepIn K (.ref f)=true):DefAt K x st :=
 ⟨f,oc,od,kV,doc,pm,an,cdv,ct,osl,a,l,c,k⟩
theorem DefAt.fn {P:Program} {w:World} {K:PySem.W.Frag} {mg:Str→Option Value} {base h:Heap} {k:Nat} {x:Str} {st:Stmt} {ps:List Str} {sp:Sp} (D:DefAt K x st) (X:K.In h) (G:h.Ns mainGlobals mg)
 (ok:∀ (f:Addr) (fd:FuncData),Fun K x x st f fd→FnOk P w K mg base CX0 k f fd ps sp)
 (hb:∀ (kV doc pm:Value) (an:Option Addr) (cdv ct:Value) (us:List Value),us.length=ps.length→bindArgs (PySem.W.fnOf x x (defArgs st) (defBody st) (defScope st) .none kV doc pm an cdv ct) ⟨us,[]⟩=pure (ps.zip us)):Fn P w K mg base k x ps sp:=by
 obtain ⟨f,oc,od,kV,doc,pm,an,cdv,ct,osl,a,l,c,kp⟩:=D.ex
 have F:=Ze (st:=st) l c kp
 exact ⟨f,_,ok f _ F,F.binds hb,kp,PySem.W.mg_of X G a⟩
end L2
namespace L2
open PySem PySem.Spec PyProof.Rows
section
variable {X:Cx}
def Op (K:PySem.W.Frag):R2:=fun x y H Q=>∃ a b xs ys,x=.ref a∧y=.ref b∧SqT K H a xs∧SqT K H b ys∧xs.length + ys.length≤sizeLine ∧
 ∀ p H',Same H H'→SqT K H' p (xs ++ ys)→Q (.ref p) H'
theorem Ly:OpR X (binaryOp .Add) (Op X.K):=by
 intro pins s σ H x y v u Q I rx ry h
 obtain ⟨a,b,xs,ys,e1,e2,ha,hb,hz,q⟩:=h
 by_cases hx:xs=[]
 ·subst e1;subst e2;subst hx
  cases (show v=Value.ref a from rx)
  cases (show u=Value.ref b from ry)
  obtain ⟨its,r1,p1,_⟩:=I.tuple ha
  obtain ⟨its2,r2,p2,_⟩:=I.tuple hb
  cases r1
  obtain ⟨⟨cls,dd,data,sl⟩,ho,hc,n,hd⟩:=id p1
  obtain ⟨⟨cls2,dd2,data2,sl2⟩,ho2,hc2,n2,hd2⟩:=id p2
  simp only at hc hd hc2 hd2
  subst hc hd hc2 hd2
  exact concat_meets ⟨_,ho,rfl⟩ ⟨_,ho2,rfl⟩ noFill_tuple_add seq_tuple_add PySem.F.slot_tuple_add PySem.F.entry_tuple_add (PySem.F.args_tuple_add_2 _ _)
   (tuple_addW0 a b _ its2.toArray n n2 dd dd2 sl sl2 rfl) ⟨ho,ho2,⟨.ref b,H,I,rfl,q b H (Same.refl H) (by simpa using hb)⟩⟩
 ·refine LZ pins s σ H x y v u Q I rx ry ⟨a,b,xs,ys,e1,e2,ha,hb,hx,hz,fun hy=>?_,fun hy p hp=>?_⟩
  ·subst hy
   exact q a H (Same.refl H) (by simpa using ha)
  ·exact q p _ (Qe hp _) (42:)
theorem Same.seqT {K:PySem.W.Frag} {H H':Hp} {a:Addr} {xs:List V} (e:Same H H') (h:SqT K H a xs):SqT K H' a xs:=by
 rcases h with (h | ⟨o,h⟩) | h
 ·exact .inl (.inl (e _ _ h))
 ·exact .inl (.inr ⟨o,e _ _ h⟩)
 ·exact .inr h
end
section
variable {X:Cx} {tg:Expr}
end
end L2
namespace L2
open PySem PySem.Spec PyProof.Rows
def OH (K:PySem.W.Frag):R2:=fun x y H Q=>∃ l b xs zs,x=.ref l∧y=.ref b∧SqL K H l xs∧SqL K H b zs∧xs.length + zs.length≤sizeLine∧∀ p,H p=none→Q (.ref p) (upd H p (.lst (xs ++ zs)))
theorem ZX {X:Cx}:OpR X (binaryOp .Add) (OH X.K):=by
 intro pins s σ H x y v u Q I rx ry h
 obtain ⟨l,b,xs,zs,rfl,rfl,ha,hb,hz,q⟩:=h
 cases rx
 cases ry
 obtain ⟨its,r1,⟨⟨c1,d1,t1,s1⟩,n1,g1,e1,f1,k1⟩,_⟩:=I.list ha
 obtain ⟨its2,r2,⟨⟨c2,d2,t2,s2⟩,n2,g2,e2,f2,k2⟩,_⟩:=I.list hb
 simp only at e1 f1 k1 e2 f2 k2
 subst e1 f1 k1 e2 f2 k2
 have l1:=r1.length
 have l2:=r2.length
 refine concat_meets ⟨_,g1,rfl⟩ ⟨_,g2,rfl⟩ noFill_list_add seq_list_add PySem.F.slot_list_add PySem.F.entry_list_add (PySem.F.args_list_add_2 _ _) (list_addW l b _ _ n1 n2 none none s1 s2 (by rw [List.size_toArray,List.size_toArray];lia)) ⟨g1,g2,?_⟩
 have ea:its.toArray ++ its2.toArray=(its ++ its2).toArray:=by simp
 rw [ea]
 exact ⟨.ref _,_,I.lnew (t':=s.toks) (r1.append r2) (by rw [List.length_append];lia),rfl,q _ I.fresh⟩
theorem Lj (xs:List V) (k:Nat):cutV xs (some (k:Int)) none=xs.drop k:=by
 unfold cutV
 rw [HT.sIx_none,HT.sIx_nat]
 by_cases h:k≤xs.length
 ·rw [Nat.min_eq_left h]
  exact List.take_of_length_le (by rw [List.length_drop];lia)
 ·rw [Nat.min_eq_right (7:),List.drop_of_length_le (9:),List.drop_of_length_le (7:),List.take_nil]
theorem Ma (xs:List V) (k:Nat):cutV xs none (some (k:Int))=xs.take k:=by
 unfold cutV
 rw [HT.sIx_none,HT.sIx_nat,List.drop_zero,Nat.sub_zero]
 by_cases h:k≤xs.length
 ·rw [Nat.min_eq_left h]
 ·rw [Nat.min_eq_right (7:),List.take_of_length_le (9:),List.take_of_length_le (7:)]
theorem Uf {n k:Nat} (h:k < n):ixN n (k:Int)=some k:=by
 unfold ixN
 rw [if_pos (7:),if_pos (7:)];simp
theorem QZ:sizeLine=16777216:=by decide
theorem Zk {n:Nat} (h:n≤5000):n≤sizeLine:=by rw [QZ];lia
end L2
namespace L2
open PySem PySem.Spec PyProof.Rows
def QE (X:Cx) (N':List Str) (scope:Scope) (cl:List (Str × Addr)) (C:Addr) (fp:List Addr) (s₀:Shared) (H₀:Hp):Cx :=
 { X with N:=N',s₀:=s₀,H₀:=H₀,env:=compEnvC scope cl C X.env,outer:=X.stack,ex:=fp,fn:=fun _=>false,pn:=[],xe:=fun _ _=>False }
def PF (X:Cx) (ifs:List Expr) (t:TT):Prop :=
 ∀ (pins:List (12:)) (s:Shared) (σ:St) (H:Hp) (Q:Bool→Hp→Prop),Inv X pins σ H s→t σ H Q →
  wpAny (8:) X.A (forIn ifs true fun c r=>if r=true then do let ok ← isTrue c X.env (eval c X.env);pure (ForInStep.yield ok) else pure (ForInStep.yield r)) (TP X pins σ Q) X.xe s
theorem QF {X:Cx}:PF X [] (fun _ H Q=>Q true H):=by
 intro pins s σ H Q I h
 rw [List.forIn_nil]
 exact wpAny_pure ⟨H,I,h⟩
theorem Jv {X:Cx} {c:Expr} {t:TT} (hc:PT X c t):PF X [c] t:=by
 intro pins s σ H Q I h
 rw [List.forIn_cons]
 refine wpAny_bind ?_
 rw [if_pos rfl]
 refine wpAny_bind (thn (hc pins s σ H Q I h) fun ok s1 q=>wpAny_pure ?_)
 dsimp only
 rw [List.forIn_nil]
 exact wpAny_pure q
def Mg (wi:TI) (cap:List Nat) (tt:TT) (te:TE):TE:=fun σ H Q=>wi σ H fun J H1=>∀ acc,H1 acc=none→∃ W:Nat→Nat→Hp→Prop,(∃ m,W 0 m (59:))∧∀ i m H2,W i m H2 →
 (J.stop i H2∧Q (.ref acc) H2)∨(J.go i H2∧∀ x H3,J.yld i H2 x H3→tt (some x :: cap.map fun j=>(σ[j]?).getD none) H3 fun ok H4=>if ok=true then
  te (some x :: cap.map fun j=>(σ[j]?).getD none) H4 (fun y H5=>∃ ys,H5 acc=some (.lst ys)∧ys.length < sizeLine∧∃ m',m' < m∧W (i + 1) m' (upd H5 acc (.lst (ys ++ [y]))))
  else ∃ m',m' < m∧W (i + 1) m' H4)
structure CompOk (X:Cx) (x:Str) (caps:List Str) (cap:List Nat) (scope:Scope) (cl:List (Str × Addr)):Prop where
 clos:closureFor scope X.env=pure cl
 cell:∀ y ∈ scope.names,y.2≠.cell
 kind:scope.kind=.function
 names:∀ y ∈ scope.names,y.2=.local→scope.names.lookup y.1=some .local
 lx:scope.names.lookup x=some .local
 nd:(x :: caps).Nodup
 from_:∀ y c,cl.lookup y=some c→X.env.cells.lookup y=some c
 has:∀ y,((relabel scope X.env).names.lookup y=some .cell∨(relabel scope X.env).names.lookup y=some .free)→∃ c,cl.lookup y=some c
 len:cap.length=caps.length
 cps:∀ (i:Nat) (y:Str),caps[i]?=some y→∃ j,cap[i]?=some j∧X.N[j]?=some y∧X.env.scope.names.lookup y=some .cell∧(relabel scope X.env).names.lookup y=some .cell
structure OwnAt (X:Cx) (pins:List (12:)) (H:Hp) (s:Shared) (C:Addr):Prop where
 ns:∃ m,s.heap.Ns C m
 free:H C=none
 loc:C≠X.env.locals
 above:X.s₀.heap.objs.size≤C
 cells:∀ x c,X.env.cells.lookup x=some c→c≠C
 pins:∀ p ∈ X.pn ++ pins,p.1≠C
theorem Va {X:Cx} {elt iter:Expr} {x:Str} {px:Pos} {ifs:List Expr} {scope:Scope} {pos pos':Pos} {wi:TI} {tt:TT} {te:TE} {cl:List (Str × Addr)} {caps:List Str} {cap:List Nat}
 (O:CompOk X x caps cap scope cl) (hc:X.calm=true) (hi:PI X (.Name x px) iter wi)
 (ht:∀ C fp s₀ H₀,PF (QE X (x :: caps) scope cl C fp s₀ H₀) ifs tt) (he:∀ C fp s₀ H₀,PE (QE X (x :: caps) scope cl C fp s₀ H₀) elt te)
 (hs:∀ x,foldedSetIterable iter X.env x=pure x) {pins:List (12:)} {s:Shared} {σ:St} {H:Hp} {Q:VK} {use:Option (Value→Sem Unit)} {QQ:Value→Shared→Prop} (I:Inv X pins σ H s)
 (h:Mg wi cap tt te σ H Q)
 (hfin:∀ D C H' s',Inv X pins σ H' s'→OwnAt X pins H' s' C→Q (.ref D) H'→compPost (8:) X.A X.xe use QQ (.ref D) C (.ok .next) s') :
 wpAny (8:) X.A (comprehension (.ListComp elt [⟨.Name x px,iter,ifs,0⟩] scope pos) scope X.env pos' (newList []) false (eval iter X.env) use) QQ X.xe s:=by
 refine wpAny_comprehension_free rfl hs O.clos O.kind O.names (thn (hi pins s σ H _ I h) fun v s1 h1=>thn h1 fun itv s2 h2=>?_)
 obtain ⟨it,fp,tn,J,H1,e,I2,T,t0,f2,hR⟩:=h2
 subst e
 refine wpAny_newObj_type (wpAny_newFunctionEnv O.cell (by intro y hy;simp at hy) (fun h₁ hns hsb=>?_) O.kind)
 have hacc:H1 s2.heap.objs.size=none:=I2.fresh
 obtain ⟨W,⟨m0,w0⟩,turn⟩:=hR s2.heap.objs.size hacc
 have I3:Inv X pins σ (upd H1 s2.heap.objs.size (.lst [])) { s2 with heap:=s2.heap.push { cls:=.type "list", data:=.seq ([]:List Value).toArray } }:=I2.lnew (t':=s2.toks) (ys:=[]) (its:=[]) .nil (Nat.zero_le _)
 generalize hs3:({ s2 with heap:=s2.heap.push { cls:=.type "list", data:=.seq ([]:List Value).toArray } }:Shared)=s3 at hns hsb I3 ⊢
 generalize hD:s2.heap.objs.size=D at I3 w0 turn hacc ⊢
 generalize hH3:upd H1 D (.lst [])=H3 at I3 w0
 have keep3:∀ b o,s3.heap.get? b=some o→h₁.get? b=some o:=fun b o e=>(hsb.2 b (Nat.ne_of_lt (Heap.lt_size e))).trans (Heap.get?_push_of_some _ e)
 have hfp3:∀ b ∈ fp,H3 b=none:=fun b hb=>by
  rw [← hH3,Qi]
  ·exact (f2 b hb).1
  ·intro z
   obtain ⟨o,e,_⟩:=T.obj _ _ t0 b hb
   exact absurd (Heap.lt_size e) (by rw [z,hD];exact Nat.lt_irrefl _)
 have hCfresh:H3 s3.heap.objs.size=none:=I3.fresh
 have hCfp:∀ b ∈ fp,b≠s3.heap.objs.size:=fun b hb z=>by
  obtain ⟨o,e,_⟩:=T.obj _ _ t0 b hb
  have h2:s3.heap.objs.size=s2.heap.objs.size + 1:=by rw [← hs3];exact Heap.size_push ..
  exact absurd (Heap.lt_size e) (by rw [z,h2];exact Nat.not_lt.mpr (Nat.le_succ _))
 have t3:tn 0 h₁:=T.keep _ _ _ t0 fun b hb o e=>keep3 b o (by rw [← hs3];exact Heap.get?_push_of_some _ e)
 have ok':(16:).Ok:=by
  refine ⟨I3.ok.mod,O.kind,I3.ok.glob,I3.ok.blt,Nat.le_refl _,fun y z c e1 e2=>I3.ok.inj y z c (O.from_ y c e1) (O.from_ z c e2),fun y hy=>O.has y hy,fun y c z _=>(nomatch z),I3.ok.hd,I3.ok.frames,.inl rfl,fun b hb=>⟨hCfp b hb,fun y c e=>?_⟩,I3.bs,Nat.le_trans I3.ok.bsz I3.sz,fun b o e hb=>?_,fun b hb z=>?_,I3.stack,I3.stkFree⟩
  ·exact (f2 b hb).2.2.2.2.1 y c (O.from_ y c e)
  ·rcases (f2 b hb).2.2.2.1 with q | q
   ·exact I3.ok.noex b o e q
   ·exact absurd (Nat.lt_of_lt_of_le (Heap.lt_size e) (Nat.le_trans I3.ok.bsz q)) (Nat.lt_irrefl _)
  ·rcases List.mem_cons.mp (I3.stkSub b z) with q | q
   ·exact (f2 b hb).2.1 q
   ·exact (f2 b hb).2.2.1 q
 have I4:Inv (16:) [] (none :: cap.map fun j=>(σ[j]?).getD none) H3 { s3 with heap:=h₁,toks:=s3.toks + ([]:List (Str × Value)).length }:=by
  obtain ⟨m,hn,hl⟩:=id I3.loc
  refine ⟨ok',rfl,I3.bare,Un.kept keep3,⟨_,hns,fun i y v e1 e2 e3=>?_⟩,fun y c e=>?_,hCfresh,fun y c e=>I3.freeC y c (O.from_ y c e),fun p hp=>(nomatch hp),I3.hok.kept keep3,?_⟩
  ·cases i with
   | zero=>simp at e2
   | succ i =>
    have e1':caps[i]?=some y:=by
     have e1'':(x :: caps)[i + 1]?=some y:=e1
     simpa using e1''
    obtain ⟨j,hj,hN,hk,hk'⟩:=O.cps i y e1'
    have e2':(σ[j]?).getD none=some v:=by simpa [hj] using e2
    have e2'':σ[j]?=some (some v):=by
     cases q:σ[j]? with
     | none=>rw [q] at e2';cases e2'
     | some a=>rw [q] at e2';exact congrArg some e2'
    obtain ⟨u,r,l⟩:=hl j y v hN e2'' (.inr (.inl hk))
    refine ⟨u,r,?_⟩
    rcases l with ⟨k,_⟩ | ⟨k,c,e,z⟩
    ·have k':X.env.scope.names.lookup y=some .local:=k
     rw [hk] at k';cases k'
    ·obtain ⟨c',hc'⟩:=O.has y (.inl hk')
     have:c'=c:=Option.some.inj ((O.from_ y c' hc').symm.trans e)
     subst this
     refine .inr ⟨.inl hk',c',hc',?_⟩
     obtain ⟨o,ho,hd⟩:=z
     exact ⟨o,keep3 _ _ ho,hd⟩
  ·obtain ⟨v,o,ho,hd⟩:=I3.cell y c (O.from_ y c e)
   exact ⟨v,o,keep3 _ _ ho,hd⟩
  ·show (none :: cap.map _).length=(x :: caps).length
   simp [O.len]
 have fin:∀ (H':Hp) (σ':St) (s':Shared),Inv (16:) [] σ' H' s'→Q (.ref D) H' →
  compPost (8:) X.A X.xe use QQ (.ref D) s3.heap.objs.size (.ok .next) s':=fun H' σ' s' I' q=>by
  obtain ⟨m,hn,_⟩:=id I'.loc
  have hU:Un (frs X.stack) fp H3 H' s3.heap s'.heap:=I'.base
  have hok2:HOk X.prog X.w H' s'.heap:=I'.hok
  have os':s'.os=s3.os:=I'.os
  have I6:Inv X pins σ H' s':=I3.call' (ch:=fp) os' hU hok2 I'.bare (fun b hb=>⟨(f2 b hb).2.2.2.1,(f2 b hb).2.1,(f2 b hb).2.2.2.2⟩)
  refine hfin D _ H' s' I6 ⟨⟨m,hn⟩,I'.free,Nat.ne_of_gt I3.lt,I3.sz,fun y c e z=>?_,fun p hp z=>?_⟩ q
  ·obtain ⟨v,hv⟩:=I3.cell y c e
   exact absurd hv.lt (by rw [z];exact Nat.lt_irrefl _)
  ·exact absurd (Heap.lt_size (I3.pin p hp).1) (by rw [z];exact Nat.lt_irrefl _)
 have stat:∀ {H':Hp},(∀ b ∈ fp,H' b=none)→∀ b ∈ fp,YT (16:) [] H' b:=fun hn b hb =>
  ⟨hn b hb,hCfp b hb,ok'.exfs b hb,.inl hb,fun y c e=>(f2 b hb).2.2.2.2.1 y c (O.from_ y c e),fun p hp=>(nomatch hp)⟩
 have loop:codeAny (8:) X.A (.compLoop (.ListComp elt [⟨.Name x px,iter,ifs,0⟩] scope pos) 0 (.ref it) (.ref D) (41:))
  (compPost (8:) X.A X.xe use QQ (.ref D) s3.heap.objs.size) { s3 with heap:=h₁,toks:=s3.toks + ([]:List (Str × Value)).length }:=by
  refine codeAny_loop rfl (fun n s'=>∃ i a H',Inv (16:) [] (a :: cap.map fun j=>(σ[j]?).getD none) H' s'∧tn i s'.heap∧(∀ b ∈ fp,H' b=none)∧W i n H') ?_ m0 ⟨0,none,H3,I4,t3,hfp3,w0⟩
  rintro n s5 ⟨i,a,H5,I5,st5,fr5,w5⟩
  show wpAny _ _ ((compTurn (.ListComp elt [⟨.Name x px,iter,ifs,0⟩] scope pos) 0 (.ref it) (.ref D) (41:)).onRaise (fun x=>do noteFrame x (41:);theTreesLotGoes x)) _ _ s5
  refine wpAny_noted ?_
  rw [compTurn_list]
  refine wpAny_bind (wpAny_standAt (wpAny_bind ?_))
  have bad:∀ {M:Model} {A:Around} {α:Type} {t:Sem α} {P:α→Shared→Prop} {E':Value→Shared→Prop} {s':Shared},wpAny M A t P (fun _ _=>False) s'→wpAny M A t P E' s':=fun h=>wpAny_mono h (fun _ _ q=>q) fun _ _ z=>z.elim
  rcases turn i n H5 w5 with ⟨stop,qn⟩ | ⟨go,step⟩
  ·refine bad (thn (T.done (16:) rfl rfl rfl hc i [] s5 _ H5 (fun _ _=>False) I5 (stat fr5) st5 stop) fun r s6 ⟨hr,I6⟩=>?_)
   subst hr
   exact wpAny_pure (fin H5 _ s6 I6 qn)
  ·refine bad (thn (T.item (16:) rfl rfl rfl hc i [] s5 _ H5 (fun _ _=>False) I5 (stat fr5) st5 go) fun r s6 ⟨u,hr,h6⟩=>?_)
   subst hr
   refine wpAny_bind (bad (thn h6 fun _ s7 ⟨y,H7,I7,r7,y7,st7,fr7⟩=>?_))
   have I7':=I7.pinned (stat fr7) (T.obj _ _ st7)
   have goal:=step y H7 y7
   have hxl:Loc (16:).env.scope x:=.inl (lookup_relabel_local O.lx)
   refine wpAny_bind (wpAny_assign_Name (UA (i:=0) I7' O.nd rfl hxl r7 (fun s8 I8=>?_) (.inr (lookup_relabel_local O.lx))))
   have I8':Inv (16:) ([] ++ YA fp s7.heap) (some y :: cap.map fun j=>(σ[j]?).getD none) H7 s8:=I8
   refine wpAny_bind (bad (thn (ht s3.heap.objs.size fp s3 H3 _ s8 _ H7 _ I8' goal) fun okb s9 ⟨H9,I9,q9⟩=>?_))
   have again:∀ {H10:Hp} {s10:Shared} {m':Nat},Inv (16:) ([] ++ YA fp s7.heap) (some y :: cap.map fun j=>(σ[j]?).getD none) H10 s10→m' < n→W (i + 1) m' H10 →
    ∃ m,m < n∧∃ i a H',Inv (16:) [] (a :: cap.map fun j=>(σ[j]?).getD none) H' s10∧tn i s10.heap∧(∀ b ∈ fp,H' b=none)∧W i m H':=fun {H10 s10 m'} I10 hm w10=>by
    refine ⟨m',hm,i + 1,some y,H10,I10.unpinned,T.keep _ _ _ st7 fun b hb o e=>(I10.pin (b,o) (38:)).1,fun b hb=>?_,w10⟩
    obtain ⟨o,e,d⟩:=T.obj _ _ st7 b hb
    exact (I10.pin (b,o) (38:)).2.1
   cases okb with
   | false =>
    rw [if_neg Bool.false_ne_true] at q9
    obtain ⟨m',hm,w9⟩:=q9
    exact wpAny_pure ⟨rfl,again I9 hm w9⟩
   | true =>
    rw [if_pos rfl] at q9
    refine wpAny_bind (wpAny_bind (bad (thn (he s3.heap.objs.size fp s3 H3 _ s9 _ H9 _ I9 q9) fun yv s10 ⟨yy,H10,I10,r10,ys,hys,hlen,m',hm,w10⟩=>?_)))
    refine wpAny_bind (bad (thn (QU (X:=QE X (x :: caps) scope cl s3.heap.objs.size fp s3 H3) _ s10 _ H10 (.ref D) [yy] (.ref D) [yv] (fun _ H11=>W (i + 1) m' H11) I10 rfl (.cons r10 .nil) ⟨D,ys,yy,rfl,rfl,hys,hlen,w10⟩) fun _ s11 ⟨_,H11,I11,_,q11⟩=>?_))
    exact wpAny_pure (wpAny_pure ⟨rfl,again I11 hm q11⟩)
 refine codeAny_compStart_list loop (T.self _ 0 _ _ _ t3 loop)
theorem OwnAt.go {X:Cx} {pins:List (12:)} {σ:St} {H:Hp} {s:Shared} {C:Addr} {h':Heap} (I:Inv X pins σ H s) (o:OwnAt X pins H s C) (hb:Heap.SameBut C s.heap h'):Inv X pins σ H { s with heap:=h' } :=
 I.turned (t':=s.toks) (fun b u hb' e=>(hb.2 b hb').trans e) o.free o.loc (.inr o.above) o.cells o.pins
theorem VF {X:Cx} {elt iter:Expr} {x:Str} {px:Pos} {ifs:List Expr} {scope:Scope} {pos:Pos} {wi:TI} {tt:TT} {te:TE} {cl:List (Str × Addr)} {caps:List Str} {cap:List Nat}
 (O:CompOk X x caps cap scope cl) (hc:X.calm=true) (hi:PI X (.Name x px) iter wi)
 (ht:∀ C fp s₀ H₀,PF (QE X (x :: caps) scope cl C fp s₀ H₀) ifs tt) (he:∀ C fp s₀ H₀,PE (QE X (x :: caps) scope cl C fp s₀ H₀) elt te)
 (hs:∀ x,foldedSetIterable iter X.env x=pure x:=by intro _;rfl) :
 PE X (.ListComp elt [⟨.Name x px,iter,ifs,0⟩] scope pos) (Mg wi cap tt te):=by
 intro pins s σ H Q I h
 rw [eval_ListComp]
 exact Va (use:=none) O hc hi ht he hs I h fun D C H' s' I' o q=>by
  obtain ⟨m,hn⟩:=o.ns
  exact ⟨m,hn,fun h' hb=>⟨.ref D,H',o.go I' hb,rfl,q⟩⟩
def Ut (n:Nat) (Pv:Nat→List V→Hp→Prop):Nat→Nat→Hp→Prop:=fun i m H=>m=n - i∧i≤n∧∃ ys,Pv i ys H
def WA (n:Nat) (Pv:Nat→List V→Hp→Prop) (acc:Addr) (i m:Nat):VK:=fun y H5=>∃ ys,H5 acc=some (.lst ys)∧ys.length < sizeLine∧∃ m',m' < m∧Ut n Pv (i + 1) m' (upd H5 acc (.lst (ys ++ [y])))
theorem Qp {n:Nat} {Pv:Nat→List V→Hp→Prop} {acc:Addr} {i:Nat} {y:V} {H5:Hp} {ys:List V} (hi:i < n) (hacc:H5 acc=some (.lst ys)) (hl:ys.length < 5000) (hP:Pv (i + 1) (ys ++ [y]) (upd H5 acc (.lst (ys ++ [y])))):WA n Pv acc i (n - i) y H5 :=
 ⟨ys,hacc,Nat.lt_trans hl (28:),n - (i + 1),by lia,rfl,hi,_,hP⟩
theorem Yh {n:Nat} {Pv:Nat→List V→Hp→Prop} {i:Nat} {H:Hp} {ys:List V} (hi:i < n) (hP:Pv (i + 1) ys H):∃ m',m' < n - i∧Ut n Pv (i + 1) m' H:=⟨n - (i + 1),by lia,rfl,hi,ys,hP⟩
end L2
namespace L2
open PySem PySem.Spec PyProof.Rows
theorem YB {k:NameKind} {y:Str}:∀ {l:List (Str × NameKind)},l.lookup y=some k→∃ z ∈ l,z.2=k
 | [],h=>by simp at h
 | (n,j) :: r,h=>by
  cases hx:y == n with
  | true =>
   simp only [List.lookup_cons,hx] at h
   exact ⟨(n,j),List.mem_cons_self,by cases h;rfl⟩
  | false =>
   simp only [List.lookup_cons,hx] at h
   obtain ⟨z,h1,h2⟩:=YB h
   exact ⟨z,List.mem_cons_of_mem _ h1,h2⟩
theorem CompOk.plain {X:Cx} {x:Str} {scope:Scope} (hk:scope.kind=.function) (hn:∀ z ∈ scope.names,z.2≠.cell∧z.2≠.free) (hl:∀ y ∈ scope.names,y.2=.local→scope.names.lookup y.1=some .local) (hx:scope.names.lookup x=some .local) :
 CompOk X x [] [] scope []:=by
 have e:(relabel scope X.env).names=scope.names:=map_eq_self fun z hz=>by
  obtain ⟨n,k⟩:=z
  have:(k == NameKind.free)=false:=by simpa using (hn _ hz).2
  simp [this]
 refine ⟨closureFor_none fun z hz=>(hn z hz).2,fun z hz=>(hn z hz).1,hk,hl,hx,by simp,fun y c h=>(nomatch h),fun y hy=>?_,rfl,fun i y h=>by simp at h⟩
 rw [e] at hy
 rcases hy with h | h
 ·obtain ⟨z,h1,h2⟩:=YB h
  exact absurd h2 (hn z h1).1
 ·obtain ⟨z,h1,h2⟩:=YB h
  exact absurd h2 (hn z h1).2
end L2
namespace L2
open PySem PySem.Spec PyProof.Rows
section
variable {X:Cx}
def Oe (t:TT):TT:=fun σ H Q=>∃ R:Bool→Hp→Prop,t σ H R∧∀ b H',R b H'→Q b H'
theorem JE {e:Expr} {t:TT} (h:PT X e t):PT X e (Oe t):=by
 intro pins s σ H Q I hw
 obtain ⟨R,h1,h2⟩:=hw
 refine thn (h pins s σ H R I h1) fun b s1 q=>?_
 obtain ⟨H',I',q⟩:=q
 exact ⟨H',I',h2 _ _ q⟩
end
end L2
namespace L2
open PySem PySem.Spec PyProof.Rows
section
variable {X:Cx} {pins:List (12:)} {σ:St} {H:Hp} {s:Shared} {h':Heap}
theorem Inv.turnedL {ch:List Addr} {t':Nat} (I:Inv X pins σ H s) (k:∀ b o,b ∉ ch→s.heap.get? b=some o→h'.get? b=some o) (hf:∀ b ∈ ch,YT X pins H b):Inv X pins σ H { s with heap:=h',toks:=t' }:=by
 have nch:∀ b u,H b=some u→b ∉ ch:=fun b u e z=>by rw [(hf b z).1] at e;cases e
 refine I.step (g':=s.gens) (d':=s.drawn) (ch:=ch) (fun b hb=>?_) (fun b o _ _ hc e _=>k b o hc e) (fun b o _ _ hc e _=>⟨o.slots,k b o hc e⟩) (fun _ _ _ _ n=>n)
  (fun b o hc e=>⟨o,k b o hc e⟩) (fun _ _ e=>e) (fun _ _ _ e=>e) (fun b ps e=>⟨#[],by rw [e];simp⟩) (fun m hm=>?_) (fun b u e=>?_) I.bare
 ·obtain ⟨f0,f1,f2,f3,f4,f5⟩:=hf b hb
  exact ⟨f3,f1,f4,f5⟩
 ·obtain ⟨o,es,ep,ho,r⟩:=hm
  exact ⟨o,es,ep,k _ o (fun z=>(hf _ z).2.1 rfl) ho,r⟩
 ·refine (I.hok b u e).stay (fun c v hc q=>k c v ?_ q) (fun _ q=>q) fun _ _ q=>q
  rcases hc with z | z
  ·rw [z];exact nch b u e
  ·exact nch c _ z
theorem Inv.turnedNew {ch:List Addr} {t':Nat} {a:Addr} {o:HO} (I:Inv X pins σ H s) (k:∀ b o,b ∉ ch→s.heap.get? b=some o→h'.get? b=some o) (hf:∀ b ∈ ch,YT X pins H b)
 (hp:s.heap.objs.size≤a) (new:ObjOk X.prog X.w (upd H a o) h' a o):Inv X pins σ (upd H a o) { s with heap:=h',toks:=t' }:=by
 have hn:H a=none:=I.hok.fresh hp
 have nch:∀ b u,H b=some u→b ∉ ch:=fun b u e z=>by rw [(hf b z).1] at e;cases e
 have lt:∀ b u,s.heap.get? b=some u→b≠a:=fun b u e=>Nat.ne_of_lt (Nat.lt_of_lt_of_le (Heap.lt_size e) hp)
 refine I.step (g':=s.gens) (d':=s.drawn) (ch:=ch) (fun b hb=>?_) (fun b o _ _ hc e _=>k b o hc e) (fun b o _ _ hc e _=>⟨o.slots,k b o hc e⟩) (fun b u _ e n=>by rw [Qi (lt b u e)];exact n)
  (fun b o hc e=>⟨o,k b o hc e⟩) (fun b xs e=>by rw [Qi (Qg e hn)];exact e) (fun b u xs e=>by rw [Qi (Qg e hn)];exact e) (fun b ps e=>⟨#[],by rw [Qi (Qg e hn),e];simp⟩) (fun m hm=>?_) (fun b u e=>?_) I.bare
 ·obtain ⟨f0,f1,f2,f3,f4,f5⟩:=hf b hb
  exact ⟨f3,f1,f4,f5⟩
 ·obtain ⟨o,es,ep,ho,r⟩:=hm
  exact ⟨o,es,ep,k _ o (fun z=>(hf _ z).2.1 rfl) ho,r⟩
 ·by_cases hb:b=a
  ·subst hb
   rw [Qb] at e;cases e
   exact new
  ·rw [Qi hb] at e
   refine (I.hok b u e).stay (fun c v hc q=>k c v ?_ q) (fun c q=>by rw [Qi (Qg q hn)];exact q) fun c xs q=>by rw [Qi (Qg q hn)];exact q
   rcases hc with z | z
   ·rw [z];exact nch b u e
   ·exact nch c _ z
end
def Itz (K:PySem.W.Frag) (a b:Addr) (xs ys:List V):It :=
 ⟨fun i H=>SqL K H a xs∧SqL K H b ys∧i < xs.length∧i < ys.length,fun i H x H'=>∃ p u v,H p=none∧x=.ref p∧H'=upd H p (.tup [u,v])∧xs[i]?=some u∧ys[i]?=some v,fun i H=>SqL K H a xs∧SqL K H b ys∧(xs.length≤i∨ys.length≤i)⟩
theorem Gr {P:Program} {w:World} {K:PySem.W.Frag} {elts:List Expr} {k1:Nat} {pos:Pos} (a b z:Addr) (xs ys:List V) (TI TO i1 i2:Addr) (Ap:ZipApart z TI TO i1 i2 a b) :
 Turn P w K (.Tuple elts k1 pos) (Itz K a b xs ys) [z,TI,TO,i1,i2] z (fun i h=>IsZip h z TI TO .none∧IsPair h TI (.ref i1) (.ref i2)∧(∃ u v,IsPair h TO u v)∧h.IsListIter i1 a i∧h.IsListIter i2 b i) where
 mem:=by simp
 obj:=fun i h st c hc=>by
  obtain ⟨hz,hTI,⟨u,v,hTO⟩,h1,h2⟩:=st
  simp only [List.mem_cons,List.mem_nil_iff,or_false] at hc
  rcases hc with rfl | rfl | rfl | rfl | rfl
  ·exact ⟨_,hz,fun v z=>by have z':Data.fields _=Data.cell v:=z;cases z'⟩
  ·exact ⟨_,hTI,fun v z=>by have z':Data.seq _ _=Data.cell v:=z;cases z'⟩
  ·exact ⟨_,hTO,fun v z=>by have z':Data.seq _ _=Data.cell v:=z;cases z'⟩
  ·obtain ⟨o,e,c,d⟩:=h1;exact ⟨o,e,fun v z=>by rw [d] at z;cases z⟩
  ·obtain ⟨o,e,c,d⟩:=h2;exact ⟨o,e,fun v z=>by rw [d] at z;cases z⟩
 keep:=fun i h h' st k=>by
  obtain ⟨hz,hTI,⟨u,v,hTO⟩,h1,h2⟩:=st
  exact ⟨k z (by simp) _ hz,k TI (by simp) _ hTI,⟨u,v,k TO (by simp) _ hTO⟩,h1.at fun o e=>k i1 (by simp) o e,h2.at fun o e=>k i2 (by simp) o e⟩
 item:=by
  intro X hP hw hK hc i pins s σ H E I hf st hg
  subst hP hw hK
  obtain ⟨hz,hTI,⟨u0,v0,hTO⟩,h1,h2⟩:=st
  obtain ⟨qa,qb,lx,ly⟩:=hg
  obtain ⟨its,rv,p,_⟩:=I.list qa
  obtain ⟨its2,rv2,p2,_⟩:=I.list qb
  have ex:xs[i]?=some xs[i]:=List.getElem?_eq_getElem lx
  have ey:ys[i]?=some ys[i]:=List.getElem?_eq_getElem ly
  obtain ⟨u,hu,ru⟩:=rv.get ex
  obtain ⟨v,hv,rv'⟩:=rv2.get ey
  refine wpAny_pyNext_zip_item Ap hz hTI hTO h1 h2 p.isList p2.isList (x:=u) (y:=v) (by simpa using hu) (by simpa using hv) fun h' a1 a2 a3 a4 a5 a6 hk=>?_
  refine ⟨.ref s.heap.objs.size,rfl,wpAny_letOwnedTupleGo_zip (s:={ s with heap:=h' }) a1 fun h'' hz' hs'=>?_⟩
  have lt:∀ {c o},s.heap.get? c=some o→c≠s.heap.objs.size:=fun e=>Nat.ne_of_lt (Heap.lt_size e)
  have e5:IsPair h'' s.heap.objs.size u v:=(hs'.2 _ (Ne.symm (lt hz))).trans a5
  have hch:∀ c ∈ [z,TO,i1,i2],YT X pins H c:=fun c hc=>hf c (by
   simp only [List.mem_cons,List.mem_nil_iff,or_false] at hc ⊢
   rcases hc with rfl | rfl | rfl | rfl <;> simp)
  have I2:Inv X pins σ (upd H s.heap.objs.size (.tup [xs[i],ys[i]])) { s with heap:=h'',toks:=s.toks }:=by
   refine I.turnedNew (ch:=[z,TO,i1,i2]) (fun c o hc e=>?_) hch (9:) ⟨by show 2≤sizeLine;decide,[u,v],.cons ru (.cons rv' .nil),⟨_,e5,rfl,_,rfl⟩⟩
   simp only [List.mem_cons,List.mem_nil_iff,or_false,not_or] at hc
   exact (hs'.2 c hc.1).trans (hk c o hc.1 hc.2.1 hc.2.2.1 hc.2.2.2 e)
  have hfr:∀ c ∈ [z,TI,TO,i1,i2],upd H s.heap.objs.size (.tup [xs[i],ys[i]]) c=none:=fun c hc=>by
   have hc2:=hf c hc
   have:c≠s.heap.objs.size:=by
    simp only [List.mem_cons,List.mem_nil_iff,or_false] at hc
    rcases hc with rfl | rfl | rfl | rfl | rfl
    ·exact lt hz
    ·exact lt hTI
    ·exact lt hTO
    ·obtain ⟨o,e,_⟩:=h1;exact lt e
    ·obtain ⟨o,e,_⟩:=h2;exact lt e
   rw [Qi this];exact hc2.1
  exact ⟨.ref s.heap.objs.size,_,I2,rfl,⟨s.heap.objs.size,_,_,I.fresh,rfl,rfl,ex,ey⟩,⟨hz',hs'.extBut _ _ Ap.TIz (hk _ _ Ap.TIz Ap.TITO Ap.TIi1 Ap.TIi2 hTI),⟨_,_,hs'.extBut _ _ Ap.TOz a2⟩,a3.extBut hs'.extBut Ap.i1z,a4.extBut hs'.extBut Ap.i2z⟩,hfr⟩
 done:=by
  intro X hP hw hK hc i pins s σ H E I hf st hg
  subst hP hw hK
  obtain ⟨hz,hTI,⟨u0,v0,hTO⟩,h1,h2⟩:=st
  obtain ⟨qa,qb,hl⟩:=hg
  obtain ⟨its,rv,p,_⟩:=I.list qa
  obtain ⟨its2,rv2,p2,_⟩:=I.list qb
  have l1:=rv.length
  have l2:=rv2.length
  have hch:∀ c ∈ [z,TO,i1,i2],YT X pins H c:=fun c hc=>hf c (by
   simp only [List.mem_cons,List.mem_nil_iff,or_false] at hc ⊢
   rcases hc with rfl | rfl | rfl | rfl <;> simp)
  refine wpAny_pyNext_zip_end (I.ok.hd hc) Ap hz hTI hTO h1 h2 p.isList p2.isList ?_ fun h' hk=>⟨rfl,I.turnedL (t':=s.toks) (ch:=[z,TO,i1,i2]) (fun c o hc e=>?_) hch⟩
  ·rcases hl with q | q
   ·exact .inl (by simp;lia)
   ·exact .inr (by simp;lia)
  ·simp only [List.mem_cons,List.mem_nil_iff,or_false,not_or] at hc
   exact hk c o hc.1 hc.2.1 hc.2.2.1 hc.2.2.2 e
 self:=fun _ _ _ _ _ st h=>wpAny_pyIter_zip st.1 h
theorem nne {x y:Nat} (h:x < y∨y < x):x≠y:=by lia
section
variable {X:Cx} {elts:List Expr} {k1:Nat} {tpos:Pos}
def OY (K:PySem.W.Frag) (ta:TA):TI:=fun σ H R=>ta σ H fun vs H1=>∃ a b xs ys,vs=[.ref a,.ref b]∧SqL K H1 a xs∧SqL K H1 b ys∧R (Itz K a b xs ys) H1
theorem Gd {e1 e2:Expr} {ta:TA} {p pos:Pos} (hg:Gl X "zip") (hm:X.mg "zip" = none) (ha:PA X [e1,e2] ta) (hs:starEach [e1,e2] X.env=[(false,eval e1 X.env),(false,eval e2 X.env)]:=by rfl) (hs2:starEach [e2] X.env=[(false,eval e2 X.env)]:=by rfl) :
 PI X (.Tuple elts k1 tpos) (.Call (.Name "zip" p) [e1,e2] [] pos) (OY X.K ta):=by
 intro pins s σ H R I h
 refine Call_ (YS I hg hm PyProof.Rows.boot_zip (PyProof.Rows.callWith_type1 (thn (ha pos pins s σ H _ I h) fun us s1 ⟨vs,H1,I1,r1,q1⟩=>?_) (by rw [hs,hs2]) (by rw [hs2];rfl)))
 obtain ⟨a,b,xs,ys,e,qa,qb,q⟩:=q1
 subst e
 obtain ⟨u1,u2,e3,r3,r4⟩:=r1.two
 subst e3
 cases (show u1=Value.ref a from r3)
 cases (show u2=Value.ref b from r4)
 obtain ⟨its,rv,pl,_⟩:=I1.list qa
 obtain ⟨its2,rv2,pl2,_⟩:=I1.list qb
 have la:@LT.lt Nat _ a s1.heap.objs.size:=by obtain ⟨o,n,e,_⟩:=pl;exact Heap.lt_size e
 have lb:@LT.lt Nat _ b s1.heap.objs.size:=by obtain ⟨o,n,e,_⟩:=pl2;exact Heap.lt_size e
 refine call_zip_2 pl.isList pl2.isList fun h' hz hTI hTO h1 h2 hsz hk=>?_
 refine wpAny_pyIter_zip hz ?_
 have I2:Inv X pins σ H1 { s1 with heap:=h' }:=I1.kept (t':=s1.toks) hk
 refine ⟨s1.heap.objs.size + 4,[s1.heap.objs.size + 4,s1.heap.objs.size + 2,s1.heap.objs.size + 3,s1.heap.objs.size,s1.heap.objs.size + 1],_,_,H1,rfl,I2,Gr a b (s1.heap.objs.size + 4) xs ys (s1.heap.objs.size + 2) (s1.heap.objs.size + 3) s1.heap.objs.size (s1.heap.objs.size + 1) ?_,⟨hz,hTI,⟨_,_,hTO⟩,h1,h2⟩,fun c hc=>?_,q⟩
 ·constructor <;> (refine nne ?_;lia)
 ·have hle:@LE.le Nat _ s1.heap.objs.size c:=by
   simp only [List.mem_cons,List.mem_nil_iff,or_false] at hc
   rcases hc with rfl | rfl | rfl | rfl | rfl <;> lia
  exact I1.fpOk hle (I1.hok.fresh hle)
end
end L2
namespace L2
open PySem PySem.Spec PyProof.Rows
theorem UB:∀ {ns:List Int} {us:List Value},Vals (ns.map V.int) us→∃ xs:List (Int × Tok),us=xs.map (fun p=>Value.int p.1 p.2)∧xs.map (·.1)=ns
 | [],_,.nil=>⟨[],rfl,rfl⟩
 | n :: ns,_,.cons r rr=>by
  obtain ⟨t,e⟩:=r
  obtain ⟨xs,e1,e2⟩:=UB rr
  exact ⟨(n,t) :: xs,by rw [e,e1];rfl,by rw [List.map_cons,e2]⟩
theorem W0 (xs:List (Int × Tok)):intItems xs.toArray=(xs.map (fun p=>Value.int p.1 p.2)).toArray:=by
 simp [intItems]
theorem Lp (xs:List (Int × Tok)) (j:Nat):preSum (numAt xs.toArray) j=((xs.map (·.1)).take j).sum:=by rw [preSum_eq]
def Fits (ns:List Int):Prop:=(∀ n ∈ ns,0≤n)∧ns.sum≤1000000000
section
variable {X:Cx}
end
section
variable {prog:Program} {w:World} {A:Around} {R:Result→Shared→Prop} {I:Addr} {fp wr:List Addr} {n:Nat} {P:Nat→Value→Prop} {St:Nat→Heap→Prop}
end
section
variable {prog:Program} {w:World} {A:Around} {E:Value→Shared→Prop} {s:Shared}
end
end L2
namespace L2
open PySem PySem.Spec PyProof.Rows
section
variable {X:Cx} {x:Str} {p pos:Pos} {e:Expr} {es:List Expr} {kws:List Keyword} {t tk:TA} {id:String} {ks:List Str} {r:List V→List V→Hp→VK→Prop}
theorem Vm {K:PySem.W.Frag} {a acc:Addr} {xs:List V} {tt:TT} {te:TE} {cs:List (Option V)} {H1:Hp} {Q:Hp→Prop} (Pv:Nat→List V→Hp→Prop) (h0:Pv 0 [] (59:))
 (hl:∀ i ys H,i≤xs.length→Pv i ys H→SqT K H a xs)
 (hs:∀ i x ys H,i < xs.length→xs[i]?=some x→Pv i ys H→tt (some x :: cs) H fun ok H4=>if ok=true then te (some x :: cs) H4 (WA xs.length Pv acc i (xs.length - i)) else ∃ m',m' < xs.length - i∧Ut xs.length Pv (i + 1) m' H4)
 (hd:∀ ys H,Pv xs.length ys H→Q H) :
 ∃ W:Nat→Nat→Hp→Prop,(∃ m,W 0 m (59:))∧∀ i m H2,W i m H2 →
  ((Itt K a).stop i H2∧Q H2)∨((Itt K a).go i H2∧∀ x H3,(Itt K a).yld i H2 x H3→tt (some x :: cs) H3 fun ok H4=>if ok=true then
    te (some x :: cs) H4 (fun y H5=>∃ ys,H5 acc=some (.lst ys)∧ys.length < sizeLine∧∃ m',m' < m∧W (i + 1) m' (upd H5 acc (.lst (ys ++ [y]))))
    else ∃ m',m' < m∧W (i + 1) m' H4):=by
 refine ⟨Ut xs.length Pv,⟨xs.length - 0,rfl,Nat.zero_le _,[],h0⟩,?_⟩
 rintro i m H2 ⟨rfl,hi,ys,p⟩
 have hq:=hl i ys H2 hi p
 by_cases h:i < xs.length
 ·refine .inr ⟨⟨xs,xs[i],hq,List.getElem?_eq_getElem h⟩,?_⟩
  rintro x H3 ⟨rfl,hx⟩
  exact hs i x ys _ h (hx xs hq) p
 ·have e:i=xs.length:=by lia
  subst e
  exact .inl ⟨⟨xs,hq,Nat.le_refl _⟩,hd ys H2 p⟩
end
end L2
namespace L2
open PySem PySem.Spec PyProof.Rows
structure CompG (X:Cx) (xs caps:List Str) (cap:List Nat) (scope:Scope) (cl:List (Str × Addr)):Prop where
 clos:closureFor scope X.env=pure cl
 cell:∀ y ∈ scope.names,y.2≠.cell
 kind:scope.kind=.function
 names:∀ y ∈ scope.names,y.2=.local→scope.names.lookup y.1=some .local
 lx:∀ x ∈ xs,scope.names.lookup x=some .local
 nd:(xs ++ caps).Nodup
 from_:∀ y c,cl.lookup y=some c→X.env.cells.lookup y=some c
 has:∀ y,((relabel scope X.env).names.lookup y=some .cell∨(relabel scope X.env).names.lookup y=some .free)→∃ c,cl.lookup y=some c
 len:cap.length=caps.length
 cps:∀ (i:Nat) (y:Str),caps[i]?=some y→∃ j,cap[i]?=some j∧X.N[j]?=some y∧X.env.scope.names.lookup y=some .cell∧(relabel scope X.env).names.lookup y=some .cell
def UR (cap:List Nat) (σ:St):St:=cap.map fun j=>(σ[j]?).getD none
def UD (n:Nat) (wi:TI) (cap:List Nat) (g:TG) (tt:TT) (te:TE):TE:=fun σ H Q=>wi σ H fun J H1=>∀ acc,H1 acc=none→∃ W:Nat→Nat→Hp→Prop,(∃ m,W 0 m (59:))∧∀ i m H2,W i m H2 →
 (J.stop i H2∧Q (.ref acc) H2)∨(J.go i H2∧∀ x H3,J.yld i H2 x H3→∀ as:St,as.length=n→g x (as ++ UR cap σ) H3 fun σ4 H4=>(∃ bs:St,bs.length=n∧σ4=bs ++ UR cap σ)∧tt σ4 H4 fun ok H5=>if ok=true then
  te σ4 H5 (48:)
  else ∃ m',m' < m∧W (i + 1) m' H5)
theorem Xd {X:Cx} {elt iter tg:Expr} {xs:List Str} {ifs:List Expr} {scope:Scope} {pos pos':Pos} {wi:TI} {g:TG} {tt:TT} {te:TE} {cl:List (Str × Addr)} {caps:List Str} {cap:List Nat}
 (O:CompG X xs caps cap scope cl) (hc:X.calm=true) (hi:PI X tg iter wi) (hg:∀ C fp s₀ H₀,PG (21:) tg g)
 (ht:∀ C fp s₀ H₀,PF (21:) ifs tt)
 (hs:∀ x,foldedSetIterable iter X.env x=pure x) {pins:List (12:)} {s:Shared} {σ:St} {H:Hp} {Q:VK} {use:Option (Value→Sem Unit)} {QQ:Value→Shared→Prop} (I:Inv X pins σ H s)
 (h:UD xs.length wi cap g tt te σ H Q)
 (hfin:∀ D C H' s',Inv X pins σ H' s'→OwnAt X pins H' s' C→Q (.ref D) H'→compPost (8:) X.A X.xe use QQ (.ref D) C (.ok .next) s')
 (hw:∀ {fp:List Addr} {s3:Shared} {H3:Hp} {D:Value} {p9:List (12:)} {s9:Shared} {σ9:St} {H9:Hp} {Q9:VK},Inv X pins σ H3 s3→(∀ b ∈ fp,(b ∈ X.ex∨X.s₀.heap.objs.size≤b)∧b≠X.env.locals∧(∀ x c,X.env.cells.lookup x=some c→c≠b)∧∀ p ∈ X.pn ++ pins,p.1≠b)→Inv (15:) p9 σ9 H9 s9→te σ9 H9 Q9 →
  wpAny (8:) X.A (eval elt (41:)) (EP (15:) p9 σ9 Q9) (notedBy (8:) X.A (41:) (fun x s'=>compPost (8:) X.A X.xe use QQ D s3.heap.objs.size (.error x) s')) s9) :
 wpAny (8:) X.A (comprehension (37:) scope X.env pos' (newList []) false (eval iter X.env) use) QQ X.xe s:=by
 refine wpAny_comprehension_free rfl hs O.clos O.kind O.names (thn (hi pins s σ H _ I h) fun v s1 h1=>thn h1 fun itv s2 h2=>?_)
 obtain ⟨it,fp,tn,J,H1,e,I2,T,t0,f2,hR⟩:=h2
 subst e
 refine wpAny_newObj_type (wpAny_newFunctionEnv O.cell (by intro y hy;simp at hy) (fun h₁ hns hsb=>?_) O.kind)
 have hacc:H1 s2.heap.objs.size=none:=I2.fresh
 obtain ⟨W,⟨m0,w0⟩,turn⟩:=hR s2.heap.objs.size hacc
 have I3:Inv X pins σ (upd H1 s2.heap.objs.size (.lst [])) { s2 with heap:=s2.heap.push { cls:=.type "list", data:=.seq ([]:List Value).toArray } }:=I2.lnew (t':=s2.toks) (ys:=[]) (its:=[]) .nil (Nat.zero_le _)
 generalize hs3:({ s2 with heap:=s2.heap.push { cls:=.type "list", data:=.seq ([]:List Value).toArray } }:Shared)=s3 at hns hsb I3 ⊢
 generalize hD:s2.heap.objs.size=D at I3 w0 turn hacc ⊢
 generalize hH3:upd H1 D (.lst [])=H3 at I3 w0
 have keep3:∀ b o,s3.heap.get? b=some o→h₁.get? b=some o:=fun b o e=>(hsb.2 b (Nat.ne_of_lt (Heap.lt_size e))).trans (Heap.get?_push_of_some _ e)
 have hfp3:∀ b ∈ fp,H3 b=none:=fun b hb=>by
  rw [← hH3,Qi]
  ·exact (f2 b hb).1
  ·intro z
   obtain ⟨o,e,_⟩:=T.obj _ _ t0 b hb
   exact absurd (Heap.lt_size e) (by rw [z,hD];exact Nat.lt_irrefl _)
 have hCfresh:H3 s3.heap.objs.size=none:=I3.fresh
 have hCfp:∀ b ∈ fp,b≠s3.heap.objs.size:=fun b hb z=>by
  obtain ⟨o,e,_⟩:=T.obj _ _ t0 b hb
  have h2:s3.heap.objs.size=s2.heap.objs.size + 1:=by rw [← hs3];exact Heap.size_push ..
  exact absurd (Heap.lt_size e) (by rw [z,h2];exact Nat.not_lt.mpr (Nat.le_succ _))
 have t3:tn 0 h₁:=T.keep _ _ _ t0 fun b hb o e=>keep3 b o (by rw [← hs3];exact Heap.get?_push_of_some _ e)
 have ok':(15:).Ok:=by
  refine ⟨I3.ok.mod,O.kind,I3.ok.glob,I3.ok.blt,Nat.le_refl _,fun y z c e1 e2=>I3.ok.inj y z c (O.from_ y c e1) (O.from_ z c e2),fun y hy=>O.has y hy,fun y c z _=>(nomatch z),I3.ok.hd,I3.ok.frames,.inl rfl,fun b hb=>⟨hCfp b hb,fun y c e=>?_⟩,I3.bs,Nat.le_trans I3.ok.bsz I3.sz,fun b o e hb=>?_,fun b hb z=>?_,I3.stack,I3.stkFree⟩
  ·exact (f2 b hb).2.2.2.2.1 y c (O.from_ y c e)
  ·rcases (f2 b hb).2.2.2.1 with q | q
   ·exact I3.ok.noex b o e q
   ·exact absurd (Nat.lt_of_lt_of_le (Heap.lt_size e) (Nat.le_trans I3.ok.bsz q)) (Nat.lt_irrefl _)
  ·rcases List.mem_cons.mp (I3.stkSub b z) with q | q
   ·exact (f2 b hb).2.1 q
   ·exact (f2 b hb).2.2.1 q
 have I4:Inv (15:) [] (List.replicate xs.length none ++ UR cap σ) H3 { s3 with heap:=h₁,toks:=s3.toks + ([]:List (Str × Value)).length }:=by
  obtain ⟨m,hn,hl⟩:=id I3.loc
  refine ⟨ok',rfl,I3.bare,Un.kept keep3,⟨_,hns,fun i y v e1 e2 e3=>?_⟩,fun y c e=>?_,hCfresh,fun y c e=>I3.freeC y c (O.from_ y c e),fun p hp=>(nomatch hp),I3.hok.kept keep3,?_⟩
  ·by_cases hix:i < xs.length
   ·rw [List.getElem?_append_left (by rw [List.length_replicate];exact hix),List.getElem?_replicate,if_pos hix] at e2
    cases e2
   ·have e1':caps[i - xs.length]?=some y:=by
     have e1'':(xs ++ caps)[i]?=some y:=e1
     rwa [List.getElem?_append_right (7:)] at e1''
    obtain ⟨j,hj,hN,hk,hk'⟩:=O.cps _ y e1'
    have e2':(σ[j]?).getD none=some v:=by
     rw [List.getElem?_append_right (by rw [List.length_replicate];lia),List.length_replicate] at e2
     unfold UR at e2
     simpa [hj] using e2
    have e2'':σ[j]?=some (some v):=by
     cases q:σ[j]? with
     | none=>rw [q] at e2';cases e2'
     | some a=>rw [q] at e2';exact congrArg some e2'
    obtain ⟨u,r,l⟩:=hl j y v hN e2'' (.inr (.inl hk))
    refine ⟨u,r,?_⟩
    rcases l with ⟨k,_⟩ | ⟨k,c,e,z⟩
    ·have k':X.env.scope.names.lookup y=some .local:=k
     rw [hk] at k';cases k'
    ·obtain ⟨c',hc'⟩:=O.has y (.inl hk')
     have:c'=c:=Option.some.inj ((O.from_ y c' hc').symm.trans e)
     subst this
     refine .inr ⟨.inl hk',c',hc',?_⟩
     obtain ⟨o,ho,hd⟩:=z
     exact ⟨o,keep3 _ _ ho,hd⟩
  ·obtain ⟨v,o,ho,hd⟩:=I3.cell y c (O.from_ y c e)
   exact ⟨v,o,keep3 _ _ ho,hd⟩
  ·show (List.replicate xs.length none ++ UR cap σ).length=(xs ++ caps).length
   simp [UR,O.len]
 have fin:∀ (H':Hp) (σ':St) (s':Shared),Inv (15:) [] σ' H' s'→Q (.ref D) H' →
  compPost (8:) X.A X.xe use QQ (.ref D) s3.heap.objs.size (.ok .next) s':=fun H' σ' s' I' q=>by
  obtain ⟨m,hn,_⟩:=id I'.loc
  have hU:Un (frs X.stack) fp H3 H' s3.heap s'.heap:=I'.base
  have hok2:HOk X.prog X.w H' s'.heap:=I'.hok
  have os':s'.os=s3.os:=I'.os
  have I6:Inv X pins σ H' s':=I3.call' (ch:=fp) os' hU hok2 I'.bare (fun b hb=>⟨(f2 b hb).2.2.2.1,(f2 b hb).2.1,(f2 b hb).2.2.2.2⟩)
  refine hfin D _ H' s' I6 ⟨⟨m,hn⟩,I'.free,Nat.ne_of_gt I3.lt,I3.sz,fun y c e z=>?_,fun p hp z=>?_⟩ q
  ·obtain ⟨v,hv⟩:=I3.cell y c e
   exact absurd hv.lt (by rw [z];exact Nat.lt_irrefl _)
  ·exact absurd (Heap.lt_size (I3.pin p hp).1) (by rw [z];exact Nat.lt_irrefl _)
 have stat:∀ {H':Hp},(∀ b ∈ fp,H' b=none)→∀ b ∈ fp,YT (15:) [] H' b:=fun hn b hb =>
  ⟨hn b hb,hCfp b hb,ok'.exfs b hb,.inl hb,fun y c e=>(f2 b hb).2.2.2.2.1 y c (O.from_ y c e),fun p hp=>(nomatch hp)⟩
 have loop:codeAny (8:) X.A (.compLoop (37:) 0 (.ref it) (.ref D) (41:))
  (compPost (8:) X.A X.xe use QQ (.ref D) s3.heap.objs.size) { s3 with heap:=h₁,toks:=s3.toks + ([]:List (Str × Value)).length }:=by
  refine codeAny_loop rfl (fun n s'=>∃ i as H',as.length=xs.length∧Inv (15:) [] (as ++ UR cap σ) H' s'∧tn i s'.heap∧(∀ b ∈ fp,H' b=none)∧W i n H') ?_ m0 ⟨0,_,H3,List.length_replicate,I4,t3,hfp3,w0⟩
  rintro n s5 ⟨i,as,H5,has,I5,st5,fr5,w5⟩
  show wpAny _ _ ((compTurn (37:) 0 (.ref it) (.ref D) (41:)).onRaise (fun x=>do noteFrame x (41:);theTreesLotGoes x)) _ _ s5
  refine wpAny_noted ?_
  rw [compTurn_list]
  refine wpAny_bind (wpAny_standAt (wpAny_bind ?_))
  have bad:∀ {M:Model} {A:Around} {α:Type} {t:Sem α} {P:α→Shared→Prop} {E':Value→Shared→Prop} {s':Shared},wpAny M A t P (fun _ _=>False) s'→wpAny M A t P E' s':=fun h=>wpAny_mono h (fun _ _ q=>q) fun _ _ z=>z.elim
  rcases turn i n H5 w5 with ⟨stop,qn⟩ | ⟨go,step⟩
  ·refine bad (thn (T.done (15:) rfl rfl rfl hc i [] s5 _ H5 (fun _ _=>False) I5 (stat fr5) st5 stop) fun r s6 ⟨hr,I6⟩=>?_)
   subst hr
   exact wpAny_pure (fin H5 _ s6 I6 qn)
  ·refine bad (thn (T.item (15:) rfl rfl rfl hc i [] s5 _ H5 (fun _ _=>False) I5 (stat fr5) st5 go) fun r s6 ⟨u,hr,h6⟩=>?_)
   subst hr
   refine wpAny_bind (bad (thn h6 fun _ s7 ⟨y,H7,I7,r7,y7,st7,fr7⟩=>?_))
   have I7':=I7.pinned (stat fr7) (T.obj _ _ st7)
   have goal:=step y H7 y7 as has
   refine wpAny_bind (bad (thn (hg s3.heap.objs.size fp s3 H3 _ s7 _ H7 y _ _ I7' r7 goal) fun _ s8 ⟨σ8,H8,I8,⟨bs,hbs,eσ⟩,goal8⟩=>?_))
   subst eσ
   refine wpAny_bind (bad (thn (ht s3.heap.objs.size fp s3 H3 _ s8 _ H8 _ I8 goal8) fun okb s9 ⟨H9,I9,q9⟩=>?_))
   have again:∀ {H10:Hp} {s10:Shared} {m':Nat},Inv (15:) ([] ++ YA fp s7.heap) (bs ++ UR cap σ) H10 s10→m' < n→W (i + 1) m' H10 →
    ∃ m,m < n∧∃ i as H',as.length=xs.length∧Inv (15:) [] (as ++ UR cap σ) H' s10∧tn i s10.heap∧(∀ b ∈ fp,H' b=none)∧W i m H':=fun {H10 s10 m'} I10 hm w10=>by
    refine ⟨m',hm,i + 1,bs,H10,hbs,I10.unpinned,T.keep _ _ _ st7 fun b hb o e=>(I10.pin (b,o) (38:)).1,fun b hb=>?_,w10⟩
    obtain ⟨o,e,d⟩:=T.obj _ _ st7 b hb
    exact (I10.pin (b,o) (38:)).2.1
   cases okb with
   | false =>
    rw [if_neg Bool.false_ne_true] at q9
    obtain ⟨m',hm,w9⟩:=q9
    exact wpAny_pure ⟨rfl,again I9 hm w9⟩
   | true =>
    rw [if_pos rfl] at q9
    refine wpAny_bind (wpAny_bind (thn (hw I3 (fun b hb=>⟨(f2 b hb).2.2.2.1,(f2 b hb).2.1,(f2 b hb).2.2.2.2⟩) I9 q9) fun yv s10 ⟨yy,H10,I10,r10,ys,hys,hlen,m',hm,w10⟩=>?_))
    refine wpAny_bind (bad (thn (QU (X:=QE X (xs ++ caps) scope cl s3.heap.objs.size fp s3 H3) _ s10 _ H10 (.ref D) [yy] (.ref D) [yv] (fun _ H11=>W (i + 1) m' H11) I10 rfl (.cons r10 .nil) ⟨D,ys,yy,rfl,rfl,hys,hlen,w10⟩) fun _ s11 ⟨_,H11,I11,_,q11⟩=>?_))
    exact wpAny_pure (wpAny_pure ⟨rfl,again I11 hm q11⟩)
 refine codeAny_compStart_list loop (T.self _ 0 _ _ _ t3 loop)
theorem Uj {X:Cx} {elt iter tg:Expr} {xs:List Str} {ifs:List Expr} {scope:Scope} {pos pos':Pos} {wi:TI} {g:TG} {tt:TT} {te:TE} {cl:List (Str × Addr)} {caps:List Str} {cap:List Nat}
 (O:CompG X xs caps cap scope cl) (hc:X.calm=true) (hi:PI X tg iter wi) (hg:∀ C fp s₀ H₀,PG (21:) tg g)
 (ht:∀ C fp s₀ H₀,PF (21:) ifs tt) (he:∀ C fp s₀ H₀,PE (21:) elt te)
 (hs:∀ x,foldedSetIterable iter X.env x=pure x) {pins:List (12:)} {s:Shared} {σ:St} {H:Hp} {Q:VK} {use:Option (Value→Sem Unit)} {QQ:Value→Shared→Prop} (I:Inv X pins σ H s)
 (h:UD xs.length wi cap g tt te σ H Q)
 (hfin:∀ D C H' s',Inv X pins σ H' s'→OwnAt X pins H' s' C→Q (.ref D) H'→compPost (8:) X.A X.xe use QQ (.ref D) C (.ok .next) s') :
 wpAny (8:) X.A (comprehension (37:) scope X.env pos' (newList []) false (eval iter X.env) use) QQ X.xe s :=
 Xd O hc hi hg ht hs I h hfin fun _ _ I9 q9=>wpAny_mono (he _ _ _ _ _ _ _ _ _ I9 q9) (fun _ _ q=>q) fun _ _ hx=>hx.elim
theorem Qw {X:Cx} {elt iter tg:Expr} {xs:List Str} {ifs:List Expr} {scope:Scope} {pos:Pos} {wi:TI} {g:TG} {tt:TT} {te:TE} {cl:List (Str × Addr)} {caps:List Str} {cap:List Nat}
 (O:CompG X xs caps cap scope cl) (hc:X.calm=true) (hi:PI X tg iter wi) (hg:∀ C fp s₀ H₀,PG (21:) tg g)
 (ht:∀ C fp s₀ H₀,PF (21:) ifs tt) (he:∀ C fp s₀ H₀,PE (21:) elt te)
 (hs:∀ x,foldedSetIterable iter X.env x=pure x:=by intro _;rfl) :
 PE X (37:) (UD xs.length wi cap g tt te):=by
 intro pins s σ H Q I h
 rw [eval_ListComp]
 exact Uj (use:=none) O hc hi hg ht he hs I h fun D C H' s' I' o q=>by
  obtain ⟨m,hn⟩:=o.ns
  exact ⟨m,hn,fun h' hb=>⟨.ref D,H',o.go I' hb,rfl,q⟩⟩
theorem Zw {X:Cx} {elt iter tg:Expr} {xs:List Str} {y:Str} {py:Pos} {ifs:List Expr} {scope:Scope} {pos spos:Pos} {wi:TI} {g:TG} {tt:TT} {te:TE} {cl:List (Str × Addr)} {caps:List Str} {cap:List Nat} {i:Nat}
 (O:CompG X xs caps cap scope cl) (hc:X.calm=true) (hi:PI X tg iter wi) (hg:∀ C fp s₀ H₀,PG (21:) tg g)
 (ht:∀ C fp s₀ H₀,PF (21:) ifs tt) (he:∀ C fp s₀ H₀,PE (21:) elt te)
 (hN:X.N.Nodup) (hy:X.N[i]?=some y) (hl:X.env.scope.names.lookup y=some .local)
 (hsw:swapsWith (37:) (some (.Name y py)) spos.line X.env=pure true:=by rfl)
 (hs:∀ x,foldedSetIterable iter X.env x=pure x:=by intro _;rfl) :
 PS X (.Assign [.Name y py] (37:) spos) (MV (UD xs.length wi cap g tt te) (QV i)):=by
 intro pins s σ H D I h
 rw [exec_Assign_Name_used _ _ _ _ hsw]
 refine wpAny_bind (wpAny_standAt (wpAny_bind ?_))
 show wpAny _ X.A (do let _ ← comprehension (37:) scope X.env _ (newList []) false (eval iter X.env) (some (assign (.Name y py) X.env))) _ _ s
 refine wpAny_bind (thn (Uj (use:=some (assign (.Name y py) X.env)) (QQ:=fun _ s'=>SP X pins D .next s') O hc hi hg ht he hs I h fun Dd C H' s' I' o q=>?_) fun _ s' hq=>wpAny_pure (wpAny_pure hq))
 obtain ⟨m,hn⟩:=o.ns
 show wpAny _ X.A (assign (.Name y py) X.env (.ref Dd)) _ _ s'
 refine wpAny_assign_Name (U6 (v:=.ref Dd) I' hN hy (.inl hl) rfl (fun s2 I2 sb=>?_) (.inr hl))
 obtain ⟨a,sb,ha⟩:=sb
 have hCa:C≠a:=by
  rcases ha with z | z
  ·rw [z];exact o.loc
  ·exact Ne.symm (o.cells y a z)
 have o2:OwnAt X pins H' s2 C:=⟨⟨m,hn.sameBut sb hCa⟩,o.free,o.loc,o.above,o.cells,o.pins⟩
 refine ⟨m,hn.sameBut sb hCa,fun h' hb=>?_⟩
 exact ⟨_,H',o2.go I2 hb,q⟩
section
variable {X:Cx} {xs caps:List Str} {cap:List Nat} {scope:Scope} {cl:List (Str × Addr)}
theorem Zb {x:Str} {px:Pos} (O:CompG X [x] caps cap scope cl):∀ C fp s₀ H₀,PG (QE X ([x] ++ caps) scope cl C fp s₀ H₀) (.Name x px) (QV 0):=fun C fp s₀ H₀ =>
 QC (X:=QE X ([x] ++ caps) scope cl C fp s₀ H₀) (i:=0) O.nd rfl (.inl (lookup_relabel_local (O.lx x (by simp)))) (.inr (lookup_relabel_local (O.lx x (by simp))))
theorem ZB {x y:Str} {px py pos:Pos} {k:Nat} (O:CompG X [x,y] caps cap scope cl) (hc:X.calm=true):∀ C fp s₀ H₀,PG (QE X ([x,y] ++ caps) scope cl C fp s₀ H₀) (.Tuple [.Name x px,.Name y py] k pos) (VE X.K 2 (Yn (QV 0) (Yn (QV 1) Vc))):=fun C fp s₀ H₀ =>
 ZM (X:=QE X ([x,y] ++ caps) scope cl C fp s₀ H₀) hc (QK (QC (i:=0) O.nd rfl (.inl (lookup_relabel_local (O.lx x (by simp)))) (.inr (lookup_relabel_local (O.lx x (by simp)))))
  (QK (QC (i:=1) O.nd rfl (.inl (lookup_relabel_local (O.lx y (by simp)))) (.inr (lookup_relabel_local (O.lx y (by simp))))) Zv))
end
theorem Ja {k:NameKind} {y:Str}:∀ {l:List (Str × NameKind)},l.lookup y=some k→(y,k) ∈ l
 | [],h=>by simp at h
 | (n,j) :: r,h=>by
  cases hx:y == n with
  | true =>
   simp only [List.lookup_cons,hx] at h
   have:y=n:=by simpa using hx
   cases h
   rw [this];exact List.mem_cons_self
  | false =>
   simp only [List.lookup_cons,hx] at h
   exact List.mem_cons_of_mem _ (Ja h)
theorem UE {y:Str} {c:Addr}:∀ {l:List (Str × Addr)},l.lookup y=some c→(y,c) ∈ l
 | [],h=>by simp at h
 | (n,j) :: r,h=>by
  cases hx:y == n with
  | true =>
   simp only [List.lookup_cons,hx] at h
   have:y=n:=by simpa using hx
   cases h
   rw [this];exact List.mem_cons_self
  | false =>
   simp only [List.lookup_cons,hx] at h
   exact List.mem_cons_of_mem _ (UE h)
theorem Ur {y:Str} {c:Addr}:∀ {l:List (Str × Addr)},(y,c) ∈ l→∃ c',l.lookup y=some c'
 | [],h=>by cases h
 | (n,j) :: r,h=>by
  cases hx:y == n with
  | true=>exact ⟨j,by simp only [List.lookup_cons,hx]⟩
  | false =>
   simp only [List.lookup_cons,hx]
   rcases List.mem_cons.mp h with z | z
   ·have:y=n:=congrArg Prod.fst z
    rw [this] at hx
    simp at hx
   ·exact Ur z
theorem YD {env:Env} {y:Str} (hf:env.scope.kind=.function) (hy:env.kindOf y=some .cell):∀ {names:List (Str × NameKind)},names.lookup y=some .free →
 (names.map fun (n,k)=>if (k == NameKind.free && env.scope.kind == .function && env.kindOf n == some .cell) then (n,NameKind.cell) else (n,k)).lookup y=some .cell
 | [],h=>by simp at h
 | (n,k) :: r,h=>by
  show List.lookup y ((if (k == NameKind.free && env.scope.kind == .function && env.kindOf n == some .cell)=true then (n,NameKind.cell) else (n,k)) :: _)=_
  cases hx:y == n with
  | true =>
   simp only [List.lookup_cons,hx] at h
   have e:y=n:=by simpa using hx
   cases h
   rw [← e,hf,hy]
   simp
  | false =>
   simp only [List.lookup_cons,hx] at h
   have ih:=YD hf hy h
   split
   ·simp only [List.lookup_cons,hx];exact ih
   ·simp only [List.lookup_cons,hx];exact ih
def Zi (names:List (Str × NameKind)):List Str:=names.filterMap fun z=>if z.2 == NameKind.free then some z.1 else none
theorem Yt {env:Env}:∀ (names:List (Str × NameKind)) (caps:List Str) (cs:List Addr) (acc:List (Str × Addr)),Zi names=caps→caps.map (fun y=>env.cells.lookup y)=cs.map some →
 (forIn names acc fun (x:Str × NameKind) (r:List (Str × Addr))=>(if (x.2 == NameKind.free)=true then do let a ← cellOf env x.1;pure (ForInStep.yield ((x.1,a) :: r)) else pure (ForInStep.yield r):Sem (ForInStep (List (Str × Addr)))))=(pure ((caps.zip cs).reverse ++ acc):Sem (List (Str × Addr)))
 | [],caps,cs,acc,h1,h2=>by
  have:caps=[]:=h1.symm
  subst this
  simp
 | (n,k) :: r,caps,cs,acc,h1,h2=>by
  rw [List.forIn_cons]
  by_cases hk:(k == NameKind.free)=true
  ·have e1:caps=n :: Zi r:=by
    rw [← h1];unfold Zi
    rw [List.filterMap_cons]
    simp only [hk,if_true]
   subst e1
   cases cs with
   | nil=>simp at h2
   | cons c cs =>
    simp only [List.map_cons,List.cons.injEq] at h2
    have hcell:cellOf env n=pure c:=by unfold cellOf;rw [h2.1]
    simp only [hk,if_true,hcell,pure_bind]
    rw [Yt r _ cs ((n,c) :: acc) rfl h2.2]
    simp
  ·have e1:caps=Zi r:=by
    rw [← h1];unfold Zi
    rw [List.filterMap_cons]
    simp only [hk]
    rfl
   subst e1
   simp only [hk,if_false,pure_bind]
   exact Yt r _ cs acc rfl h2
theorem Y5 {env:Env} {scope:Scope} {caps:List Str} {cs:List Addr} (hf:Zi scope.names=caps) (hc:caps.map (fun y=>env.cells.lookup y)=cs.map some):closureFor scope env=pure (caps.zip cs).reverse:=by
 have h:=Yt (env:=env) scope.names caps cs [] hf hc
 rw [List.append_nil] at h
 unfold closureFor
 simp only [bind_pure]
 exact h
theorem CompG.many {X:Cx} {xs caps:List Str} {cap:List Nat} {cs:List Addr} {scope:Scope} (hk:scope.kind=.function) (hf:X.env.scope.kind=.function) (hfr:Zi scope.names=caps)
 (hnc:∀ z ∈ scope.names,z.2≠.cell) (hl:∀ y ∈ scope.names,y.2=.local→scope.names.lookup y.1=some .local) (hlx:∀ x ∈ xs,scope.names.lookup x=some .local) (hnd:(xs ++ caps).Nodup)
 (hfl:∀ y ∈ caps,scope.names.lookup y=some .free) (hce:caps.map (fun y=>X.env.scope.names.lookup y)=caps.map fun _=>some .cell) (hcs:caps.map (fun y=>X.env.cells.lookup y)=cs.map some)
 (hN:cap.map (fun j=>X.N[j]?)=caps.map some):CompG X xs caps cap scope (caps.zip cs).reverse:=by
 have hlen:caps.length=cs.length:=by simpa using congrArg List.length hcs
 have at_cs:∀ (i:Nat) (y:Str),caps[i]?=some y→∃ c,cs[i]?=some c∧X.env.cells.lookup y=some c:=fun i y h=>by
  have e:=congrArg (fun l=>l[i]?) hcs
  simp only [List.getElem?_map,h] at e
  cases q:cs[i]? with
  | none=>rw [q] at e;simp at e
  | some c=>rw [q] at e;exact ⟨c,rfl,by simpa using e⟩
 refine ⟨Y5 hfr hcs,hnc,hk,hl,hlx,hnd,fun y c h=>?_,fun y h=>?_,?_,fun i y h=>?_⟩
 ·have hm:=UE h
  rw [List.mem_reverse] at hm
  obtain ⟨i,hi,e⟩:=List.getElem_of_mem hm
  have hi1:i < caps.length:=by rw [List.length_zip] at hi;lia
  have hi2:i < cs.length:=by rw [List.length_zip] at hi;lia
  rw [List.getElem_zip] at e
  obtain ⟨c',e1,e2⟩:=at_cs i caps[i] (List.getElem?_eq_getElem hi1)
  have e3:caps[i]=y:=congrArg Prod.fst e
  have e4:cs[i]=c:=congrArg Prod.snd e
  rw [List.getElem?_eq_getElem hi2,e4] at e1
  cases e1
  rw [← e3];exact e2
 ·have hm:y ∈ caps:=by
   have aux:∀ k:NameKind,(k=.cell∨k=.free)→(relabel scope X.env).names.lookup y=some k→y ∈ caps:=fun k hk h=>by
    have h1:=Ja h
    obtain ⟨z,hz,e⟩:=List.mem_map.mp h1
    obtain ⟨n,kk⟩:=z
    have hfree:kk=.free∧n=y:=by
     dsimp only at e
     split at e
     ·rename_i q
      simp only [Bool.and_eq_true] at q
      exact ⟨by simpa using q.1.1,congrArg Prod.fst e⟩
     ·have e2:kk=k:=congrArg Prod.snd e
      refine ⟨?_,congrArg Prod.fst e⟩
      rcases hk with z | z
      ·exact absurd (e2.trans z) (hnc _ hz)
      ·exact e2.trans z
    rw [← hfr]
    refine List.mem_filterMap.mpr ⟨(n,kk),hz,?_⟩
    rw [hfree.1,hfree.2];rfl
   rcases h with h | h
   ·exact aux _ (.inl rfl) h
   ·exact aux _ (.inr rfl) h
  obtain ⟨i,hi,e⟩:=List.getElem_of_mem hm
  have hi2:i < cs.length:=by lia
  refine Ur (c:=cs[i]) ?_
  rw [List.mem_reverse]
  have hiz:i < (caps.zip cs).length:=by rw [List.length_zip];lia
  have:=List.getElem_mem hiz
  rw [List.getElem_zip,e] at this
  exact this
 ·have:=congrArg List.length hN
  simpa using this
 ·have e:=congrArg (fun l=>l[i]?) hN
  simp only [List.getElem?_map,h] at e
  have hm:=List.mem_of_getElem? h
  cases q:cap[i]? with
  | none=>rw [q] at e;simp at e
  | some j =>
   rw [q] at e
   have hcell:X.env.scope.names.lookup y=some .cell:=by
    have e2:=congrArg (fun l=>l[i]?) hce
    simpa only [List.getElem?_map,h,Option.map_some,Option.some.injEq] using e2
   exact ⟨j,rfl,by simpa using e,hcell,YD hf hcell (hfl y hm)⟩
theorem Zf {J:It} {n N:Nat} {cs:St} {g:TG} {tt:TT} {te:TE} {H1:Hp} {acc:Addr} {Q:Hp→Prop} (Pv:Nat→List V→Hp→Prop) (h0:Pv 0 [] (59:))
 (hstop:∀ ys H,Pv N ys H→J.stop N H∧Q H)
 (hstep:∀ i ys H,i < N→Pv i ys H→J.go i H∧∀ x H3,J.yld i H x H3→∀ as:St,as.length=n→g x (as ++ cs) H3 fun σ4 H4=>(∃ bs:St,bs.length=n∧σ4=bs ++ cs)∧tt σ4 H4 fun ok H5=>if ok=true then te σ4 H5 (WA N Pv acc i (N - i)) else ∃ m',m' < N - i∧Ut N Pv (i + 1) m' H5) :
 ∃ W:Nat→Nat→Hp→Prop,(∃ m,W 0 m (59:))∧∀ i m H2,W i m H2 →
  (J.stop i H2∧Q H2)∨(J.go i H2∧∀ x H3,J.yld i H2 x H3→∀ as:St,as.length=n→g x (as ++ cs) H3 fun σ4 H4=>(∃ bs:St,bs.length=n∧σ4=bs ++ cs)∧tt σ4 H4 fun ok H5=>if ok=true then
   te σ4 H5 (48:)
   else ∃ m',m' < m∧W (i + 1) m' H5):=by
 refine ⟨Ut N Pv,⟨N - 0,rfl,Nat.zero_le _,[],h0⟩,?_⟩
 rintro i m H2 ⟨rfl,hi,ys,p⟩
 by_cases h:i < N
 ·exact .inr (hstep i ys H2 h p)
 ·have e:i=N:=by lia
  subst e
  exact .inl (hstop ys H2 p)
abbrev J9 (N:Nat) (Pv:Nat→List V→Hp→Prop) (acc:Addr) (i:Nat) (te:TE) (σ:St):Bool→Hp→Prop:=fun ok H5=>if ok=true then te σ H5 (WA N Pv acc i (N - i)) else ∃ m',m' < N - i∧Ut N Pv (i + 1) m' H5
abbrev YI (J:It) (n:Nat) (cs:St) (g:TG) (tt:TT) (te:TE) (H1:Hp) (acc:Addr) (Q:Hp→Prop):Prop :=
 ∃ W:Nat→Nat→Hp→Prop,(∃ m,W 0 m (59:))∧∀ i m H2,W i m H2 →
  (J.stop i H2∧Q H2)∨(J.go i H2∧∀ x H3,J.yld i H2 x H3→∀ as:St,as.length=n→g x (as ++ cs) H3 fun σ4 H4=>(∃ bs:St,bs.length=n∧σ4=bs ++ cs)∧tt σ4 H4 fun ok H5=>if ok=true then
   te σ4 H5 (48:)
   else ∃ m',m' < m∧W (i + 1) m' H5)
section
variable {K:PySem.W.Frag} {a b acc:Addr} {xs zs:List V} {tt:TT} {te:TE} {cs:St} {H1:Hp} {Q:Hp→Prop}
theorem ZF (Pv:Nat→List V→Hp→Prop) (h0:Pv 0 [] (59:)) (hl:∀ i ys H,i≤xs.length→Pv i ys H→SqL K H a xs)
 (hs:∀ i x ys H,i < xs.length→xs[i]?=some x→Pv i ys H→tt (some x :: cs) H (J9 xs.length Pv acc i te (some x :: cs))) (hd:∀ ys H,Pv xs.length ys H→Q H):YI (Itl K a) 1 cs (QV 0) tt te H1 acc Q:=by
 refine Zf Pv h0 (fun ys H p=>⟨⟨xs,hl _ _ _ (9:) p,Nat.le_refl _⟩,hd ys H p⟩) fun i ys H hi p=>⟨⟨xs,xs[i],hl _ _ _ (Nat.le_of_lt hi) p,List.getElem?_eq_getElem hi⟩,?_⟩
 rintro x H3 ⟨rfl,hx⟩ as has
 obtain ⟨a0,rfl⟩ : ∃ a0,as=[a0]:=List.length_eq_one_iff.mp has
 exact ⟨⟨[some x],rfl,rfl⟩,hs i x ys _ hi (hx xs (hl _ _ _ (Nat.le_of_lt hi) p)) p⟩
theorem ZJ (Pv:Nat→List V→Hp→Prop) (h0:Pv 0 [] (59:)) (hl:∀ i ys H,i≤xs.length→Pv i ys H→SqT K H a xs)
 (hs:∀ i x ys H,i < xs.length→xs[i]?=some x→Pv i ys H→tt (some x :: cs) H (J9 xs.length Pv acc i te (some x :: cs))) (hd:∀ ys H,Pv xs.length ys H→Q H):YI (Itt K a) 1 cs (QV 0) tt te H1 acc Q:=by
 refine Zf Pv h0 (fun ys H p=>⟨⟨xs,hl _ _ _ (9:) p,Nat.le_refl _⟩,hd ys H p⟩) fun i ys H hi p=>⟨⟨xs,xs[i],hl _ _ _ (Nat.le_of_lt hi) p,List.getElem?_eq_getElem hi⟩,?_⟩
 rintro x H3 ⟨rfl,hx⟩ as has
 obtain ⟨a0,rfl⟩ : ∃ a0,as=[a0]:=List.length_eq_one_iff.mp has
 exact ⟨⟨[some x],rfl,rfl⟩,hs i x ys _ hi (hx xs (hl _ _ _ (Nat.le_of_lt hi) p)) p⟩
theorem ZE {lo:Int} {n:Nat} (Pv:Nat→List V→Hp→Prop) (h0:Pv 0 [] (59:))
 (hs:∀ i ys H,i < n→Pv i ys H→tt (some (.int (lo + i)) :: cs) H (J9 n Pv acc i te (some (.int (lo + i)) :: cs))) (hd:∀ ys H,Pv n ys H→Q H):YI (Itr lo n) 1 cs (QV 0) tt te H1 acc Q:=by
 refine Zf Pv h0 (fun ys H p=>⟨Nat.le_refl _,hd ys H p⟩) fun i ys H hi p=>⟨hi,?_⟩
 rintro x H3 ⟨rfl,rfl⟩ as has
 obtain ⟨a0,rfl⟩ : ∃ a0,as=[a0]:=List.length_eq_one_iff.mp has
 exact ⟨⟨[some _],rfl,rfl⟩,hs i ys _ hi p⟩
theorem Jh {as:St} (h:as.length=2):∃ a0 a1,as=[a0,a1]:=by
 match as,h with
 | [a0,a1],_=>exact ⟨a0,a1,rfl⟩
theorem Zc (Pv:Nat→List V→Hp→Prop) (h0:Pv 0 [] (59:)) (hl:∀ i ys H,i≤xs.length→Pv i ys H→SqL K H a xs)
 (hs:∀ i x ys H,i < xs.length→xs[i]?=some x→Pv i ys H→∃ p u v,x=.ref p∧SqT K H p [u,v]∧tt (some u :: some v :: cs) H (J9 xs.length Pv acc i te (some u :: some v :: cs))) (hd:∀ ys H,Pv xs.length ys H→Q H):YI (Itl K a) 2 cs (VE K 2 (Yn (QV 0) (Yn (QV 1) Vc))) tt te H1 acc Q:=by
 refine Zf Pv h0 (fun ys H p=>⟨⟨xs,hl _ _ _ (9:) p,Nat.le_refl _⟩,hd ys H p⟩) fun i ys H hi p=>⟨⟨xs,xs[i],hl _ _ _ (Nat.le_of_lt hi) p,List.getElem?_eq_getElem hi⟩,?_⟩
 rintro x H3 ⟨rfl,hx⟩ as has
 obtain ⟨a0,a1,rfl⟩:=Jh has
 obtain ⟨q,u,v,rfl,hq,h⟩:=hs i x ys _ hi (hx xs (hl _ _ _ (Nat.le_of_lt hi) p)) p
 exact ⟨q,[u,v],rfl,hq,rfl,u,[v],rfl,v,[],rfl,rfl,⟨[some u,some v],rfl,rfl⟩,h⟩
theorem VR (hlen:xs.length=zs.length) (Pv:Nat→List V→Hp→Prop) (h0:Pv 0 [] (59:)) (hl:∀ i ys H,i≤xs.length→Pv i ys H→SqL K H a xs∧SqL K H b zs)
 (hs:∀ i u v p ys H,i < xs.length→xs[i]?=some u→zs[i]?=some v→H p=none→Pv i ys H→tt (some u :: some v :: cs) (upd H p (.tup [u,v])) (J9 xs.length Pv acc i te (some u :: some v :: cs))) (hd:∀ ys H,Pv xs.length ys H→Q H):YI (Itz K a b xs zs) 2 cs (VE K 2 (Yn (QV 0) (Yn (QV 1) Vc))) tt te H1 acc Q:=by
 refine Zf (N:=xs.length) Pv h0 (fun ys H p=>?_) fun i ys H hi p=>?_
 ·obtain ⟨qa,qb⟩:=hl _ _ _ (9:) p
  exact ⟨⟨qa,qb,.inl (9:)⟩,hd ys H p⟩
 ·obtain ⟨qa,qb⟩:=hl _ _ _ (Nat.le_of_lt hi) p
  refine ⟨⟨qa,qb,hi,by lia⟩,?_⟩
  rintro x H3 ⟨q,u,v,hq,rfl,rfl,hu,hv⟩ as has
  obtain ⟨a0,a1,rfl⟩:=Jh has
  exact ⟨q,[u,v],rfl,SqT.of Qb,rfl,u,[v],rfl,v,[],rfl,rfl,⟨[some u,some v],rfl,rfl⟩,hs i u v q ys _ hi hu hv hq p⟩
end
end L2
namespace L2
open PySem PySem.Spec PyProof.Rows
section
variable {κ:Type} [DecidableEq κ]
end
section
variable {P:Program} {w:World} {H:Hp} {h:Heap} {a:Addr}
end
section
variable {X:Cx} {pins:List (12:)} {σ:St} {H:Hp} {s:Shared} {a:Addr} {y v:V} {u r:Value} {o:Option V} {A:Around} {E:Value→Shared→Prop}
end
section
variable {X:Cx} {pins:List (12:)} {σ:St} {H:Hp} {s:Shared} {a:Addr} {kvs:List (Key × V)} {k:Key} {u:Value} {A:Around} {E:Value→Shared→Prop}
end
section
variable {X:Cx} {o i e value:Expr} {pos pos' tpos:Pos} {td ty tv:TE}
end
section
variable {X:Cx} {pos:Pos}
end
section
variable {X:Cx} {pins:List (12:)} {σ:St} {H:Hp} {s:Shared} {a:Addr} {y d:V} {u r:Value} {o:Option V} {A:Around} {E:Value→Shared→Prop}
end
section
variable {X:Cx} {o e f:Expr} {apos cpos:Pos} {td ty tx:TE}
end
section
variable {X:Cx} {pins:List (12:)} {σ:St} {H:Hp} {s:Shared} {a:Addr} {kvs:List (Key × V)} {A:Around} {E:Value→Shared→Prop}
end
section
variable {X:Cx} {pins:List (12:)} {σ:St} {H:Hp} {s:Shared} {a:Addr} {y:V} {u:Value} {A:Around} {E:Value→Shared→Prop}
end
end L2
namespace Srt
open PySem PySem.W PyProof.Rows
variable {α β:Type} {O:KeyOrd} {key:Nat→O.α} {n:Nat}
def Ok (O:KeyOrd) (key:Nat→O.α) (n:Nat) (Q:α→Prop):KasT α→Prop
 | .ret a=>Q a
 | .ask i j k=>i < n∧j < n∧Ok O key n Q (k (O.blt (key i) (key j)))
theorem Ok.bind {t:KasT α} {f:α→KasT β} {Q:β→Prop}:Ok O key n (fun a=>Ok O key n Q (f a)) t→Ok O key n Q (t.bind f):=by
 induction t with
 | ret a=>exact id
 | ask i j k ih=>exact fun h=>⟨h.1,h.2.1,ih _ h.2.2⟩
theorem Ok.wp {cmp:Nat→Nat→(Bool→Shared→Prop)→Shared→Prop} {s:Shared} (hc:∀ i j C,i < n→j < n→C (O.blt (key i) (key j)) s→cmp i j C s) {G:α→Shared→Prop} {Q:α→Prop} (hq:∀ a,Q a→G a s) {t:KasT α}:Ok O key n Q t→t.kasWp cmp G s:=by
 induction t with
 | ret a=>exact hq a
 | ask i j k ih=>exact fun h=>hc i j _ h.1 h.2.1 (ih _ h.2.2)
def Pm (n:Nat) (p:Array Nat):Prop:=p.toList.Perm (List.range n)
theorem Pm.size {p:Array Nat} (h:Pm n p):p.size=n:=by
 have:=h.length_eq
 simpa using this
theorem Pm.lt {p:Array Nat} (h:Pm n p) {i:Nat} (hi:i < n):p.getD i 0 < n:=by
 have hs:i < p.size:=by rw [h.size];exact hi
 have e:p.getD i 0=p[i]:=by simp [Array.getD,hs]
 rw [e]
 have:p[i] ∈ p.toList:=by simp
 exact List.mem_range.mp (h.mem_iff.mp this)
theorem Pm.of {p q:Array Nat} (h:Pm n p) (e:q.Perm p):Pm n q:=(Array.perm_iff_toList_perm.mp e).trans h
variable (key) in
def kk (p:Array Nat) (i:Nat):O.α:=key (p.getD i 0)
theorem Yc {p q:Array Nat} {i j:Nat} (h:p[i]?=q[j]?):kk key p i=kk key q j:=by
 unfold kk
 rw [Array.getD_eq_getD_getElem?,Array.getD_eq_getD_getElem?,h]
variable (key) in
def Up (p:Array Nat) (k:Nat):Prop:=∀ i j,i≤j→j < k→O.kle (kk key p i) (kk key p j)
variable (key) in
def WP (p:Array Nat) (k:Nat):Prop:=∀ i j,i≤j→j < k→O.kle (kk key p j) (kk key p i)
theorem Xu {p:Array Nat} {i j:Nat} (hj:j≤p.size) (k:Nat):kk key (kas_rev p i j) k=if i≤k∧k < j then kk key p (i + j - 1 - k) else kk key p k:=by
 have e:=getElem?_mirror_all (xs:=p) (i:=i) hj k
 unfold kas_rev
 by_cases h:i≤k∧k < j
 ·rw [if_pos h] at e ⊢;exact Yc e
 ·rw [if_neg h] at e ⊢;exact Yc e
theorem Ul {p:Array Nat} {i j:Nat} (hj:j≤p.size) (heq:∀ k,i≤k→k < j→kk key p k=kk key p (j - 1)) (k:Nat):kk key (kas_rev p i j) k=kk key p k:=by
 rw [Xu hj]
 by_cases h:i≤k∧k < j
 ·rw [if_pos h,heq _ (7:) (7:),heq k h.1 h.2]
 ·rw [if_neg h]
theorem Pm.rev {p:Array Nat} (h:Pm n p) (i j:Nat):Pm n (kas_rev p i j):=h.of (mirror_perm _ _ _ _)
theorem Lf {p:Array Nat} {m:Nat} (h1:1≤m) (hs:Up key p m) (h:O.kle (kk key p (m - 1)) (kk key p m)):Up key p (m + 1):=fun i j hij hj=>by
 by_cases hjm:j < m
 ·exact hs i j hij hjm
 ·have:j=m:=by lia
  subst this
  by_cases hi:i=j
  ·subst hi;exact KeyOrd.kle_refl _
  ·exact KeyOrd.kle_trans (hs i (j - 1) (7:) (7:)) h
theorem Yl {p:Array Nat} {m:Nat} (h1:1≤m) (hs:WP key p m) (h:O.kle (kk key p m) (kk key p (m - 1))):WP key p (m + 1):=fun i j hij hj=>by
 by_cases hjm:j < m
 ·exact hs i j hij hjm
 ·have:j=m:=by lia
  subst this
  by_cases hi:i=j
  ·subst hi;exact KeyOrd.kle_refl _
  ·exact KeyOrd.kle_trans h (hs i (j - 1) (7:) (7:))
theorem Xt {p:Array Nat} (hP:Pm n p) {Q:Nat→Prop}:∀ (f m:Nat),1≤m→m + f≤n→Up key p m→(∀ m',m≤m'→m'≤m + f→Up key p m'→(m'=m + f∨O.klt (kk key p m') (kk key p (m' - 1)))→Q m')→Ok O key n Q (kas_asc p f m)
 | 0,m,_,_,hs,h=>h m (9:) (9:) hs (.inl rfl)
 | f + 1,m,h1,hn,hs,h=>by
  refine ⟨hP.lt (7:),hP.lt (7:),?_⟩
  show Ok O key n Q (if O.blt (kk key p m) (kk key p (m - 1))=true then .ret m else kas_asc p f (m + 1))
  cases hb:O.blt (kk key p m) (kk key p (m - 1)) with
  | true =>
   rw [if_pos rfl]
   exact h m (9:) (7:) hs (.inr hb)
  | false =>
   rw [if_neg Bool.false_ne_true]
   exact Xt hP f (m + 1) (7:) (7:) (Lf h1 hs hb) fun m' a b c d=>h m' (7:) (7:) c (by rcases d with d | d;exact .inl (7:);exact .inr d)
variable (key) in
def MB (p:Array Nat) (m q:Nat):Prop:=q + 1≤m∧∀ i,m - (q + 1)≤i→i < m→kk key p i=kk key p (m - 1)
theorem Uh {Q:Array Nat × Nat × Nat→Prop}:∀ (f:Nat) (p:Array Nat) (m q:Nat),Pm n p→1≤m→m + f≤n→WP key p m→MB key p m q →
 (∀ p' m' q',Pm n p'→m≤m'→m'≤m + f→WP key p' m'→MB key p' m' q'→Q (p',m',q'))→Ok O key n Q (kas_desc f p m q)
 | 0,p,m,q,hP,_,_,hs,ht,h=>h p m q hP (9:) (9:) hs ht
 | f + 1,p,m,q,hP,h1,hn,hs,ht,h=>by
  have hsz:=hP.size
  refine ⟨hP.lt (7:),hP.lt (7:),?_⟩
  show Ok O key n Q (if O.blt (kk key p m) (kk key p (m - 1))=true then (if q > 0 then kas_desc f (kas_rev p (m - (q + 1)) m) (m + 1) 0 else kas_desc f p (m + 1) 0)
   else .ask (p.getD (m - 1) 0) (p.getD m 0) fun d=>if d=true then .ret (p,m,q) else kas_desc f p (m + 1) (q + 1))
  have one:∀ p':Array Nat,MB key p' (m + 1) 0:=fun p'=>⟨by lia,fun i a b=>by congr 1;lia⟩
  cases hb:O.blt (kk key p m) (kk key p (m - 1)) with
  | true =>
   rw [if_pos rfl]
   have hd:=Yl h1 hs (KeyOrd.kle_of_klt hb)
   by_cases hq:q > 0
   ·rw [if_pos hq]
    have e:=Ul (key:=key) (p:=p) (i:=m - (q + 1)) (j:=m) (7:) ht.2
    refine Uh f _ (m + 1) 0 (hP.rev _ _) (7:) (7:) (fun i j a b=>by rw [e,e];exact hd i j a b) (one _) fun p' m' q' a b c d g=>h p' m' q' a (7:) (7:) d g
   ·rw [if_neg hq]
    exact Uh f p (m + 1) 0 hP (7:) (7:) hd (one _) fun p' m' q' a b c d g=>h p' m' q' a (7:) (7:) d g
  | false =>
   rw [if_neg Bool.false_ne_true]
   refine ⟨hP.lt (7:),hP.lt (7:),?_⟩
   show Ok O key n Q (if O.blt (kk key p (m - 1)) (kk key p m)=true then .ret (p,m,q) else kas_desc f p (m + 1) (q + 1))
   cases hc:O.blt (kk key p (m - 1)) (kk key p m) with
   | true =>
    rw [if_pos rfl]
    exact h p m q hP (9:) (7:) hs ht
   | false =>
    rw [if_neg Bool.false_ne_true]
    have he:kk key p m=kk key p (m - 1):=KeyOrd.kle_antisymm hc hb
    refine Uh f p (m + 1) (q + 1) hP (7:) (7:) (Yl h1 hs hc) ⟨by have:=ht.1;lia,fun i a b=>?_⟩ fun p' m' q' a b c d g=>h p' m' q' a (7:) (7:) d g
    rw [Nat.add_sub_cancel]
    by_cases hi:i=m
    ·rw [hi]
    ·rw [he];exact ht.2 i (7:) (7:)
theorem X9 {p:Array Nat} {m:Nat} (hP:Pm n p) (h1:1≤m) (hm:m≤n) (hs:WP key p m) {Q:Nat × Array Nat→Prop} (h:∀ m' p',Pm n p'→1≤m'→m'≤n→Up key p' m'→Q (m',p')):Ok O key n Q (kas_tail3 m n p):=by
 have hsz:=hP.size
 refine Ok.bind (Xt (hP.rev 0 m) (n - m) m h1 (7:) (fun i j hij hj=>?_) fun m' a b c _=>h m' _ (hP.rev 0 m) (7:) (7:) c)
 rw [Xu (7:),Xu (7:),if_pos (7:),if_pos (7:)]
 exact hs _ _ (7:) (7:)
theorem Y4 {p:Array Nat} {m:Nat} (hP:Pm n p) (h1:1≤m) (hm:m + 1≤n) (hs:WP key p (m + 1)) {Q:Nat × Array Nat→Prop} (h:∀ m' p',Pm n p'→1≤m'→m'≤n→Up key p' m'→Q (m',p')):Ok O key n Q (kas_descPart m n p):=by
 refine Ok.bind (Uh (n - (m + 1)) p (m + 1) 0 hP (7:) (7:) hs ⟨by lia,fun i a b=>by congr 1;lia⟩ fun p' m' q' a b c d g=>?_)
 have hsz:=a.size
 show Ok O key n Q (if q' > 0 then kas_tail3 m' n (kas_rev p' (m' - (q' + 1)) m') else kas_tail3 m' n p')
 by_cases hq:q' > 0
 ·rw [if_pos hq]
  have e:=Ul (key:=key) (p:=p') (i:=m' - (q' + 1)) (j:=m') (7:) g.2
  exact X9 (a.rev _ _) (7:) (7:) (fun i j x y=>by rw [e,e];exact d i j x y) h
 ·rw [if_neg hq]
  exact X9 a (7:) (7:) d h
theorem VI {p:Array Nat} (hP:Pm n p) (h1:1≤n) {Q:Nat × Array Nat→Prop} (h:∀ m' p',Pm n p'→1≤m'→m'≤n→Up key p' m'→Q (m',p')):Ok O key n Q (kas_count n p):=by
 have hsz:=hP.size
 refine Ok.bind (Xt hP (n - 1) 1 (9:) (7:) (fun i j a b=>?_) fun m a b c d=>?_)
 ·have:i=j:=by lia
  subst this;exact KeyOrd.kle_refl _
 ·show Ok O key n Q (if (m == n)=true then .ret (m,p) else if m > 1 then .ask (p.getD 0 0) (p.getD (m - 1) 0) fun c=>if c=true then .ret (m,p) else kas_descPart m n (kas_rev p 0 m) else kas_descPart m n p)
  by_cases hm:m=n
  ·rw [if_pos (by simpa using hm)]
   exact h m p hP a (7:) c
  ·rw [if_neg (by simpa using hm)]
   have hlt:O.klt (kk key p m) (kk key p (m - 1)):=by
    rcases d with d | d
    ·exact absurd (7:) hm
    ·exact d
   by_cases hg:m > 1
   ·rw [if_pos hg]
    refine ⟨hP.lt (7:),hP.lt (7:),?_⟩
    show Ok O key n Q (if O.blt (kk key p 0) (kk key p (m - 1))=true then .ret (m,p) else kas_descPart m n (kas_rev p 0 m))
    cases hb:O.blt (kk key p 0) (kk key p (m - 1)) with
    | true =>
     rw [if_pos rfl]
     exact h m p hP a (7:) c
    | false =>
     rw [if_neg Bool.false_ne_true]
     have hall:∀ k,0≤k→k < m→kk key p k=kk key p (m - 1):=fun k _ hk =>
      KeyOrd.kle_antisymm (c k (m - 1) (7:) (7:)) (KeyOrd.kle_trans hb (c 0 k (7:) hk))
     have e:=Ul (key:=key) (p:=p) (i:=0) (j:=m) (7:) hall
     refine Y4 (hP.rev _ _) (7:) (7:) (Yl (7:) (fun i j x y=>?_) ?_) h
     ·rw [e,e,hall i (7:) (7:),hall j (7:) y];exact KeyOrd.kle_refl _
     ·rw [e,e];exact KeyOrd.kle_of_klt hlt
   ·rw [if_neg hg]
    have:m=1:=by lia
    subst this
    refine Y4 hP (9:) (7:) (Yl (9:) (fun i j x y=>?_) (KeyOrd.kle_of_klt hlt)) h
    have:i=j:=by lia
    subst this;exact KeyOrd.kle_refl _
theorem UG {p:Array Nat} {k:Nat} (hP:Pm n p) (hk:k < n) (hs:Up key p k) {Q:Nat→Prop}
 (h:∀ l,l≤k→(∀ i,i < l→O.kle (kk key p i) (kk key p k))→(∀ i,l≤i→i < k→O.klt (kk key p k) (kk key p i))→Q l):∀ (f l r:Nat),l≤r→r≤k→r - l≤f →
  (∀ i,i < l→O.kle (kk key p i) (kk key p k))→(∀ i,r≤i→i < k→O.klt (kk key p k) (kk key p i))→Ok O key n Q (kas_place p k f l r)
 | 0,l,r,a,b,c,d,e=>by
  have:l=r:=by lia
  subst this
  exact h l b d e
 | f + 1,l,r,a,b,c,d,e=>by
  show Ok O key n Q (if l ≥ r then .ret l else .ask (p.getD k 0) (p.getD ((l + r) / 2) 0) fun c=>if c=true then kas_place p k f l ((l + r) / 2) else kas_place p k f ((l + r) / 2 + 1) r)
  by_cases hge:l ≥ r
  ·rw [if_pos hge]
   have:l=r:=by lia
   subst this
   exact h l b d e
  ·rw [if_neg hge]
   refine ⟨hP.lt hk,hP.lt (7:),?_⟩
   show Ok O key n Q (if O.blt (kk key p k) (kk key p ((l + r) / 2))=true then kas_place p k f l ((l + r) / 2) else kas_place p k f ((l + r) / 2 + 1) r)
   cases hb:O.blt (kk key p k) (kk key p ((l + r) / 2)) with
   | true =>
    rw [if_pos rfl]
    exact UG hP hk hs h f l ((l + r) / 2) (7:) (7:) (7:) d fun i x y=>KeyOrd.klt_of_klt_of_kle hb (hs _ _ x y)
   | false =>
    rw [if_neg Bool.false_ne_true]
    exact UG hP hk hs h f ((l + r) / 2 + 1) r (7:) b (7:) (fun i x=>KeyOrd.kle_trans (hs i ((l + r) / 2) (7:) (7:)) hb) e
theorem U4 {p:Array Nat} {k d:Nat} (hs:k < p.size) (hd:d≤k) (i:Nat):kk key (bubble p k d) i=if i=k - d then kk key p k else if k - d < i∧i≤k then kk key p (i - 1) else kk key p i:=by
 have e:=getElem?_bubble hs d hd i
 by_cases h1:i=k - d
 ·rw [if_pos h1] at e ⊢;exact Yc e
 ·rw [if_neg h1] at e ⊢
  by_cases h2:k - d < i∧i≤k
  ·rw [if_pos h2] at e ⊢;exact Yc e
  ·rw [if_neg h2] at e ⊢;exact Yc e
theorem VQ {Q:Array Nat→Prop}:∀ (f:Nat) (p:Array Nat) (k:Nat),Pm n p→1≤k→k + f=n→Up key p k→(∀ p',Pm n p'→Up key p' n→Q p')→Ok O key n Q (kas_bin f p k)
 | 0,p,k,hP,_,hn,hs,h=>h p hP (by rw [← hn];exact hs)
 | f + 1,p,k,hP,h1,hn,hs,h=>by
  have hsz:=hP.size
  have hk:k < n:=by lia
  refine Ok.bind (UG hP hk hs (fun l a b c=>?_) k 0 k (Nat.zero_le _) (9:) (7:) (fun i x=>by lia) fun i x y=>by lia)
  refine VQ f _ (k + 1) (hP.of (bubble_perm _ _ _)) (7:) (7:) (fun i j hij hj=>?_) h
  rw [U4 (7:) (7:),U4 (7:) (7:),show k - (k - l)=l by lia]
  repeat' split
  all_goals first
   | (exfalso;lia)
   | exact KeyOrd.kle_refl _
   | exact b _ (7:)
   | exact KeyOrd.kle_of_klt (c _ (7:) (7:))
   | exact hs _ _ (7:) (7:)
theorem sort_ok (h1:1≤n) {Q:Array Nat→Prop} (h:∀ p,Pm n p→Up key p n→Q p):Ok O key n Q (kas_sort n):=by
 have hP:Pm n (List.toArray (List.range n)):=List.Perm.refl _
 refine Ok.bind (VI hP h1 fun m p a b c d=>?_)
 show Ok O key n Q (if m < n then kas_bin (n - max m 1) p (max m 1) else .ret p)
 have hm:max m 1=m:=by lia
 by_cases hlt:m < n
 ·rw [if_pos hlt,hm]
  exact VQ (n - m) p m a b (7:) d h
 ·rw [if_neg hlt]
  have:m=n:=by lia
  subst this
  exact h p a d
end Srt
namespace L2
open PySem PySem.Spec PyProof.Rows PySem.W
section
variable {prog:Program} {w:World} {A:Around} {E:Value→Shared→Prop} {s:Shared}
end
section
variable {X:Cx}
end
end L2
namespace L2
open PySem PySem.Spec PyProof.Rows PySem.W
section
variable {prog:Program} {w:World} {A:Around} {E:Value→Shared→Prop} {s:Shared}
theorem Gq {a:Addr} {vs:List Value} {n:Nat} {P:PySem.Fin→Shared→Prop} (O:KeyOrd) (key:Nat→O.α) (κ:SortKind) (ho:s.heap.get? a=some (seqObj "list" vs.toArray n)) (h64:vs.length < 64)
 (hk:∀ (s':Shared) (Q:SortKind→Shared→Prop),(∀ b o,b≠a→s.heap.get? b=some o→s'.heap.get? b=some o)→2≤vs.length→Q κ s'→wpAny (model prog w) A (keyKind' vs.toArray) Q E s')
 (hc:∀ (s':Shared) (i j:Nat) (C:Bool→Shared→Prop),(∀ b o,b≠a→s.heap.get? b=some o→s'.heap.get? b=some o)→i < vs.length→j < vs.length→C (O.blt (key i) (key j)) s'→wpAny (model prog w) A (keyLt' κ (vs.getD i Value.none) (vs.getD j Value.none)) C (fun _ _=>False) s')
 (h:∀ p:Array Nat,Srt.Pm vs.length p→Srt.Up (O:=O) key p vs.length→P (.done (.ret .none)) { s with heap:=sortedHeap s.heap a vs (p.toList.map fun i=>vs.getD i Value.none).toArray }) :
 wpAny (model prog w) A (Builtin.«list.sort» ⟨[.ref a],[]⟩) P E s:=by
 have hal:a < s.heap.objs.size:=Heap.lt_size ho
 rw [list_sort_plain]
 refine wpAny_bind (listItems_at ho rfl ?_)
 refine wpAny_bind (listUpdate_at ho rfl ?_ (by rw [List.size_toArray,sizeLine_eq];lia) (Nat.zero_le _))
 obtain ⟨e1,ho1⟩ : ∃ e1,(s.heap.update a (Obj.mapSeq fun _=>(#[]:Array Value))).get? a=some (seqObj "list" #[] e1):=⟨_,get?_update_seq ho fun _=>#[]⟩
 refine wpAny_bind (seqEpoch_at ho1 rfl (wpAny_bind (wpAny_newTuple ?_ (by show vs.length≤_;rw [sizeLine_eq];lia))))
 refine wpAny_bind (wpAny_newList (wpAny_holding ?_) (Nat.zero_le _))
 have keep:∀ b o,b≠a→s.heap.get? b=some o→((14:).push (seqObj "list" #[] 0)).get? b=some o:=fun b o hb e =>
  Heap.get?_push_of_some _ (Heap.get?_push_of_some _ ((Heap.get?_update_ne _ _ _ _ hb).trans e))
 have ho6:((14:).push (seqObj "list" #[] 0)).get? a=some (seqObj "list" #[] e1):=Heap.get?_push_of_some _ (Heap.get?_push_of_some _ ho1)
 show wpAny (model prog w) A _ P E { s with heap:=(14:).push (seqObj "list" #[] 0) }
 dsimp only
 have hz:vs.toArray.size=vs.length:=List.size_toArray
 by_cases h2:vs.toArray.size < 2
 ·rw [if_pos h2,if_pos h2]
  refine wpAny_bind (wpAny_pure ?_)
  rw [StateT.run_pure]
  refine wpAny_bind (wpAny_pure ?_)
  dsimp only
  refine wpAny_bind (seqEpoch_at ho6 rfl ?_)
  have e2:(arrOf (SortSt.mk' general' (vs.toArray.zip vs.toArray) #[] 7 none)).map (·.2)=vs.toArray:=by
   show (vs.toArray.zip vs.toArray).map (·.2)=vs.toArray
   apply Array.toList_inj.mp
   rw [Array.toList_map,Array.toList_zip]
   exact List.map_snd_zip (9:)
  rw [e2]
  refine wpAny_bind (listUpdate_at ho6 rfl ?_ (hsz2:=by show vs.toArray.size≤_;rw [sizeLine_eq];lia))
  simp only [bne_self_eq_false,Bool.false_eq_true,if_false]
  have:=h (List.range vs.length).toArray (List.Perm.refl _) (fun i j hij hj=>by
   have:i=j:=by lia
   subst this
   exact O.irrefl _)
  have e3:((List.range vs.length).toArray.toList.map fun i=>vs.getD i Value.none)=vs:=by
   apply List.ext_getElem (by simp)
   intro i a b
   simp at a
   simp [a]
  rw [e3] at this
  exact wpAny_pure this
 ·rw [if_neg h2,if_neg h2]
  refine wpAny_bind ?_
  refine hk { s with heap:=(14:).push (seqObj "list" #[] 0) } _ keep (7:) ?_
  refine wpAny_bind (wpAny_mono (kat_run (Q:=fun st' s'=>∃ p:Array Nat,Srt.Pm vs.length p∧Srt.Up (O:=O) key p vs.length∧(arrOf st').map (·.2)=(p.toList.map fun i=>vs.getD i Value.none).toArray∧failedOf st'=none ∧
   s'={ s with heap:=(14:).push (seqObj "list" #[] 0) })
   (G:=fun p s'=>Srt.Pm vs.length p∧Srt.Up (O:=O) key p vs.length∧s'={ s with heap:=(14:).push (seqObj "list" #[] 0) })
   (vs:=vs) (ks:=vs) rfl (7:) (7:) (fun p st' s' hsz har hfl hg=>?_) ?_) (fun r s' hq=>?_) fun _ _ e=>e)
  ·obtain ⟨hP,hU,es⟩:=hg
   exact ⟨p,hP,hU,kat_snds rfl har,hfl,es⟩
  ·refine Srt.Ok.wp (O:=O) (key:=key) (n:=vs.length) (fun i j C hi hj hC=>?_) (Q:=fun p=>Srt.Pm vs.length p∧Srt.Up (O:=O) key p vs.length) (fun p hp=>⟨hp.1,hp.2,rfl⟩) (Srt.sort_ok (7:) fun p a b=>⟨a,b⟩)
   exact hc { s with heap:=(14:).push (seqObj "list" #[] 0) } i j C keep hi hj hC
  ·obtain ⟨p,o1,o2,o3,o4,rfl⟩:=hq
   obtain ⟨⟨⟩,st'⟩:=r
   dsimp only at o3 o4 ⊢
   refine wpAny_bind (seqEpoch_at ho6 rfl ?_)
   rw [o3]
   refine wpAny_bind (listUpdate_at ho6 rfl ?_ (hsz2:=by show (p.toList.map fun i=>vs.getD i Value.none).toArray.size≤_;rw [List.size_toArray,List.length_map,o1.length_eq,List.length_range,sizeLine_eq];lia))
   rw [o4]
   simp only [bne_self_eq_false,Bool.false_eq_true,if_false]
   exact wpAny_pure (h p o1 o2)
theorem Xv {l:Addr} {vs:List Value} {Q:Value→Shared→Prop} (O:KeyOrd) (key:Nat→O.α) (κ:SortKind) (hl:s.heap.IsList l vs.toArray) (h64:vs.length < 64)
 (hk:∀ (s':Shared) (E':Value→Shared→Prop) (Q:SortKind→Shared→Prop),(∀ b o,s.heap.get? b=some o→s'.heap.get? b=some o)→2≤vs.length→Q κ s'→wpAny (model prog w) A.in1.in1 (keyKind' vs.toArray) Q E' s')
 (hc:∀ (s':Shared) (i j:Nat) (C:Bool→Shared→Prop),(∀ b o,s.heap.get? b=some o→s'.heap.get? b=some o)→i < vs.length→j < vs.length→C (O.blt (key i) (key j)) s'→wpAny (model prog w) A.in1.in1 (keyLt' κ (vs.getD i Value.none) (vs.getD j Value.none)) C (fun _ _=>False) s')
 (h:∀ p:Array Nat,Srt.Pm vs.length p→Srt.Up (O:=O) key p vs.length→Q (.ref (s.heap.objs.size + 1)) { s with heap:=sortedAll s.heap vs (p.toList.map fun i=>vs.getD i Value.none).toArray }) :
 wpAny (model prog w) A (call (.builtin "sorted") [.ref l]) Q E s:=by
 refine Calls.call_function_entry kind_sorted plain_sorted entry_sorted (args_sorted1 _) ?_
 unfold Builtin.«sorted»
 refine wpAny_bind (m:=checkCount "sorted" 1 1 _) (wpAny_pure ?_)
 refine wpAny_bind (collect_list hl ?_ (by rw [sizeLine_eq];lia))
 refine wpAny_bind (wpAny_newList ?_ (by rw [sizeLine_eq];lia))
 have hsz:((s.heap.push (seqObj "list" #[] 0)).update s.heap.objs.size (Obj.mapSeq (· ++ vs.toArray))).objs.size=s.heap.objs.size + 1:=by rw [Heap.size_update,size_push']
 have hoL:(((s.heap.push (seqObj "list" #[] 0)).update s.heap.objs.size (Obj.mapSeq (· ++ vs.toArray))).push (seqObj "list" vs.toArray 0)).get? (s.heap.objs.size + 1)=some (seqObj "list" vs.toArray 0):=by
  rw [← hsz];exact Heap.get?_push_size _ rfl
 have keep:∀ b o,s.heap.get? b=some o→(((s.heap.push (seqObj "list" #[] 0)).update s.heap.objs.size (Obj.mapSeq (· ++ vs.toArray))).push (seqObj "list" vs.toArray 0)).get? b=some o:=fun b o e=>by
  have hlt:b < s.heap.objs.size:=Heap.lt_size e
  exact Heap.get?_push_of_some _ ((Heap.get?_update_ne _ _ _ _ (Nat.ne_of_lt hlt)).trans (Heap.get?_push_of_some _ e))
 show wpAny _ _ _ _ _ { s with heap:=((s.heap.push (seqObj "list" #[] 0)).update s.heap.objs.size (Obj.mapSeq (· ++ vs.toArray))).push (seqObj "list" vs.toArray 0) }
 rw [hsz]
 refine wpAny_bind (wpAny_holding (wpAny_call_entry slot_list_sort ⟨_,hoL,rfl⟩ entry_list_sort ?_ (args_list_sort _)))
 have old:∀ (s':Shared),(∀ b o,b≠s.heap.objs.size + 1→(((s.heap.push (seqObj "list" #[] 0)).update s.heap.objs.size (Obj.mapSeq (· ++ vs.toArray))).push (seqObj "list" vs.toArray 0)).get? b=some o→s'.heap.get? b=some o)→∀ b o,s.heap.get? b=some o→s'.heap.get? b=some o:=fun s' h b o e=>by
  have hlt:b < s.heap.objs.size:=Heap.lt_size e
  exact h b o (fun z=>by rw [z] at hlt;exact absurd hlt (Nat.not_lt.mpr (Nat.le_succ _))) (keep b o e)
 refine Gq (A:=A.in1.in1) O key κ hoL h64 (fun s' Q' hs h2 hq=>hk s' _ Q' (old s' hs) h2 hq) (fun s' i j C hs hi hj hC=>hc s' i j C (old s' hs) hi hj hC) fun p o1 o2=>⟨_,rfl,wpAny_pure ⟨_,rfl,h p o1 o2⟩⟩
theorem Ls {x y:Addr} {fx sx fy sy:Value} {b:Bool} {C:Bool→Shared→Prop} (hx:s.heap.IsTuple x [fx,sx].toArray) (hy:s.heap.IsTuple y [fy,sy].toArray)
 (hne:x≠y→SeqAt.EqAt A s fx fy false∧wpAny (model prog w) A (oneLt' b fx fy) C (fun _ _=>False) s) (heq:x=y→SeqAt.EqAt A s fx fx true∧SeqAt.EqAt A s sx sx true∧C false s) :
 wpAny (model prog w) A (keyLt' (tuples' b) (.ref x) (.ref y)) C E s:=by
 obtain ⟨ox,gx,cx,nx,dx⟩:=hx
 obtain ⟨oy,gy,cy,ny,dy⟩:=hy
 refine kat_lt gx dx gy dy ?_
 by_cases h:x=y
 ·subst h
  obtain rfl:=Option.some.inj (gx.symm.trans gy)
  rw [dx] at dy
  injection dy with e1 e2
  have e3:[fx,sx]=[fy,sy]:=by simpa using congrArg Array.toList e1
  injection e3 with e4 e5
  injection e5 with e6 e7
  subst e4 e6
  obtain ⟨q1,q2,q3⟩:=heq rfl
  show KatLex prog w A b _ C [(fx,fx),(sx,sx)] 0 s
  refine kat_cons (q1 _ _ _ _ (kat_yes (kat_cons (q2 _ _ _ _ (kat_yes (kat_nil ?_))))))
  exact q3
 ·obtain ⟨q1,q2⟩:=hne h
  show KatLex prog w A b _ C [(fx,fy),(sx,sy)] 0 s
  refine kat_cons (q1 _ _ _ _ (kat_no ?_))
  have:(b && (0:Nat) == 0)=b:=by simp
  rw [this]
  exact q2
end
theorem Ln {α:Type} {O:KeyOrd} {ts:List α} {d:α} {key:α→O.α} {p:Array Nat} (hP:Srt.Pm ts.length p) (hU:Srt.Up (O:=O) (fun i=>key (ts.getD i d)) p ts.length) :
 (p.toList.map fun i=>ts.getD i d).Perm ts∧(p.toList.map fun i=>ts.getD i d).Pairwise fun x y=>O.blt (key y) (key x)=false:=by
 constructor
 ·have h1:=List.Perm.map (fun i=>ts.getD i d) hP
  have e:(List.range ts.length).map (fun i=>ts.getD i d)=ts:=by
   apply List.ext_getElem (by simp)
   intro i a b
   simp at a
   simp [a]
  rwa [e] at h1
 ·rw [List.pairwise_iff_getElem]
  intro i j hi hj hij
  have hsz:=hP.size
  simp only [List.length_map,Array.length_toList] at hi hj
  have:=hU i j (Nat.le_of_lt hij) (7:)
  unfold KeyOrd.kle Srt.kk at this
  have ei:p.getD i 0=p[i]:=by simp [Array.getD,hi]
  have ej:p.getD j 0=p[j]:=by simp [Array.getD,hj]
  rw [ei,ej] at this
  simpa using this
theorem IsTuple.keeps {h h':Heap} {a:Addr} {xs:Array Value} (k:∀ b o,h.get? b=some o→h'.get? b=some o) (x:h.IsTuple a xs):h'.IsTuple a xs:=by
 obtain ⟨o,e,r⟩:=x
 exact ⟨o,k _ _ e,r⟩
section
variable {prog:Program} {w:World} {A:Around} {E:Value→Shared→Prop} {s:Shared}
end
section
variable {X:Cx}
theorem UY {α:Type} {f:α→Addr}:∀ {ts:List α} {us:List Value},Vals (ts.map fun t=>V.ref (f t)) us→us=ts.map fun t=>Value.ref (f t)
 | [],_,.nil=>rfl
 | t :: ts,_,.cons r rr=>by
  have e:_=Value.ref (f t):=r
  rw [List.map_cons,← UY rr,← e]
theorem U8 {α:Type} {f:α→Addr}:∀ ts:List α,Vals (ts.map fun t=>V.ref (f t)) (ts.map fun t=>Value.ref (f t))
 | []=>.nil
 | t :: ts=>.cons rfl (U8 ts)
end
end L2
namespace L2
open PySem PySem.Spec PyProof.Rows
section
variable {prog:Program} {w:World} {A:Around} {E:Value→Shared→Prop} {s:Shared}
end
section
variable {X:Cx}
theorem Ys:∀ {bs:List Bool} {us:List Value},Vals (bs.map V.bl) us→us=bs.map Value.bool
 | [],_,.nil=>rfl
 | b :: bs,_,.cons r rr=>by
  have e:_=Value.bool b:=r
  rw [List.map_cons,← Ys rr,← e]
theorem Zo (hc:X.calm=true):ZC X (.builtin "all") (fun xs H Q=>∃ (l:Addr) (bs:List Bool),xs=[.ref l]∧SqL X.K H l (bs.map V.bl)∧Q (.bl (bs.all id)) H):=by
 intro pins s σ H xs us Q I r h
 obtain ⟨l,bs,rfl,hl,q⟩:=h
 cases r with
 | cons r rr =>
  cases rr
  obtain rfl:_=Value.ref l:=r
  obtain ⟨its,rv,p,_⟩:=I.list hl
  obtain rfl:=Ys rv
  have hL:=p.isList
  have hlt:l < s.heap.objs.size:=by obtain ⟨_,e,_⟩:=hL;exact Heap.lt_size e
  refine call_all_walk (wpAny_pyIter_list hL ?_)
  refine ⟨s.heap.objs.size,[s.heap.objs.size,l],[s.heap.objs.size],(bs.map Value.bool).toArray.size,_,_,fun i=>(bs[i]?).getD true,rfl,Walks.list (A:=X.A.in1) (I.ok.hd hc) _ l (Nat.ne_of_lt hlt) (bs.map Value.bool).toArray,⟨⟨_,Heap.get?_push_size _ rfl,rfl,rfl⟩,hL.push _⟩,fun i v s' Q' E' hP hQ=>?_,fun h' tk hk=>?_⟩
  ·have hP':(bs.map Value.bool)[i]?=some v:=by simpa using hP
   rw [List.getElem?_map] at hP'
   cases eb:bs[i]? with
   | none=>rw [eb] at hP';simp at hP'
   | some b =>
    rw [eb] at hP'
    obtain rfl:Value.bool b=v:=by simpa using hP'
    have hQ2:Q' ((bs[i]?).getD true) s':=hQ
    rw [eb] at hQ2
    exact wpAny_truthy_bool hQ2
  ·have e:((List.range (bs.map Value.bool).toArray.size).all fun i=>(bs[i]?).getD true)=bs.all id:=by
    rw [List.size_toArray,List.length_map,Bool.eq_iff_iff,List.all_eq_true,List.all_eq_true]
    constructor
    ·intro h x hx
     obtain ⟨i,hi,rfl⟩:=List.getElem_of_mem hx
     have:=h i (List.mem_range.mpr hi)
     rw [List.getElem?_eq_getElem hi] at this
     exact this
    ·intro h i hi
     have hi':=List.mem_range.mp hi
     rw [List.getElem?_eq_getElem hi']
     exact h _ (List.getElem_mem hi')
   rw [e]
   exact ⟨.bl _,H,I.kept (t':=tk) (fun b o eb=>hk b o (fun hm=>by rw [List.mem_singleton.mp hm] at eb;exact Nat.lt_irrefl _ (Heap.lt_size eb)) (Heap.get?_push_of_some _ eb)),rfl,q⟩
end
end L2
namespace L2
open PySem PySem.Spec PyProof.Rows
section
variable {X:Cx} {tg:Expr}
theorem WQ (hc:X.calm=true):ZC X (.builtin "any") (fun xs H Q=>∃ (l:Addr) (bs:List Bool),xs=[.ref l]∧SqL X.K H l (bs.map V.bl)∧Q (.bl (bs.any id)) H):=by
 intro pins s σ H xs us Q I r h
 obtain ⟨l,bs,rfl,hl,q⟩:=h
 cases r with
 | cons r rr =>
  cases rr
  obtain rfl:_=Value.ref l:=r
  obtain ⟨its,rv,p,_⟩:=I.list hl
  obtain rfl:=Ys rv
  have hL:=p.isList
  have hlt:l < s.heap.objs.size:=by obtain ⟨_,e,_⟩:=hL;exact Heap.lt_size e
  refine call_any_walk (wpAny_pyIter_list hL ?_)
  refine ⟨s.heap.objs.size,[s.heap.objs.size,l],[s.heap.objs.size],(bs.map Value.bool).toArray.size,_,_,fun i=>(bs[i]?).getD false,rfl,Walks.list (A:=X.A.in1) (I.ok.hd hc) _ l (Nat.ne_of_lt hlt) (bs.map Value.bool).toArray,⟨⟨_,Heap.get?_push_size _ rfl,rfl,rfl⟩,hL.push _⟩,fun i v s' Q' E' hP hQ=>?_,fun h' tk hk=>?_⟩
  ·have hP':(bs.map Value.bool)[i]?=some v:=by simpa using hP
   rw [List.getElem?_map] at hP'
   cases eb:bs[i]? with
   | none=>rw [eb] at hP';simp at hP'
   | some b =>
    rw [eb] at hP'
    obtain rfl:Value.bool b=v:=by simpa using hP'
    have hQ2:Q' ((bs[i]?).getD false) s':=hQ
    rw [eb] at hQ2
    exact wpAny_truthy_bool hQ2
  ·have e:((List.range (bs.map Value.bool).toArray.size).any fun i=>(bs[i]?).getD false)=bs.any id:=by
    rw [List.size_toArray,List.length_map,Bool.eq_iff_iff,List.any_eq_true,List.any_eq_true]
    constructor
    ·rintro ⟨i,hi,h⟩
     have hi':=List.mem_range.mp hi
     rw [List.getElem?_eq_getElem hi'] at h
     exact ⟨_,List.getElem_mem hi',h⟩
    ·rintro ⟨x,hx,h⟩
     obtain ⟨i,hi,rfl⟩:=List.getElem_of_mem hx
     exact ⟨i,List.mem_range.mpr hi,by rw [List.getElem?_eq_getElem hi];exact h⟩
   rw [e]
   exact ⟨.bl _,H,I.kept (t':=tk) (fun b o eb=>hk b o (fun hm=>by rw [List.mem_singleton.mp hm] at eb;exact Nat.lt_irrefl _ (Heap.lt_size eb)) (Heap.get?_push_of_some _ eb)),rfl,q⟩
end
end L2
namespace L2
open PySem PySem.Spec PyProof.Rows PySem.W
section
variable {X:Cx}
end
@[reducible] def strOrd:KeyOrd:=⟨List Nat,fun a b=>decide (a < b),fun a=>strKind.irrefl a,fun a b c=>strKind.trans a b c,fun a b c=>strKind.negTrans a b c,fun a b=>strKind.total a b⟩
abbrev PNx:=Addr × Str × Addr × List Str
def PairN (h:Heap) (t:PNx):Prop:=∃ (tk:Tok) (as:List Addr),h.IsTuple t.1 [Value.str t.2.1 tk,Value.ref t.2.2.1].toArray∧Reads h (.ref t.2.2.1) (.tuple (t.2.2.2.map PyData.str)) as
theorem PairN.keeps {h h':Heap} {t:PNx} (k:∀ b o,h.get? b=some o→h'.get? b=some o) (x:PairN h t):PairN h' t:=by
 obtain ⟨tk,as,h1,h2⟩:=x
 exact ⟨tk,as,IsTuple.keeps k h1,Reads.keeps k h2⟩
theorem Jd {K:PySem.W.Frag} {H:Hp}:∀ p:List Str,RdAll K H (p.map V.str) (p.map PyData.str)
 | []=>.nil
 | i :: r=>.cons (.str i) (Jd r)
theorem Uq:∀ p:List Str,(∀ x ∈ p,PyData.strOk x=true)→PyData.canLayAll0 (p.map PyData.str)=true
 | [],_=>by simp [PyData.canLayAll0]
 | i :: r,h=>by simp only [List.map_cons,PyData.canLayAll0,PyData.canLay0,Uq r fun x hx=>h x (List.mem_cons_of_mem _ hx),h i List.mem_cons_self,Bool.and_self]
theorem Uw {h:Heap}:∀ {ts:List PNx},(∀ t ∈ ts,PairN h t)→∃ fs:List Value,KatTups h (ts.map fun t=>Value.ref t.1) fs∧(∀ v ∈ fs,∃ x t,v=Value.str x t)∧fs.length=ts.length
 | [],_=>⟨[],KatTups.nil,fun v hv=>(nomatch hv),rfl⟩
 | t :: r,ht=>by
  obtain ⟨tk,as,⟨o,go,gc,n,gd⟩,_⟩:=ht t List.mem_cons_self
  obtain ⟨fs,h1,h2,h3⟩:=Uw fun u hu=>ht u (List.mem_cons_of_mem _ hu)
  refine ⟨Value.str t.2.1 tk :: fs,KatTups.cons go gc gd rfl h1,fun v hv=>?_,by simp [h3]⟩
  rcases List.mem_cons.mp hv with rfl | hv
  ·exact ⟨_,_,rfl⟩
  ·exact h2 v hv
section
variable {prog:Program} {w:World} {A:Around} {E:Value→Shared→Prop} {s:Shared}
theorem GN {t u:PNx} {C:Bool→Shared→Prop} (ht:PairN s.heap t) (hu:PairN s.heap u) (hok:∀ x ∈ t.2.2.2,PyData.strOk x=true) (hd:t.1≠u.1→t.2.1≠u.2.1) (hA:A.units + 2 < cLine) (h:C (decide (t.2.1.cps.toList < u.2.1.cps.toList)) s):wpAny (model prog w) A (keyLt' (tuples' true) (.ref t.1) (.ref u.1)) C E s:=by
 obtain ⟨tk,as,h1,h4⟩:=ht
 obtain ⟨tk2,as2,g1,g4⟩:=hu
 have lay:(PyData.tuple (t.2.2.2.map PyData.str)).canLay0=true:=by simp only [PyData.canLay0];exact Uq _ hok
 have dep:(PyData.tuple (t.2.2.2.map PyData.str)).depth≤1:=by simp only [PyData.depth,Yq];lia
 refine Ls h1 g1 (fun hne=>?_) (fun heq=>?_)
 ·refine ⟨?_,oneLt_str h⟩
  have e:=(eqGives_str t.2.1 u.2.1 tk tk2).at A s
  have:(t.2.1 == u.2.1)=false:=by simpa using hd hne
  rw [this] at e
  exact e
 ·refine ⟨?_,?_,?_⟩
  ·have e:=(eqGives_str t.2.1 t.2.1 tk tk).at A s
   simpa using e
  ·have e:=SeqAt.eqAt_reads _ _ A s _ _ _ _ h4 h4 lay lay (7:)
   rw [Z6 _ lay] at e
   exact e
  ·have e1:t.2.1=u.2.1:=by
    obtain ⟨o,e,_,n,d⟩:=h1
    obtain ⟨o2,e2,_,n2,d2⟩:=g1
    rw [heq,e2] at e
    cases e
    rw [d] at d2
    injection d2 with z1 z2
    have z3:[Value.str t.2.1 tk,Value.ref t.2.2.1]=[Value.str u.2.1 tk2,Value.ref u.2.2.1]:=by simpa using congrArg Array.toList z1
    injection z3 with z4 z5
    injection z4
   rw [← e1,decide_eq_false (List.lt_irrefl _)] at h
   exact h
end
section
variable {X:Cx}
theorem JO (hu:X.A.units + 4 < cLine):ZC X (.builtin "sorted") (fun xs H Q=>∃ (l:Addr) (ts:List PNx),xs=[.ref l]∧SqL X.K H l (ts.map fun t=>V.ref t.1)∧(∀ t ∈ ts,SqT X.K H t.1 [.str t.2.1,.ref t.2.2.1]∧SqT X.K H t.2.2.1 (t.2.2.2.map V.str)∧∀ x ∈ t.2.2.2,PyData.strOk x=true)∧(ts.map fun t=>t.2.1).Nodup∧ts.length < 64 ∧
 ∀ (out:List PNx) p,out.Perm ts→(out.Pairwise fun x y=>¬ y.2.1.cps.toList < x.2.1.cps.toList)→H p=none→Q (.ref p) (upd H p (.lst (out.map fun t=>V.ref t.1)))):=by
 intro pins s σ H xs us Q I r h
 obtain ⟨l,ts,rfl,hl,ht,hnd,h64,q⟩:=h
 cases r with
 | cons r rr =>
  cases rr
  obtain rfl:_=Value.ref l:=r
  obtain ⟨its,rv,p,_⟩:=I.list hl
  obtain rfl:=UY rv
  have hP:∀ t ∈ ts,PairN s.heap t:=fun t htm=>by
   obtain ⟨h1,h2,_⟩:=ht t htm
   obtain ⟨its1,r1,p1,_⟩:=I.tuple h1
   obtain ⟨u,v,rfl,ru,rv⟩:=r1.two
   cases (show v=Value.ref _ from rv)
   obtain ⟨tk,rfl⟩:=(show ∃ tk,u=Value.str _ tk from ru)
   obtain ⟨as,q4⟩:=(RdV.tup h2 (Jd _)).reads I (show RelV (.ref t.2.2.1) (.ref t.2.2.1) from rfl)
   exact ⟨tk,as,p1,q4⟩
  let d:PNx:=(0,⟨#[]⟩,0,[])
  have gd:∀ i,i < ts.length→(ts.map fun t=>Value.ref t.1).getD i Value.none=.ref (ts.getD i d).1:=fun i hi=>by simp [List.getD_eq_getElem?_getD,hi]
  have md:∀ i,i < ts.length→ts.getD i d ∈ ts:=fun i hi=>by simp [List.getD_eq_getElem?_getD,hi]
  have ek:(Value.type "str" != Value.type "tuple")=true:=by decide +kernel
  refine Xv strOrd (fun i=>(ts.getD i d).2.1.cps.toList) (tuples' true) p.isList (by simpa using h64) (fun s' E' Q' hs h2 hq=>?_) (fun s' i j C hs hi hj hC=>?_) fun pp o1 o2=>?_
  ·obtain ⟨fs,f1,f2,f3⟩:=Uw (h:=s'.heap) fun t htm=>(hP t htm).keeps hs
   refine kat_kind (T:=.type "str") f1 (by rw [f3];rw [List.length_map] at h2;lia) (fun v hv=>?_) (0:) (by rw [ek];exact hq)
   obtain ⟨x,t,rfl⟩:=f2 v hv
   exact .now
  ·rw [List.length_map] at hi hj
   rw [gd i hi,gd j hj]
   refine GN ((hP _ (md i hi)).keeps hs) ((hP _ (md j hj)).keeps hs) (ht _ (md i hi)).2.2 (fun hne he=>hne ?_) (by show X.A.units + 1 + 1 + 2 < cLine;lia) hC
   have hij:i=j:=by
    have a1:(ts.map fun t=>t.2.1)[i]'(by simpa using hi)=(ts.getD i d).2.1:=by simp [List.getD_eq_getElem?_getD,hi]
    have a2:(ts.map fun t=>t.2.1)[j]'(by simpa using hj)=(ts.getD j d).2.1:=by simp [List.getD_eq_getElem?_getD,hj]
    exact (List.getElem_inj hnd).mp (a1.trans (he.trans a2.symm))
   rw [hij]
  ·rw [List.length_map] at o1 o2
   obtain ⟨w1,w2⟩:=Ln (O:=strOrd) (ts:=ts) (d:=d) (key:=fun t=>t.2.1.cps.toList) o1 o2
   have em:(pp.toList.map fun i=>(ts.map fun t=>Value.ref t.1).getD i Value.none)=(pp.toList.map fun i=>ts.getD i d).map fun t=>Value.ref t.1:=by
    rw [List.map_map]
    refine List.map_congr_left fun i hi=>?_
    exact gd i (List.mem_range.mp (o1.mem_iff.mp hi))
   rw [em]
   generalize pp.toList.map (fun i=>ts.getD i d)=out at w1 w2
   obtain ⟨e,he⟩:=sortedAll_at s.heap (ts.map fun t=>Value.ref t.1) (out.map fun t=>Value.ref t.1).toArray
   have hfr:H (s.heap.objs.size + 1)=none:=I.hok.fresh (Nat.le_succ _)
   refine ⟨.ref (s.heap.objs.size + 1),_,I.laid (t':=s.toks) (o:=.lst (out.map fun t=>V.ref t.1)) (fun b o g=>sortedAll_old g) (Nat.le_succ _) ?_,rfl,q out _ w1 (w2.imp fun h=>by simpa using h) hfr⟩
   exact ⟨by rw [List.length_map,w1.length_eq,sizeLine_eq];lia,_,e,U8 out,he⟩
end
end L2
namespace TM
inductive Tree (α:Type) where
 | node (name:α) (mark:Int) (bs:List (Tree α))
variable {α:Type}
def Tree.bs:Tree α→List (Tree α)
 | .node _ _ bs=>bs
def atT:Tree α→List Int→Option (Tree α)
 | t,[]=>some t
 | t,i :: r=>if 0≤i then (match t.bs[i.toNat]? with
  | some b=>atT b r
  | none=>none) else none
structure Rows (α:Type) where
 n:Nat
 nm:Nat→α
 mr:Nat→Int
 up:Nat→Nat
variable {R:Rows α}
section
variable {K:Nat→List Int} {B:Nat→Tree α} {o0:Tree α}
def it (R:Rows α):Nat→Nat→Nat
 | 0,s=>s
 | j + 1,s=>R.up (it R j s)
variable {B':Nat→Tree α} {o:Tree α} {s:Nat}
end
end TM
namespace L2
open PySem PySem.Spec PyProof.Rows TM
mutual
inductive TrV (K:PySem.W.Frag) (H:Hp):V→Tree Str→Prop where
 | mk {a b:Addr} {vs:List V} {ts:List (Tree Str)} {name:Str} {mark:Int}:SqT K H a [.str name,.int mark,.ref b]→SqT K H b vs→TrAll K H vs ts→vs.length≤1000→TrV K H (.ref a) (.node name mark ts)
inductive TrAll (K:PySem.W.Frag) (H:Hp):List V→List (Tree Str)→Prop where
 | nil:TrAll K H [] []
 | cons {v:V} {vs:List V} {t:Tree Str} {ts:List (Tree Str)}:TrV K H v t→TrAll K H vs ts→TrAll K H (v :: vs) (t :: ts)
end
mutual
theorem TrV.mono {K:PySem.W.Frag} {H H':Hp} (k:∀ a xs,SqT K H a xs→SqT K H' a xs):∀ {v:V} {t:Tree Str},TrV K H v t→TrV K H' v t
 | _,_,.mk h1 h2 h3 h4=>.mk (k _ _ h1) (k _ _ h2) (TrAll.mono k h3) h4
theorem TrAll.mono {K:PySem.W.Frag} {H H':Hp} (k:∀ a xs,SqT K H a xs→SqT K H' a xs):∀ {vs:List V} {ts:List (Tree Str)},TrAll K H vs ts→TrAll K H' vs ts
 | _,_,.nil=>.nil
 | _,_,.cons h t=>.cons (TrV.mono k h) (TrAll.mono k t)
end
theorem TrAll.get {K:PySem.W.Frag} {H:Hp}:∀ {vs:List V} {ts:List (Tree Str)} {i:Nat} {t:Tree Str},TrAll K H vs ts→ts[i]?=some t→∃ v,vs[i]?=some v∧TrV K H v t
 | _,_,_,_,.nil,e=>by simp at e
 | _,_,0,_,.cons h _,e=>by simp at e;subst e;exact ⟨_,rfl,h⟩
 | _,_,i + 1,t,.cons _ r,e=>by
  obtain ⟨v,h1,h2⟩:=TrAll.get (i:=i) (t:=t) r (by simpa using e)
  exact ⟨v,by simpa using h1,h2⟩
theorem TrAll.append {K:PySem.W.Frag} {H:Hp}:∀ {vs ws:List V} {ts us:List (Tree Str)},TrAll K H vs ts→TrAll K H ws us→TrAll K H (vs ++ ws) (ts ++ us)
 | _,_,_,_,.nil,h=>h
 | _,_,_,_,.cons a t,h=>.cons a (TrAll.append t h)
theorem SqT.put {K:PySem.W.Frag} {H:Hp} {a d:Addr} {xs ys:List V} {o:HO} (h:SqT K H a xs) (hd:H d=some (.lst ys)):SqT K (upd H d o) a xs:=by
 rcases h with (h | ⟨ob,h⟩) | h
 ·exact .inl (.inl (by rw [Qi (Wi h hd (by intro z;cases z))];exact h))
 ·exact .inl (.inr ⟨ob,by rw [Qi (Wi h hd (by intro z;cases z))];exact h⟩)
 ·exact .inr h
end L2
namespace TM
variable {α:Type}
mutual
def sz:Tree α→Nat
 | .node _ _ bs=>1 + szs bs
def szs:List (Tree α)→Nat
 | []=>0
 | t :: r=>sz t + szs r
end
mutual
def lv:Tree α→Nat
 | .node _ _ bs=>1 + lvs bs
def lvs:List (Tree α)→Nat
 | []=>0
 | t :: r=>max (lv t) (lvs r)
end
mutual
def pl:Tree α→List (List Int)
 | .node _ _ bs=>[] :: pls 0 bs
def pls:Nat→List (Tree α)→List (List Int)
 | _,[]=>[]
 | i,t :: r=>(pl t).map (List.cons (i:Int)) ++ pls (i + 1) r
end
theorem Ou (t:Tree α):sz t=1 + szs t.bs:=by cases t;simp [sz,Tree.bs]
theorem Zg (t:Tree α):lv t=1 + lvs t.bs:=by cases t;simp [lv,Tree.bs]
theorem Ug:∀ ts:List (Tree α),((ts.map fun t=>(sz t:Int)).sum)=(szs ts:Int)
 | []=>by simp [szs]
 | t :: r=>by rw [List.map_cons,List.sum_cons,Ug r];simp [szs]
theorem Oi {ts:List (Tree α)} {t:Tree α} (h:t ∈ ts):sz t≤szs ts:=by
 induction ts with
 | nil=>cases h
 | cons u r ih =>
  simp only [szs]
  rcases List.mem_cons.mp h with rfl | h
  ·lia
  ·have:=ih h;lia
theorem ZI {ts:List (Tree α)} {t:Tree α} (h:t ∈ ts):lv t≤lvs ts:=by
 induction ts with
 | nil=>cases h
 | cons u r ih =>
  simp only [lvs]
  rcases List.mem_cons.mp h with rfl | h
  ·lia
  ·have:=ih h;lia
mutual
theorem JM:∀ (t:Tree α) (p:List Int),p ∈ pl t→p.length < lv t
 | .node a m bs,p,h=>by
  simp only [pl,List.mem_cons] at h
  simp only [lv]
  rcases h with rfl | h
  ·simp;lia
  ·have:=Wo 0 bs p h;lia
theorem Wo:∀ (j:Nat) (ts:List (Tree α)) (p:List Int),p ∈ pls j ts→p.length≤lvs ts
 | j,[],p,h=>by simp [pls] at h
 | j,u :: ts,p,h=>by
  simp only [pls,List.mem_append,List.mem_map] at h
  simp only [lvs]
  rcases h with ⟨q,hq,rfl⟩ | h
  ·have:=JM u q hq;simp;lia
  ·have:=Wo (j + 1) ts p h;lia
end
open HT (Mh)
variable {R:Rows α} {K:Nat→List Int} {B:Nat→Tree α} {o0:Tree α}
end TM
namespace TT
open TM PySem
inductive Lab where
 | call (m b:Int)
 | put (nm:Str) (kept:Bool) (add:Int)
abbrev Tm:=Tree Lab
def Qt (m b:Int):Tm:=.node (.call m b) 0 []
def lcl:Lab→List (Int × Int)
 | .call m b=>[(m,b)]
 | .put _ _ _=>[]
def isC:Lab→Bool
 | .call _ _=>true
 | .put _ _ _=>false
def lab:Tm→Lab
 | .node l _ _=>l
mutual
def cls:Tm→List (Int × Int)
 | .node l _ bs=>lcl l ++ Q4 bs
def Q4:List Tm→List (Int × Int)
 | []=>[]
 | t :: r=>cls t ++ Q4 r
end
def hdF (f:Int→Int→Tm):Lab→List Tm→Tm
 | .call m b,_=>f m b
 | .put n k a,ts=>.node (.put n k a) 0 ts
mutual
def sub (f:Int→Int→Tm):Tm→Tm
 | .node l _ bs=>hdF f l (subs f bs)
def subs (f:Int→Int→Tm):List Tm→List Tm
 | []=>[]
 | t :: r=>sub f t :: subs f r
end
def onB (b:Int) (t:Tm):Tm:=sub (fun m _=>Qt m b) t
theorem Q7 (f:Int→Int→Tm):∀ ts:List Tm,subs f ts=ts.map (sub f)
 | []=>by simp [subs]
 | t :: r=>by simp only [subs,List.map_cons,Q7 f r]
theorem Jm {ts:List Tm} {t:Tm} (h:t ∈ ts):∀ c,c ∈ cls t→c ∈ Q4 ts:=by
 induction ts with
 | nil=>cases h
 | cons u r ih =>
  intro c hc
  simp only [Q4]
  rcases List.mem_cons.mp h with rfl | h
  ·exact List.mem_append_left _ hc
  ·exact List.mem_append_right _ (ih h c hc)
theorem UW:∀ (ts:List Tm) (t:Tm),Q4 (ts ++ [t])=Q4 ts ++ cls t
 | [],t=>by simp [Q4]
 | u :: r,t=>by rw [List.cons_append];simp only [Q4,UW r t,List.append_assoc]
mutual
theorem Ue:∀ t:Tm,(cls t).length≤sz t
 | .node l _ bs=>by
  simp only [cls,sz,List.length_append]
  have:=UF bs
  have h:(lcl l).length≤1:=by cases l <;> simp [lcl]
  lia
theorem UF:∀ ts:List Tm,(Q4 ts).length≤szs ts
 | []=>by simp [Q4,szs]
 | t :: r=>by simp only [Q4,szs,List.length_append];have h1:=Ue t;have h2:=UF r;lia
end
def look (t:Tm) (p:List Int):List (Int × Int):=match atT t p with
 | some u=>lcl (lab u)
 | none=>[]
variable {R:Rows Lab}
variable {B B':Nat→Tm} {f:Int→Int→Tm}
end TT
namespace L2
open PySem PyProof.Rows TM TT
abbrev ZQ:Str:=Str.ofString "call"
abbrev PUT:Str:=Str.ofString "put"
mutual
inductive TmV (K:PySem.W.Frag) (H:Hp):V→Tm→Prop where
 | call {a:Addr} {m b:Int}:SqT K H a [.str ZQ,.int m,.int b]→TmV K H (.ref a) (.node (.call m b) 0 [])
 | put {a b:Addr} {vs:List V} {ts:List Tm} {n:Str} {k:Bool} {ad:Int}:SqT K H a [.str PUT,.str n,.bl k,.int ad,.ref b]→SqT K H b vs→TmAll K H vs ts→vs.length≤1000→TmV K H (.ref a) (.node (.put n k ad) 0 ts)
inductive TmAll (K:PySem.W.Frag) (H:Hp):List V→List Tm→Prop where
 | nil:TmAll K H [] []
 | cons {v:V} {vs:List V} {t:Tm} {ts:List Tm}:TmV K H v t→TmAll K H vs ts→TmAll K H (v :: vs) (t :: ts)
end
mutual
theorem TmV.mono {K:PySem.W.Frag} {H H':Hp} (k:∀ a xs,SqT K H a xs→SqT K H' a xs):∀ {v:V} {t:Tm},TmV K H v t→TmV K H' v t
 | _,_,.call h=>.call (k _ _ h)
 | _,_,.put h1 h2 h3 h4=>.put (k _ _ h1) (k _ _ h2) (TmAll.mono k h3) h4
theorem TmAll.mono {K:PySem.W.Frag} {H H':Hp} (k:∀ a xs,SqT K H a xs→SqT K H' a xs):∀ {vs:List V} {ts:List Tm},TmAll K H vs ts→TmAll K H' vs ts
 | _,_,.nil=>.nil
 | _,_,.cons h t=>.cons (TmV.mono k h) (TmAll.mono k t)
end
theorem TmAll.length {K:PySem.W.Frag} {H:Hp}:∀ {vs:List V} {ts:List Tm},TmAll K H vs ts→vs.length=ts.length
 | _,_,.nil=>rfl
 | _,_,.cons _ t=>by rw [List.length_cons,List.length_cons,TmAll.length t]
theorem TmAll.get {K:PySem.W.Frag} {H:Hp}:∀ {vs:List V} {ts:List Tm} {i:Nat} {t:Tm},TmAll K H vs ts→ts[i]?=some t→∃ v,vs[i]?=some v∧TmV K H v t
 | _,_,_,_,.nil,e=>by simp at e
 | _,_,0,_,.cons h _,e=>by simp at e;subst e;exact ⟨_,rfl,h⟩
 | _,_,i + 1,t,.cons _ r,e=>by
  obtain ⟨v,h1,h2⟩:=TmAll.get (i:=i) (t:=t) r (by simpa using e)
  exact ⟨v,by simpa using h1,h2⟩
theorem TmAll.append {K:PySem.W.Frag} {H:Hp}:∀ {vs ws:List V} {ts us:List Tm},TmAll K H vs ts→TmAll K H ws us→TmAll K H (vs ++ ws) (ts ++ us)
 | _,_,_,_,.nil,h=>h
 | _,_,_,_,.cons a t,h=>.cons a (TmAll.append t h)
def tdl:Lab→List PyData→PyData
 | .call m b,_=>.tuple [.str ZQ,.int m,.int b]
 | .put n k a,ds=>.tuple [.str PUT,.str n,.bool k,.int a,.tuple ds]
mutual
def tmd:Tm→PyData
 | .node l _ bs=>tdl l (tmds bs)
def tmds:List Tm→List PyData
 | []=>[]
 | t :: r=>tmd t :: tmds r
end
mutual
theorem TmV.rd {K:PySem.W.Frag} {H:Hp}:∀ {v:V} {t:Tm},TmV K H v t→RdV K H v (tmd t)
 | _,_,.call h=>by
  simp only [tmd,tdl]
  exact .tup h (.cons (.str _) (.cons (.int _) (.cons (.int _) .nil)))
 | _,_,.put h1 h2 h3 _=>by
  simp only [tmd,tdl]
  exact .tup h1 (.cons (.str _) (.cons (.str _) (.cons (.bl _) (.cons (.int _) (.cons (.tup h2 (TmAll.rd h3)) .nil)))))
theorem TmAll.rd {K:PySem.W.Frag} {H:Hp}:∀ {vs:List V} {ts:List Tm},TmAll K H vs ts→RdAll K H vs (tmds ts)
 | _,_,.nil=>by simp only [tmds];exact .nil
 | _,_,.cons h t=>by simp only [tmds];exact .cons (TmV.rd h) (TmAll.rd t)
end
def MOk (d:Nat) (t:Tm):Prop:=(tmd t).canLay0=true∧(tmd t).depth≤d
theorem MOk.mono {d e:Nat} {t:Tm} (h:MOk d t) (hd:d≤e):MOk e t:=⟨h.1,Nat.le_trans h.2 hd⟩
theorem Jb {d:Nat}:∀ ts:List Tm,(∀ t ∈ ts,MOk d t)→PyData.canLayAll0 (tmds ts)=true∧PyData.depthAll (tmds ts)≤d
 | [],_=>by simp [tmds,PyData.canLayAll0,PyData.depthAll]
 | t :: r,h=>by
  obtain ⟨h1,h2⟩:=h t List.mem_cons_self
  obtain ⟨h3,h4⟩:=Jb r fun u hu=>h u (List.mem_cons_of_mem _ hu)
  simp only [tmds,PyData.canLayAll0,PyData.depthAll,h1,h3,Bool.and_self,true_and]
  lia
theorem Ge:PyData.strOk ZQ=true:=by decide +kernel
theorem Li:PyData.strOk PUT=true:=by decide +kernel
theorem leaf_ok (m b:Int) (mk:Int) (bs:List Tm):MOk 1 (.node (.call m b) mk bs):=by
 constructor
 ·simp only [tmd,tdl,PyData.canLay0,PyData.canLayAll0,Ge,Bool.and_self]
 ·simp only [tmd,tdl,PyData.depth,PyData.depthAll];lia
theorem put_ok {d:Nat} {n:Str} {k:Bool} {a mk:Int} {ts:List Tm} (hn:PyData.strOk n=true) (h:∀ t ∈ ts,MOk d t):MOk (d + 2) (.node (.put n k a) mk ts):=by
 obtain ⟨h1,h2⟩:=Jb ts h
 constructor
 ·simp only [tmd,tdl,PyData.canLay0,PyData.canLayAll0,h1,hn,Li,Bool.and_self]
 ·simp only [tmd,tdl,PyData.depth,PyData.depthAll]
  lia
end L2
namespace L2
open PySem PySem.Spec PyProof.Rows
section
variable {prog:Program} {w:World} {A:Around} {E:Value→Shared→Prop} {s:Shared} {it t:Addr} {i:Nat} {its:Array Value} {x:Value} {Q:Value→Shared→Prop}
end
section
variable {X:Cx} {elts:List Expr} {k1:Nat} {tpos:Pos}
end
end L2
namespace L2
open PySem PySem.Spec PyProof.Rows
section
variable {prog:Program} {w:World} {A:Around} {E:Value→Shared→Prop} {s:Shared}
end
section
variable {X:Cx} {elts:List Expr} {k1:Nat} {tpos:Pos}
end
end L2
namespace K9
open PySem L2 TM
mutual
def td:Tree Str→PyData
 | .node n m bs=>.tuple [.str n,.int m,.tuple (tds bs)]
def tds:List (Tree Str)→List PyData
 | []=>[]
 | t :: r=>td t :: tds r
end
mutual
theorem TrV.rd {K:PySem.W.Frag} {H:Hp}:∀ {v:V} {t:Tree Str},TrV K H v t→RdV K H v (td t)
 | _,_,.mk h1 h2 h3 _=>by
  simp only [td]
  exact .tup h1 (.cons (.str _) (.cons (.int _) (.cons (.tup h2 (TrAll.rd h3)) .nil)))
theorem TrAll.rd {K:PySem.W.Frag} {H:Hp}:∀ {vs:List V} {ts:List (Tree Str)},TrAll K H vs ts→RdAll K H vs (tds ts)
 | _,_,.nil=>by simp only [tds];exact .nil
 | _,_,.cons h t=>by simp only [tds];exact .cons (TrV.rd h) (TrAll.rd t)
end
abbrev KdT:=Addr × Str × Addr × List PNx
def RowAt (K:PySem.W.Frag) (H:Hp) (t:PNx):Prop:=SqT K H t.1 [.str t.2.1,.ref t.2.2.1]∧SqT K H t.2.2.1 (t.2.2.2.map V.str)
def RowsL (K:PySem.W.Frag) (H:Hp) (lr:Addr) (rs:List PNx):Prop:=SqL K H lr (rs.map fun t=>V.ref t.1)∧∀ t ∈ rs,RowAt K H t
def WoodAt (K:PySem.W.Frag) (H:Hp) (w:Addr) (ks:List KdT):Prop:=SqL K H w (ks.map fun k=>V.ref k.1)∧∀ k ∈ ks,SqT K H k.1 [.str k.2.1,.ref k.2.2.1]∧RowsL K H k.2.2.1 k.2.2.2
theorem RowAt.same {K:PySem.W.Frag} {H H':Hp} {t:PNx} (g:Same H H') (h:RowAt K H t):RowAt K H' t:=⟨g.seqT h.1,g.seqT h.2⟩
theorem RowsL.same {K:PySem.W.Frag} {H H':Hp} {lr:Addr} {rs:List PNx} (g:Same H H') (h:RowsL K H lr rs):RowsL K H' lr rs:=⟨g.seq h.1,fun t ht=>(h.2 t ht).same g⟩
theorem WoodAt.same {K:PySem.W.Frag} {H H':Hp} {w:Addr} {ks:List KdT} (g:Same H H') (h:WoodAt K H w ks):WoodAt K H' w ks:=⟨g.seq h.1,fun k hk=>⟨g.seqT (h.2 k hk).1,(h.2 k hk).2.same g⟩⟩
structure RowsOk (rs:List PNx):Prop where
 nd:(rs.map fun t=>t.2.1).Nodup
 len:rs.length≤10
 nm:∀ r ∈ rs,PyData.strOk r.2.1=true
 kn:∀ r ∈ rs,∀ x ∈ r.2.2.2,PyData.strOk x=true
 kl:∀ r ∈ rs,r.2.2.2.length≤4
structure WoodOk (ks:List KdT):Prop where
 nd:(ks.map fun k=>k.2.1).Nodup
 len:ks.length≤10
 rows:∀ k ∈ ks,RowsOk k.2.2.2
def QT (ks:List KdT) (kind:Str):List PNx:=((ks.find? fun k=>decide (k.2.1=kind)).map fun k=>k.2.2.2).getD []
theorem V1 {ks:List KdT} (h:WoodOk ks) (kind:Str):RowsOk (QT ks kind):=by
 unfold QT
 cases e:ks.find? fun k=>decide (k.2.1=kind) with
 | none=>exact ⟨List.nodup_nil,Nat.zero_le _,fun r hr=>(nomatch hr),fun r hr=>(nomatch hr),fun r hr=>(nomatch hr)⟩
 | some k=>exact h.rows k (List.mem_of_find?_eq_some e)
end K9
namespace K11
open PySem L2 TM TT K9
def kpl:Lab→Bool
 | .call _ _=>false
 | .put _ k _=>k
mutual
def kp:Tm→Bool
 | .node l _ bs=>kpl l || kps bs
def kps:List Tm→Bool
 | []=>false
 | t :: r=>kp t || kps r
end
theorem JD:∀ ts:List Tm,kps ts=(ts.map kp).any id
 | []=>by simp [kps]
 | t :: r=>by simp only [kps,List.map_cons,List.any_cons,id,JD r]
def Yw (mk ks:List Str) (c:Int × Int):Bool:=decide (0≤c.1) && decide (c.1 < mk.length) && decide (0≤c.2) && decide (c.2 < ks.length) && decide (mk[c.1.toNat]?=ks[c.2.toNat]?)
def YK (mk ks:List Str) (t:Tm):Bool:=(cls t).all (Yw mk ks)
abbrev Md:=Str × List Tm
abbrev MdT:=Addr × Str × Addr × List V × List Tm
def MdT.md (m:MdT):Md:=(m.2.1,m.2.2.2.2)
def MdAt (K:PySem.W.Frag) (H:Hp) (m:MdT):Prop:=SqT K H m.1 [.str m.2.1,.ref m.2.2.1]∧SqL K H m.2.2.1 m.2.2.2.1∧TmAll K H m.2.2.2.1 m.2.2.2.2
def ModesL (K:PySem.W.Frag) (H:Hp) (lm:Addr) (ms:List MdT):Prop:=SqL K H lm (23:)∧∀ m ∈ ms,MdAt K H m
theorem MdAt.same {K:PySem.W.Frag} {H H':Hp} {m:MdT} (g:Same H H') (h:MdAt K H m):MdAt K H' m:=⟨g.seqT h.1,g.seq h.2.1,h.2.2.mono fun _ _=>g.seqT⟩
theorem ModesL.same {K:PySem.W.Frag} {H H':Hp} {lm:Addr} {ms:List MdT} (g:Same H H') (h:ModesL K H lm ms):ModesL K H' lm ms:=⟨g.seq h.1,fun m hm=>(h.2 m hm).same g⟩
structure TmOk (t:Tm):Prop where
 lv:lv t≤8
 sz:sz t≤100
 mok:MOk 20 t
abbrev mds (ms:List MdT):List Md:=ms.map MdT.md
abbrev mks (ms:List Md):List Str:=ms.map (·.1)
def TmO (K:PySem.W.Frag) (H:Hp) (v:V):Option Tm→Prop
 | none=>v=.non
 | some t=>TmV K H v t
end K11
namespace L2
open PySem PySem.Spec PyProof.Rows
section
variable {prog:Program} {w:World} {A:Around} {E:Value→Shared→Prop} {s:Shared}
end
section
variable {X:Cx} {e:Expr} {te:TE} {p pos p2 pos2:Pos}
theorem YQ (hc:X.calm=true):ZC X (.builtin "sum") (fun xs H Q=>∃ (l:Addr) (ns:List Int),xs=[.ref l]∧SqL X.K H l (ns.map V.int)∧Q (.int ns.sum) H):=by
 intro pins s σ H xs us Q I r h
 obtain ⟨l,ns,rfl,hl,q⟩:=h
 cases r with
 | cons r rr =>
  cases rr
  obtain rfl:_=Value.ref l:=r
  obtain ⟨its,rv,p,_⟩:=I.list hl
  obtain ⟨ys,rfl,e2⟩:=UB rv
  have hL:s.heap.IsList l (intItems ys.toArray):=by rw [W0];exact p.isList
  refine sum_intListG (I.ok.hd hc) hL fun h' tk t' hk=>⟨.int ns.sum,H,I.kept (t':=tk) hk,⟨t',?_⟩,q⟩
  rw [Lp,e2,List.take_of_length_le]
  rw [← e2];simp
end
end L2
namespace ST
open PySem TM
inductive Stp where
 | op:Stp
 | put:Str→Int→List Stp→Stp
mutual
def met:Stp→Stp→Stp
 | .op,_=>.op
 | .put _ _ _,.op=>.op
 | .put n m ps,.put n' m' qs=>if n=n'∧m=m'∧ps.length=qs.length then .put n m (On ps qs) else .op
def On:List Stp→List Stp→List Stp
 | [],_=>[]
 | _ :: _,[]=>[]
 | p :: ps,q :: qs=>met p q :: On ps qs
end
mutual
def sl:Stp→Nat
 | .op=>1
 | .put _ _ ps=>1 + sls ps
def sls:List Stp→Nat
 | []=>0
 | p :: r=>max (sl p) (sls r)
end
end ST
namespace L2
open PySem PyProof.Rows TM ST
def hd3 (n:Str) (m:Int) (k:Nat):PyData:=.tuple [.str n,.int m,.int (k:Int)]
def Dk (H:Hp) (d:Addr):Prop:=∃ xs:List Int,H d=some (.lst (xs.map V.int))
def SameD (d:Addr) (H H':Hp):Prop:=∀ b u,b≠d→H b=some u→H' b=some u
theorem SameD.refl (d:Addr) (H:Hp):SameD d H H:=fun _ _ _ e=>e
theorem SameD.trans {d:Addr} {H H1 H2:Hp} (a:SameD d H H1) (b:SameD d H1 H2):SameD d H H2:=fun x u n e=>b x u n (a x u n e)
theorem SameD.of {d:Addr} {H H':Hp} (h:Same H H'):SameD d H H':=fun b u _ e=>h b u e
theorem SameD.seqT {K:PySem.W.Frag} {d a:Addr} {H H':Hp} {xs:List V} (g:SameD d H H') (hd:Dk H d) (h:SqT K H a xs):SqT K H' a xs:=by
 obtain ⟨ns,hd⟩:=hd
 rcases h with (h | ⟨ob,h⟩) | h
 ·exact .inl (.inl (g _ _ (Wi h hd (by intro z;cases z)) h))
 ·exact .inl (.inr ⟨ob,g _ _ (Wi h hd (by intro z;cases z)) h⟩)
 ·exact .inr h
theorem Dk.ne {d a:Addr} {H:Hp} (h:Dk H d) (ha:H a=none):a≠d:=by
 obtain ⟨xs,h⟩:=h
 rintro rfl
 rw [ha] at h;cases h
end L2
namespace L2
open PySem PyProof.Rows TM
abbrev X3:Str:=Str.ofString "abcdefghijklmnopqrstuvwxyz"
def Nq:List Nat:=[97,98,99,100,101,102,103,104,105,106,107,108,109,110,111,112,113,114,115,116,117,118,119,120,121,122]
theorem Vl:X3=S Nq:=by decide +kernel
theorem LV:X3.cps.toList=Nq:=by rw [Vl,Gu]
theorem Lw:Str.ofString "" = S []:=by decide +kernel
theorem Mb (c:Nat):(⟨#[c]⟩ : Str)=S [c]:=rfl
def Nm (z:Str):Prop:=PyData.strOk z=true
theorem Nm.of {u:List Nat} (h:∀ c ∈ u,c < 128):Nm (S u):=by
 unfold Nm PyData.strOk
 rw [Array.all_eq_true_iff_forall_mem]
 intro c hc
 have:c ∈ u:=by simpa [S] using hc
 have:=h c this
 simp;lia
theorem Room.fit {k n:Nat} {A:Around} (r:Room k A) (h:n≤64):A.units + n < cLine:=by have:=r.units;lia
end L2
namespace L2
open PySem PyProof.Rows TM
def Yp (x:Int):Nat:=97 + (x % 26).toNat
theorem GR:∀ i:Fin 26,Nq[i.val]?=some (97 + i.val):=by decide
theorem G2 (x:Int):atI X3.cps.toList (x % 26)=some (Yp x):=by
 have h0:0≤x % 26:=Int.emod_nonneg _ (28:)
 have h1:x % 26 < 26:=Int.emod_lt_of_pos _ (28:)
 have e:x % 26=(((x % 26).toNat:Nat):Int):=by lia
 rw [e,LV]
 exact Qu (GR ⟨(x % 26).toNat,by lia⟩)
theorem GQ (x:Int):Yp x < 128:=by
 have h1:x % 26 < 26:=Int.emod_lt_of_pos _ (28:)
 unfold Yp;lia
theorem WZ {x y:Int} (h:Yp x=Yp y):x % 26=y % 26:=by
 have h0:0≤x % 26:=Int.emod_nonneg _ (28:)
 have h1:0≤y % 26:=Int.emod_nonneg _ (28:)
 unfold Yp at h;lia
end L2
namespace L2
open PySem PyProof.Rows TM TT K9 K11
theorem SameD.seqL {K:PySem.W.Frag} {d a:Addr} {H H':Hp} {xs:List V} (g:SameD d H H') (hne:a≠d) (h:SqL K H a xs):SqL K H' a xs:=by
 rcases h with (h | ⟨ob,h⟩) | h
 ·exact .inl (.inl (g _ _ hne h))
 ·exact .inl (.inr ⟨ob,g _ _ hne h⟩)
 ·exact .inr h
theorem SameD.put {d a:Addr} {H H':Hp} {o:HO} (g:SameD d H H') (ha:H a=none):SameD d H (L2.upd H' a o):=fun b u hb e=>by
 rw [Qi (Qg e ha)];exact g _ _ hb e
end L2
namespace ST
open PySem TM TT
theorem Wb {α:Type} {bs:List (Tree α)} {n:Nat} (h:∀ b ∈ bs,lv b≤n):lvs bs≤n:=by
 induction bs with
 | nil=>simp [lvs]
 | cons u r ih =>
  simp only [lvs]
  have h1:=h u List.mem_cons_self
  have h2:=ih fun b hb=>h b (List.mem_cons_of_mem _ hb)
  lia
end ST
namespace L2
open PySem PyProof.Rows TM TT ST
theorem SameD.new {d a:Addr} {H:Hp} {o:HO} (h:H a=none):SameD d H (L2.upd H a o):=SameD.of (Qe h o)
theorem WG {α:Type} {xs:List α} {r:Int} {v:α} (h0:0≤r) (h:xs[r.toNat]?=some v):atI xs r=some v:=by
 obtain ⟨n,rfl⟩:=Int.eq_ofNat_of_zero_le h0
 exact Qu (by simpa using h)
end L2
namespace L2
open PySem PyProof.Rows TM TT ST K9 K11
structure TurnD (K:PySem.W.Frag) (H:Hp) (tu wd lm:Addr) (sv:V) (ks:List KdT) (st:Tm) (ms:List MdT):Prop where
 tu:SqT K H tu [.ref wd,sv,.ref lm]
 w:WoodAt K H wd ks
 s:TmV K H sv st
 m:ModesL K H lm ms
theorem TurnD.same {K:PySem.W.Frag} {H H':Hp} {tu wd lm:Addr} {sv:V} {ks:List KdT} {st:Tm} {ms:List MdT} (g:Same H H') (h:TurnD K H tu wd lm sv ks st ms):TurnD K H' tu wd lm sv ks st ms:=⟨g.seqT h.tu,h.w.same g,h.s.mono fun _ _=>g.seqT,h.m.same g⟩
def Js (k:KdT):Str × List PNx:=(k.2.1,k.2.2.2)
def Yy (r:PNx):PyData:=.tuple [.str r.2.1,.tuple (r.2.2.2.map .str)]
theorem Wp {K:PySem.W.Frag} {H:Hp}:∀ {rs:List PNx},(∀ t ∈ rs,RowAt K H t)→RdAll K H (rs.map fun t=>V.ref t.1) (rs.map Yy)
 | [],_=>.nil
 | t :: r,h=>.cons (.tup (h t List.mem_cons_self).1 (.cons (.str _) (.cons (.tup (h t List.mem_cons_self).2 (Jd _)) .nil))) (Wp fun u hu=>h u (List.mem_cons_of_mem _ hu))
theorem Xg:∀ {rs:List PNx},(∀ r ∈ rs,PyData.strOk r.2.1=true)→(∀ r ∈ rs,∀ x ∈ r.2.2.2,PyData.strOk x=true)→PyData.canLayAll0 (rs.map Yy)=true
 | [],_,_=>by simp [PyData.canLayAll0]
 | r :: rs,h1,h2=>by
  simp only [List.map_cons,PyData.canLayAll0,Yy,PyData.canLay0,h1 r List.mem_cons_self,Uq _ (h2 r List.mem_cons_self),Bool.and_self,Bool.true_and]
  exact Xg (fun u hu=>h1 u (List.mem_cons_of_mem _ hu)) fun u hu=>h2 u (List.mem_cons_of_mem _ hu)
def Yk (p:Str × List PNx):PyData:=.tuple [.str p.1,.list (p.2.map Yy)]
theorem J8 {K:PySem.W.Frag} {H:Hp}:∀ {ks:List KdT},(∀ k ∈ ks,SqT K H k.1 [.str k.2.1,.ref k.2.2.1]∧RowsL K H k.2.2.1 k.2.2.2)→RdAll K H (ks.map fun k=>V.ref k.1) ((ks.map Js).map Yk)
 | [],_=>.nil
 | k :: r,h=>.cons (.tup (h k List.mem_cons_self).1 (.cons (.str _) (.cons (.lst (h k List.mem_cons_self).2.1 (Wp (h k List.mem_cons_self).2.2)) .nil))) (J8 fun u hu=>h u (List.mem_cons_of_mem _ hu))
theorem U7:∀ {ks:List KdT},(∀ k ∈ ks,PyData.strOk k.2.1=true)→(∀ k ∈ ks,RowsOk k.2.2.2)→PyData.canLayAll0 ((ks.map Js).map Yk)=true
 | [],_,_=>by simp [PyData.canLayAll0]
 | k :: r,h1,h2=>by
  have h3:PyData.canLayAll0 (k.2.2.2.map Yy)=true:=Xg (h2 k List.mem_cons_self).nm (h2 k List.mem_cons_self).kn
  simp only [List.map_cons,PyData.canLayAll0,Yk,Js,PyData.canLay0,h1 k List.mem_cons_self,h3,Bool.and_self,Bool.true_and]
  exact U7 (fun u hu=>h1 u (List.mem_cons_of_mem _ hu)) fun u hu=>h2 u (List.mem_cons_of_mem _ hu)
theorem Uk:∀ rs:List PNx,PyData.depthAll (rs.map Yy)≤2
 | []=>by simp [PyData.depthAll]
 | r :: rs=>by
  have:=Uk rs
  simp only [List.map_cons,PyData.depthAll,Yy,PyData.depth,Yq]
  lia
theorem Y3:∀ ks:List (Str × List PNx),PyData.depthAll (ks.map Yk)≤4
 | []=>by simp [PyData.depthAll]
 | k :: r=>by
  have h1:=Y3 r
  have h2:=Uk k.2
  simp only [List.map_cons,PyData.depthAll,Yk,PyData.depth]
  lia
end L2
namespace K52
open PySem L2 TM TT
def top (i:Nat):Stmt:=PySem.Challenge.pw_turnery_k52_whole_a_paper_tells_the_trut.main.body.getD i (.Pass ⟨0,0,0,0⟩)
abbrev M6:Stmt:=top 1
abbrev sCO:Stmt:=top 2
abbrev sKM:Stmt:=top 3
abbrev sTI:Stmt:=top 4
abbrev sRI:Stmt:=top 5
abbrev sOB:Stmt:=top 6
abbrev sWP:Stmt:=top 7
abbrev M5:Stmt:=top 12
abbrev sCF:Stmt:=top 13
abbrev Nb:Stmt:=top 14
abbrev Ny:Stmt:=top 16
abbrev sTF:Stmt:=top 17
abbrev sHT:Stmt:=top 18
abbrev Mx:Stmt:=top 19
abbrev sRA:Stmt:=top 20
abbrev MK:Stmt:=top 21
abbrev GL:Stmt:=top 23
abbrev Jf:Stmt:=top 24
abbrev XU:Stmt:=top 25
abbrev V5:Stmt:=top 26
abbrev GU:Stmt:=top 27
abbrev XD:Stmt:=top 28
abbrev J2:Stmt:=top 29
abbrev GB:Stmt:=top 30
abbrev Gf:Stmt:=top 31
abbrev XO:Stmt:=top 32
abbrev Gb:Stmt:=top 33
abbrev Gv:Stmt:=top 34
abbrev MW:Stmt:=top 35
abbrev UM:Stmt:=top 36
abbrev X1:Stmt:=top 37
abbrev J1:Stmt:=top 38
abbrev V2:Stmt:=top 39
abbrev XW:Stmt:=top 40
abbrev VN:Stmt:=top 41
abbrev XS:Stmt:=top 47
structure Gm (mg:Str→Option Value):Prop where
 len:mg "len" = none
 isi:mg "isinstance" = none
 boo:mg "bool" = none
 tup:mg "tuple" = none
 lst:mg "list" = none
 rng:mg "range" = none
 sum:mg "sum" = none
 srt:mg "sorted" = none
 zip:mg "zip" = none
 all:mg "all" = none
 any:mg "any" = none
 enu:mg "enumerate" = none
abbrev PI' (p:List Int):List V:=p.map V.int
theorem Zr {K:PySem.W.Frag} {H:Hp} {v:V} {t:Tm} (h:TmV K H v t):(∃ a m b,v=.ref a∧t=Qt m b∧SqT K H a [.str ZQ,.int m,.int b]) ∨
 ∃ a b vs n k ad,v=.ref a∧t=.node (.put n k ad) 0 t.bs∧SqT K H a [.str PUT,.str n,.bl k,.int ad,.ref b]∧SqT K H b vs∧TmAll K H vs t.bs∧vs.length≤1000:=by
 cases h with
 | call h=>exact .inl ⟨_,_,_,rfl,rfl,h⟩
 | put h1 h2 h3 h4=>exact .inr ⟨_,_,_,_,_,_,rfl,rfl,h1,h2,h3,h4⟩
def Z0 (K:PySem.W.Frag):Sp:=fun vs H Q _=>∃ (v:V) (t:Tm),vs=[v]∧TmV K H v t∧Q (.bl (isC (lab t))) H
def Xp (K:PySem.W.Frag):Sp:=fun vs H Q _=>∃ (v:V) (l:Addr) (ws:List V) (n:Str) (k:Bool) (ad:Int) (ts us:List Tm),vs=[v,.ref l]∧TmV K H v (.node (.put n k ad) 0 ts)∧SqL K H l ws∧TmAll K H ws us∧ws.length≤1000 ∧
 ∀ (v':V) (H':Hp),Same H H'→TmV K H' v' (.node (.put n k ad) 0 us)→Q v' H'
def JI (K:PySem.W.Frag) (n:Nat):Sp:=fun vs H Q _=>∃ (v:V) (b:Int) (t:Tm),vs=[v,.int b]∧TmV K H v t∧lv t≤n∧∀ (v':V) (H':Hp),Same H H'→TmV K H' v' (onB b t)→Q v' H'
section
variable {P:Program} {w:World} {K:PySem.W.Frag} {mg:Str→Option Value} {base:Heap} {f:Addr} {fd:FuncData}
theorem Oo:FnScope ["term"] ["term"] (defScope M6):=(1:)
theorem M8 (F:Fun K "is_call" "is_call" M6 f fd):FnOk P w K mg base CX0 1 f fd ["term"] (Z0 K):=by
 refine F.ok Oo (10:) (4:)
 ·obtain ⟨v,t,rfl,_⟩:=h
  rfl
 obtain ⟨v,t,rfl,ht,q⟩:=h
 refine ⟨_,(Qj (Qs (ZH Q2 (3:) QX (QA _)))),?_⟩
 rcases Zr ht with ⟨a,m,b,rfl,rfl,h1⟩ | ⟨a,b,bs,n,k,ad,rfl,et,h1,h2,h3,h4⟩
 ·refine ⟨_,rfl,a,_,0,_,rfl,rfl,h1,rfl,rfl,?_⟩
  have e:decide (V.str ZQ=V.str ZQ)=true:=decide_eq_true rfl
  show Q (.bl (decide (V.str ZQ=V.str ZQ))) H
  rw [e];exact q
 ·refine ⟨_,rfl,a,_,0,_,rfl,rfl,h1,rfl,rfl,?_⟩
  have e:decide (V.str PUT=V.str ZQ)=false:=by decide +kernel
  show Q (.bl (decide (V.str PUT=V.str ZQ))) H
  rw [et] at q
  rw [e];exact q
theorem Pr:FnScope ["term", "parts"] ["term", "parts"] (defScope sWP):=(1:)
theorem N7 (F:Fun K "with_parts" "with_parts" sWP f fd) (G:Gm mg):FnOk P w K mg base CX0 1 f fd ["term", "parts"] (Xp K):=by
 refine F.ok Pr (10:) (4:)
 ·obtain ⟨v,l,ws,n,k,ad,ts,us,rfl,_⟩:=h
  rfl
 obtain ⟨v,l,ws,n,k,ad,ts,us,rfl,ht,hl,hw,hwl,q⟩:=h
 refine ⟨_,(Qj (Qs (Qy (Qa (QX) (Qa (3:) (Qa (3:) (Qa (3:) (Qa (QO QS rfl G.tup PyProof.Rows.boot_tuple (47:)) Qc)))))))),?_⟩
 cases ht with
 | @put a b vs _ _ _ _ h1 h2 h3 h4 =>
  refine ⟨_,rfl,a,_,1,_,rfl,rfl,h1,rfl,_,rfl,a,_,2,_,rfl,rfl,h1,rfl,_,rfl,a,_,3,_,rfl,rfl,h1,rfl,_,rfl,l,ws,rfl,.inl ⟨hl,fun t ht=>⟨(by show 5≤sizeLine;decide),fun p hp=>?_⟩⟩⟩
  have g1:=Qe ht (.tup ws)
  have g2:=Qe hp (.tup [.str PUT,.str n,.bl k,.int ad,.ref t])
  exact q (.ref p) _ (g1.trans g2) (.put (42:) (g2.seqT (42:)) (hw.mono fun _ _=>(g1.trans g2).seqT) hwl)
theorem Ps:FnScope ["term", "branch"] ["term", "branch"] (defScope sOB):=(1:)
theorem Oz {n:Nat} (F:Fun K "on_branch" "on_branch" sOB f fd) (G:Gm mg) (RC:Fn P w K mg base 1 "is_call" ["term"] (Z0 K)) (RW:Fn P w K mg base 1 "with_parts" ["term", "parts"] (Xp K)) (R:Fn P w K mg base (n + 1) "on_branch" ["term", "branch"] (JI K n)):FnOk P w K mg base CX0 (n + 2) f fd ["term", "branch"] (JI K (n + 1)):=by
 refine F.ok Ps (10:) (4:)
 ·obtain ⟨v,b,t,rfl,_⟩:=h
  rfl
 obtain ⟨v,br,t,rfl,ht,hlv,q⟩:=h
 refine ⟨_,(Qf (QN (ZK (Qn RC hr (Qa (pv 0) Qc) (Nat.le_add_left 1 n))) (Qj (Qs (Qy (Qa (QX) (Qa (3:) (47:)))))) QB)
  (Qj (Qs (Qn RW hr (Qa (pv 0) (Qa (Qw (CompG.many (xs:=["part"]) (caps:=["branch"]) (cap:=[1]) (cs:=[_]) rfl rfl (0:) (0:) (0:) (0:) (0:) (0:) rfl rfl rfl) rfl (Zu (3:)) (Zb (CompG.many (xs:=["part"]) (caps:=["branch"]) (cap:=[1]) (cs:=[_]) rfl rfl (0:) (0:) (0:) (0:) (0:) (0:) rfl rfl rfl)) (18:) (fun _ _ _ _=>Qn R hr (Qa (pv 0) (47:)) (9:))) Qc)) (Nat.le_add_left 1 n))))),?_⟩
 refine ⟨_,rfl,v,t,rfl,ht,_,rfl,?_⟩
 rcases Zr ht with ⟨a,m,b,rfl,rfl,h1⟩ | ⟨a,b,bs,nm,k,ad,rfl,et,h1,h2,h3,h4⟩
 ·refine QH ⟨_,rfl,a,_,1,_,rfl,rfl,h1,rfl,_,rfl,(30:),fun p hp=>?_⟩
  have g:=Qe hp (.tup [.str ZQ,.int m,.int br])
  exact q (.ref p) _ g (.call (42:))
 rw [et]
 refine Zj ?_
 have hlen:=h3.length
 rw [Zg] at hlv
 refine ⟨_,rfl,_,rfl,a,_,4,_,rfl,rfl,h1,rfl,b,rfl,⟨_,h2⟩,fun acc hacc=>?_⟩
 refine ZJ (K:=K) (xs:=bs) (cs:=[some (.int br)]) (tt:=fun _ H Q=>Q true H) (te:=Zz (JI K n) [] E0 (QL (Q6 0) (QL (Q6 1) ZR))) (fun i ys H'=>H' acc=some (.lst ys)∧Same H H'∧ys.length=i∧TmAll K H' ys ((t.bs.take i).map (onB br)))
  ⟨Qb,Qe hacc _,rfl,.nil⟩ ?_ ?_ ?_
 ·rintro i ys H' _ ⟨_,g,_⟩
  exact g.seqT h2
 ·rintro i x ys H' hi hx ⟨hya,g,hyl,hys⟩
  obtain ⟨c,hc⟩ : ∃ c,t.bs[i]?=some c:=(43:)
  obtain ⟨cv,hcv,hct⟩:=h3.get hc
  obtain rfl:cv=x:=Option.some.inj (hcv.symm.trans hx)
  have hm:=List.mem_of_getElem? hc
  have a1:=ZI hm
  refine QH ⟨_,rfl,_,rfl,cv,br,c,rfl,hct.mono fun _ _=>g.seqT,by lia,fun v' H4 g4 hv'=>?_⟩
  refine Qp (ys:=ys) hi (g4 _ _ hya) (7:) ⟨Qb,fun x u e=>?_,by simp [hyl],?_⟩
  ·rw [Qi (Qg e hacc)];exact g4 _ _ (g _ _ e)
  ·rw [List.take_add_one,hc]
   show TmAll K _ (ys ++ [v']) ((t.bs.take i ++ [c]).map (onB br))
   rw [List.map_append]
   refine TmAll.append (hys.mono fun _ _ h=>(g4.seqT h).put (g4 _ _ hya)) (.cons (hv'.mono fun _ _ h=>h.put (g4 _ _ hya)) .nil)
 rintro ys H1 ⟨hya,g,hyl,hys⟩
 have et2:t.bs.take bs.length=t.bs:=List.take_of_length_le (7:)
 rw [et2] at hys
 refine ⟨.ref a,acc,ys,nm,k,ad,t.bs,t.bs.map (onB br),rfl,(by rw [← et];exact ht.mono fun _ _=>g.seqT),SqL.of hya,hys,by lia,fun v' H2 g2 hv'=>q v' H2 (g.trans g2) ?_⟩
 rw [et]
 show TmV K H2 v' (sub _ (.node (.put nm k ad) 0 t.bs))
 simp only [sub,hdF,Q7]
 exact hv'
theorem Lo {k:Nat}:FnOk P w K mg base CX0 k f fd ["term", "branch"] (JI K 0):=by
 have no:∀ vs H Q E,¬ JI K 0 vs H Q E:=fun vs H Q E h=>by
  obtain ⟨v,b,t,_,_,h0,_⟩:=h
  rw [Zg] at h0;lia
 exact (5:)
theorem VG (F:Fun K "on_branch" "on_branch" sOB f fd) (G:Gm mg) (RC:Fn P w K mg base 1 "is_call" ["term"] (Z0 K)) (RW:Fn P w K mg base 1 "with_parts" ["term", "parts"] (Xp K)) (hb:Binds K fd ["term", "branch"] []) (hm:mg "on_branch" = some (.ref f)):∀ n:Nat,FnOk P w K mg base CX0 (n + 1) f fd ["term", "branch"] (JI K n)
 | 0=>Lo
 | n + 1=>Oz F G RC RW ⟨f,fd,VG F G RC RW hb hm n,hb,F.kp,hm⟩
end
end K52
namespace K52
open PySem L2 TM TT
abbrev Rf (ts:List (Addr × List Int)):List V:=ts.map fun t=>V.ref t.1
def TsAt (K:PySem.W.Frag) (H:Hp) (ts:List (Addr × List Int)):Prop:=∀ t ∈ ts,SqT K H t.1 (PI' t.2)
theorem TsAt.mono {K:PySem.W.Frag} {H H':Hp} {ts:List (Addr × List Int)} (h:TsAt K H ts) (k:∀ a xs,SqT K H a xs→SqT K H' a xs):TsAt K H' ts:=fun t ht=>k _ _ (h t ht)
theorem TsAt.app {K:PySem.W.Frag} {H:Hp} {ts us:List (Addr × List Int)} (h:TsAt K H ts) (k:TsAt K H us):TsAt K H (ts ++ us):=fun t ht=>by
 rcases List.mem_append.mp ht with z | z
 ·exact h t z
 ·exact k t z
def pr (c:Int × Int):List Int:=[c.1,c.2]
def Xf (K:PySem.W.Frag) (n:Nat):Sp:=fun vs H Q _=>∃ (v:V) (t:Tm),vs=[v]∧TmV K H v t∧lv t≤n∧sz t≤1000 ∧
 ∀ (l:Addr) (H':Hp) (ts:List (Addr × List Int)),Same H H'→H l=none→H' l=some (.lst (Rf ts))→TsAt K H' ts→ts.map (·.2)=(cls t).map pr→Q (.ref l) H'
def ModesAt (K:PySem.W.Frag) (H:Hp) (hs:List V) (T:Int→Tm) (cs:List (Int × Int)):Prop:=∀ c ∈ cs,0≤c.1∧∃ hv,hs[c.1.toNat]?=some hv∧TmV K H hv (T c.1)∧lv (T c.1)≤4
theorem ModesAt.mono {K:PySem.W.Frag} {H H':Hp} {hs:List V} {T:Int→Tm} {cs:List (Int × Int)} (h:ModesAt K H hs T cs) (k:∀ a xs,SqT K H a xs→SqT K H' a xs):ModesAt K H' hs T cs:=fun c hc=>by
 obtain ⟨h0,hv,h1,h2,h3⟩:=h c hc
 exact ⟨h0,hv,h1,h2.mono k,h3⟩
theorem ModesAt.sub {K:PySem.W.Frag} {H:Hp} {hs:List V} {T:Int→Tm} {cs ds:List (Int × Int)} (h:ModesAt K H hs T cs) (k:∀ c ∈ ds,c ∈ cs):ModesAt K H hs T ds:=fun c hc=>h c (k c hc)
def JP (K:PySem.W.Frag) (n:Nat):Sp:=fun vs H Q _=>∃ (v:V) (l:Addr) (hs:List V) (t:Tm) (T:Int→Tm),vs=[v,.ref l]∧TmV K H v t∧lv t≤n∧SqL K H l hs∧ModesAt K H hs T (cls t)∧∀ (v':V) (H':Hp),Same H H'→TmV K H' v' (sub (fun m _=>T m) t)→Q v' H'
def JN (K:PySem.W.Frag) (n:Nat):Sp:=fun vs H Q _=>∃ (v:V) (l:Addr) (hs:List V) (t:Tm) (T:Int→Tm),vs=[v,.ref l]∧TmV K H v t∧lv t≤n∧SqL K H l hs∧ModesAt K H hs T (cls t)∧∀ (v':V) (H':Hp),Same H H'→TmV K H' v' (sub (fun m b=>onB b (T m)) t)→Q v' H'
section
variable {P:Program} {w:World} {K:PySem.W.Frag} {mg:Str→Option Value} {base:Heap} {f:Addr} {fd:FuncData}
theorem MY:FnScope ["term", "told", "part"] ["term"] (defScope sCO):=(1:)
theorem Os {n:Nat} (F:Fun K "calls_of" "calls_of" sCO f fd) (G:Gm mg) (RC:Fn P w K mg base 1 "is_call" ["term"] (Z0 K)) (R:Fn P w K mg base (n + 1) "calls_of" ["term"] (Xf K n)):FnOk P w K mg base CX0 (n + 2) f fd ["term"] (Xf K (n + 1)):=by
 refine F.ok MY (10:) (4:)
 ·obtain ⟨v,t,rfl,_⟩:=h
  rfl
 obtain ⟨v,t,rfl,ht,hlv,hsz,q⟩:=h
 refine ⟨_,(Qf (QN (ZK (Qn RC hr (Qa (pv 0) Qc) (Nat.le_add_left 1 n))) (Qj (Qs (QM (Qa ((Qy (Qa (3:) (Qa (3:) Qc)))) Qc)))) QB)
  (Qf (Qr (i:=1) MY.nd rfl (13:) (QM Qc))
  (Qf (Q5 PassesOwn.never rfl (Zu (3:)) (QC (i:=2) MY.nd rfl (13:))
   (Qj (Q8 (Z1 PySem.F.plainAttrs_list PySem.F.slot_list_extend PySem.F.type_list_extend WS (pv 1) (Qa (Qn R hr (Qa (pv 2) Qc) (9:)) Qc)))))
  (Qj (Qs (pv 1)))))),?_⟩
 refine ⟨_,rfl,v,t,rfl,ht,_,rfl,?_⟩
 rcases Zr ht with ⟨a,m,b,rfl,rfl,h1⟩ | ⟨a,b,bs,nm,k,ad,rfl,et,h1,h2,h3,h4⟩
 ·refine QH ⟨_,rfl,a,_,1,_,rfl,rfl,h1,rfl,_,rfl,a,_,2,_,rfl,rfl,h1,rfl,(19:),fun p hp=>⟨(50:),fun l hl=>?_⟩⟩
  have g1:=Qe hp (.tup [.int m,.int b])
  have g2:=Qe hl (.lst [.ref p])
  refine q l _ [(p,[m,b])] (g1.trans g2) (g1.free hl) Qb (fun x hx=>?_) rfl
  have:x=(p,[m,b]):=by simpa using hx
  rw [this]
  exact g2.seqT (42:)
 have ecls:cls t=Q4 t.bs:=by
  have:=congrArg cls et
  rw [this];simp [cls,lcl]
 rw [et]
 refine Zj ?_
 have hlen:=h3.length
 rw [Zg] at hlv
 rw [Ou] at hsz
 rw [ecls] at q
 refine ⟨(20:),fun l hl=>?_⟩
 have g0:=Qe hl (.lst [])
 refine ⟨_,rfl,a,_,4,_,rfl,rfl,g0.seqT h1,rfl,b,rfl,⟨_,g0.seqT h2⟩,?_⟩
 refine WF (K:=K) (xs:=bs) (fun i σ H'=>∃ (ts:List (Addr × List Int)) (c1:Option V),σ=[some (.ref a),some (.ref l),c1]∧Same H H'∧H' l=some (.lst (Rf ts))∧TsAt K H' ts∧ts.map (·.2)=(Q4 (t.bs.take i)).map pr)
  ⟨[],none,rfl,g0,Qb,fun x hx=>(nomatch hx),by simp [Q4]⟩ ?_ ?_ ?_
 ·rintro i σ H' _ ⟨ts,c1,_,g,_⟩
  exact g.seqT h2
 ·rintro i x σ H' hx ⟨ts,c1,rfl,g,hl',hts,hcl⟩
  have hi:i < bs.length:=(List.getElem?_eq_some_iff.mp hx).1
  obtain ⟨c,hc⟩ : ∃ c,t.bs[i]?=some c:=(43:)
  obtain ⟨cv,hcv,hct⟩:=h3.get hc
  obtain rfl:cv=x:=Option.some.inj (hcv.symm.trans hx)
  have hm:=List.mem_of_getElem? hc
  have a1:=ZI hm
  have a2:=Oi hm
  refine ⟨_,rfl,.inl ⟨rfl,_,SqL.of hl'⟩,_,rfl,cv,c,rfl,hct.mono fun _ _=>g.seqT,by lia,by lia,fun lb Hb tsb gb hlbn hlb htb hclb=>?_⟩
  have hl2:=gb _ _ hl'
  have tl:ts.length≤szs t.bs:=by
   have e:=congrArg List.length hcl
   rw [List.length_map,List.length_map] at e
   have h5:=UF (t.bs.take i)
   have hle:szs (t.bs.take i)≤szs t.bs:=by
    have e:=Ug (t.bs.take i ++ t.bs.drop i)
    rw [List.map_append,List.sum_append,Ug,Ug,List.take_append_drop] at e
    lia
   lia
  have tl2:tsb.length≤sz c:=by
   have e:=congrArg List.length hclb
   rw [List.length_map,List.length_map] at e
   have h5:=Ue c
   lia
  refine ⟨l,lb,_,_,rfl,rfl,hl2,hlb,?_,?_⟩
  ·rw [List.length_map,List.length_map];exact Zk (7:)
  refine ⟨ts ++ tsb,_,rfl,fun x u e=>?_,by rw [Qb];simp,?_,?_⟩
  ·rw [Qi (Qg e hl)];exact gb _ _ (g _ _ e)
  ·exact (hts.mono fun _ _ h=>(gb.seqT h).put hl2).app (htb.mono fun _ _ h=>h.put hl2)
  ·rw [List.map_append,hcl,hclb,List.take_add_one,hc]
   show _=(Q4 (t.bs.take i ++ [c])).map pr
   rw [UW,List.map_append]
 ·rintro σ H' ⟨ts,c1,rfl,g,hl',hts,hcl⟩
  rw [List.take_of_length_le (7:)] at hcl
  exact ⟨_,rfl,q l H' ts g hl hl' hts hcl⟩
theorem Lk {k:Nat}:FnOk P w K mg base CX0 k f fd ["term"] (Xf K 0):=by
 have no:∀ vs H Q E,¬ Xf K 0 vs H Q E:=fun vs H Q E h=>by
  obtain ⟨v,t,_,_,h0,_⟩:=h
  rw [Zg] at h0;lia
 exact (5:)
theorem GV (F:Fun K "calls_of" "calls_of" sCO f fd) (G:Gm mg) (RC:Fn P w K mg base 1 "is_call" ["term"] (Z0 K)) (hb:Binds K fd ["term"] []) (hm:mg "calls_of" = some (.ref f)):∀ n:Nat,FnOk P w K mg base CX0 (n + 1) f fd ["term"] (Xf K n)
 | 0=>Lk
 | n + 1=>Os F G RC ⟨f,fd,GV F G RC hb hm n,hb,F.kp,hm⟩
theorem O8:FnScope ["term", "terms"] ["term", "terms"] (defScope sRI):=(1:)
theorem NU {n:Nat} (F:Fun K "rules_in" "rules_in" sRI f fd) (G:Gm mg) (RC:Fn P w K mg base 1 "is_call" ["term"] (Z0 K)) (RW:Fn P w K mg base 1 "with_parts" ["term", "parts"] (Xp K)) (R:Fn P w K mg base (n + 1) "rules_in" ["term", "terms"] (JP K n)):FnOk P w K mg base CX0 (n + 2) f fd ["term", "terms"] (JP K (n + 1)):=by
 refine F.ok O8 (10:) (4:)
 ·obtain ⟨v,l,hs,t,T,rfl,_⟩:=h
  rfl
 obtain ⟨v,lt,hs,t,T,rfl,ht,hlv,hlt,hT,q⟩:=h
 refine ⟨_,(Qf (QN (ZK (Qn RC hr (Qa (pv 0) Qc) (Nat.le_add_left 1 n))) (Qj (Qs (Qh Qo (pv 1) (3:) (26:)))) QB)
  (Qj (Qs (Qn RW hr (Qa (pv 0) (Qa (Qw (32:) rfl (Zu (3:)) (Zb (32:)) (18:) (fun _ _ _ _=>Qn R hr (Qa (pv 0) (47:)) (9:))) Qc)) (Nat.le_add_left 1 n))))),?_⟩
 refine ⟨_,rfl,v,t,rfl,ht,_,rfl,?_⟩
 rcases Zr ht with ⟨a,m,b,rfl,rfl,h1⟩ | ⟨a,b,bs,nm,k,ad,rfl,et,h1,h2,h3,h4⟩
 ·obtain ⟨h0,hv,e1,e2,_⟩:=hT (m,b) (by simp [Qt,cls,lcl,Q4])
  have em:m=((m.toNat:Nat):Int):=by
   have:(0:Int)≤m:=h0
   lia
  refine QH ⟨_,rfl,_,rfl,a,_,1,_,rfl,rfl,h1,rfl,lt,hs,m,hv,rfl,rfl,hlt,?_,q hv H (Same.refl _) e2⟩
  rw [em];exact Qu e1
 have ecls:cls t=Q4 t.bs:=by
  have:=congrArg cls et
  rw [this];simp [cls,lcl]
 rw [ecls] at hT
 rw [et]
 refine Zj ?_
 have hlen:=h3.length
 rw [Zg] at hlv
 refine ⟨_,rfl,_,rfl,a,_,4,_,rfl,rfl,h1,rfl,b,rfl,⟨_,h2⟩,fun acc hacc=>?_⟩
 refine ZJ (K:=K) (xs:=bs) (cs:=[some (.ref lt)]) (tt:=fun _ H Q=>Q true H) (te:=Zz (JP K n) [] E0 (QL (Q6 0) (QL (Q6 1) ZR))) (fun i ys H'=>H' acc=some (.lst ys)∧Same H H'∧ys.length=i∧TmAll K H' ys ((t.bs.take i).map (sub fun m _=>T m)))
  ⟨Qb,Qe hacc _,rfl,.nil⟩ ?_ ?_ ?_
 ·rintro i ys H' _ ⟨_,g,_⟩
  exact g.seqT h2
 ·rintro i x ys H' hi hx ⟨hya,g,hyl,hys⟩
  obtain ⟨c,hc⟩ : ∃ c,t.bs[i]?=some c:=(43:)
  obtain ⟨cv,hcv,hct⟩:=h3.get hc
  obtain rfl:cv=x:=Option.some.inj (hcv.symm.trans hx)
  have hm:=List.mem_of_getElem? hc
  have a1:=ZI hm
  refine QH ⟨_,rfl,_,rfl,cv,lt,hs,c,T,rfl,hct.mono fun _ _=>g.seqT,by lia,g.seq hlt,(hT.sub (Jm hm)).mono fun _ _=>g.seqT,fun v' H4 g4 hv'=>?_⟩
  refine Qp (ys:=ys) hi (g4 _ _ hya) (7:) ⟨Qb,fun x u e=>?_,by simp [hyl],?_⟩
  ·rw [Qi (Qg e hacc)];exact g4 _ _ (g _ _ e)
  ·rw [List.take_add_one,hc]
   show TmAll K _ (ys ++ [v']) ((t.bs.take i ++ [c]).map (sub fun m _=>T m))
   rw [List.map_append]
   refine TmAll.append (hys.mono fun _ _ h=>(g4.seqT h).put (g4 _ _ hya)) (.cons (hv'.mono fun _ _ h=>h.put (g4 _ _ hya)) .nil)
 rintro ys H1 ⟨hya,g,hyl,hys⟩
 have et2:t.bs.take bs.length=t.bs:=List.take_of_length_le (7:)
 rw [et2] at hys
 refine ⟨.ref a,acc,ys,nm,k,ad,t.bs,t.bs.map (sub fun m _=>T m),rfl,(by rw [← et];exact ht.mono fun _ _=>g.seqT),SqL.of hya,hys,by lia,fun v' H2 g2 hv'=>q v' H2 (g.trans g2) ?_⟩
 rw [et]
 simp only [sub,hdF,Q7]
 exact hv'
theorem LM {k:Nat}:FnOk P w K mg base CX0 k f fd ["term", "terms"] (JP K 0):=by
 have no:∀ vs H Q E,¬ JP K 0 vs H Q E:=fun vs H Q E h=>by
  obtain ⟨v,l,hs,t,T,_,_,h0,_⟩:=h
  rw [Zg] at h0;lia
 exact (5:)
theorem Vj (F:Fun K "rules_in" "rules_in" sRI f fd) (G:Gm mg) (RC:Fn P w K mg base 1 "is_call" ["term"] (Z0 K)) (RW:Fn P w K mg base 1 "with_parts" ["term", "parts"] (Xp K)) (hb:Binds K fd ["term", "terms"] []) (hm:mg "rules_in" = some (.ref f)):∀ n:Nat,FnOk P w K mg base CX0 (n + 1) f fd ["term", "terms"] (JP K n)
 | 0=>LM
 | n + 1=>NU F G RC RW ⟨f,fd,Vj F G RC RW hb hm n,hb,F.kp,hm⟩
theorem O7:FnScope ["term", "terms"] ["term", "terms"] (defScope sTI):=(1:)
theorem NW {n:Nat} (F:Fun K "terms_in" "terms_in" sTI f fd) (G:Gm mg) (RC:Fn P w K mg base 1 "is_call" ["term"] (Z0 K)) (RW:Fn P w K mg base 1 "with_parts" ["term", "parts"] (Xp K)) (RO:Fn P w K mg base 5 "on_branch" ["term", "branch"] (JI K 4)) (R:Fn P w K mg base (n + 5) "terms_in" ["term", "terms"] (JN K n)):FnOk P w K mg base CX0 (n + 6) f fd ["term", "terms"] (JN K (n + 1)):=by
 refine F.ok O7 (10:) (4:)
 ·obtain ⟨v,l,hs,t,T,rfl,_⟩:=h
  rfl
 obtain ⟨v,lt,hs,t,T,rfl,ht,hlv,hlt,hT,q⟩:=h
 have hk1:1≤n + 5:=by lia
 refine ⟨_,(Qf (QN (ZK (Qn RC hr (Qa (pv 0) Qc) hk1)) (Qj (Qs (Qn RO hr (Qa (Qh Qo (pv 1) (3:) (26:)) (Qa (3:) Qc)) (Nat.le_add_left 5 n)))) QB)
  (Qj (Qs (Qn RW hr (Qa (pv 0) (Qa (Qw (32:) rfl (Zu (3:)) (Zb (32:)) (18:) (fun _ _ _ _=>Qn R hr (Qa (pv 0) (47:)) (9:))) Qc)) hk1)))),?_⟩
 refine ⟨_,rfl,v,t,rfl,ht,_,rfl,?_⟩
 rcases Zr ht with ⟨a,m,b,rfl,rfl,h1⟩ | ⟨a,b,bs,nm,k,ad,rfl,et,h1,h2,h3,h4⟩
 ·obtain ⟨h0,hv,e1,e2,e3⟩:=hT (m,b) (by simp [Qt,cls,lcl,Q4])
  have em:m=((m.toNat:Nat):Int):=by
   have:(0:Int)≤m:=h0
   lia
  have ea:atI hs m=some hv:=by rw [em];exact Qu e1
  exact QH ⟨_,rfl,_,rfl,a,_,1,_,rfl,rfl,h1,rfl,lt,hs,m,hv,rfl,rfl,hlt,ea,_,rfl,a,_,2,_,rfl,rfl,h1,rfl,hv,b,T m,rfl,e2,e3,fun v' H' g hv'=>q v' H' g hv'⟩
 have ecls:cls t=Q4 t.bs:=by
  have:=congrArg cls et
  rw [this];simp [cls,lcl]
 rw [ecls] at hT
 rw [et]
 refine Zj ?_
 have hlen:=h3.length
 rw [Zg] at hlv
 refine ⟨_,rfl,_,rfl,a,_,4,_,rfl,rfl,h1,rfl,b,rfl,⟨_,h2⟩,fun acc hacc=>?_⟩
 refine ZJ (K:=K) (xs:=bs) (cs:=[some (.ref lt)]) (tt:=fun _ H Q=>Q true H) (te:=Zz (JN K n) [] E0 (QL (Q6 0) (QL (Q6 1) ZR))) (fun i ys H'=>H' acc=some (.lst ys)∧Same H H'∧ys.length=i∧TmAll K H' ys ((t.bs.take i).map (sub fun m b=>onB b (T m))))
  ⟨Qb,Qe hacc _,rfl,.nil⟩ ?_ ?_ ?_
 ·rintro i ys H' _ ⟨_,g,_⟩
  exact g.seqT h2
 ·rintro i x ys H' hi hx ⟨hya,g,hyl,hys⟩
  obtain ⟨c,hc⟩ : ∃ c,t.bs[i]?=some c:=(43:)
  obtain ⟨cv,hcv,hct⟩:=h3.get hc
  obtain rfl:cv=x:=Option.some.inj (hcv.symm.trans hx)
  have hm:=List.mem_of_getElem? hc
  have a1:=ZI hm
  refine QH ⟨_,rfl,_,rfl,cv,lt,hs,c,T,rfl,hct.mono fun _ _=>g.seqT,by lia,g.seq hlt,(hT.sub (Jm hm)).mono fun _ _=>g.seqT,fun v' H4 g4 hv'=>?_⟩
  refine Qp (ys:=ys) hi (g4 _ _ hya) (7:) ⟨Qb,fun x u e=>?_,by simp [hyl],?_⟩
  ·rw [Qi (Qg e hacc)];exact g4 _ _ (g _ _ e)
  ·rw [List.take_add_one,hc]
   show TmAll K _ (ys ++ [v']) ((t.bs.take i ++ [c]).map (sub fun m b=>onB b (T m)))
   rw [List.map_append]
   refine TmAll.append (hys.mono fun _ _ h=>(g4.seqT h).put (g4 _ _ hya)) (.cons (hv'.mono fun _ _ h=>h.put (g4 _ _ hya)) .nil)
 rintro ys H1 ⟨hya,g,hyl,hys⟩
 have et2:t.bs.take bs.length=t.bs:=List.take_of_length_le (7:)
 rw [et2] at hys
 refine ⟨.ref a,acc,ys,nm,k,ad,t.bs,t.bs.map (sub fun m b=>onB b (T m)),rfl,(by rw [← et];exact ht.mono fun _ _=>g.seqT),SqL.of hya,hys,by lia,fun v' H2 g2 hv'=>q v' H2 (g.trans g2) ?_⟩
 rw [et]
 simp only [sub,hdF,Q7]
 exact hv'
theorem LB {k:Nat}:FnOk P w K mg base CX0 k f fd ["term", "terms"] (JN K 0):=by
 have no:∀ vs H Q E,¬ JN K 0 vs H Q E:=fun vs H Q E h=>by
  obtain ⟨v,l,hs,t,T,_,_,h0,_⟩:=h
  rw [Zg] at h0;lia
 exact (5:)
theorem VY (F:Fun K "terms_in" "terms_in" sTI f fd) (G:Gm mg) (RC:Fn P w K mg base 1 "is_call" ["term"] (Z0 K)) (RW:Fn P w K mg base 1 "with_parts" ["term", "parts"] (Xp K)) (RO:Fn P w K mg base 5 "on_branch" ["term", "branch"] (JI K 4)) (hb:Binds K fd ["term", "terms"] []) (hm:mg "terms_in" = some (.ref f)):∀ n:Nat,FnOk P w K mg base CX0 (n + 5) f fd ["term", "terms"] (JN K n)
 | 0=>LB
 | n + 1=>NW F G RC RW RO ⟨f,fd,VY F G RC RW RO hb hm n,hb,F.kp,hm⟩
end
end K52
namespace K52
open PySem L2 TM TT K9 K11
def Xo (K:PySem.W.Frag) (n:Nat):Sp:=fun vs H Q _=>∃ (v:V) (t:Tm),vs=[v]∧TmV K H v t∧lv t≤n∧∀ H',Same H H'→Q (.bl (kp t)) H'
def Lz (K:PySem.W.Frag):Sp:=fun vs H Q _=>∃ (lm kk:Addr) (m b:Int) (ms:List MdT) (ks:List Str),vs=[.ref lm,.int m,.int b,.ref kk]∧ModesL K H lm ms∧SqT K H kk (ks.map V.str)∧Q (.bl (Yw (mks (mds ms)) ks (m,b))) H
def VH (K:PySem.W.Frag):Sp:=fun vs H Q _=>∃ (lm kk:Addr) (v:V) (t:Tm) (ms:List MdT) (ks:List Str),vs=[.ref lm,v,.ref kk]∧ModesL K H lm ms∧SqT K H kk (ks.map V.str)∧TmV K H v t∧TmOk t∧∀ H',Same H H'→Q (.bl (YK (mks (mds ms)) ks t)) H'
section
variable {P:Program} {w:World} {K:PySem.W.Frag} {mg:Str→Option Value} {base:Heap} {f:Addr} {fd:FuncData}
theorem O5:FnScope ["term"] ["term"] (defScope sKM):=(1:)
theorem OD {n:Nat} (F:Fun K "keeps_mark" "keeps_mark" sKM f fd) (G:Gm mg) (RC:Fn P w K mg base 1 "is_call" ["term"] (Z0 K)) (R:Fn P w K mg base (n + 1) "keeps_mark" ["term"] (Xo K n)):FnOk P w K mg base CX0 (n + 2) f fd ["term"] (Xo K (n + 1)):=by
 refine F.ok O5 (10:) (4:)
 ·obtain ⟨v,t,rfl,_⟩:=h
  rfl
 obtain ⟨v,t,rfl,ht,hlv,q⟩:=h
 refine ⟨_,(Qf (QN (ZK (Qn RC hr (Qa (pv 0) Qc) (Nat.le_add_left 1 n))) (Qj (Qs Z3)) QB)
  (Qj (Qs (Ww (3:) (Uy (Qq (WQ rfl) rfl G.any PyProof.Rows.boot_any (Qa (VF (CompOk.plain rfl (0:) (0:) (0:)) rfl (Zu (3:)) (18:) (fun _ _ _ _=>Qn R hr (Qa (pv 0) Qc) (9:))) Qc))))))),?_⟩
 refine ⟨_,rfl,v,t,rfl,ht,_,rfl,?_⟩
 rcases Zr ht with ⟨a,m,b,rfl,rfl,h1⟩ | ⟨a,b,bs,nm,k,ad,rfl,et,h1,h2,h3,h4⟩
 ·exact QH (q H (Same.refl _))
 have ekp:kp t=(k || kps t.bs):=by
  have:=congrArg kp et
  rw [this];simp [kp,kpl]
 rw [et]
 refine Zj ?_
 have hlen:=h3.length
 rw [Zg] at hlv
 rw [ekp] at q
 refine ⟨_,rfl,a,_,2,_,rfl,rfl,h1,rfl,k,rfl,?_⟩
 cases k with
 | true=>exact QH (q H (Same.refl _))
 | false =>
  refine Zj ⟨_,rfl,a,_,4,_,rfl,rfl,h1,rfl,b,rfl,⟨_,h2⟩,fun acc hacc=>?_⟩
  refine Vm (K:=K) (xs:=bs) (tt:=fun _ H Q=>Q true H) (te:=Zz (Xo K n) [] E0 (QL (Q6 0) ZR)) (cs:=[]) (fun i ys H'=>H' acc=some (.lst ys)∧Same H H'∧ys=((t.bs.take i).map kp).map V.bl)
   ⟨Qb,Qe hacc _,rfl⟩ ?_ ?_ ?_
  ·rintro i ys H' _ ⟨_,g,_⟩
   exact g.seqT h2
  ·rintro i x ys H' hi hx ⟨hya,g,rfl⟩
   obtain ⟨c,hc⟩ : ∃ c,t.bs[i]?=some c:=(43:)
   obtain ⟨cv,hcv,hct⟩:=h3.get hc
   obtain rfl:cv=x:=Option.some.inj (hcv.symm.trans hx)
   have hm:=List.mem_of_getElem? hc
   have a1:=ZI hm
   refine QH ⟨_,rfl,cv,c,rfl,hct.mono fun _ _=>g.seqT,by lia,fun H4 g4=>?_⟩
   refine Qp hi (g4 _ _ hya) (24:) ⟨Qb,fun x u e=>?_,?_⟩
   ·rw [Qi (Qg e hacc)];exact g4 _ _ (g _ _ e)
   ·rw [List.take_add_one,hc];simp
  rintro ys H1 ⟨hya,g,rfl⟩
  have et2:t.bs.take bs.length=t.bs:=List.take_of_length_le (7:)
  rw [et2] at hya
  refine ⟨acc,_,rfl,SqL.of hya,?_⟩
  rw [← JD]
  exact q H1 g
theorem LU {k:Nat}:FnOk P w K mg base CX0 k f fd ["term"] (Xo K 0):=by
 have no:∀ vs H Q E,¬ Xo K 0 vs H Q E:=fun vs H Q E h=>by
  obtain ⟨v,t,_,_,h0,_⟩:=h
  rw [Zg] at h0;lia
 exact (5:)
theorem V4 (F:Fun K "keeps_mark" "keeps_mark" sKM f fd) (G:Gm mg) (RC:Fn P w K mg base 1 "is_call" ["term"] (Z0 K)) (hb:Binds K fd ["term"] []) (hm:mg "keeps_mark" = some (.ref f)):∀ n:Nat,FnOk P w K mg base CX0 (n + 1) f fd ["term"] (Xo K n)
 | 0=>LU
 | n + 1=>OD F G RC ⟨f,fd,V4 F G RC hb hm n,hb,F.kp,hm⟩
theorem Wj {mk ks:List Str} {m b:Int} (h:¬ (0≤m∧m < mk.length)):Yw mk ks (m,b)=false:=by
 unfold Yw
 by_cases h1:0≤m
 ·have h2:¬ m < mk.length:=fun z=>h ⟨h1,z⟩
  simp [h2]
 ·simp [h1]
theorem Xh {mk ks:List Str} {m b:Int} (h:¬ (0≤b∧b < ks.length)):Yw mk ks (m,b)=false:=by
 unfold Yw
 by_cases h1:0≤b
 ·have h2:¬ b < ks.length:=fun z=>h ⟨h1,z⟩
  simp [h2]
 ·simp [h1]
theorem Gg {mk ks:List Str} {i j:Nat} {x y:Str} (h:mk[i]?=some x) (k:ks[j]?=some y):Yw mk ks ((i:Int),(j:Int))=decide (x=y):=by
 have hi:=(List.getElem?_eq_some_iff.mp h).1
 have hj:=(List.getElem?_eq_some_iff.mp k).1
 unfold Yw
 have e1:(0:Int)≤(i:Int):=by lia
 have e2:(i:Int) < (mk.length:Int):=by lia
 have e3:(0:Int)≤(j:Int):=by lia
 have e4:(j:Int) < (ks.length:Int):=by lia
 simp only [e1,e2,e3,e4,decide_true,Bool.true_and,Int.toNat_natCast,h,k]
 by_cases e:x=y <;> simp [e]
theorem OX:FnScope ["modes", "mode", "branch", "kinds"] ["modes", "mode", "branch", "kinds"] (defScope sCF):=(1:)
theorem NT (F:Fun K "call_fits" "call_fits" sCF f fd) (G:Gm mg):FnOk P w K mg base CX0 1 f fd ["modes", "mode", "branch", "kinds"] (Lz K):=by
 refine F.ok OX (10:) (4:)
 ·obtain ⟨lm,kk,m,b,ms,ks,rfl,_⟩:=h
  rfl
 obtain ⟨lm,kk,m,b,ms,ks,rfl,hM,hk,q⟩:=h
 refine ⟨_,(Qf (QN (PW.pt (pw_or (Yz (J7 WC UU Qd (pv 1) (Qq Qm rfl G.len PySem.boot_len (Qa (pv 0) Qc)))) (pw_or1 (Yz (J7 WC UU Qd (pv 2) (44:)))))) (Qj (Qs Z3)) QB)
  (Qj (Qs (ZH Q2 (Qh Qk (Qh Qo (pv 0) (pv 1) (26:)) Qd (26:)) (Qh Qk (pv 3) (pv 2) (26:)) (QA _))))),?_⟩
 have elen:(mks (mds ms)).length=ms.length:=by simp
 have elk:(ks.map V.str).length=ks.length:=List.length_map ..
 have elm:(23:).length=ms.length:=List.length_map ..
 by_cases h0:(0:Int)≤m
 ·by_cases h1:m < (ms.length:Int)
  ·refine ⟨_,rfl,_,_,rfl,rfl,_,rfl,JB h0 ⟨_,rfl,lm,_,rfl,.inl hM.1,_,_,rfl,rfl,_,rfl,?_⟩⟩
   rw [elm,decide_eq_true h1]
   refine Zj ?_
   by_cases h2:(0:Int)≤b
   ·by_cases h3:b < (ks.length:Int)
    ·refine ⟨_,rfl,_,_,rfl,rfl,_,rfl,JB h2 ⟨_,rfl,kk,_,rfl,.inr hk,_,_,rfl,rfl,_,rfl,?_⟩⟩
     rw [elk,decide_eq_true h3]
     refine Zj ?_
     obtain ⟨i,rfl⟩ : ∃ i:Nat,m=(i:Int):=⟨m.toNat,by lia⟩
     obtain ⟨j,rfl⟩ : ∃ j:Nat,b=(j:Int):=⟨b.toNat,by lia⟩
     have hi:i < ms.length:=by lia
     have hj:j < ks.length:=by lia
     have em:(mks (mds ms))[i]?=some ms[i].2.1:=by simp [List.getElem?_eq_getElem hi,MdT.md]
     rw [Gg em (List.getElem?_eq_getElem hj)] at q
     have hat1:atI (23:) (i:Int)=some (.ref ms[i].1):=Qu (by rw [List.getElem?_map,List.getElem?_eq_getElem hi];rfl)
     have hat2:atI (ks.map V.str) (j:Int)=some (.str ks[j]):=Qu (by rw [List.getElem?_map,List.getElem?_eq_getElem hj];rfl)
     refine ⟨_,rfl,_,rfl,lm,_,_,_,rfl,rfl,hM.1,hat1,_,_,0,_,rfl,rfl,(hM.2 _ (List.getElem_mem hi)).1,rfl,_,rfl,_,rfl,kk,_,_,_,rfl,rfl,hk,hat2,rfl,?_⟩
     have e:decide (V.str ms[i].2.1=V.str ks[j])=decide (ms[i].2.1=ks[j]):=by simp
     rw [e]
     exact q
    ·rw [Xh (fun z=>h3 z.2)] at q
     refine ⟨_,rfl,_,_,rfl,rfl,_,rfl,JB h2 ⟨_,rfl,kk,_,rfl,.inr hk,_,_,rfl,rfl,_,rfl,?_⟩⟩
     rw [elk,decide_eq_false h3]
     exact QH q
   ·rw [Xh (fun z=>h2 z.1)] at q
    exact ⟨_,rfl,_,_,rfl,rfl,_,rfl,JX h2 ⟨_,rfl,QH q⟩⟩
  ·rw [Wj (fun z=>h1 (by rw [elen] at z;exact z.2))] at q
   refine ⟨_,rfl,_,_,rfl,rfl,_,rfl,JB h0 ⟨_,rfl,lm,_,rfl,.inl hM.1,_,_,rfl,rfl,_,rfl,?_⟩⟩
   rw [elm,decide_eq_false h1]
   exact QH (QH q)
 ·rw [Wj (fun z=>h0 z.1)] at q
  exact ⟨_,rfl,_,_,rfl,rfl,_,rfl,JX h0 ⟨_,rfl,QH (QH q)⟩⟩
theorem Om:FnScope ["modes", "term", "kinds"] ["modes", "term", "kinds"] (defScope M5):=(1:)
theorem Nh (F:Fun K "calls_fit" "calls_fit" M5 f fd) (G:Gm mg) (RO:Fn P w K mg base 9 "calls_of" ["term"] (Xf K 8)) (RF:Fn P w K mg base 1 "call_fits" ["modes", "mode", "branch", "kinds"] (Lz K)):FnOk P w K mg base CX0 10 f fd ["modes", "term", "kinds"] (VH K):=by
 refine F.ok Om (10:) (4:)
 ·obtain ⟨lm,kk,v,t,ms,ks,rfl,_⟩:=h
  rfl
 obtain ⟨lm,kk,v,t,ms,ks,rfl,hM,hk,ht,ho,q⟩:=h
 refine ⟨_,(Qj (Qs (Qq (Zo rfl) rfl G.all PyProof.Rows.boot_all (Qa (Qw (CompG.many (xs:=["mode", "branch"]) (caps:=["kinds", "modes"]) (cap:=[2,0]) (cs:=[_,_]) rfl rfl (0:) (0:) (0:) (0:) (0:) (0:) rfl rfl rfl) rfl (QJ (Qn RO hr (47:))) (ZB (CompG.many (xs:=["mode", "branch"]) (caps:=["kinds", "modes"]) (cap:=[2,0]) (cs:=[_,_]) rfl rfl (0:) (0:) (0:) (0:) (0:) (0:) rfl rfl rfl) rfl) (18:) (fun _ _ _ _=>Qn RF hr (Qa (pv 3) (Qa (pv 0) (Qa (pv 1) (Qa (pv 2) Qc)))))) Qc)))),?_⟩
 have hsz:=ho.sz
 refine ⟨_,rfl,v,t,rfl,ht,ho.lv,by lia,fun l H1 ts g1 hl0 hl hts hcl=>⟨l,rfl,⟨_,SqL.of hl⟩,fun acc hacc=>?_⟩⟩
 have hne:l≠acc:=Qg hl hacc
 have hlen:ts.length=(cls t).length:=by simpa using congrArg List.length hcl
 have hcs:=Ue t
 refine Zc (K:=K) (xs:=Rf ts) (cs:=[some (.ref kk),some (.ref lm)]) (tt:=fun _ H Q=>Q true H) (te:=Zz (Lz K) [] E0 (QL (Q6 3) (QL (Q6 0) (QL (Q6 1) (QL (Q6 2) ZR))))) (fun i ys H'=>H' acc=some (.lst ys)∧Same H1 H'∧ys=(((cls t).take i).map (Yw (mks (mds ms)) ks)).map V.bl)
  ⟨Qb,Qe hacc _,rfl⟩ ?_ ?_ ?_
 ·rintro i ys H' _ ⟨_,g,_⟩
  exact SqL.of (g _ _ hl)
 ·rintro i x ys H' hi hx ⟨hya,g,rfl⟩
  have hit:i < ts.length:=by simpa using hi
  have hic:i < (cls t).length:=by lia
  have ex:x=.ref ts[i].1:=by
   rw [List.getElem?_map,List.getElem?_eq_getElem hit] at hx
   exact (54:).symm
  have ep:ts[i].2=pr (cls t)[i]:=by
   have:=congrArg (fun l=>l[i]?) hcl
   simpa [List.getElem?_eq_getElem hit,List.getElem?_eq_getElem hic] using this
  have hp:=hts _ (List.getElem_mem hit)
  rw [ep] at hp
  refine ⟨_,_,_,ex,g.seqT hp,QH ?_⟩
  have gg:=g1.trans g
  refine ⟨_,rfl,_,rfl,_,rfl,_,rfl,lm,kk,_,_,ms,ks,rfl,hM.same gg,gg.seqT hk,?_⟩
  refine Qp hi hya (24:) ⟨Qb,fun x u e=>?_,?_⟩
  ·rw [Qi (Qg e hacc)];exact g _ _ e
  ·rw [List.take_add_one,List.getElem?_eq_getElem hic,List.map_append,List.map_append];rfl
 rintro ys H2 ⟨hya,g,rfl⟩
 have et2:(cls t).take (Rf ts).length=cls t:=List.take_of_length_le (34:)
 rw [et2] at hya
 refine ⟨acc,_,rfl,SqL.of hya,?_⟩
 have e:(((cls t).map (Yw (mks (mds ms)) ks)).all id)=YK (mks (mds ms)) ks t:=by
  unfold YK;rw [List.all_map];rfl
 rw [e]
 exact q H2 (g1.trans g)
end
end K52
namespace K51
open PySem TM TT L2 K9 K11 ST
mutual
def TPr (p:Int→Int→Prop):Tm→Prop
 | .node (.call m b) _ bs=>p m b∧bs=[]
 | .node (.put n _ _) _ bs=>PyData.strOk n=true∧bs.length≤3∧TPrs p bs
def TPrs (p:Int→Int→Prop):List Tm→Prop
 | []=>True
 | b :: r=>TPr p b∧TPrs p r
end
theorem Ye (p:Int→Int→Prop) (bs:List Tm):TPrs p bs ↔ ∀ b ∈ bs,TPr p b:=by
 induction bs with
 | nil=>simp [TPrs]
 | cons u r ih=>simp only [TPrs,ih,List.mem_cons,forall_eq_or_imp]
mutual
theorem TPr.mono {p q:Int→Int→Prop} (h:∀ m b,p m b→q m b):∀ {t:Tm},TPr p t→TPr q t
 | .node (.call m b) _ bs,k=>by simp only [TPr] at k ⊢;exact ⟨h _ _ k.1,k.2⟩
 | .node (.put n _ _) _ bs,k=>by simp only [TPr] at k ⊢;exact ⟨k.1,k.2.1,TPrs.mono h k.2.2⟩
theorem TPrs.mono {p q:Int→Int→Prop} (h:∀ m b,p m b→q m b):∀ {bs:List Tm},TPrs p bs→TPrs q bs
 | [],_=>by simp only [TPrs]
 | b :: r,k=>by simp only [TPrs] at k ⊢;exact ⟨TPr.mono h k.1,TPrs.mono h k.2⟩
end
mutual
theorem TPr.mok {p:Int→Int→Prop}:∀ {t:Tm},TPr p t→L2.MOk (2 * lv t) t
 | .node (.call m b) mk bs,_=>(L2.leaf_ok m b mk bs).mono (by simp only [lv];lia)
 | .node (.put n k a) mk bs,h=>by
  simp only [TPr] at h
  exact (L2.put_ok (mk:=mk) h.1 (TPrs.mok h.2.2)).mono (by simp only [lv];lia)
theorem TPrs.mok {p:Int→Int→Prop}:∀ {bs:List Tm},TPrs p bs→∀ t ∈ bs,L2.MOk (2 * lvs bs) t
 | [],_=>fun t ht=>(nomatch ht)
 | b :: r,h=>fun t ht=>by
  simp only [TPrs] at h
  simp only [lvs]
  rcases List.mem_cons.mp ht with e | z
  ·rw [e];exact (TPr.mok h.1).mono (7:)
  ·exact (TPrs.mok h.2 t z).mono (7:)
end
mutual
theorem TPr.size {p:Int→Int→Prop}:∀ {t:Tm},TPr p t→2 * sz t + 1≤3 ^ lv t
 | .node (.call m b) mk bs,h=>by
  simp only [TPr] at h
  obtain ⟨_,rfl⟩:=h
  simp [sz,szs,lv,lvs]
 | .node (.put n k a) mk bs,h=>by
  simp only [TPr] at h
  have h1:=TPrs.size h.2.2
  simp only [sz,lv]
  rw [Nat.add_comm 1 (lvs bs),Nat.pow_succ]
  have h3:1≤3 ^ lvs bs:=Nat.pos_of_ne_zero (by simp)
  have hl:bs.length=0∨bs.length=1∨bs.length=2∨bs.length=3:=by have:=h.2.1;lia
  rcases hl with e | e | e | e <;> rw [e] at h1 <;> lia
theorem TPrs.size {p:Int→Int→Prop}:∀ {bs:List Tm},TPrs p bs→2 * szs bs + bs.length≤bs.length * 3 ^ lvs bs
 | [],_=>by simp [szs]
 | b :: r,h=>by
  simp only [TPrs] at h
  have h1:=TPr.size h.1
  have h2:=TPrs.size h.2
  simp only [szs,List.length_cons,lvs]
  have h3:3 ^ lv b≤3 ^ max (lv b) (lvs r):=Nat.pow_le_pow_right (28:) (Nat.le_max_left _ _)
  have h4:3 ^ lvs r≤3 ^ max (lv b) (lvs r):=Nat.pow_le_pow_right (28:) (Nat.le_max_right _ _)
  have h5:r.length * 3 ^ lvs r≤r.length * 3 ^ max (lv b) (lvs r):=Nat.mul_le_mul_left _ h4
  have e:(r.length + 1) * 3 ^ max (lv b) (lvs r)=r.length * 3 ^ max (lv b) (lvs r)+3 ^ max (lv b) (lvs r):=Nat.succ_mul _ _
  rw [e]
  generalize r.length * 3 ^ max (lv b) (lvs r)=A at *
  generalize r.length * 3 ^ lvs r=B at *
  generalize 3 ^ max (lv b) (lvs r)=C at *
  generalize 3 ^ lv b=E at *
  lia
end
mutual
theorem TPr.calls {p:Int→Int→Prop}:∀ {t:Tm},TPr p t→∀ c ∈ cls t,p c.1 c.2
 | .node (.call m b) mk bs,h=>by
  simp only [TPr] at h
  obtain ⟨h,rfl⟩:=h
  intro c hc
  simp [cls,lcl,Q4] at hc
  subst hc
  exact h
 | .node (.put n k a) mk bs,h=>by
  simp only [TPr] at h
  intro c hc
  simp only [cls,lcl,List.nil_append] at hc
  exact TPrs.calls h.2.2 c hc
theorem TPrs.calls {p:Int→Int→Prop}:∀ {bs:List Tm},TPrs p bs→∀ c ∈ Q4 bs,p c.1 c.2
 | [],_=>fun c hc=>by simp [Q4] at hc
 | b :: r,h=>by
  simp only [TPrs] at h
  intro c hc
  simp only [Q4] at hc
  rcases List.mem_append.mp hc with z | z
  ·exact TPr.calls h.1 c z
  ·exact TPrs.calls h.2 c z
end
mutual
theorem TPr.sub {p q:Int→Int→Prop} {f:Int→Int→Tm} (h:∀ m b,p m b→TPr q (f m b)):∀ {t:Tm},TPr p t→TPr q (TT.sub f t)
 | .node (.call m b) mk bs,k=>by
  simp only [TPr] at k
  obtain ⟨k,rfl⟩:=k
  simp only [TT.sub,hdF]
  exact h m b k
 | .node (.put n kk a) mk bs,k=>by
  simp only [TPr] at k
  simp only [TT.sub,hdF,TPr]
  exact ⟨k.1,by rw [Q7,List.length_map];exact k.2.1,TPrs.sub h k.2.2⟩
theorem TPrs.sub {p q:Int→Int→Prop} {f:Int→Int→Tm} (h:∀ m b,p m b→TPr q (f m b)):∀ {bs:List Tm},TPrs p bs→TPrs q (TT.subs f bs)
 | [],_=>by simp only [TT.subs,TPrs]
 | b :: r,k=>by
  simp only [TPrs] at k
  simp only [TT.subs,TPrs]
  exact ⟨TPr.sub h k.1,TPrs.sub h k.2⟩
end
mutual
theorem Jg {p:Int→Int→Prop} {f:Int→Int→Tm} {L:Nat} (h:∀ m b,p m b→lv (f m b)≤L):∀ {t:Tm},TPr p t→lv (TT.sub f t)≤lv t + L
 | .node (.call m b) mk bs,k=>by
  simp only [TPr] at k
  obtain ⟨k,rfl⟩:=k
  simp only [TT.sub,hdF]
  have:=h m b k
  lia
 | .node (.put n kk a) mk bs,k=>by
  simp only [TPr] at k
  simp only [TT.sub,hdF,lv]
  have:=Ws h k.2.2
  lia
theorem Ws {p:Int→Int→Prop} {f:Int→Int→Tm} {L:Nat} (h:∀ m b,p m b→lv (f m b)≤L):∀ {bs:List Tm},TPrs p bs→lvs (TT.subs f bs)≤lvs bs + L
 | [],_=>by simp only [TT.subs,lvs];lia
 | b :: r,k=>by
  simp only [TPrs] at k
  simp only [TT.subs,lvs]
  have h1:=Jg h k.1
  have h2:=Ws h k.2
  lia
end
mutual
theorem ZT {f g:Int→Int→Tm}:∀ {t:Tm},(∀ c ∈ cls t,f c.1 c.2=g c.1 c.2)→TT.sub f t=TT.sub g t
 | .node (.call m b) mk bs,h=>by
  have:=h (m,b) (by simp [cls,lcl])
  simp only [TT.sub,hdF]
  exact this
 | .node (.put n kk a) mk bs,h=>by
  simp only [TT.sub,hdF]
  rw [UL fun c hc=>h c (by simp only [cls,lcl,List.nil_append];exact hc)]
theorem UL {f g:Int→Int→Tm}:∀ {bs:List Tm},(∀ c ∈ Q4 bs,f c.1 c.2=g c.1 c.2)→TT.subs f bs=TT.subs g bs
 | [],_=>rfl
 | b :: r,h=>by
  simp only [TT.subs]
  rw [ZT fun c hc=>h c (by simp only [Q4];exact List.mem_append_left _ hc),UL fun c hc=>h c (by simp only [Q4];exact List.mem_append_right _ hc)]
end
def Y7 (ts:List (36:)) (c:Int × Int):Bool:=match ts[c.1.toNat]? with
 | some (some _)=>true
 | _=>false
def Zs (ts:List (36:)) (t:Tm):Bool:=(cls t).all (Y7 ts)
def tf (ts:List (36:)) (m:Int):Tm:=match ts[m.toNat]? with
 | some (some t)=>t
 | _=>Qt 0 0
def tin (ts:List (36:)) (t:Tm):Tm:=TT.sub (fun m b=>onB b (tf ts m)) t
def QD (ms:List MdT) (j:Nat) (m:Int):Tm:=match ms[m.toNat]? with
 | some md=>(md.2.2.2.2[j]?).getD (Qt 0 0)
 | none=>Qt 0 0
def rin (ms:List MdT) (j:Nat) (t:Tm):Tm:=TT.sub (fun m _=>QD ms j m) t
def eqT (a b:Tm):Bool:=PyData.eqv (tmd a) (tmd b)
structure Paper (st1:Tm) (ms1:List MdT) (ts:List (36:)) (st2:Tm) (ms2:List MdT):Prop where
 fit:∀ (k:Nat) (md:MdT) (t:Tm),ms1[k]?=some md→ts[k]?=some (some t)→YK (mks (mds ms2)) [md.2.1] t=true
 hs:Zs ts st1=true
 hr:∀ (k:Nat) (md:MdT) (t:Tm),ms1[k]?=some md→ts[k]?=some (some t)→∀ r ∈ md.2.2.2.2,Zs ts r=true
 es:eqT (tin ts st1) st2=true
 er:∀ (k:Nat) (md:MdT) (t:Tm),ms1[k]?=some md→ts[k]?=some (some t)→∀ (j:Nat) (r:Tm),md.2.2.2.2[j]?=some r→eqT (tin ts r) (rin ms2 j t)=true
inductive OAll (K:PySem.W.Frag) (H:Hp):List V→List (36:)→Prop where
 | nil:OAll K H [] []
 | cons {v:V} {vs:List V} {o:Option Tm} {os:List (36:)}:TmO K H v o→OAll K H vs os→OAll K H (v :: vs) (o :: os)
theorem TmO.mono {K:PySem.W.Frag} {H H':Hp} (k:∀ a xs,SqT K H a xs→SqT K H' a xs) {v:V} {o:Option Tm} (h:TmO K H v o):TmO K H' v o:=by
 cases o with
 | none=>exact h
 | some t=>exact TmV.mono k h
theorem OAll.mono {K:PySem.W.Frag} {H H':Hp} (k:∀ a xs,SqT K H a xs→SqT K H' a xs):∀ {vs:List V} {os:List (36:)},OAll K H vs os→OAll K H' vs os
 | _,_,.nil=>.nil
 | _,_,.cons h r=>.cons (TmO.mono k h) (OAll.mono k r)
theorem OAll.length {K:PySem.W.Frag} {H:Hp}:∀ {vs:List V} {os:List (36:)},OAll K H vs os→vs.length=os.length
 | _,_,.nil=>rfl
 | _,_,.cons _ r=>by rw [List.length_cons,List.length_cons,r.length]
theorem OAll.get {K:PySem.W.Frag} {H:Hp}:∀ {vs:List V} {os:List (36:)} {i:Nat} {o:Option Tm},OAll K H vs os→os[i]?=some o→∃ v,vs[i]?=some v∧TmO K H v o
 | _,_,_,_,.nil,e=>by simp at e
 | _,_,0,_,.cons h _,e=>by simp at e;subst e;exact ⟨_,rfl,h⟩
 | _,_,i + 1,o,.cons _ r,e=>by
  obtain ⟨v,h1,h2⟩:=OAll.get (i:=i) (o:=o) r (by simpa using e)
  exact ⟨v,by simpa using h1,h2⟩
theorem OAll.set {K:PySem.W.Frag} {H:Hp} {v:V} {o:Option Tm} (h:TmO K H v o):∀ {vs:List V} {os:List (36:)} (i:Nat),OAll K H vs os→OAll K H (vs.set i v) (os.set i o)
 | _,_,_,.nil=>.nil
 | _,_,0,.cons _ r=>.cons h r
 | _,_,i + 1,.cons k r=>.cons k (OAll.set h i r)
end K51
namespace L2
open PySem PySem.Spec PyProof.Rows
def ItL (K:PySem.W.Frag) (a:Addr):It :=
 ⟨fun i H=>∃ xs x,SqL K H a xs∧xs[i]?=some x,fun i H x H'=>∃ p v,H p=none∧x=.ref p∧H'=upd H p (.tup [.int (i:Int),v])∧∀ xs,SqL K H a xs→xs[i]?=some v,fun i H=>∃ xs,SqL K H a xs∧xs.length≤i⟩
theorem Xw {P:Program} {w:World} {K:PySem.W.Frag} {elts:List Expr} {k1:Nat} {pos:Pos} (a e it:Addr) (hei:e≠it) :
 Turn P w K (.Tuple elts k1 pos) (ItL K a) [e,it] e (fun i h=>(∃ old,IsEnum h e it (i:Nat) old)∧h.IsListIter it a i) where
 mem:=by simp
 obj:=fun i h st c hc=>by
  obtain ⟨⟨old,he⟩,hi⟩:=st
  simp only [List.mem_cons,List.mem_nil_iff,or_false] at hc
  rcases hc with rfl | rfl
  ·exact ⟨_,he,fun v z=>by have z':Data.fields _=Data.cell v:=z;cases z'⟩
  ·obtain ⟨o,g,c,d⟩:=hi;exact ⟨o,g,fun v z=>by rw [d] at z;cases z⟩
 keep:=fun i h h' st k=>by
  obtain ⟨⟨old,he⟩,hi⟩:=st
  exact ⟨⟨old,k e (by simp) _ he⟩,hi.at fun o g=>k it (by simp) o g⟩
 item:=by
  intro X hP hw hK hc i pins s σ H E I hf st hg
  subst hP hw hK
  obtain ⟨⟨old,he⟩,hi⟩:=st
  obtain ⟨xs,x,hq,hx⟩:=hg
  obtain ⟨its,rv,p,hz⟩:=I.list hq
  obtain ⟨u,hu,ru⟩:=rv.get hx
  have pt:s.heap.IsList a its.toArray:=p.isList
  obtain ⟨oa,ga,ca,na,da⟩:=id pt
  have hae:a≠e:=fun z=>by
   subst z
   have hE:s.heap.get? a=some _:=he
   rw [hE] at ga
   cases ga
   exact absurd (Value.type.inj ca) (28:)
  have hai:a≠it:=fun z=>by
   subst z
   obtain ⟨o,g,c,d⟩:=hi
   rw [g] at ga
   cases ga
   rw [c] at ca
   exact absurd (Value.type.inj ca) (28:)
  have hlt:i < its.toArray.size:=by
   have:=(List.getElem?_eq_some_iff.mp hu).1
   simpa using this
  refine wpAny_pyNext_enum_itemD (Draws.list (prog:=X.prog) (w:=X.w) (A:=X.A.in1) (I.ok.hd hc) it a hai its.toArray) he ⟨hi,pt⟩ hlt hei (by simp only [List.mem_cons,List.mem_nil_iff,or_false,not_or];exact ⟨hei,Ne.symm hae⟩) fun y h' tk hy ho hst ht hsz hk=>?_
  have hyu:y=u:=by
   have:its.toArray[i]?=some u:=by simpa using hu
   exact Option.some.inj (hy.symm.trans this)
  subst hyu
  refine ⟨.ref s.heap.objs.size,rfl,wpAny_letOwnedTupleGo_enum (s:={ s with heap:=h',toks:=tk + 1 }) ho fun h'' he'' hs'=>?_⟩
  have lt:∀ {c o},s.heap.get? c=some o→c≠s.heap.objs.size:=fun g=>Nat.ne_of_lt (Heap.lt_size g)
  have hse:s.heap.objs.size≠e:=Ne.symm (lt he)
  have hch:∀ c ∈ [e,it],YT X pins H c:=hf
  have I2:Inv X pins σ (upd H s.heap.objs.size (.tup [.int (i:Int),x])) { s with heap:=h'',toks:=tk + 1 }:=by
   refine I.turnedNew (ch:=[e,it]) (fun c o hc g=>?_) hch (9:) ⟨by show 2≤sizeLine;decide,[.int (i:Int) tk,y],.cons ⟨tk,rfl⟩ (.cons ru .nil),⟨_,(hs'.2 _ hse).trans ht,rfl,_,rfl⟩⟩
   simp only [List.mem_cons,List.mem_nil_iff,or_false,not_or] at hc
   exact (hs'.2 c hc.1).trans (hk c o hc.1 hc.2 g)
  have hfr:∀ c ∈ [e,it],upd H s.heap.objs.size (.tup [.int (i:Int),x]) c=none:=fun c hc=>by
   have:c≠s.heap.objs.size:=by
    have hc':=hc
    simp only [List.mem_cons,List.mem_nil_iff,or_false] at hc'
    rcases hc' with rfl | rfl
    ·exact lt he
    ·obtain ⟨o,g,_⟩:=hi;exact lt g
   rw [Qi this];exact (hf c hc).1
  exact ⟨.ref s.heap.objs.size,_,I2,rfl,⟨s.heap.objs.size,x,I.fresh,rfl,rfl,fun ys hys=>by rw [I.list_inj hys hq];exact hx⟩,⟨⟨_,he''⟩,hst.1.extBut hs'.extBut (Ne.symm hei)⟩,hfr⟩
 done:=by
  intro X hP hw hK hc i pins s σ H E I hf st hg
  subst hP hw hK
  obtain ⟨⟨old,he⟩,hi⟩:=st
  obtain ⟨xs,hq,hx⟩:=hg
  obtain ⟨its,rv,p,hz⟩:=I.list hq
  have pt:s.heap.IsList a its.toArray:=p.isList
  have hlen:=rv.length
  have hn:its.toArray.size≤i:=by simp;lia
  have hT:s.TypeIs (.ref e) "enumerate" := ⟨_,he,rfl⟩
  unfold pyNext
  refine wpAny_bind (wpAny_attempt (wpAny_callSpecial?_slot (name:=Str.ofString "__next__") hT F.slot_enumerate_next (wpAny_call_entry F.slot_enumerate_next hT F.entry_enumerate_next ?_ (F.args_enumerate_next_1 _))))
  show wpAny _ _ (field (.ref e) 2 >>= _) _ _ _
  refine wpAny_bind (wpAny_field he rfl (x:=.ref it) rfl ?_)
  refine wpAny_bind (wpAny_nextOf_list_end (A:=X.A.in1) (I.ok.hd hc) hi pt (Array.getElem?_eq_none hn) fun h' y he' hy=>?_)
  obtain ⟨o,ho,hcl⟩:=hy
  refine wpAny_bind (wpAny_isInstance (T:="StopIteration") (b:=true) ⟨o,ho,hcl⟩ isSubtype_stop ?_)
  refine wpAny_pure ⟨rfl,I.turnedL (t':=s.toks) (ch:=[e,it]) (fun c u hc' g=>he' c u (fun z=>hc' (by rw [z];simp)) g) hf⟩
 self:=fun _ _ _ _ _ st h=>wpAny_pyIter_enum st.1.choose_spec h
section
variable {X:Cx} {elts:List Expr} {k1:Nat} {tpos:Pos}
def Nc (K:PySem.W.Frag) (ta:TA):TI:=fun σ H R=>ta σ H fun vs H1=>∃ a xs,vs=[.ref a]∧SqL K H1 a xs∧R (ItL K a) H1
theorem GH {e1:Expr} {ta:TA} {p pos:Pos} (hg:Gl X "enumerate") (hm:X.mg "enumerate" = none) (ha:PA X [e1] ta) (hb:bootBuiltins "enumerate" = some (.type "enumerate"):=by decide +kernel) (hs:starEach [e1] X.env=[(false,eval e1 X.env)]:=by rfl) :
 PI X (.Tuple elts k1 tpos) (.Call (.Name "enumerate" p) [e1] [] pos) (Nc X.K ta):=by
 intro pins s σ H R I h
 refine Call_ (YS I hg hm hb (PyProof.Rows.callWith_type1 (thn (ha pos pins s σ H _ I h) fun us s1 ⟨vs,H1,I1,r1,q1⟩=>?_) hs rfl))
 obtain ⟨a,xs,e,hq,q⟩:=q1
 subst e
 cases r1 with
 | cons r rr =>
  cases rr
  obtain rfl:_=Value.ref a:=r
  obtain ⟨its,rv,pt,_⟩:=I1.list hq
  refine call_enumerate_list (show s1.heap.IsList a its.toArray from pt.isList) fun h' he hi hsz hk=>?_
  refine wpAny_pyIter_enum he ?_
  have I2:Inv X pins σ H1 { s1 with heap:=h' }:=I1.kept (t':=s1.toks) hk
  refine ⟨s1.heap.objs.size + 1,[s1.heap.objs.size + 1,s1.heap.objs.size],_,_,H1,rfl,I2,Xw a (s1.heap.objs.size + 1) s1.heap.objs.size (nne (7:)),⟨⟨_,he⟩,hi⟩,fun c hc=>?_,q⟩
  have hle:@LE.le Nat _ s1.heap.objs.size c:=by
   simp only [List.mem_cons,List.mem_nil_iff,or_false] at hc
   rcases hc with rfl | rfl <;> lia
  exact I1.fpOk hle (I1.hok.fresh hle)
end
end L2
namespace L2
open PySem PySem.Spec PyProof.Rows
theorem GO {K:PySem.W.Frag} {a acc:Addr} {xs:List V} {tt:TT} {te:TE} {cs:St} {H1:Hp} {Q:Hp→Prop} (Pv:Nat→List V→Hp→Prop) (h0:Pv 0 [] (59:)) (hl:∀ i ys H,i≤xs.length→Pv i ys H→SqL K H a xs)
 (hs:∀ (i:Nat) (v:V) (p:Addr) (ys:List V) (H:Hp),i < xs.length→xs[i]?=some v→H p=none→Pv i ys H→tt (some (.int (i:Int)) :: some v :: cs) (upd H p (.tup [.int (i:Int),v])) (J9 xs.length Pv acc i te (some (.int (i:Int)) :: some v :: cs))) (hd:∀ ys H,Pv xs.length ys H→Q H) :
 YI (ItL K a) 2 cs (VE K 2 (Yn (QV 0) (Yn (QV 1) Vc))) tt te H1 acc Q:=by
 refine Zf (N:=xs.length) Pv h0 (fun ys H p=>?_) fun i ys H hi p=>?_
 ·exact ⟨⟨xs,hl _ _ _ (9:) p,Nat.le_refl _⟩,hd ys H p⟩
 ·have hq:=hl _ _ _ (Nat.le_of_lt hi) p
  refine ⟨⟨xs,xs[i],hq,List.getElem?_eq_getElem hi⟩,?_⟩
  rintro x H3 ⟨q,v,hp,rfl,rfl,hv⟩ as has
  obtain ⟨a0,a1,rfl⟩:=Jh has
  exact ⟨q,[.int (i:Int),v],rfl,SqT.of Qb,rfl,_,[v],rfl,v,[],rfl,rfl,⟨[some _,some v],rfl,rfl⟩,hs i v q ys _ hi (hv xs hq) hp p⟩
end L2
namespace K52
open K51
open PySem L2 TM TT K9 K11 ST
def Vp (K:PySem.W.Frag):Sp:=fun vs H Q _=>∃ (t1 t2 w1 w2:Addr) (x1 y1 x2 y2:V) (d:PyData),vs=[.ref t1,.ref t2]∧SqT K H t1 [.ref w1,x1,y1]∧SqT K H t2 [.ref w2,x2,y2]∧RdV K H (.ref w1) d∧RdV K H (.ref w2) d∧d.canLay0=true∧d.depth≤10∧Q .non H
def LC (ms2:List MdT) (kind:Str):Option Tm→Bool
 | none=>true
 | some t=>YK (mks (mds ms2)) [kind] t
structure TsOk (ts:List (36:)):Prop where
 few:ts.length≤10
 tm:∀ t,some t ∈ ts→TPr (fun a _=>0≤a) t∧kp t=false∧lv t≤4
def OB (o:Option Tm):Prop:=∀ t,o=some t→TPr (fun a _=>0≤a) t∧kp t=false∧lv t≤4
def Nx (K:PySem.W.Frag):Sp:=fun vs H Q _=>∃ (kind:Str) (v:V) (o:Option Tm) (tu lm:Addr) (x y:V) (ms2:List MdT),vs=[.str kind,v,.ref tu]∧TmO K H v o∧OB o∧SqT K H tu [x,y,.ref lm]∧ModesL K H lm ms2∧∀ H',Same H H'→Q (.bl (LC ms2 kind o)) H'
def V0 (K:PySem.W.Frag):Sp:=fun vs H Q _=>∃ (v:V) (t:Tm) (lt:Addr) (us:List V) (ts:List (36:)),vs=[v,.ref lt]∧TmV K H v t∧TPr (fun a _=>0≤a∧a < ts.length) t∧lv t≤6∧SqL K H lt us∧OAll K H us ts∧∀ H',Same H H'→Q (.bl (Zs ts t)) H'
def G1 (K:PySem.W.Frag):Sp:=fun vs H Q _=>∃ (lr:Addr) (rs:List V) (rt:List Tm) (lt:Addr) (us:List V) (ts:List (36:)),vs=[.ref lr,.ref lt]∧SqL K H lr rs∧TmAll K H rs rt∧rt.length≤10∧(∀ t ∈ rt,TPr (fun a _=>0≤a∧a < ts.length) t∧lv t≤6)∧SqL K H lt us∧OAll K H us ts∧∀ H',Same H H'→Q (.bl ((rt.map (Zs ts)).all id)) H'
theorem Gc {p:Int→Int→Prop} {t:Tm} (h:TPr p t) (hl:lv t≤6):sz t≤364:=by
 have h1:=h.size
 have h2:3 ^ lv t≤3 ^ 6:=Nat.pow_le_pow_right (28:) hl
 lia
theorem GK {p:Int→Int→Prop} {t:Tm} (h:TPr p t) (hl:lv t≤4):TmOk t:=by
 have h1:=h.size
 have h2:3 ^ lv t≤3 ^ 4:=Nat.pow_le_pow_right (28:) hl
 exact ⟨by lia,by lia,h.mok.mono (7:)⟩
section
variable {P:Program} {w:World} {K:PySem.W.Frag} {mg:Str→Option Value} {base:Heap} {f:Addr} {fd:FuncData}
theorem NP:FnScope ["one", "other"] ["one", "other"] (defScope Nb):=(1:)
theorem Mq (F:Fun K "need_one_wood" "need_one_wood" Nb f fd):FnOk P w K mg base CX0 1 f fd ["one", "other"] (Vp K):=by
 refine F.ok NP (10:) (4:)
 ·obtain ⟨t1,t2,w1,w2,x1,y1,x2,y2,d,rfl,_⟩:=h
  rfl
 obtain ⟨t1,t2,w1,w2,x1,y1,x2,y2,d,rfl,h1,h2,r1,r2,cl,dd,q⟩:=h
 refine ⟨_,(Qj (QN (Qx XM (3:) (Qh Qk (pv 1) Qd (26:)) (QA _)) (Qj Vn) QB)),?_⟩
 refine ⟨_,rfl,t1,_,0,_,rfl,rfl,h1,rfl,_,rfl,t2,_,0,_,rfl,rfl,h2,rfl,d,d,r1,r2,cl,cl,hr.fit (7:),_,rfl,?_⟩
 rw [if_pos rfl,Z6 _ cl]
 exact Zj q
theorem Pq:FnScope ["kind", "term", "other"] ["kind", "term", "other"] (defScope sTF):=(1:)
theorem NM (F:Fun K "term_fits" "term_fits" sTF f fd) (RK:Fn P w K mg base 9 "keeps_mark" ["term"] (Xo K 8)) (RC:Fn P w K mg base 10 "calls_fit" ["modes", "term", "kinds"] (VH K)):FnOk P w K mg base CX0 11 f fd ["kind", "term", "other"] (Nx K):=by
 refine F.ok Pq (10:) (4:)
 ·obtain ⟨kind,v,o,tu,lm,x,y,ms2,rfl,_⟩:=h
  rfl
 obtain ⟨kind,v,o,tu,lm,x,y,ms2,rfl,hv,ho,htu,hM,q⟩:=h
 refine ⟨_,(Qj (Qs (Ww (ZH Gh (pv 1) YW (QA _)) (Uy (Vr (XI (Qn RK hr (47:))) (Uy (Qn RC hr (Qa (Qh Qk (pv 2) Qd (26:)) (Qa (pv 1) (Qa ((Qy (Qa (pv 0) Qc))) Qc)))))))))),?_⟩
 cases o with
 | none =>
  have hv':v=.non:=hv
  subst hv'
  exact ⟨_,rfl,rfl,_,rfl,JB rfl (q H (Same.refl _))⟩
 | some t =>
  have hv':TmV K H v t:=hv
  obtain ⟨htp,hkp,hlv⟩:=ho t rfl
  have hvn:v≠.non:=fun z=>by rw [z] at hv';cases hv'
  refine ⟨_,rfl,rfl,_,rfl,JX hvn ?_⟩
  refine ⟨_,rfl,v,t,rfl,hv',by lia,fun H1 g1=>⟨_,rfl,_,rfl,?_⟩⟩
  rw [hkp]
  refine QH ⟨_,rfl,tu,_,2,_,rfl,rfl,g1.seqT htu,rfl,_,rfl,_,rfl,(50:),fun p hp=>?_⟩
  have g2:=Qe hp (.tup [.str kind])
  have g12:=g1.trans g2
  exact ⟨lm,p,v,t,ms2,[kind],rfl,hM.same g12,SqT.of Qb,hv'.mono fun _ _=>g12.seqT,GK htp hlv,fun H' g=>q H' (g12.trans g)⟩
theorem Pw:FnScope ["term", "terms"] ["term", "terms"] (defScope sHT):=(1:)
theorem N9 (F:Fun K "has_terms" "has_terms" sHT f fd) (G:Gm mg) (RO:Fn P w K mg base 9 "calls_of" ["term"] (Xf K 8)):FnOk P w K mg base CX0 10 f fd ["term", "terms"] (V0 K):=by
 refine F.ok Pw (10:) (4:)
 ·obtain ⟨v,t,lt,us,ts,rfl,_⟩:=h
  rfl
 obtain ⟨v,t,lt,us,ts,rfl,ht,htp,hlv,hlt,hus,q⟩:=h
 refine ⟨_,(Qj (Qs (Qq (Zo rfl) rfl G.all PyProof.Rows.boot_all (Qa (Qw (CompG.many (xs:=["mode", "branch"]) (caps:=["terms"]) (cap:=[1]) (cs:=[_]) rfl rfl (0:) (0:) (0:) (0:) (0:) (0:) rfl rfl rfl) rfl (QJ (Qn RO hr (Qa (pv 0) Qc))) (ZB (CompG.many (xs:=["mode", "branch"]) (caps:=["terms"]) (cap:=[1]) (cs:=[_]) rfl rfl (0:) (0:) (0:) (0:) (0:) (0:) rfl rfl rfl) rfl) (18:) (fun _ _ _ _=>ZH JH (Qh (r:=WN K) Qo (pv 2) (pv 0) (26:)) YW (QA _))) Qc)))),?_⟩
 have hsz:=Gc htp hlv
 refine ⟨_,rfl,v,t,rfl,ht,by lia,by lia,fun l H1 fs g1 hl0 hl hts hcl=>⟨l,rfl,⟨_,SqL.of hl⟩,fun acc hacc=>?_⟩⟩
 have hlen:fs.length=(cls t).length:=by simpa using congrArg List.length hcl
 have hcs:=Ue t
 have hul:=hus.length
 refine Zc (K:=K) (xs:=Rf fs) (cs:=[some (.ref lt)]) (tt:=fun _ H Q=>Q true H) (fun i ys H'=>H' acc=some (.lst ys)∧Same H1 H'∧ys=(((cls t).take i).map (Y7 ts)).map V.bl)
  ⟨Qb,Qe hacc _,rfl⟩ ?_ ?_ ?_
 ·rintro i ys H' _ ⟨_,g,_⟩
  exact SqL.of (g _ _ hl)
 ·rintro i x ys H' hi hx ⟨hya,g,rfl⟩
  have hit:i < fs.length:=by simpa using hi
  have hic:i < (cls t).length:=by lia
  have ex:x=.ref fs[i].1:=by
   rw [List.getElem?_map,List.getElem?_eq_getElem hit] at hx
   exact (54:).symm
  have ep:fs[i].2=pr (cls t)[i]:=by
   have:=congrArg (fun l=>l[i]?) hcl
   simpa [List.getElem?_eq_getElem hit,List.getElem?_eq_getElem hic] using this
  have hp:=hts _ (List.getElem_mem hit)
  rw [ep] at hp
  obtain ⟨c0,c1⟩:=htp.calls _ (List.getElem_mem hic)
  have hci:(cls t)[i].1.toNat < ts.length:=by lia
  obtain ⟨hv,hv1,hv2⟩:=hus.get (List.getElem?_eq_getElem hci)
  have em:(cls t)[i].1=(((cls t)[i].1.toNat:Nat):Int):=by lia
  refine ⟨_,_,_,ex,g.seqT hp,QH ⟨_,rfl,_,rfl,lt,us,_,hv,rfl,rfl,(g1.trans g).seq hlt,by rw [em];exact Qu hv1,rfl,?_⟩⟩
  have eb:(!decide (hv=V.non))=Y7 ts (cls t)[i]:=by
   unfold Y7
   rw [List.getElem?_eq_getElem hci]
   cases eo:ts[(cls t)[i].1.toNat] with
   | none =>
    rw [eo] at hv2
    have:hv=.non:=hv2
    rw [this];rfl
   | some u =>
    rw [eo] at hv2
    have h3:TmV K H hv u:=hv2
    have:hv≠.non:=fun z=>by rw [z] at h3;cases h3
    simp [this]
  rw [eb]
  refine Qp hi hya (24:) ⟨Qb,fun x u e=>?_,?_⟩
  ·rw [Qi (Qg e hacc)];exact g _ _ e
  ·rw [List.take_add_one,List.getElem?_eq_getElem hic,List.map_append,List.map_append];rfl
 rintro ys H2 ⟨hya,g,rfl⟩
 have et2:(cls t).take (Rf fs).length=cls t:=List.take_of_length_le (34:)
 rw [et2] at hya
 refine ⟨acc,_,rfl,SqL.of hya,?_⟩
 have e:(((cls t).map (Y7 ts)).all id)=Zs ts t:=by
  unfold Zs;rw [List.all_map];rfl
 rw [e]
 exact q H2 (g1.trans g)
theorem NB:FnScope ["rules", "terms"] ["rules", "terms"] (defScope Mx):=(1:)
theorem MR (F:Fun K "rules_have_terms" "rules_have_terms" Mx f fd) (G:Gm mg) (RH:Fn P w K mg base 10 "has_terms" ["term", "terms"] (V0 K)):FnOk P w K mg base CX0 11 f fd ["rules", "terms"] (G1 K):=by
 refine F.ok NB (10:) (4:)
 ·obtain ⟨lr,rs,rt,lt,us,ts,rfl,_⟩:=h
  rfl
 obtain ⟨lr,rs,rt,lt,us,ts,rfl,hlr,hrs,hr10,hok,hlt,hus,q⟩:=h
 refine ⟨_,(Qj (Qs (Qq (Zo rfl) rfl G.all PyProof.Rows.boot_all (Qa (Qw (CompG.many (xs:=["rule"]) (caps:=["terms"]) (cap:=[1]) (cs:=[_]) rfl rfl (0:) (0:) (0:) (0:) (0:) (0:) rfl rfl rfl) rfl (QJ (pv 0)) (Zb (CompG.many (xs:=["rule"]) (caps:=["terms"]) (cap:=[1]) (cs:=[_]) rfl rfl (0:) (0:) (0:) (0:) (0:) (0:) rfl rfl rfl)) (18:) (fun _ _ _ _=>Qn RH hr (Qa (pv 0) (47:)))) Qc)))),?_⟩
 have hl:=hrs.length
 refine ⟨_,rfl,lr,rfl,⟨_,hlr⟩,fun acc hacc=>?_⟩
 refine ZF (K:=K) (xs:=rs) (cs:=[some (.ref lt)]) (tt:=fun _ H Q=>Q true H) (te:=Zz (V0 K) [] E0 (QL (Q6 0) (QL (Q6 1) ZR))) (fun i ys H'=>H' acc=some (.lst ys)∧Same H H'∧ys=((rt.take i).map (Zs ts)).map V.bl)
  ⟨Qb,Qe hacc _,rfl⟩ ?_ ?_ ?_
 ·rintro i ys H' _ ⟨_,g,_⟩
  exact g.seq hlr
 ·rintro i x ys H' hi hx ⟨hya,g,rfl⟩
  have hit:i < rt.length:=by lia
  obtain ⟨cv,hcv,hct⟩:=hrs.get (List.getElem?_eq_getElem hit)
  obtain rfl:cv=x:=Option.some.inj (hcv.symm.trans hx)
  obtain ⟨o1,o2⟩:=hok _ (List.getElem_mem hit)
  refine QH ⟨_,rfl,_,rfl,cv,rt[i],lt,us,ts,rfl,hct.mono fun _ _=>g.seqT,o1,o2,g.seq hlt,hus.mono fun _ _=>g.seqT,fun H4 g4=>?_⟩
  refine Qp hi (g4 _ _ hya) (24:) ⟨Qb,fun x u e=>?_,?_⟩
  ·rw [Qi (Qg e hacc)];exact g4 _ _ (g _ _ e)
  ·rw [List.take_add_one,List.getElem?_eq_getElem hit,List.map_append,List.map_append];rfl
 rintro ys H1 ⟨hya,g,rfl⟩
 rw [List.take_of_length_le (7:)] at hya
 exact ⟨acc,_,rfl,SqL.of hya,q H1 g⟩
end
end K52
namespace K52
open K51
open PySem L2 TM TT K9 K11 ST
def Gi (K:PySem.W.Frag):Sp:=fun vs H Q _=>∃ (tu lm:Addr) (x y:V) (ms2:List MdT) (kind:Str) (j:Nat),vs=[.ref tu,.str kind,.int (j:Int)]∧SqT K H tu [x,y,.ref lm]∧ModesL K H lm ms2∧ms2.length≤10∧(∀ m ∈ ms2,m.2.1=kind→j < m.2.2.2.2.length) ∧
 ∀ (l:Addr) (ws:List V) (H':Hp),Same H H'→H' l=some (.lst ws)→(∀ (a:Nat) (md:MdT),ms2[a]?=some md→md.2.1=kind→∃ v,ws[a]?=some v∧TmV K H' v (QD ms2 j (a:Int)))→Q (.ref l) H'
structure PQ (nr:Str→Nat) (st1:Tm) (ms1:List MdT) (ts:List (36:)) (st2:Tm) (ms2:List MdT):Prop where
 l:ts.length=ms1.length
 t:TsOk ts
 few1:ms1.length≤10
 few2:ms2.length≤10
 ten:∀ k,nr k≤10
 s1:TPr (fun a _=>0≤a∧a < ms1.length) st1∧lv st1≤6
 r1:∀ m ∈ ms1,m.2.2.2.2.length=nr m.2.1∧∀ t ∈ m.2.2.2.2,TPr (fun a _=>0≤a∧a < ms1.length) t∧lv t≤6
 s2:TPr (fun _ _=>True) st2∧lv st2≤6
 r2:∀ m ∈ ms2,m.2.2.2.2.length=nr m.2.1∧∀ t ∈ m.2.2.2.2,TPr (fun _ _=>True) t∧lv t≤4
def UJ (ts:List (36:)) (ms2:List MdT) (t:Tm) (p:Nat × Tm):Bool:=eqT (tin ts p.2) (rin ms2 p.1 t)
def num (ts:List Tm):List (Nat × Tm):=(List.range ts.length).zip ts
def Nz (K:PySem.W.Frag):Sp:=fun vs H Q _=>∃ (nr:Str→Nat) (md:MdT) (v:V) (t:Tm) (lt:Addr) (us:List V) (ts:List (36:)) (tu lm:Addr) (x y:V) (st1 st2:Tm) (ms1 ms2:List MdT),vs=[.ref md.1,v,.ref lt,.ref tu]∧MdAt K H md∧md ∈ ms1∧TmV K H v t∧some t ∈ ts∧PQ nr st1 ms1 ts st2 ms2∧SqL K H lt us∧OAll K H us ts ∧
 SqT K H tu [x,y,.ref lm]∧ModesL K H lm ms2∧YK (mks (mds ms2)) [md.2.1] t=true∧(∀ r ∈ md.2.2.2.2,Zs ts r=true)∧∀ H',Same H H'→Q (.bl ((num md.2.2.2.2).all (UJ ts ms2 t))) H'
theorem Nu {ms2:List MdT} {kind:Str} {t:Tm} (h:YK (mks (mds ms2)) [kind] t=true):∀ c ∈ cls t,0≤c.1∧c.2=0∧∃ md,ms2[c.1.toNat]?=some md∧md.2.1=kind:=fun c hc=>by
 have h1:=List.all_eq_true.mp h c hc
 unfold Yw at h1
 simp only [Bool.and_eq_true,decide_eq_true_eq,List.length_singleton] at h1
 obtain ⟨⟨⟨⟨a,b⟩,c0⟩,d⟩,e⟩:=h1
 have c2:c.2=0:=by lia
 rw [c2] at e
 refine ⟨a,c2,?_⟩
 rw [List.getElem?_map,List.getElem?_map] at e
 cases em:ms2[c.1.toNat]? with
 | none=>rw [em] at e;cases e
 | some md =>
  rw [em] at e
  have e':md.2.1=kind:=by simpa [MdT.md] using e
  exact ⟨md,rfl,e'⟩
theorem YZ {K:PySem.W.Frag} {H:Hp} {us:List V} {ts:List (36:)} {t:Tm} {n:Nat} (hus:OAll K H us ts) (ho:TsOk ts) (ht:TPr (fun a _=>0≤a∧a < (n:Int)) t) (h:Zs ts t=true):ModesAt K H us (tf ts) (cls t):=fun c hc=>by
 obtain ⟨c0,c1⟩:=ht.calls c hc
 refine ⟨c0,?_⟩
 have h1:Y7 ts c=true:=List.all_eq_true.mp h c hc
 unfold Y7 at h1
 cases e:ts[c.1.toNat]? with
 | none=>rw [e] at h1;cases h1
 | some o =>
  cases o with
  | none=>rw [e] at h1;cases h1
  | some u =>
   obtain ⟨v,e1,e2⟩:=hus.get e
   have et:tf ts c.1=u:=by unfold tf;rw [e]
   refine ⟨v,e1,?_⟩
   rw [et]
   exact ⟨e2,(ho.tm u (List.mem_of_getElem? e)).2.2⟩
theorem Vx {ts:List (36:)} {t:Tm} {n:Nat} (ho:TsOk ts) (ht:TPr (fun a _=>0≤a∧a < (n:Int)) t) (hl:lv t≤6):MOk 24 (tin ts t):=by
 have h0:∀ m:Int,TPr (fun _ _=>True) (tf ts m)∧lv (tf ts m)≤4:=fun m=>by
  unfold tf
  split
  ·rename_i u e
   obtain ⟨a,_,c⟩:=ho.tm u (List.mem_of_getElem? e)
   exact ⟨a.mono fun _ _ _=>trivial,c⟩
  ·exact ⟨by simp [Qt,TPr],by simp [Qt,lv,lvs]⟩
 have h1:∀ m b:Int,TPr (fun _ _=>True) (onB b (tf ts m))∧lv (onB b (tf ts m))≤5:=fun m b=>by
  refine ⟨(h0 m).1.sub fun _ _ _=>by simp [Qt,TPr],?_⟩
  have:=Jg (L:=1) (f:=fun m _=>Qt m b) (p:=fun _ _=>True) (fun _ _ _=>by simp [Qt,lv,lvs]) (h0 m).1
  have h2:=(h0 m).2
  unfold onB
  lia
 have h2:TPr (fun _ _=>True) (tin ts t):=ht.sub fun m b _=>(h1 m b).1
 have h3:lv (tin ts t)≤lv t + 5:=Jg (fun m b _=>(h1 m b).2) ht
 exact h2.mok.mono (7:)
theorem Nw {nr:Str→Nat} {st1 st2:Tm} {ms1 ms2:List MdT} {ts:List (36:)} (q:PQ nr st1 ms1 ts st2 ms2) {t:Tm} (ht:some t ∈ ts) (j:Nat):MOk 24 (rin ms2 j t):=by
 have h1:∀ m:Int,TPr (fun _ _=>True) (QD ms2 j m)∧lv (QD ms2 j m)≤4:=fun m=>by
  unfold QD
  split
  ·rename_i md e
   cases er:md.2.2.2.2[j]? with
   | none=>exact ⟨by simp [Qt,TPr],by simp [Qt,lv,lvs]⟩
   | some r=>exact (q.r2 md (List.mem_of_getElem? e)).2 r (List.mem_of_getElem? er)
  ·exact ⟨by simp [Qt,TPr],by simp [Qt,lv,lvs]⟩
 obtain ⟨a,_,c⟩:=q.t.tm t ht
 have h2:TPr (fun _ _=>True) (rin ms2 j t):=a.sub fun m b _=>(h1 m).1
 have h3:lv (rin ms2 j t)≤lv t + 4:=Jg (fun m b _=>(h1 m).2) a
 exact h2.mok.mono (7:)
section
variable {P:Program} {w:World} {K:PySem.W.Frag} {mg:Str→Option Value} {base:Heap} {f:Addr} {fd:FuncData}
theorem OI:FnScope ["turning", "kind", "number"] ["turning", "kind", "number"] (defScope MK):=(1:)
theorem MJ (F:Fun K "rules_for" "rules_for" MK f fd):FnOk P w K mg base CX0 1 f fd ["turning", "kind", "number"] (Gi K):=by
 refine F.ok OI (10:) (4:)
 ·obtain ⟨tu,lm,x,y,ms2,kind,j,rfl,_⟩:=h
  rfl
 obtain ⟨tu,lm,x,y,ms2,kind,j,rfl,htu,hM,hfew,hj,q⟩:=h
 refine ⟨_,(Qj (Qs (Qw (CompG.many (xs:=["its_kind", "rules"]) (caps:=["kind", "number"]) (cap:=[1,2]) (cs:=[_,_]) rfl rfl (0:) (0:) (0:) (0:) (0:) (0:) rfl rfl rfl) rfl (QJ (3:)) (ZB (CompG.many (xs:=["its_kind", "rules"]) (caps:=["kind", "number"]) (cap:=[1,2]) (cs:=[_,_]) rfl rfl (0:) (0:) (0:) (0:) (0:) (0:) rfl rfl rfl) rfl) (18:) (fun _ _ _ _=>Xb (Qx Q2 (pv 0) (pv 2) (QA _)) (Qh (r:=WN K) Qo (pv 1) (pv 3) (26:)) YW)))),?_⟩
 refine ⟨_,rfl,tu,_,2,_,rfl,rfl,htu,rfl,lm,rfl,⟨_,hM.1⟩,fun acc hacc=>?_⟩
 refine Zc (K:=K) (xs:=ms2.map fun m=>V.ref m.1) (cs:=[some (.str kind),some (.int (j:Int))]) (tt:=fun _ H Q=>Q true H) (fun i ys H'=>H' acc=some (.lst ys)∧Same H H'∧ys.length=i∧∀ (a:Nat) (md:MdT),a < i→ms2[a]?=some md→md.2.1=kind→∃ v,ys[a]?=some v∧TmV K H v (QD ms2 j (a:Int)))
  ⟨Qb,Qe hacc _,rfl,fun a md h=>absurd h (Nat.not_lt_zero _)⟩ ?_ ?_ ?_
 ·rintro i ys H' _ ⟨_,g,_⟩
  exact g.seq hM.1
 ·rintro i x ys H' hi hx ⟨hya,g,hyl,hys⟩
  have him:i < ms2.length:=by simpa using hi
  obtain rfl:x=.ref ms2[i].1:=by
   rw [List.getElem?_map,List.getElem?_eq_getElem him] at hx
   exact (54:).symm
  obtain ⟨m1,m2,m3⟩:=hM.2 _ (List.getElem_mem him)
  refine ⟨ms2[i].1,_,_,rfl,g.seqT m1,QH ⟨_,rfl,_,rfl,rfl,_,rfl,?_⟩⟩
  have step:∀ v:V,(ms2[i].2.1=kind→TmV K H v (QD ms2 j (i:Int)))→(fun i ys H'=>H' acc=some (.lst ys)∧Same H H'∧ys.length=i∧∀ (a:Nat) (md:MdT),a < i→ms2[a]?=some md→md.2.1=kind→∃ v,ys[a]?=some v∧TmV K H v (QD ms2 j (a:Int))) (i + 1) (ys ++ [v]) (upd H' acc (.lst (ys ++ [v]))):=fun v hv=>by
   refine ⟨Qb,fun b u e=>?_,by simp [hyl],fun a md ha hmd hk=>?_⟩
   ·rw [Qi (Qg e hacc)];exact g _ _ e
   ·by_cases hai:a < i
    ·obtain ⟨v',e1,e2⟩:=hys a md hai hmd hk
     exact ⟨v',by rw [List.getElem?_append_left (7:)];exact e1,e2⟩
    ·obtain rfl:a=i:=by lia
     rw [List.getElem?_eq_getElem him] at hmd
     obtain rfl:=Option.some.inj hmd
     exact ⟨v,by rw [List.getElem?_append_right (7:)];simp [hyl],hv hk⟩
  by_cases hk:ms2[i].2.1=kind
  ·have hjl:=hj _ (List.getElem_mem him) hk
   obtain ⟨v,hv1,hv2⟩:=m3.get (List.getElem?_eq_getElem hjl)
   have er:QD ms2 j (i:Int)=ms2[i].2.2.2.2[j]:=by
    unfold QD
    rw [Int.toNat_natCast,List.getElem?_eq_getElem him]
    show (ms2[i].2.2.2.2[j]?).getD _=_
    rw [List.getElem?_eq_getElem hjl];rfl
   have e:decide (V.str ms2[i].2.1=V.str kind)=true:=decide_eq_true (by rw [hk])
   rw [e]
   refine QH ⟨_,rfl,_,rfl,ms2[i].2.2.1,_,_,v,rfl,rfl,g.seq m2,Qu hv1,?_⟩
   exact Qp (ys:=ys) hi hya (7:) (step v fun _=>by rw [er];exact hv2)
  ·have e:decide (V.str ms2[i].2.1=V.str kind)=false:=decide_eq_false fun z=>hk (V.str.inj z)
   rw [e]
   exact Zj (Qp (ys:=ys) hi hya (7:) (step .non fun z=>absurd z hk))
 rintro ys H1 ⟨hya,g,hyl,hys⟩
 rw [List.length_map] at hyl hys
 refine q acc ys H1 g hya fun a md hmd hk=>?_
 obtain ⟨v,e1,e2⟩:=hys a md (List.getElem?_eq_some_iff.mp hmd).1 hmd hk
 exact ⟨v,e1,e2.mono fun _ _=>g.seqT⟩
theorem OR:FnScope ["mode", "term", "terms", "other"] ["mode", "term", "terms", "other"] (defScope sRA):=(1:)
theorem Og (F:Fun K "rules_agree" "rules_agree" sRA f fd) (G:Gm mg) (RT:Fn P w K mg base 11 "terms_in" ["term", "terms"] (JN K 6)) (RR:Fn P w K mg base 7 "rules_in" ["term", "terms"] (JP K 6)) (RF:Fn P w K mg base 1 "rules_for" ["turning", "kind", "number"] (Gi K)):FnOk P w K mg base CX0 12 f fd ["mode", "term", "terms", "other"] (Nz K):=by
 refine F.ok OR (10:) (4:)
 ·obtain ⟨nr,md,v,t,lt,us,ts,tu,lm,x,y,st1,st2,ms1,ms2,rfl,_⟩:=h
  rfl
 obtain ⟨nr,md,v,t,lt,us,ts,tu,lm,x,y,st1,st2,ms1,ms2,rfl,hmd,hm1,ht,hts,pq,hlt,hus,htu,hM,hfit,hhas,q⟩:=h
 refine ⟨_,(Qj (Qs (Qq (Zo rfl) rfl G.all PyProof.Rows.boot_all (Qa (Qw (CompG.many (xs:=["number", "rule"]) (caps:=["mode", "other", "term", "terms"]) (cap:=[0,3,1,2]) (cs:=[_,_,_,_]) rfl rfl (0:) (0:) (0:) (0:) (0:) (0:) rfl rfl rfl) rfl (GH rfl G.enu (Qa (3:) Qc)) (ZB (CompG.many (xs:=["number", "rule"]) (caps:=["mode", "other", "term", "terms"]) (cap:=[0,3,1,2]) (cs:=[_,_,_,_]) rfl rfl (0:) (0:) (0:) (0:) (0:) (0:) rfl rfl rfl) rfl) (18:)
  (fun _ _ _ _=>ZH (r:=Ld K (A.deeper (PyProof.Rows.envOfC "rules_agree" (defScope sRA) s.heap.objs.size f cdv)) false) Jj (Qn RT hr (Qa (pv 1) (Qa (pv 5) Qc))) (Qn RR hr (Qa (pv 4) (Qa (Qn RF hr (Qa (pv 3) (Qa (Qh (r:=Vh K) Qk (pv 2) Qd (26:)) (Qa (pv 0) Qc)))) Qc))) (QA _))) Qc)))),?_⟩
 obtain ⟨r1,r1t⟩:=pq.r1 md hm1
 have hn:=pq.ten md.2.1
 have hl:=hmd.2.2.length
 have hmc:=Nu hfit
 obtain ⟨tp,tk,tl⟩:=pq.t.tm t hts
 refine ⟨_,rfl,md.1,_,1,_,rfl,rfl,hmd.1,rfl,md.2.2.1,_,rfl,hmd.2.1,fun acc hacc=>?_⟩
 refine GO (K:=K) (xs:=md.2.2.2.1) (cs:=[some (.ref md.1),some (.ref tu),some v,some (.ref lt)]) (tt:=fun _ H Q=>Q true H) (fun i ys H'=>H' acc=some (.lst ys)∧Same H H'∧ys=(((num md.2.2.2.2).take i).map (UJ ts ms2 t)).map V.bl)
  ⟨Qb,Qe hacc _,rfl⟩ ?_ ?_ ?_
 ·rintro i ys H' _ ⟨_,g,_⟩
  exact g.seq hmd.2.1
 ·rintro i u p ys H' hi hu hp ⟨hya,g,rfl⟩
  have hit:i < md.2.2.2.2.length:=by lia
  obtain ⟨cv,hcv,hct⟩:=hmd.2.2.get (List.getElem?_eq_getElem hit)
  obtain rfl:cv=u:=Option.some.inj (hcv.symm.trans hu)
  have gp:=Qe hp (.tup [.int (i:Int),cv])
  have gg:=g.trans gp
  have hm:=List.getElem_mem hit
  obtain ⟨o1,o2⟩:=r1t _ hm
  refine QH ⟨_,rfl,_,rfl,cv,lt,us,md.2.2.2.2[i],tf ts,rfl,hct.mono fun _ _=>gg.seqT,o2,gg.seq hlt,(YZ hus pq.t o1 (hhas _ hm)).mono fun _ _=>gg.seqT,fun v1 H1 g1 hv1=>?_⟩
  have gg1:=gg.trans g1
  refine ⟨_,rfl,_,rfl,_,rfl,md.1,_,0,_,rfl,rfl,gg1.seqT hmd.1,rfl,_,rfl,tu,lm,x,y,ms2,md.2.1,i,rfl,gg1.seqT htu,hM.same gg1,pq.few2,fun m hm' hk=>?_,fun l ws H2 g2 hl2 hws=>?_⟩
  ·rw [(pq.r2 m hm').1,hk,← r1];exact hit
  have gg2:=gg1.trans g2
  have hMA:ModesAt K H2 ws (QD ms2 i) (cls t):=fun c hc=>by
   obtain ⟨c0,_,md2,e1,e2⟩:=hmc c hc
   obtain ⟨v2,e3,e4⟩:=hws c.1.toNat md2 e1 e2
   have ec:((c.1.toNat:Nat):Int)=c.1:=by lia
   rw [ec] at e4
   refine ⟨c0,v2,e3,e4,?_⟩
   unfold QD
   rw [e1]
   show lv ((md2.2.2.2.2[i]?).getD _)≤4
   cases er:md2.2.2.2.2[i]? with
   | none=>simp [Qt,lv,lvs]
   | some r=>exact ((pq.r2 md2 (List.mem_of_getElem? e1)).2 r (List.mem_of_getElem? er)).2
  refine ⟨v,l,ws,t,QD ms2 i,rfl,ht.mono fun _ _=>gg2.seqT,by lia,SqL.of hl2,hMA,fun v3 H3 g3 hv3=>?_⟩
  have k1:=Vx pq.t o1 o2
  have k2:=Nw pq hts i
  refine ⟨tmd (tin ts md.2.2.2.2[i]),tmd (rin ms2 i t),(hv1.mono fun _ _=>(g2.trans g3).seqT).rd,hv3.rd,k1.1,k2.1,hr.fit (by have:=k1.2;lia),?_⟩
  rw [if_neg Bool.false_ne_true]
  have g13:=g1.trans (g2.trans g3)
  have hya3:=g13 _ _ (gp _ _ hya)
  refine Qp hi hya3 (24:) ⟨Qb,fun b u e=>?_,?_⟩
  ·rw [Qi (Qg e hacc)];exact g13 _ _ (gp _ _ (g _ _ e))
  ·have en:(num md.2.2.2.2)[i]?=some (i,md.2.2.2.2[i]):=by
    unfold num
    rw [List.getElem?_zip_eq_some]
    exact ⟨List.getElem?_range hit,List.getElem?_eq_getElem hit⟩
   rw [List.take_add_one,en,List.map_append,List.map_append];rfl
 rintro ys H1 ⟨hya,g,rfl⟩
 have e3:(num md.2.2.2.2).take md.2.2.2.1.length=num md.2.2.2.2:=List.take_of_length_le (by unfold num;rw [List.length_zip,List.length_range];lia)
 rw [e3] at hya
 refine ⟨acc,_,rfl,SqL.of hya,?_⟩
 rw [List.all_map]
 exact q H1 g
end
end K52
namespace K52
open K51
open PySem L2 TM TT K9 K11 ST
structure TuAt (K:PySem.W.Frag) (H:Hp) (tu wd:Addr) (sv:V) (lm:Addr) (st:Tm) (ms:List MdT) (d:PyData):Prop where
 tu:SqT K H tu [.ref wd,sv,.ref lm]
 s:TmV K H sv st
 m:ModesL K H lm ms
 w:RdV K H (.ref wd) d
def Uo (ms:List MdT) (ts:List (36:)):List (MdT × Tm):=(ms.zip ts).filterMap fun p=>p.2.map fun t=>(p.1,t)
theorem YR {ms:List MdT} {ts:List (36:)} {md:MdT} {t:Tm}:(md,t) ∈ Uo ms ts ↔ ∃ k:Nat,ms[k]?=some md∧ts[k]?=some (some t):=by
 unfold Uo
 rw [List.mem_filterMap]
 constructor
 ·rintro ⟨p,hp,e⟩
  obtain ⟨k,hk⟩:=List.mem_iff_getElem?.mp hp
  rw [List.getElem?_zip_eq_some] at hk
  cases e2:p.2 with
  | none=>rw [e2] at e;cases e
  | some u =>
   rw [e2] at e hk
   have e':(p.1,u)=(md,t):=Option.some.inj e
   injection e' with a b
   exact ⟨k,by rw [← a];exact hk.1,by rw [← b];exact hk.2⟩
 ·rintro ⟨k,h1,h2⟩
  exact ⟨(md,some t),List.mem_iff_getElem?.mpr ⟨k,List.getElem?_zip_eq_some.mpr ⟨h1,h2⟩⟩,rfl⟩
def TlAt (K:PySem.W.Frag) (H:Hp) (xs:List (Addr × V × MdT × Tm)):Prop:=∀ x ∈ xs,SqT K H x.1 [.ref x.2.2.1.1,x.2.1]∧TmV K H x.2.1 x.2.2.2
theorem TlAt.mono {K:PySem.W.Frag} {H H':Hp} (k:∀ a xs,SqT K H a xs→SqT K H' a xs) {xs:List (Addr × V × MdT × Tm)} (h:TlAt K H xs):TlAt K H' xs:=fun x hx=>⟨k _ _ (h x hx).1,(h x hx).2.mono k⟩
def GP (K:PySem.W.Frag):Sp:=fun vs H Q _=>∃ (nr:Str→Nat) (t1 w1 lm1 lt t2 w2 lm2:Addr) (s1 s2:V) (us:List V) (ts:List (36:)) (st1 st2:Tm) (ms1 ms2:List MdT) (d:PyData),vs=[.ref t1,.ref lt,.ref t2]∧TuAt K H t1 w1 s1 lm1 st1 ms1 d∧TuAt K H t2 w2 s2 lm2 st2 ms2 d∧d.canLay0=true∧d.depth≤10∧SqL K H lt us∧OAll K H us ts∧PQ nr st1 ms1 ts st2 ms2 ∧
 ∀ (b:Bool) (H':Hp),Same H H'→(b=true ↔ Paper st1 ms1 ts st2 ms2)→Q (.bl b) H'
theorem U3 {ms:List MdT} {ts:List (36:)} {g:MdT × Tm→Bool}:((Uo ms ts).map g).all id=true ↔ ∀ (k:Nat) (md:MdT) (t:Tm),ms[k]?=some md→ts[k]?=some (some t)→g (md,t)=true:=by
 rw [List.all_map,List.all_eq_true]
 constructor
 ·intro h k md t h1 h2
  exact h (md,t) (YR.mpr ⟨k,h1,h2⟩)
 ·rintro h ⟨md,t⟩ hm
  obtain ⟨k,h1,h2⟩:=YR.mp hm
  exact h k md t h1 h2
section
variable {P:Program} {w:World} {K:PySem.W.Frag} {mg:Str→Option Value} {base:Heap} {f:Addr} {fd:FuncData}
theorem L4:FnScope ["one", "terms", "other", "told"] ["one", "terms", "other"] (defScope Ny):=(1:)
theorem MM (F:Fun K "is_paper" "is_paper" Ny f fd) (G:Gm mg) (RN:Fn P w K mg base 1 "need_one_wood" ["one", "other"] (Vp K)) (RF:Fn P w K mg base 11 "term_fits" ["kind", "term", "other"] (Nx K)) (RH:Fn P w K mg base 10 "has_terms" ["term", "terms"] (V0 K)) (RR:Fn P w K mg base 11 "rules_have_terms" ["rules", "terms"] (G1 K))
 (RT:Fn P w K mg base 11 "terms_in" ["term", "terms"] (JN K 6)) (RA:Fn P w K mg base 12 "rules_agree" ["mode", "term", "terms", "other"] (Nz K)):FnOk P w K mg base CX0 13 f fd ["one", "terms", "other"] (GP K):=by
 refine F.ok L4 (10:) (4:)
 ·obtain ⟨nr,t1,w1,lm1,lt,t2,w2,lm2,s1,s2,us,ts,st1,st2,ms1,ms2,d,rfl,_⟩:=h
  rfl
 obtain ⟨nr,t1,w1,lm1,lt,t2,w2,lm2,s1,s2,us,ts,st1,st2,ms1,ms2,d,rfl,h1,h2,cl,dd,hlt,hus,pq,q⟩:=h
 refine ⟨_,(Qf (Q8 (Qn RN hr (Qa (pv 0) (Qa (pv 2) Qc))))
  (Qf (QN (PW.pt (pw_or (Qx Gx (Qq Qm rfl G.len PySem.boot_len (47:)) (Qq Qm rfl G.len PySem.boot_len (Qa (3:) Qc)) (QA _)) (pw_or1 (Yz (ZK (Qq (Zo rfl) rfl G.all PyProof.Rows.boot_all (Qa (Qw (CompG.many (xs:=["mode", "term"]) (caps:=["other"]) (cap:=[2]) (cs:=[_]) rfl rfl (0:) (0:) (0:) (0:) (0:) (0:) rfl rfl rfl) rfl (Gd rfl G.zip (Qa (3:) (47:))) (ZB (CompG.many (xs:=["mode", "term"]) (caps:=["other"]) (cap:=[2]) (cs:=[_]) rfl rfl (0:) (0:) (0:) (0:) (0:) (0:) rfl rfl rfl) rfl) (18:) (fun _ _ _ _=>Qn RF hr (Qa (Qh (r:=Vh K) Qk (pv 0) Qd (26:)) (Qa (pv 1) (Qa (pv 2) Qc))))) Qc))))))) (Qj (Qs Z3)) QB)
  (Qf (Zw (i:=3) (CompG.many (xs:=["mode", "term"]) (caps:=[]) (cap:=[]) (cs:=[]) rfl rfl (0:) (0:) (0:) (0:) (0:) (0:) rfl rfl rfl) rfl (Gd rfl G.zip (Qa (3:) (47:))) (ZB (CompG.many (xs:=["mode", "term"]) (caps:=[]) (cap:=[]) (cs:=[]) rfl rfl (0:) (0:) (0:) (0:) (0:) (0:) rfl rfl rfl) rfl) (fun _ _ _ _=>Jv (Qx JH (pv 1) YW (QA _))) (fun _ _ _ _=>(Qy (Qa (pv 0) (47:)))) L4.nd rfl rfl)
  (Qf (QN (PW.pt (pw_or (Yz (ZK (Qn RH hr (Qa (3:) (47:))))) (pw_or1 (Yz (ZK (Qq (Zo rfl) rfl G.all PyProof.Rows.boot_all (Qa (Qw (CompG.many (xs:=["mode", "term"]) (caps:=["terms"]) (cap:=[1]) (cs:=[_]) rfl rfl (0:) (0:) (0:) (0:) (0:) (0:) rfl rfl rfl) rfl (QJ (pv 3)) (ZB (CompG.many (xs:=["mode", "term"]) (caps:=["terms"]) (cap:=[1]) (cs:=[_]) rfl rfl (0:) (0:) (0:) (0:) (0:) (0:) rfl rfl rfl) rfl) (18:) (fun _ _ _ _=>Qn RR hr (Qa (Qh (r:=Vh K) Qk (pv 0) Qd (26:)) (Qa (pv 2) Qc)))) Qc))))))) (Qj (Qs Z3)) QB)
  (Qf (QN (Qx XM (Qn RT hr (Qa (3:) (47:))) (Qh Qk (pv 2) Qd (26:)) (QA _)) (Qj (Qs Z3)) QB)
  (Qj (Qs (Qq (Zo rfl) rfl G.all PyProof.Rows.boot_all (Qa (Qw (CompG.many (xs:=["mode", "term"]) (caps:=["other", "terms"]) (cap:=[2,1]) (cs:=[_,_]) rfl rfl (0:) (0:) (0:) (0:) (0:) (0:) rfl rfl rfl) rfl (QJ (pv 3)) (ZB (CompG.many (xs:=["mode", "term"]) (caps:=["other", "terms"]) (cap:=[2,1]) (cs:=[_,_]) rfl rfl (0:) (0:) (0:) (0:) (0:) (0:) rfl rfl rfl) rfl) (18:) (fun _ _ _ _=>Qn RA hr (Qa (pv 0) (Qa (pv 1) (Qa (pv 3) (Qa (pv 2) Qc)))))) Qc))))))))),?_⟩
 have hul:=hus.length
 have hl:=pq.l
 have f1:=pq.few1
 have lz:(58:).length=us.length:=by rw [List.length_map];lia
 refine ⟨_,rfl,_,rfl,t1,t2,w1,w2,s1,.ref lm1,s2,.ref lm2,d,rfl,h1.tu,h2.tu,h1.w,h2.w,cl,dd,?_⟩
 refine ⟨_,rfl,lt,us,rfl,.inl hlt,_,rfl,t1,_,2,_,rfl,rfl,h1.tu,rfl,lm1,_,rfl,.inl h1.m.1,rfl,_,rfl,Oj (by rw [lz]) ?_⟩
 refine ⟨_,rfl,t1,_,2,_,rfl,rfl,h1.tu,rfl,_,rfl,lm1,lt,_,us,rfl,h1.m.1,hlt,fun acc hacc=>?_⟩
 refine VR (K:=K) (xs:=ms1.map fun m=>V.ref m.1) (zs:=us) (cs:=[some (.ref t2)]) (tt:=fun _ H Q=>Q true H) lz (fun i ys H'=>H' acc=some (.lst ys)∧Same H H'∧ys=(((ms1.zip ts).take i).map fun p=>LC ms2 p.1.2.1 p.2).map V.bl)
  ⟨Qb,Qe hacc _,rfl⟩ ?_ ?_ ?_
 ·rintro i ys H' _ ⟨_,g,_⟩
  exact ⟨g.seq h1.m.1,g.seq hlt⟩
 ·rintro i u v p ys H' hi hu hv hp ⟨hya,g,rfl⟩
  have him:i < ms1.length:=by simpa using hi
  have hit:i < ts.length:=by lia
  obtain rfl:u=.ref ms1[i].1:=by
   rw [List.getElem?_map,List.getElem?_eq_getElem him] at hu
   exact (Option.some.inj hu).symm
  obtain ⟨cv,hcv,hct⟩:=hus.get (List.getElem?_eq_getElem hit)
  obtain rfl:cv=v:=Option.some.inj (hcv.symm.trans hv)
  have gp:=Qe hp (.tup [.ref ms1[i].1,cv])
  have gg:=g.trans gp
  refine QH ⟨_,rfl,_,_,0,_,rfl,rfl,gg.seqT (h1.m.2 _ (List.getElem_mem him)).1,rfl,_,rfl,_,rfl,ms1[i].2.1,cv,ts[i],t2,lm2,.ref w2,s2,ms2,rfl,TmO.mono (fun _ _=>gg.seqT) hct,fun t et=>pq.t.tm t (by rw [← et];exact List.getElem_mem hit),gg.seqT h2.tu,h2.m.same gg,fun H4 g4=>?_⟩
  have hya4:=g4 _ _ (gp _ _ hya)
  refine Qp hi hya4 (by rw [List.length_map,List.length_map,List.length_take,List.length_zip];lia) ⟨Qb,fun b u e=>?_,?_⟩
  ·rw [Qi (Qg e hacc)];exact g4 _ _ (gg _ _ e)
  ·have ez:(ms1.zip ts)[i]?=some (ms1[i],ts[i]):=List.getElem?_zip_eq_some.mpr ⟨List.getElem?_eq_getElem him,List.getElem?_eq_getElem hit⟩
   rw [List.take_add_one,ez,List.map_append,List.map_append];rfl
 rintro ys H1 ⟨hya,g1,rfl⟩
 have e3:(ms1.zip ts).take (58:).length=ms1.zip ts:=List.take_of_length_le (by rw [List.length_map,List.length_zip];lia)
 rw [e3] at hya
 refine ⟨acc,_,rfl,SqL.of hya,_,rfl,?_⟩
 have eA:(((ms1.zip ts).map fun p=>LC ms2 p.1.2.1 p.2).all id)=true ↔ ∀ (k:Nat) (md:MdT) (t:Tm),ms1[k]?=some md→ts[k]?=some (some t)→YK (mks (mds ms2)) [md.2.1] t=true:=by
  rw [List.all_map,List.all_eq_true]
  constructor
  ·intro h k md t h1 h2
   exact h (md,some t) (List.mem_iff_getElem?.mpr ⟨k,List.getElem?_zip_eq_some.mpr ⟨h1,h2⟩⟩)
  ·rintro h ⟨md,o⟩ hm
   obtain ⟨k,hk⟩:=List.mem_iff_getElem?.mp hm
   rw [List.getElem?_zip_eq_some] at hk
   cases o with
   | none=>rfl
   | some t=>exact h k md t hk.1 hk.2
 cases hA:(((ms1.zip ts).map fun p=>LC ms2 p.1.2.1 p.2).all id) with
 | false =>
  refine QH (q false H1 g1 ⟨fun z=>absurd z Bool.false_ne_true,fun z=>?_⟩)
  rw [eA.mpr z.fit] at hA;cases hA
 | true =>
 have fitA:=eA.mp hA
 refine Zj ?_
 have h1':=h1
 have hlt1:=g1.seq hlt
 refine ⟨_,rfl,t1,_,2,_,rfl,rfl,g1.seqT h1.tu,rfl,_,rfl,lm1,lt,_,us,rfl,g1.seq h1.m.1,hlt1,fun ld hld=>?_⟩
 refine VR (K:=K) (xs:=ms1.map fun m=>V.ref m.1) (zs:=us) (cs:=[]) lz (fun i ys H'=>∃ xs:List (Addr × V × MdT × Tm),ys=xs.map (fun x=>V.ref x.1)∧H' ld=some (.lst ys)∧Same H1 H'∧TlAt K H' xs∧xs.map (fun x=>x.2.2)=((ms1.zip ts).take i).filterMap fun p=>p.2.map fun t=>(p.1,t))
  ⟨[],rfl,Qb,Qe hld _,fun x hx=>(nomatch hx),rfl⟩ ?_ ?_ ?_
 ·rintro i ys H' _ ⟨_,_,_,g,_⟩
  exact ⟨g.seq (g1.seq h1.m.1),g.seq hlt1⟩
 ·rintro i u v p ys H' hi hu hv hp ⟨xs,rfl,hya,g,hat,hxs⟩
  have him:i < ms1.length:=by simpa using hi
  have hit:i < ts.length:=by lia
  obtain rfl:u=.ref ms1[i].1:=by
   rw [List.getElem?_map,List.getElem?_eq_getElem him] at hu
   exact (Option.some.inj hu).symm
  obtain ⟨cv,hcv,hct⟩:=hus.get (List.getElem?_eq_getElem hit)
  obtain rfl:cv=v:=Option.some.inj (hcv.symm.trans hv)
  have gp:=Qe hp (.tup [.ref ms1[i].1,cv])
  have ez:(ms1.zip ts)[i]?=some (ms1[i],ts[i]):=List.getElem?_zip_eq_some.mpr ⟨List.getElem?_eq_getElem him,List.getElem?_eq_getElem hit⟩
  have hxl:xs.length≤i:=by
   have:=congrArg List.length hxs
   rw [List.length_map] at this
   have h5:=List.length_filterMap_le (fun p:MdT × Option Tm=>p.2.map fun t=>(p.1,t)) ((ms1.zip ts).take i)
   rw [List.length_take] at h5
   lia
  have hya2:=gp _ _ hya
  refine ⟨_,rfl,rfl,_,rfl,?_⟩
  cases eo:ts[i] with
  | none =>
   rw [eo] at hct ez
   have hv':cv=.non:=hct
   subst hv'
   refine Zj (Yh hi (ys:=xs.map fun x=>V.ref x.1) ⟨xs,rfl,hya2,g.trans gp,hat.mono fun _ _=>gp.seqT,?_⟩)
   rw [List.take_add_one,ez,List.filterMap_append,hxs]
   simp
  | some t =>
   rw [eo] at hct ez
   have hct':TmV K H cv t:=hct
   have hvn:cv≠.non:=fun z=>by rw [z] at hct';cases hct'
   have e:(!decide (cv=V.non))=true:=by simp [hvn]
   rw [e]
   refine QH ⟨_,rfl,_,rfl,(19:),fun p2 hp2=>?_⟩
   have gp2:=Qe hp2 (.tup [.ref ms1[i].1,cv])
   have hya3:=gp2 _ _ hya2
   have gpp:=gp.trans gp2
   refine Qp (ys:=xs.map fun x=>V.ref x.1) hi hya3 (34:) ⟨xs ++ [(p2,cv,ms1[i],t)],by simp,Qb,fun b u e=>?_,fun x hx=>?_,?_⟩
   ·rw [Qi (Qg e hld)];exact gpp _ _ (g _ _ e)
   ·rcases List.mem_append.mp hx with z | z
    ·exact ⟨(gpp.seqT (hat x z).1).put hya3,(hat x z).2.mono fun _ _ h=>(gpp.seqT h).put hya3⟩
    ·obtain rfl:x=(p2,cv,ms1[i],t):=by simpa using z
     exact ⟨SqT.put (42:) hya3,hct'.mono fun _ _ h=>((g1.trans (g.trans gpp)).seqT h).put hya3⟩
   ·rw [List.take_add_one,ez,List.filterMap_append,List.map_append,hxs]
    simp
 rintro ys H2 ⟨xs,rfl,hld2,g2,hat,hxs⟩
 rw [e3] at hxs
 have hxs':xs.map (fun x=>x.2.2)=Uo ms1 ts:=hxs
 have g12:=g1.trans g2
 have hlt2:=g12.seq hlt
 have hus2:=hus.mono fun a xs=>g12.seqT (a:=a) (xs:=xs)
 have hl':(ts.length:Int)=(ms1.length:Int):=by lia
 have s1o:TPr (fun a _=>0≤a∧a < (ts.length:Int)) st1:=pq.s1.1.mono fun a _ h=>by rw [hl'];exact h
 have r1o:∀ m ∈ ms1,∀ t ∈ m.2.2.2.2,TPr (fun a _=>0≤a∧a < (ts.length:Int)) t∧lv t≤6:=fun m hm t ht=>⟨((pq.r1 m hm).2 t ht).1.mono fun a _ h=>by rw [hl'];exact h,((pq.r1 m hm).2 t ht).2⟩
 have hxl:xs.length≤10:=by
  have:=congrArg List.length hxs
  rw [List.length_map] at this
  have h5:=List.length_filterMap_le (fun p:MdT × Option Tm=>p.2.map fun t=>(p.1,t)) (ms1.zip ts)
  rw [List.length_zip] at h5
  lia
 have xin:∀ x ∈ xs,x.2.2.1 ∈ ms1∧some x.2.2.2 ∈ ts∧∃ k:Nat,ms1[k]?=some x.2.2.1∧ts[k]?=some (some x.2.2.2):=fun x hx=>by
  have hm:(x.2.2.1,x.2.2.2) ∈ Uo ms1 ts:=by rw [← hxs'];exact List.mem_map.mpr ⟨x,hx,rfl⟩
  obtain ⟨k,a,b⟩:=YR.mp hm
  exact ⟨List.mem_of_getElem? a,List.mem_of_getElem? b,k,a,b⟩
 refine ⟨_,rfl,t1,_,1,_,rfl,rfl,g12.seqT h1.tu,rfl,_,rfl,s1,st1,lt,us,ts,rfl,h1.s.mono fun _ _=>g12.seqT,s1o,pq.s1.2,hlt2,hus2,fun H3 g3=>⟨_,rfl,?_⟩⟩
 have g13:=g12.trans g3
 cases hHs:Zs ts st1 with
 | false =>
  refine QH (QH (q false H3 g13 ⟨fun z=>absurd z Bool.false_ne_true,fun z=>?_⟩))
  have:=z.hs
  rw [hHs] at this;cases this
 | true =>
 refine Zj ?_
 have hld3:=g3 _ _ hld2
 refine ⟨_,rfl,ld,rfl,⟨_,SqL.of hld3⟩,fun acc2 hacc2=>?_⟩
 refine Zc (K:=K) (xs:=xs.map fun x=>V.ref x.1) (cs:=[some (.ref lt)]) (tt:=fun _ H Q=>Q true H) (fun i ys H'=>H' acc2=some (.lst ys)∧Same H3 H'∧ys=((xs.take i).map fun x=>(x.2.2.1.2.2.2.2.map (Zs ts)).all id).map V.bl)
  ⟨Qb,Qe hacc2 _,rfl⟩ ?_ ?_ ?_
 ·rintro i ys H' _ ⟨_,g,_⟩
  exact SqL.of (g _ _ hld3)
 ·rintro i x ys H' hi hx ⟨hya,g,rfl⟩
  have hix:i < xs.length:=by simpa using hi
  obtain rfl:x=.ref xs[i].1:=by
   rw [List.getElem?_map,List.getElem?_eq_getElem hix] at hx
   exact (54:).symm
  have hxm:=List.getElem_mem hix
  obtain ⟨x1,x2,_⟩:=xin _ hxm
  have gg:=g3.trans g
  have gg1:=g12.trans gg
  obtain ⟨m1,m2,m3⟩:=h1.m.2 _ x1
  have hn:=pq.ten xs[i].2.2.1.2.1
  have hrl:=(pq.r1 _ x1).1
  refine ⟨xs[i].1,_,_,rfl,gg.seqT (hat _ hxm).1,QH ⟨_,rfl,_,_,1,_,rfl,rfl,gg1.seqT m1,rfl,_,rfl,xs[i].2.2.1.2.2.1,xs[i].2.2.1.2.2.2.1,xs[i].2.2.1.2.2.2.2,lt,us,ts,rfl,gg1.seq m2,m3.mono fun _ _=>gg1.seqT,by lia,r1o _ x1,gg1.seq hlt,hus.mono fun _ _=>gg1.seqT,fun H4 g4=>?_⟩⟩
  have hya4:=g4 _ _ hya
  refine Qp hi hya4 (24:) ⟨Qb,fun b u e=>?_,?_⟩
  ·rw [Qi (Qg e hacc2)];exact g4 _ _ (g _ _ e)
  ·rw [List.take_add_one,List.getElem?_eq_getElem hix,List.map_append,List.map_append];rfl
 rintro ys H4 ⟨hya4,g4,rfl⟩
 have e4:xs.take (xs.map fun x=>V.ref x.1).length=xs:=List.take_of_length_le (by rw [List.length_map];exact Nat.le_refl _)
 rw [e4] at hya4
 have eB:((xs.map fun x=>(x.2.2.1.2.2.2.2.map (Zs ts)).all id).all id)=true ↔ ∀ (k:Nat) (md:MdT) (t:Tm),ms1[k]?=some md→ts[k]?=some (some t)→∀ r ∈ md.2.2.2.2,Zs ts r=true:=by
  have e5:(xs.map fun x=>(x.2.2.1.2.2.2.2.map (Zs ts)).all id)=(Uo ms1 ts).map fun p=>(p.1.2.2.2.2.map (Zs ts)).all id:=by rw [← hxs',List.map_map];rfl
  rw [e5,U3]
  constructor
  ·intro h k md t a b r hr
   have:=h k md t a b
   rw [List.all_map,List.all_eq_true] at this
   exact this r hr
  ·intro h k md t a b
   rw [List.all_map,List.all_eq_true]
   exact fun r hr=>h k md t a b r hr
 have g14:=g13.trans g4
 refine ⟨acc2,_,rfl,SqL.of hya4,_,rfl,?_⟩
 cases hB:((xs.map fun x=>(x.2.2.1.2.2.2.2.map (Zs ts)).all id).all id) with
 | false =>
  refine QH (q false H4 g14 ⟨fun z=>absurd z Bool.false_ne_true,fun z=>?_⟩)
  rw [eB.mpr z.hr] at hB;cases hB
 | true =>
 have hasR:=eB.mp hB
 refine Zj ?_
 refine ⟨_,rfl,t1,_,1,_,rfl,rfl,g14.seqT h1.tu,rfl,_,rfl,s1,lt,us,st1,tf ts,rfl,h1.s.mono fun _ _=>g14.seqT,pq.s1.2,g14.seq hlt,(YZ hus pq.t pq.s1.1 hHs).mono fun _ _=>g14.seqT,fun v5 H5 g5 hv5=>?_⟩
 have g15:=g14.trans g5
 have k1:=Vx pq.t pq.s1.1 pq.s1.2
 have k2:=pq.s2.1.mok
 refine ⟨_,rfl,t2,_,1,_,rfl,rfl,g15.seqT h2.tu,rfl,tmd (tin ts st1),tmd st2,hv5.rd,(h2.s.mono fun _ _=>g15.seqT).rd,k1.1,k2.1,hr.fit (by have:=k1.2;lia),_,rfl,?_⟩
 rw [if_pos rfl]
 have eq0:PyData.eqv (tmd (tin ts st1)) (tmd st2)=eqT (tin ts st1) st2:=rfl
 rw [eq0]
 cases hE:eqT (tin ts st1) st2 with
 | false =>
  refine QH (q false H5 g15 ⟨fun z=>absurd z Bool.false_ne_true,fun z=>?_⟩)
  have:=z.es
  rw [hE] at this;cases this
 | true =>
 refine Zj ?_
 have hld5:=g5 _ _ (g4 _ _ hld3)
 refine ⟨_,rfl,ld,rfl,⟨_,SqL.of hld5⟩,fun acc3 hacc3=>?_⟩
 refine Zc (K:=K) (xs:=xs.map fun x=>V.ref x.1) (cs:=[some (.ref t2),some (.ref lt)]) (tt:=fun _ H Q=>Q true H) (fun i ys H'=>H' acc3=some (.lst ys)∧Same H5 H'∧ys=((xs.take i).map fun x=>(num x.2.2.1.2.2.2.2).all (UJ ts ms2 x.2.2.2)).map V.bl)
  ⟨Qb,Qe hacc3 _,rfl⟩ ?_ ?_ ?_
 ·rintro i ys H' _ ⟨_,g,_⟩
  exact SqL.of (g _ _ hld5)
 ·rintro i x ys H' hi hx ⟨hya,g,rfl⟩
  have hix:i < xs.length:=by simpa using hi
  obtain rfl:x=.ref xs[i].1:=by
   rw [List.getElem?_map,List.getElem?_eq_getElem hix] at hx
   exact (54:).symm
  have hxm:=List.getElem_mem hix
  obtain ⟨x1,x2,k,ka,kb⟩:=xin _ hxm
  have g25:=g3.trans (g4.trans (g5.trans g))
  have gg1:=g12.trans g25
  refine ⟨xs[i].1,_,_,rfl,g25.seqT (hat _ hxm).1,QH ⟨_,rfl,_,rfl,_,rfl,_,rfl,nr,xs[i].2.2.1,xs[i].2.1,xs[i].2.2.2,lt,us,ts,t2,lm2,.ref w2,s2,st1,st2,ms1,ms2,rfl,(h1.m.2 _ x1).same gg1,x1,(hat _ hxm).2.mono fun _ _=>g25.seqT,x2,pq,gg1.seq hlt,hus.mono fun _ _=>gg1.seqT,gg1.seqT h2.tu,h2.m.same gg1,fitA k _ _ ka kb,hasR k _ _ ka kb,fun H6 g6=>?_⟩⟩
  have hya6:=g6 _ _ hya
  refine Qp hi hya6 (24:) ⟨Qb,fun b u e=>?_,?_⟩
  ·rw [Qi (Qg e hacc3)];exact g6 _ _ (g _ _ e)
  ·rw [List.take_add_one,List.getElem?_eq_getElem hix,List.map_append,List.map_append];rfl
 rintro ys H6 ⟨hya6,g6,rfl⟩
 rw [e4] at hya6
 refine ⟨acc3,_,rfl,SqL.of hya6,?_⟩
 refine q _ H6 (g15.trans g6) ?_
 have e5:(xs.map fun x=>(num x.2.2.1.2.2.2.2).all (UJ ts ms2 x.2.2.2))=(Uo ms1 ts).map fun p=>(num p.1.2.2.2.2).all (UJ ts ms2 p.2):=by rw [← hxs',List.map_map];rfl
 rw [e5,U3]
 have numI:∀ (l:List Tm) (g:Nat × Tm→Bool),(num l).all g=true ↔ ∀ (j:Nat) (r:Tm),l[j]?=some r→g (j,r)=true:=fun l g=>by
  rw [List.all_eq_true]
  constructor
  ·intro h j r hj
   refine h (j,r) (List.mem_iff_getElem?.mpr ⟨j,?_⟩)
   unfold num
   exact List.getElem?_zip_eq_some.mpr ⟨List.getElem?_range (List.getElem?_eq_some_iff.mp hj).1,hj⟩
  ·rintro h ⟨j,r⟩ hm
   obtain ⟨k,hk⟩:=List.mem_iff_getElem?.mp hm
   unfold num at hk
   rw [List.getElem?_zip_eq_some] at hk
   have hkl:k < l.length:=(List.getElem?_eq_some_iff.mp hk.2).1
   rw [List.getElem?_range hkl] at hk
   obtain rfl:=Option.some.inj hk.1
   exact h _ r hk.2
 constructor
 ·intro h
  exact ⟨fitA,hHs,hasR,hE,fun k md t a b j r hj=>(numI _ _).mp (h k md t a b) j r hj⟩
 ·intro z k md t a b
  exact (numI _ _).mpr fun j r hj=>z.er k md t a b j r hj
end
end K52
namespace K52
open K51
open PySem L2 TM TT K9 K11 ST
def pnL (c k:Int):List Nat:=(List.range (1 + c % 8).toNat).map fun (j:Nat)=>Yp (c / ((j:Int)+64)+(j:Int) * (j:Int)+if (j:Int)=c / 8 % (1 + c % 8) then k else 0)
theorem Mo (c k:Int):∀ x ∈ pnL c k,x < 128:=by
 intro x hx
 obtain ⟨j,_,rfl⟩:=List.mem_map.mp hx
 exact GQ _
theorem La {c k k':Int} (h0:0≤k) (h1:k < 26) (h0':0≤k') (h1':k' < 26) (e:pnL c k=pnL c k'):k=k':=by
 unfold pnL at e
 have b0:0≤c % 8:=Int.emod_nonneg _ (28:)
 have t0:0≤c / 8 % (1 + c % 8):=Int.emod_nonneg _ (7:)
 have t1:c / 8 % (1 + c % 8) < 1 + c % 8:=Int.emod_lt_of_pos _ (7:)
 have ht:(c / 8 % (1 + c % 8)).toNat < (1 + c % 8).toNat:=by lia
 have g:=congrArg (fun l:List Nat=>l[(c / 8 % (1 + c % 8)).toNat]?) e
 simp only [List.getElem?_map,List.getElem?_range ht,Option.map_some,Option.some.injEq] at g
 have ec:(((c / 8 % (1 + c % 8)).toNat:Nat):Int)=c / 8 % (1 + c % 8):=by lia
 rw [ec,if_pos rfl,if_pos rfl] at g
 have:=WZ g
 generalize c / (c / 8 % (1 + c % 8)+64)+c / 8 % (1 + c % 8) * (c / 8 % (1 + c % 8))=z at this
 lia
abbrev pn (c k:Int):Str:=S (pnL c k)
theorem Xa (c k:Int):PyData.strOk (pn c k)=true:=Nm.of (Mo c k)
theorem Vk {c k k':Int} (h0:0≤k) (h1:k < 26) (h0':0≤k') (h1':k' < 26) (e:pn c k=pn c k'):k=k':=La h0 h1 h0' h1' (NS e)
abbrev pns (c:Int) (n:Nat):List Str:=(List.range n).map fun (i:Nat)=>pn c (i:Int)
def YO (K:PySem.W.Frag):Sp:=fun vs H Q _=>∃ (a:Addr) (ns:List Int) (k:Nat),vs=[.ref a,.int k]∧SqL K H a (ns.map V.int)∧Q (.int ((ns[k]?).getD 0)) H
def ZV:Sp:=fun vs H Q _=>∃ (c:Int) (n:Nat),vs=[.int c,.int (n:Int)]∧n≤100∧∀ (l:Addr) (xs:List Int) (H':Hp),Same H H'→H l=none→H' l=some (.lst (xs.map V.int))→xs.length=n→(∀ x ∈ xs,0≤x)→Q (.ref l) H'
def YG:Sp:=fun vs H Q _=>∃ (c:Int) (n:Nat),vs=[.int c,.int (n:Int)]∧n≤100∧∀ (l:Addr) (H':Hp),Same H H'→H l=none→H' l=some (.lst ((pns c n).map V.str))→Q (.ref l) H'
section
variable {P:Program} {w:World} {K:PySem.W.Frag} {mg:Str→Option Value} {base:Heap} {f:Addr} {fd:FuncData}
theorem Nf:FnScope ["_law_script", "_law_k"] ["_law_script", "_law_k"] (defScope GL):=(1:)
theorem Lq (F:Fun K "_law_cell_at" "_law_cell_at" GL f fd) (G:Gm mg):FnOk P w K mg base CX0 1 f fd ["_law_script", "_law_k"] (YO K):=by
 refine F.ok Nf (10:) (4:)
 ·obtain ⟨a,ns,k,rfl,_⟩:=h
  rfl
 obtain ⟨a,ns,k,rfl,hS,q⟩:=h
 refine ⟨_,Qf (QN (Qx UU (pv 1) (Qq Qm rfl G.len PySem.boot_len (Qa (pv 0) Qc)) (QA _)) (Qj (Qs (Qh Qo (pv 0) (pv 1) (26:)))) QB)
  (Qj (Qs Qd)),?_⟩
 refine ⟨_,rfl,_,rfl,a,_,rfl,.inl hS,_,_,rfl,rfl,_,rfl,ZZ (fun c=>?_) (fun c=>?_)⟩
 ·have c':(k:Int) < (((ns.map V.int).length:Nat):Int):=of_decide_eq_true c
  rw [List.length_map] at c'
  have hk:k < ns.length:=by lia
  rw [List.getElem?_eq_getElem hk] at q
  exact ⟨_,rfl,_,rfl,a,_,k,.int ns[k],rfl,rfl,hS,Qu (by rw [List.getElem?_map,List.getElem?_eq_getElem hk];rfl),q⟩
 ·have c':¬ (k:Int) < (((ns.map V.int).length:Nat):Int):=fun z=>c (decide_eq_true z)
  rw [List.length_map] at c'
  rw [List.getElem?_eq_none (7:)] at q
  exact q
theorem Yf:FnScope ["_law_cell", "_law_count", "_law_found", "_law_x", "_law_k"] ["_law_cell", "_law_count"] (defScope Jf):=(1:)
theorem W8 (F:Fun K "_law_stream" "_law_stream" Jf f fd) (G:Gm mg):FnOk P w K mg base CX0 1 f fd ["_law_cell", "_law_count"] ZV:=by
 refine F.ok Yf (10:) (4:)
 ·obtain ⟨c,n,rfl,_⟩:=h
  rfl
 obtain ⟨c,n,rfl,hn,q⟩:=h
 refine ⟨_,(Qf (Qr (i:=2) Yf.nd rfl (13:) (QM Qc))
  (Qf (Qr (i:=3) Yf.nd rfl (13:) (Ql QR (Ql Qv (pv 0) Qd) Qd))
  (Qf (Q5 PassesOwn.never rfl (QI rfl G.rng (47:)) (QC (i:=4) Yf.nd rfl (13:)) (Qf (Qr (i:=3) Yf.nd rfl (13:) (Ql Qv (Ql QR (Ql QR (Ql QR (Ql Yd (pv 3) (pv 3)) (Ql Yd Qd (pv 3))) (Ql Yd Qd (pv 4))) Qd) Qd))
  (Qj (Q8 (Z1 PySem.F.plainAttrs_list PySem.F.slot_list_append PySem.F.type_list_append QU (pv 2) (Qa (Ql QY (pv 3) Qd) Qc))))))
  (Qj (Qs (pv 2)))))),?_⟩
 refine ⟨(20:),fun l hl=>?_⟩
 have g0:=Qe hl (.lst [])
 refine ⟨_,rfl,_,_,rfl,rfl,(by show (0:Int) < 2147483629;decide),_,_,rfl,rfl,?_⟩
 have m0:0≤c % 2147483629:=Int.emod_nonneg _ (28:)
 have m1:c % 2147483629 < 2147483629:=Int.emod_lt_of_pos _ (28:)
 refine ⟨_,rfl,_,rfl,(by show -(2 ^ 62:Int)≤(n:Int);lia),(by show (n:Int) < 2 ^ 62;lia),?_⟩
 refine Q3 (lo:=0) (n:=(n:Int).toNat) (fun i σ H'=>∃ (x:Int) (xs:List Int) (c4:Option V),σ=[some (.int c),some (.int (n:Int)),some (.ref l),some (.int x),c4]∧0≤x∧x < 3000000000∧Same H H'∧H' l=some (.lst (xs.map V.int))∧xs.length=i∧∀ y ∈ xs,0≤y)
  ⟨_,[],none,rfl,(by show (0:Int)≤c % 2147483629 + 7;lia),(by show c % 2147483629 + 7 < 3000000000;lia),g0,Qb,rfl,fun y hy=>(nomatch hy)⟩ ?_ ?_
 ·rintro i σ H' hi ⟨x,xs,c4,rfl,x0,x1,g,hl',hxl,hx0⟩
  rw [Int.toNat_natCast] at hi
  refine ⟨_,rfl,_,rfl,_,_,rfl,rfl,.inl ⟨(by show -(2 ^ 64:Int) < x;lia),(by show x < 2 ^ 64;lia)⟩,_,rfl,_,_,rfl,rfl,.inl (22:),_,_,rfl,rfl,_,rfl,_,_,rfl,rfl,.inl (22:),_,_,rfl,rfl,_,_,rfl,rfl,_,_,rfl,rfl,(by show (0:Int) < 2147483629;decide),?_⟩
  refine ⟨_,rfl,.inl ⟨rfl,_,SqL.of hl'⟩,_,rfl,_,_,rfl,rfl,(22:),l,_,_,rfl,rfl,hl',by rw [List.length_map,QZ];lia,?_⟩
  generalize hy:(x * x + 69069 * x + 5 * (0 + (i:Int))+1) % 2147483629=y
  have y0:0≤y:=by rw [← hy];exact Int.emod_nonneg _ (28:)
  have y1:y < 2147483629:=by rw [← hy];exact Int.emod_lt_of_pos _ (28:)
  refine ⟨y,xs ++ [y / 16],some (.int (0 + (i:Int))),?_,y0,by lia,fun b u e=>?_,?_,by simp [hxl],fun z hz=>?_⟩
  ·rw [← hy];rfl
  ·rw [Qi (Qg e hl)];exact g _ _ e
  ·have hy':(fun i j:Int=>V.int (i / j)) y 16=V.int (y / 16):=rfl
   rw [Qb,List.map_append,← hy];rfl
  ·rcases List.mem_append.mp hz with h | h
   ·exact hx0 z h
   ·obtain rfl:z=y / 16:=by simpa using h
    lia
 ·rintro σ H' ⟨x,xs,c4,rfl,_,_,g,hl',hxl,hx0⟩
  exact ⟨_,rfl,q l xs H' g hl hl' (by rw [hxl,Int.toNat_natCast]) hx0⟩
theorem Zl:FnScope ["_law_cell", "_law_count", "_law_letters", "_law_long", "_law_spot", "_law_found", "_law_k", "_law_name", "_law_j", "_law_step"] ["_law_cell", "_law_count"] (defScope XU):=(1:)
theorem GT (F:Fun K "_law_names" "_law_names" XU f fd) (G:Gm mg):FnOk P w K mg base CX0 1 f fd ["_law_cell", "_law_count"] YG:=by
 refine F.ok Zl (10:) (4:)
 ·obtain ⟨c,n,rfl,_⟩:=h
  rfl
 obtain ⟨c,n,rfl,hn,q⟩:=h
 refine ⟨_,(Qf (Qr (i:=2) Zl.nd rfl (13:) QX)
  (Qf (Qr (i:=3) Zl.nd rfl (13:) (Ql QR Qd (Ql Qv (pv 0) Qd)))
  (Qf (Qr (i:=4) Zl.nd rfl (13:) (Ql Qv (Ql QY (pv 0) Qd) (pv 3)))
  (Qf (Qr (i:=5) Zl.nd rfl (13:) (QM Qc))
  (Qf (Q5 PassesOwn.never rfl (QI rfl G.rng (47:)) (QC (i:=6) Zl.nd rfl (13:)) (Qf (Qr (i:=7) Zl.nd rfl (13:) QX)
  (Qf (Q5 PassesOwn.never rfl (QI rfl G.rng (Qa (pv 3) Qc)) (QC (i:=8) Zl.nd rfl (13:)) (Qf (Qr (i:=9) Zl.nd rfl (13:) (Ql QR (Ql QY (pv 0) (Ql QR (pv 8) Qd)) (Ql Yd (pv 8) (pv 8))))
  (Qf (Qz (QN (Qx Q2 (pv 8) (pv 4) (QA _)) (Qj (Qr (i:=9) Zl.nd rfl (13:) (Ql QR (pv 9) (pv 6)))) QB))
  (Qj (Qr (i:=7) Zl.nd rfl (13:) (Ql XG (pv 7) (Qh Mt (pv 2) (Ql Qv (pv 9) Qd) (26:))))))))
  (Qj (Q8 (Z1 PySem.F.plainAttrs_list PySem.F.slot_list_append PySem.F.type_list_append QU (pv 5) (Qa (pv 7) Qc)))))))
  (Qj (Qs (pv 5)))))))),?_⟩
 have hll:X3.length≤sizeLine:=by rw [Vl,GE];exact Zk (28:)
 have h0:0≤c % 8:=Int.emod_nonneg c (28:)
 have h8:c % 8 < 8:=Int.emod_lt_of_pos c (28:)
 refine ⟨_,rfl,_,_,rfl,rfl,(by show (0:Int) < 8;decide),_,_,rfl,rfl,?_⟩
 refine ⟨_,rfl,_,_,rfl,rfl,(22:),_,rfl,_,_,rfl,rfl,(by show (0:Int) < 1 + c % 8;lia),?_⟩
 refine ⟨(20:),fun l hl=>?_⟩
 have g0:=Qe hl (.lst [])
 refine ⟨_,rfl,_,rfl,(by show -(2 ^ 62:Int)≤(n:Int);lia),(by show (n:Int) < 2 ^ 62;lia),?_⟩
 refine Q3 (lo:=0) (n:=(n:Int).toNat) (fun i σ H'=>∃ (c6 c7 c8 c9:Option V),σ=[some (.int c),some (.int (n:Int)),some (.str X3),some (.int (1 + c % 8)),some (.int (c / 8 % (1 + c % 8))),some (.ref l),c6,c7,c8,c9]∧Same H H'∧H' l=some (.lst ((pns c i).map V.str)))
  ⟨none,none,none,none,rfl,g0,Qb⟩ ?_ ?_
 ·rintro k σ H' hk ⟨c6,c7,c8,c9,rfl,g,hl'⟩
  rw [Int.toNat_natCast] at hk
  refine ⟨_,rfl,_,rfl,(by show -(2 ^ 62:Int)≤1 + c % 8;lia),(by show (1 + c % 8:Int) < 2 ^ 62;lia),?_⟩
  refine Q3 (lo:=0) (n:=(1 + c % 8).toNat) (fun i σ H2=>∃ (k1 k2:Option V),σ=[some (.int c),some (.int (n:Int)),some (.str X3),some (.int (1 + c % 8)),some (.int (c / 8 % (1 + c % 8))),some (.ref l),some (.int (0 + (k:Int))),some (.str (S ((List.range i).map fun (j:Nat)=>Yp (c / ((j:Int)+64)+(j:Int) * (j:Int)+if (j:Int)=c / 8 % (1 + c % 8) then (k:Int) else 0)))),k1,k2]∧H2=H')
   ⟨_,_,by simp only [List.range_zero,List.map_nil];rw [← Lw];rfl,rfl⟩ ?_ ?_
  ·rintro i σ H2 hi ⟨k1,k2,rfl,rfl⟩
   have e0:(0:Int)+(i:Int)=(i:Int):=by lia
   have hi8:i < 8:=by lia
   refine ⟨_,rfl,_,rfl,_,_,rfl,rfl,_,_,rfl,rfl,⟨(by show (0:Int) < 0 + (i:Int)+64;lia),(by show (0 + (i:Int)+64:Int) < 1073741824;lia)⟩,_,rfl,_,rfl,_,_,rfl,rfl,.inl ⟨(by show -(2 ^ 64:Int) < 0 + (i:Int);lia),(by show (0 + (i:Int):Int) < 2 ^ 64;lia)⟩,_,_,rfl,rfl,?_⟩
   refine ⟨fun σ' H3=>∃ st:Int,st=c / ((i:Int)+64)+(i:Int) * (i:Int)+(if (i:Int)=c / 8 % (1 + c % 8) then (k:Int) else 0)∧σ'=[some (.int c),some (.int (n:Int)),some (.str X3),some (.int (1 + c % 8)),some (.int (c / 8 % (1 + c % 8))),some (.ref l),some (.int (0 + (k:Int))),some (.str (S ((List.range i).map fun (j:Nat)=>Yp (c / ((j:Int)+64)+(j:Int) * (j:Int)+if (j:Int)=c / 8 % (1 + c % 8) then (k:Int) else 0)))),some (.int (0 + (i:Int))),some (.int st)]∧H3=H2,?_,?_⟩
   ·refine ⟨_,rfl,_,rfl,rfl,_,rfl,ZZ (fun hd=>?_) (fun hd=>?_)⟩
    ·have hd':(0:Int)+(i:Int)=c / 8 % (1 + c % 8):=V.int.inj (of_decide_eq_true hd)
     refine ⟨_,rfl,_,rfl,_,_,rfl,rfl,_,?_,rfl,rfl⟩
     show c / (0 + (i:Int)+64)+(0 + (i:Int)) * (0 + (i:Int))+(0 + (k:Int))=_
     rw [if_pos (7:),e0,Int.zero_add]
    ·have hd':¬ (0:Int)+(i:Int)=c / 8 % (1 + c % 8):=fun z=>of_decide_eq_false (Bool.eq_false_iff.mpr hd) (congrArg V.int z)
     refine ⟨_,?_,rfl,rfl⟩
     show c / (0 + (i:Int)+64)+(0 + (i:Int)) * (0 + (i:Int))=_
     rw [if_neg (7:),Int.add_zero,e0]
   rintro σ' H3 ⟨st,est,rfl,rfl⟩
   refine ⟨_,rfl,_,rfl,_,rfl,_,_,rfl,rfl,(by show (0:Int) < 26;decide),_,_,Yp st,rfl,rfl,hll,G2 _,_,_,rfl,rfl,?_,?_⟩
   ·rw [Mb,GE,GE,List.length_map,List.length_range];exact Zk (by simp only [List.length_singleton];lia)
   ·refine ⟨some (.int (0 + (i:Int))),some (.int st),?_,rfl⟩
    rw [Mb,Of,List.range_succ,List.map_append,est];rfl
  ·rintro σ H2 ⟨k1,k2,rfl,rfl⟩
   refine ⟨_,rfl,.inl ⟨rfl,_,SqL.of hl'⟩,_,rfl,l,_,_,rfl,rfl,hl',by rw [List.length_map,List.length_map,List.length_range,QZ];lia,?_⟩
   refine ⟨_,_,_,_,rfl,fun b u e=>?_,?_⟩
   ·rw [Qi (Qg e hl)];exact g _ _ e
   ·show _=some (HO.lst (((List.range (k + 1)).map fun (i:Nat)=>pn c (i:Int)).map V.str))
    rw [Qb,List.range_succ,List.map_append,List.map_append];rfl
 ·rintro σ H' ⟨c6,c7,c8,c9,rfl,g,hl'⟩
  rw [Int.toNat_natCast] at hl'
  exact ⟨_,rfl,q l H' g hl hl'⟩
end
end K52
namespace K52
open K51
open PySem L2 TM TT K9 K11 ST
def Ya (K:PySem.W.Frag):Sp:=fun vs H Q _=>∃ (wd:Addr) (ks:List KdT) (kd:KdT),vs=[.ref wd,.str kd.2.1]∧WoodAt K H wd ks∧(ks.map fun k=>k.2.1).Nodup∧kd ∈ ks∧Q (.ref kd.2.2.1) H
def XB (kn bs:List Str) (ts:List Tm):Prop:=∀ t ∈ ts,∃ k j:Nat,t=Qt (k:Int) (j:Int)∧∃ z,kn[k]?=some z∧bs[j]?=some z
def Uc (K:PySem.W.Frag):Sp:=fun vs H Q _=>∃ (bv lk:Addr) (bs kn:List Str),vs=[.ref bv,.ref lk]∧SqT K H bv (bs.map V.str)∧SqL K H lk (kn.map V.str)∧bs.length≤4∧kn.length≤4 ∧
 ∀ (l:Addr) (ws:List V) (ts:List Tm) (H':Hp),Same H H'→H l=none→H' l=some (.lst ws)→TmAll K H' ws ts→XB kn bs ts→ts.length≤16→Q (.ref l) H'
theorem ZS {ks:List KdT} (h:(ks.map fun k=>k.2.1).Nodup) {a b:KdT} (ha:a ∈ ks) (hb:b ∈ ks) (e:a.2.1=b.2.1):a=b:=by
 induction ks with
 | nil=>cases ha
 | cons u r ih =>
  rw [List.map_cons,List.nodup_cons] at h
  rcases List.mem_cons.mp ha with e1 | h1
  ·rcases List.mem_cons.mp hb with e2 | h2
   ·rw [e1,e2]
   ·exact absurd (List.mem_map.mpr ⟨b,h2,by rw [← e,e1]⟩) h.1
  ·rcases List.mem_cons.mp hb with e2 | h2
   ·exact absurd (List.mem_map.mpr ⟨a,h1,by rw [e,e2]⟩) h.1
   ·exact ih h.2 h1 h2
section
variable {P:Program} {w:World} {K:PySem.W.Frag} {mg:Str→Option Value} {base:Heap} {f:Addr} {fd:FuncData}
theorem XY:FnScope ["_law_wood_here", "_law_kind", "_law_told", "_law_rows_here"] ["_law_wood_here", "_law_kind"] (defScope GU):=(1:)
theorem Lb (F:Fun K "_law_rows" "_law_rows" GU f fd):FnOk P w K mg base CX0 1 f fd ["_law_wood_here", "_law_kind"] (Ya K):=by
 refine F.ok XY (10:) (4:)
 ·obtain ⟨wd,ks,kd,rfl,_⟩:=h
  rfl
 obtain ⟨wd,ks,kd,rfl,hw,hn,hk,q⟩:=h
 refine ⟨_,(Qf (Q5 PassesOwn.never rfl (QJ (pv 0)) (ZM rfl (QK (QC (i:=2) XY.nd rfl (13:)) (QK (QC (i:=3) XY.nd rfl (13:)) Zv))) (Qj (QN (Qx Q2 (pv 2) (pv 1) (QA _)) (Qj (Qs (pv 3))) QB)))
  (Qj (Qs (QM Qc)))),?_⟩
 refine ⟨_,rfl,wd,rfl,⟨_,hw.1⟩,?_⟩
 refine Yb (K:=K) (xs:=ks.map fun k=>V.ref k.1) (fun i σ H'=>∃ c2 c3:Option V,σ=[some (.ref wd),some (.str kd.2.1),c2,c3]∧H'=H∧∀ (j:Nat) (k:KdT),j < i→ks[j]?=some k→k.2.1≠kd.2.1) ⟨none,none,rfl,rfl,fun j k h=>absurd h (Nat.not_lt_zero _)⟩ ?_ ?_ ?_
 ·rintro i σ H' _ ⟨_,_,_,rfl,_⟩
  exact hw.1
 ·rintro i x σ H' hx ⟨c2,c3,rfl,rfl,hno⟩
  have hik:i < ks.length:=by have:=(List.getElem?_eq_some_iff.mp hx).1;simpa using this
  obtain rfl:x=.ref ks[i].1:=by
   rw [List.getElem?_map,List.getElem?_eq_getElem hik] at hx
   exact (54:).symm
  have hm:=List.getElem_mem hik
  refine ⟨ks[i].1,_,rfl,(hw.2 _ hm).1,rfl,_,_,rfl,_,_,rfl,rfl,_,rfl,_,rfl,rfl,_,rfl,?_⟩
  by_cases hc:ks[i].2.1=kd.2.1
  ·have e:decide (V.str ks[i].2.1=V.str kd.2.1)=true:=decide_eq_true (by rw [hc])
   rw [e]
   have ek:=ZS hn hm hk hc
   refine QH ⟨_,rfl,?_⟩
   rw [ek];exact q
  ·have e:decide (V.str ks[i].2.1=V.str kd.2.1)=false:=decide_eq_false fun z=>hc (V.str.inj z)
   rw [e]
   refine Zj ⟨_,_,rfl,rfl,fun j k hj hjk=>?_⟩
   by_cases hji:j < i
   ·exact hno j k hji hjk
   ·obtain rfl:j=i:=by lia
    rw [List.getElem?_eq_getElem hik] at hjk
    rw [← Option.some.inj hjk];exact hc
 ·rintro σ H' ⟨c2,c3,rfl,rfl,hno⟩
  obtain ⟨j,hj,e⟩:=List.getElem_of_mem hk
  exact absurd rfl (hno j kd (by rw [List.length_map];exact hj) ((List.getElem?_eq_getElem hj).trans (congrArg some e)))
theorem Ua:FnScope ["_law_branches", "_law_kinds", "_law_found", "_law_j", "_law_k"] ["_law_branches", "_law_kinds"] (defScope XD):=(1:)
theorem GM (F:Fun K "_law_calls" "_law_calls" XD f fd) (G:Gm mg):FnOk P w K mg base CX0 1 f fd ["_law_branches", "_law_kinds"] (Uc K):=by
 refine F.ok Ua (10:) (4:)
 ·obtain ⟨bv,lk,bs,kn,rfl,_⟩:=h
  rfl
 obtain ⟨bv,lk,bs,kn,rfl,hb,hk,hb4,hk4,q⟩:=h
 refine ⟨_,(Qf (Qr (i:=2) Ua.nd rfl (13:) (QM Qc))
  (Qf (Q5 PassesOwn.never rfl (QI rfl G.rng (Qa (Qq Qm rfl G.len PySem.boot_len (Qa (pv 0) Qc)) Qc)) (QC (i:=3) Ua.nd rfl (13:)) (Qj
   (Q5 PassesOwn.never rfl (QI rfl G.rng (Qa (Qq Qm rfl G.len PySem.boot_len (47:)) Qc)) (QC (i:=4) Ua.nd rfl (13:)) (Qj
    (QN (Qx Q2 (Qh Qo (pv 1) (pv 4) (26:)) (Qh Qk (pv 0) (pv 3) (26:)) (QA _)) (Qj (Q8 (Z1 PySem.F.plainAttrs_list PySem.F.slot_list_append PySem.F.type_list_append QU (pv 2) (Qa ((Qy (Qa (QX) (Qa (pv 4) (Qa (pv 3) Qc))))) Qc)))) QB)))))
  (Qj (Qs (pv 2))))),?_⟩
 refine ⟨(20:),fun l hl=>?_⟩
 have g0:=Qe hl (.lst [])
 have elb:(bs.map V.str).length=bs.length:=List.length_map ..
 have elk:(kn.map V.str).length=kn.length:=List.length_map ..
 refine ⟨_,rfl,bv,_,rfl,.inr (g0.seqT hb),?_⟩
 rw [elb]
 refine ⟨_,rfl,(by show -(2 ^ 62:Int)≤(bs.length:Int);lia),(by show (bs.length:Int) < 2 ^ 62;lia),?_⟩
 refine Q3 (lo:=0) (n:=(bs.length:Int).toNat) (fun j σ H'=>∃ (ws:List V) (ts:List Tm) (c3 c4:Option V),σ=[some (.ref bv),some (.ref lk),some (.ref l),c3,c4]∧Same H H'∧H' l=some (.lst ws)∧TmAll K H' ws ts∧XB kn bs ts∧ts.length≤4 * j)
  ⟨[],[],none,none,rfl,g0,Qb,.nil,fun t ht=>(nomatch ht),Nat.le_refl _⟩ ?_ ?_
 ·rintro j σ H' hj ⟨ws,ts,c3,c4,rfl,g,hl',hts,hcl,htl⟩
  rw [Int.toNat_natCast] at hj
  refine ⟨_,rfl,lk,_,rfl,.inl (g.seq hk),?_⟩
  rw [elk]
  refine ⟨_,rfl,(by show -(2 ^ 62:Int)≤(kn.length:Int);lia),(by show (kn.length:Int) < 2 ^ 62;lia),?_⟩
  refine Q3 (lo:=0) (n:=(kn.length:Int).toNat) (fun k σ H'=>∃ (ws:List V) (ts:List Tm) (c4:Option V),σ=[some (.ref bv),some (.ref lk),some (.ref l),some (.int (0 + (j:Int))),c4]∧Same H H'∧H' l=some (.lst ws)∧TmAll K H' ws ts∧XB kn bs ts∧ts.length≤4 * j + k)
   ⟨ws,ts,c4,rfl,g,hl',hts,hcl,by lia⟩ ?_ ?_
  ·clear hl' hts hcl htl g ws ts c3 c4
   rintro k σ H1 hk' ⟨ws,ts,c4,rfl,g,hl',hts,hcl,htl⟩
   rw [Int.toNat_natCast] at hk'
   have hlen:=hts.length
   have a1:atI (kn.map V.str) (0 + (k:Int))=some (.str kn[k]):=by rw [Int.zero_add];exact Qu (by rw [List.getElem?_map,List.getElem?_eq_getElem hk'];rfl)
   have a2:atI (bs.map V.str) (0 + (j:Int))=some (.str bs[j]):=by rw [Int.zero_add];exact Qu (by rw [List.getElem?_map,List.getElem?_eq_getElem hj];rfl)
   refine ⟨_,rfl,_,rfl,lk,_,_,_,rfl,rfl,g.seq hk,a1,_,rfl,_,rfl,bv,_,_,_,rfl,rfl,g.seqT hb,a2,rfl,_,rfl,ZZ (fun hc=>?_) (fun _=>?_)⟩
   ·refine ⟨_,rfl,.inl ⟨rfl,_,SqL.of hl'⟩,_,rfl,_,rfl,(30:),fun p hp=>?_⟩
    have gp:=Qe hp (.tup [.str ZQ,.int (0 + (k:Int)),.int (0 + (j:Int))])
    have hl2:=gp _ _ hl'
    refine ⟨l,ws,_,rfl,rfl,hl2,by rw [QZ];lia,?_⟩
    refine ⟨ws ++ [.ref p],ts ++ [Qt (0 + (k:Int)) (0 + (j:Int))],_,rfl,fun b u e=>?_,Qb,?_,fun t ht=>?_,by rw [List.length_append,List.length_singleton];lia⟩
    ·rw [Qi (Qg e hl)];exact gp _ _ (g _ _ e)
    ·exact TmAll.append (hts.mono fun _ _ h=>(gp.seqT h).put hl2) (.cons (.call (SqT.put (42:) hl2)) .nil)
    ·rcases List.mem_append.mp ht with z | z
     ·exact hcl t z
     ·obtain rfl:t=Qt (0 + (k:Int)) (0 + (j:Int)):=by simpa using z
      have hc':kn[k]=bs[j]:=V.str.inj (of_decide_eq_true hc)
      exact ⟨k,j,by rw [Int.zero_add,Int.zero_add],kn[k],List.getElem?_eq_getElem hk',by rw [hc'];exact List.getElem?_eq_getElem hj⟩
   ·exact ⟨ws,ts,_,rfl,g,hl',hts,hcl,by lia⟩
  ·rintro σ H1 ⟨ws,ts,c4,rfl,g,hl',hts,hcl,htl⟩
   rw [Int.toNat_natCast] at htl
   exact ⟨ws,ts,_,_,rfl,g,hl',hts,hcl,by lia⟩
 ·rintro σ H' ⟨ws,ts,c3,c4,rfl,g,hl',hts,hcl,htl⟩
  rw [Int.toNat_natCast] at htl
  exact ⟨_,rfl,q l ws ts H' g hl hl' hts hcl (7:)⟩
end
end K52
namespace K52
open K51
open PySem L2 TM TT K9 K11 ST
def rf (ns:List Int) (m:Int):Int:=(ns[m.toNat]?).getD 0
def Z5 (K:PySem.W.Frag) (n:Nat):Sp:=fun vs H Q _=>∃ (v:V) (t:Tm) (ln:Addr) (ns:List Int),vs=[v,.ref ln]∧TmV K H v t∧lv t≤n∧SqL K H ln (ns.map V.int)∧(∀ c ∈ cls t,0≤c.1∧c.1 < (ns.length:Int))∧∀ (v':V) (H':Hp),Same H H'→TmV K H' v' (TT.sub (fun m b=>Qt (rf ns m) b) t)→Q v' H'
def Y0 (K:PySem.W.Frag) (n:Nat):Sp:=fun vs H Q _=>∃ (v:V) (t:Tm) (lm:Addr) (ms:List MdT) (j:Nat),vs=[v,.ref lm,.int (j:Int)]∧TmV K H v t∧lv t≤n∧ModesL K H lm ms∧(∀ c ∈ cls t,0≤c.1∧∃ md:MdT,ms[c.1.toNat]?=some md∧j < md.2.2.2.2.length)∧∀ (v':V) (H':Hp),Same H H'→TmV K H' v' (TT.sub (fun m _=>QD ms j m) t)→Q v' H'
section
variable {P:Program} {w:World} {K:PySem.W.Frag} {mg:Str→Option Value} {base:Heap} {f:Addr} {fd:FuncData}
theorem ND:FnScope ["_law_term_here", "_law_names_here"] ["_law_term_here", "_law_names_here"] (defScope Gb):=(1:)
theorem MO {n:Nat} (F:Fun K "_law_renamed" "_law_renamed" Gb f fd) (G:Gm mg) (R:Fn P w K mg base (n + 1) "_law_renamed" ["_law_term_here", "_law_names_here"] (Z5 K n)):FnOk P w K mg base CX0 (n + 2) f fd ["_law_term_here", "_law_names_here"] (Z5 K (n + 1)):=by
 refine F.ok ND (10:) (4:)
 ·obtain ⟨v,t,ln,ns,rfl,_⟩:=h
  rfl
 obtain ⟨v,t,ln,ns,rfl,ht,hlv,hln,hcl,q⟩:=h
 refine ⟨_,(Qf (QN (Qx Q2 (3:) QX (QA _)) (Qj (Qs (Qy (Qa (QX) (Qa (Qh Qo (pv 1) (3:) (26:)) (Qa (3:) Qc)))))) QB)
  (Qj (Qs (Qy (Qa (QX) (Qa (3:) (Qa (3:) (Qa (3:) (Qa (QO QS rfl G.tup PyProof.Rows.boot_tuple (Qa (Qw (CompG.many (xs:=["_law_part"]) (caps:=["_law_names_here"]) (cap:=[1]) (cs:=[_]) rfl rfl (0:) (0:) (0:) (0:) (0:) (0:) rfl rfl rfl) rfl (Zu (3:)) (Zb (CompG.many (xs:=["_law_part"]) (caps:=["_law_names_here"]) (cap:=[1]) (cs:=[_]) rfl rfl (0:) (0:) (0:) (0:) (0:) (0:) rfl rfl rfl)) (18:) (fun _ _ _ _=>Qn R hr (Qa (pv 0) (47:)) (9:))) Qc)) Qc))))))))),?_⟩
 have ePC:¬ V.str PUT=V.str ZQ:=by decide +kernel
 rcases Zr ht with ⟨a,m,b,rfl,rfl,h1⟩ | ⟨a,b,bs,nm,kk,ad,rfl,et,h1,h2,h3,h4⟩
 ·have hc0:(m,b) ∈ cls (Qt m b):=by simp [Qt,cls,lcl,Q4]
  refine ⟨_,rfl,a,_,0,_,rfl,rfl,h1,rfl,rfl,_,rfl,JB rfl ?_⟩
  obtain ⟨m0,m1⟩:=hcl _ hc0
  have hm0:0≤m:=m0
  have hm1:m < (ns.length:Int):=m1
  have hl:m.toNat < ns.length:=by lia
  have em:m=((m.toNat:Nat):Int):=by lia
  have hat:atI (ns.map V.int) m=some (.int (rf ns m)):=by
   have h5:atI (ns.map V.int) ((m.toNat:Nat):Int)=some (.int (rf ns m)):=Qu (by unfold rf;rw [List.getElem?_map,List.getElem?_eq_getElem hl];rfl)
   rw [← em] at h5
   exact h5
  refine ⟨_,rfl,_,rfl,a,_,1,_,rfl,rfl,h1,rfl,ln,_,m,_,rfl,rfl,hln,hat,_,rfl,a,_,2,_,rfl,rfl,h1,rfl,(30:),fun p hp=>?_⟩
  exact q (.ref p) _ (Qe hp _) (.call (42:))
 have ecls:cls t=Q4 t.bs:=by
  have:=congrArg cls et
  rw [this];simp [cls,lcl]
 have hlen:=h3.length
 rw [Zg] at hlv
 refine ⟨_,rfl,a,_,0,_,rfl,rfl,h1,rfl,rfl,_,rfl,JX ePC ?_⟩
 refine ⟨_,rfl,a,_,1,_,rfl,rfl,h1,rfl,_,rfl,a,_,2,_,rfl,rfl,h1,rfl,_,rfl,a,_,3,_,rfl,rfl,h1,rfl,_,rfl,a,_,4,_,rfl,rfl,h1,rfl,b,rfl,⟨_,h2⟩,fun acc hacc=>?_⟩
 refine ZJ (K:=K) (xs:=bs) (cs:=[some (.ref ln)]) (tt:=fun _ H Q=>Q true H) (te:=Zz (Z5 K n) [] E0 (QL (Q6 0) (QL (Q6 1) ZR))) (fun i ys H'=>H' acc=some (.lst ys)∧Same H H'∧ys.length=i∧TmAll K H' ys ((t.bs.take i).map (TT.sub (fun m b=>Qt (rf ns m) b))))
  ⟨Qb,Qe hacc _,rfl,.nil⟩ ?_ ?_ ?_
 ·rintro i ys H' _ ⟨_,g,_⟩
  exact g.seqT h2
 ·rintro i x ys H' hi hx ⟨hya,g,hyl,hys⟩
  obtain ⟨c,hc⟩ : ∃ c,t.bs[i]?=some c:=(43:)
  obtain ⟨cv,hcv,hct⟩:=h3.get hc
  obtain rfl:cv=x:=Option.some.inj (hcv.symm.trans hx)
  have hm:=List.mem_of_getElem? hc
  have a1:=ZI hm
  have hsub:∀ c' ∈ cls c,c' ∈ cls t:=fun c' h=>by rw [ecls];exact Jm hm c' h
  refine QH ⟨_,rfl,_,rfl,cv,c,ln,ns,rfl,hct.mono fun _ _=>g.seqT,by lia,g.seq hln,fun c' h=>hcl c' (hsub c' h),fun v' H4 g4 hv'=>?_⟩
  refine Qp (ys:=ys) hi (g4 _ _ hya) (7:) ⟨Qb,fun x u e=>?_,by simp [hyl],?_⟩
  ·rw [Qi (Qg e hacc)];exact g4 _ _ (g _ _ e)
  ·rw [List.take_add_one,hc]
   show TmAll K _ (ys ++ [v']) ((t.bs.take i ++ [c]).map (TT.sub (fun m b=>Qt (rf ns m) b)))
   rw [List.map_append]
   refine TmAll.append (hys.mono fun _ _ h=>(g4.seqT h).put (g4 _ _ hya)) (.cons (hv'.mono fun _ _ h=>h.put (g4 _ _ hya)) .nil)
 rintro ys H1 ⟨hya,g,hyl,hys⟩
 have et2:t.bs.take bs.length=t.bs:=List.take_of_length_le (7:)
 rw [et2] at hys
 refine ⟨acc,ys,rfl,.inl ⟨SqL.of hya,fun pt hpt=>⟨(by show 5≤sizeLine;decide),fun pp hpp=>?_⟩⟩⟩
 have ga:=Qe hpt (.tup ys)
 have gb:=Qe hpp (.tup [.str PUT,.str nm,.bl kk,.int ad,.ref pt])
 have gab:=ga.trans gb
 refine q (.ref pp) _ (g.trans gab) ?_
 rw [et]
 simp only [TT.sub,hdF,Q7]
 exact .put (42:) (gb.seqT (42:)) (hys.mono fun _ _=>gab.seqT) (7:)
theorem GC {k:Nat}:FnOk P w K mg base CX0 k f fd ["_law_term_here", "_law_names_here"] (Z5 K 0):=by
 have no:∀ vs H Q E,¬ Z5 K 0 vs H Q E:=fun vs H Q E h=>by
  obtain ⟨v,t,ln,ns,_,_,h0,_⟩:=h
  rw [Zg] at h0;lia
 exact (5:)
theorem Wn (F:Fun K "_law_renamed" "_law_renamed" Gb f fd) (G:Gm mg) (hb:Binds K fd ["_law_term_here", "_law_names_here"] []) (hm:mg "_law_renamed" = some (.ref f)):∀ n:Nat,FnOk P w K mg base CX0 (n + 1) f fd ["_law_term_here", "_law_names_here"] (Z5 K n)
 | 0=>GC
 | n + 1=>MO F G ⟨f,fd,Wn F G hb hm n,hb,F.kp,hm⟩
theorem Ob:FnScope ["_law_term_here", "_law_modes", "_law_row"] ["_law_term_here", "_law_modes", "_law_row"] (defScope UM):=(1:)
theorem Nt {n:Nat} (F:Fun K "_law_ruled" "_law_ruled" UM f fd) (G:Gm mg) (R:Fn P w K mg base (n + 1) "_law_ruled" ["_law_term_here", "_law_modes", "_law_row"] (Y0 K n)):FnOk P w K mg base CX0 (n + 2) f fd ["_law_term_here", "_law_modes", "_law_row"] (Y0 K (n + 1)):=by
 refine F.ok Ob (10:) (4:)
 ·obtain ⟨v,t,lm,ms,j,rfl,_⟩:=h
  rfl
 obtain ⟨v,t,lm,ms,j,rfl,ht,hlv,hM,hcl,q⟩:=h
 refine ⟨_,(Qf (QN (Qx Q2 (3:) QX (QA _)) (Qj (Qs (Qh Qo (Qh Qk (Qh Qo (pv 1) (3:) (26:)) Qd (26:)) (pv 2) (26:)))) QB)
  (Qj (Qs (Qy (Qa (QX) (Qa (3:) (Qa (3:) (Qa (3:) (Qa (QO QS rfl G.tup PyProof.Rows.boot_tuple (Qa (Qw (CompG.many (xs:=["_law_part"]) (caps:=["_law_modes", "_law_row"]) (cap:=[1,2]) (cs:=[_,_]) rfl rfl (0:) (0:) (0:) (0:) (0:) (0:) rfl rfl rfl) rfl (Zu (3:)) (Zb (CompG.many (xs:=["_law_part"]) (caps:=["_law_modes", "_law_row"]) (cap:=[1,2]) (cs:=[_,_]) rfl rfl (0:) (0:) (0:) (0:) (0:) (0:) rfl rfl rfl)) (18:) (fun _ _ _ _=>Qn R hr (Qa (pv 0) (Qa (pv 1) (Qa (pv 2) Qc))) (9:))) Qc)) Qc))))))))),?_⟩
 have ePC:¬ V.str PUT=V.str ZQ:=by decide +kernel
 rcases Zr ht with ⟨a,m,b,rfl,rfl,h1⟩ | ⟨a,b,bs,nm,kk,ad,rfl,et,h1,h2,h3,h4⟩
 ·have hc0:(m,b) ∈ cls (Qt m b):=by simp [Qt,cls,lcl,Q4]
  refine ⟨_,rfl,a,_,0,_,rfl,rfl,h1,rfl,rfl,_,rfl,JB rfl ?_⟩
  obtain ⟨m0,md,e1,hj⟩:=hcl _ hc0
  have hm0:0≤m:=m0
  have e1':ms[m.toNat]?=some md:=e1
  have em:m=((m.toNat:Nat):Int):=by lia
  obtain ⟨d1,d2,d3⟩:=hM.2 md (List.mem_of_getElem? e1)
  obtain ⟨v,hv1,hv2⟩:=d3.get (List.getElem?_eq_getElem hj)
  have er:QD ms j m=md.2.2.2.2[j]:=by
   unfold QD
   rw [e1']
   show (md.2.2.2.2[j]?).getD _=_
   rw [List.getElem?_eq_getElem hj];rfl
  have hat:atI (23:) m=some (.ref md.1):=by
   rw [em];exact Qu (by rw [List.getElem?_map,e1'];rfl)
  refine ⟨_,rfl,_,rfl,a,_,1,_,rfl,rfl,h1,rfl,lm,_,m,_,rfl,rfl,hM.1,hat,md.1,_,1,_,rfl,rfl,d1,rfl,_,rfl,md.2.2.1,_,_,v,rfl,rfl,d2,Qu hv1,?_⟩
  refine q v H (Same.refl _) ?_
  show TmV K H v (QD ms j m)
  rw [er];exact hv2
 have ecls:cls t=Q4 t.bs:=by
  have:=congrArg cls et
  rw [this];simp [cls,lcl]
 have hlen:=h3.length
 rw [Zg] at hlv
 refine ⟨_,rfl,a,_,0,_,rfl,rfl,h1,rfl,rfl,_,rfl,JX ePC ?_⟩
 refine ⟨_,rfl,a,_,1,_,rfl,rfl,h1,rfl,_,rfl,a,_,2,_,rfl,rfl,h1,rfl,_,rfl,a,_,3,_,rfl,rfl,h1,rfl,_,rfl,a,_,4,_,rfl,rfl,h1,rfl,b,rfl,⟨_,h2⟩,fun acc hacc=>?_⟩
 refine ZJ (K:=K) (xs:=bs) (cs:=[some (.ref lm),some (.int (j:Int))]) (tt:=fun _ H Q=>Q true H) (te:=Zz (Y0 K n) [] E0 (QL (Q6 0) (QL (Q6 1) (QL (Q6 2) ZR)))) (fun i ys H'=>H' acc=some (.lst ys)∧Same H H'∧ys.length=i∧TmAll K H' ys ((t.bs.take i).map (TT.sub (fun m _=>QD ms j m))))
  ⟨Qb,Qe hacc _,rfl,.nil⟩ ?_ ?_ ?_
 ·rintro i ys H' _ ⟨_,g,_⟩
  exact g.seqT h2
 ·rintro i x ys H' hi hx ⟨hya,g,hyl,hys⟩
  obtain ⟨c,hc⟩ : ∃ c,t.bs[i]?=some c:=(43:)
  obtain ⟨cv,hcv,hct⟩:=h3.get hc
  obtain rfl:cv=x:=Option.some.inj (hcv.symm.trans hx)
  have hm:=List.mem_of_getElem? hc
  have a1:=ZI hm
  have hsub:∀ c' ∈ cls c,c' ∈ cls t:=fun c' h=>by rw [ecls];exact Jm hm c' h
  refine QH ⟨_,rfl,_,rfl,_,rfl,cv,c,lm,ms,j,rfl,hct.mono fun _ _=>g.seqT,by lia,hM.same g,fun c' h=>hcl c' (hsub c' h),fun v' H4 g4 hv'=>?_⟩
  refine Qp (ys:=ys) hi (g4 _ _ hya) (7:) ⟨Qb,fun x u e=>?_,by simp [hyl],?_⟩
  ·rw [Qi (Qg e hacc)];exact g4 _ _ (g _ _ e)
  ·rw [List.take_add_one,hc]
   show TmAll K _ (ys ++ [v']) ((t.bs.take i ++ [c]).map (TT.sub (fun m _=>QD ms j m)))
   rw [List.map_append]
   refine TmAll.append (hys.mono fun _ _ h=>(g4.seqT h).put (g4 _ _ hya)) (.cons (hv'.mono fun _ _ h=>h.put (g4 _ _ hya)) .nil)
 rintro ys H1 ⟨hya,g,hyl,hys⟩
 have et2:t.bs.take bs.length=t.bs:=List.take_of_length_le (7:)
 rw [et2] at hys
 refine ⟨acc,ys,rfl,.inl ⟨SqL.of hya,fun pt hpt=>⟨(by show 5≤sizeLine;decide),fun pp hpp=>?_⟩⟩⟩
 have ga:=Qe hpt (.tup ys)
 have gb:=Qe hpp (.tup [.str PUT,.str nm,.bl kk,.int ad,.ref pt])
 have gab:=ga.trans gb
 refine q (.ref pp) _ (g.trans gab) ?_
 rw [et]
 simp only [TT.sub,hdF,Q7]
 exact .put (42:) (gb.seqT (42:)) (hys.mono fun _ _=>gab.seqT) (7:)
theorem Gs {k:Nat}:FnOk P w K mg base CX0 k f fd ["_law_term_here", "_law_modes", "_law_row"] (Y0 K 0):=by
 have no:∀ vs H Q E,¬ Y0 K 0 vs H Q E:=fun vs H Q E h=>by
  obtain ⟨v,t,lm,ms,j,_,_,h0,_⟩:=h
  rw [Zg] at h0;lia
 exact (5:)
theorem Wc (F:Fun K "_law_ruled" "_law_ruled" UM f fd) (G:Gm mg) (hb:Binds K fd ["_law_term_here", "_law_modes", "_law_row"] []) (hm:mg "_law_ruled" = some (.ref f)):∀ n:Nat,FnOk P w K mg base CX0 (n + 1) f fd ["_law_term_here", "_law_modes", "_law_row"] (Y0 K n)
 | 0=>Gs
 | n + 1=>Nt F G ⟨f,fd,Wc F G hb hm n,hb,F.kp,hm⟩
end
end K52
namespace K52
open K51
open PySem L2 TM TT K9 K11 ST
def Yx:Nat→Nat
 | 0=>1
 | 1=>2
 | _=>7
abbrev NI (ns:List Int):List V:=ns.map V.int
def Pn (n:Nat):Int→Int→Prop:=fun a _=>0≤a∧a < (n:Int)
def Z8 (K:PySem.W.Frag) (n:Nat):Sp:=fun vs H Q _=>∃ (d lc ln:Addr) (far:Int) (dp:Nat) (xs:List Int) (ws:List V) (ts:List Tm) (nn:List Str) (p:Int→Int→Prop),vs=[.ref d,.ref lc,.ref ln,.int far,.int (dp:Int)]∧H d=some (.lst (NI xs))∧Yx dp≤xs.length∧SqL K H lc ws∧TmAll K H ws ts∧(∀ t ∈ ts,∃ m b,t=Qt m b∧p m b)∧ts.length≤16∧lc≠d∧SqL K H ln (nn.map V.str)∧5≤nn.length∧(∀ x ∈ nn,PyData.strOk x=true)∧ln≠d∧dp < n∧dp≤2 ∧
 ∀ (v:V) (H':Hp) (t:Tm) (xs':List Int),SameD d H H'→H' d=some (.lst (NI xs'))→xs.length≤xs'.length + Yx dp→TmV K H' v t→TPr p t→lv t≤dp + 1→Q v H'
def YY (K:PySem.W.Frag) (n:Nat):Sp:=fun vs H Q _=>∃ (v:V) (t:Tm) (p:Int→Int→Prop),vs=[v]∧TmV K H v t∧TPr p t∧lv t≤n∧∀ (v':V) (H':Hp) (t':Tm),Same H H'→TmV K H' v' t'→TPr p t'→lv t'≤lv t→kp t'=false→Q v' H'
theorem GI (ts:List Tm):PyData.eqv (.list (tmds ts)) (.list [])=ts.isEmpty:=by
 cases ts <;> simp [tmds,PyData.eqv,PyData.eqvAll]
theorem Yj {xs:List V} {k:Int} (hk:k=(xs.length:Int)) (h:0 < xs.length) (n:Int):∃ v ∈ xs,atI xs (n % k)=some v:=by
 subst hk
 have x0:0≤n % (xs.length:Int):=Int.emod_nonneg _ (7:)
 have x1:n % (xs.length:Int) < (xs.length:Int):=Int.emod_lt_of_pos _ (7:)
 obtain ⟨y,hy⟩ : ∃ y:Nat,n % (xs.length:Int)=(y:Int):=⟨_,(Int.toNat_of_nonneg x0).symm⟩
 have hyl:y < xs.length:=by lia
 rw [hy]
 exact ⟨xs[y],List.getElem_mem hyl,Qu (List.getElem?_eq_getElem hyl)⟩
theorem ZN {xs:List Int} (h:0 < xs.length):∃ y:Int,(NI xs)[(NI xs).length - 1]?=some (.int y):=by
 have hl:xs.length - 1 < xs.length:=by lia
 exact ⟨xs[xs.length - 1],by rw [List.length_map,List.getElem?_map,List.getElem?_eq_getElem hl];rfl⟩
section
variable {P:Program} {w:World} {K:PySem.W.Frag} {mg:Str→Option Value} {base:Heap} {f:Addr} {fd:FuncData}
theorem Uu:FnScope ["_law_xs", "_law_calls_here", "_law_names_here", "_law_far", "_law_deep", "_law_x", "_law_add", "_law_parts"] ["_law_xs", "_law_calls_here", "_law_names_here", "_law_far", "_law_deep"] (defScope J2):=(1:)
theorem LD {n:Nat} (F:Fun K "_law_term" "_law_term" J2 f fd) (G:Gm mg) (R:Fn P w K mg base (n + 1) "_law_term" ["_law_xs", "_law_calls_here", "_law_names_here", "_law_far", "_law_deep"] (Z8 K n)):FnOk P w K mg base CX0 (n + 2) f fd ["_law_xs", "_law_calls_here", "_law_names_here", "_law_far", "_law_deep"] (Z8 K (n + 1)):=by
 refine F.ok Uu (10:) (4:)
 ·obtain ⟨d,lc,ln,far,dp,xs,ws,ts,nn,pN,rfl,_⟩:=h
  rfl
 obtain ⟨d,lc,ln,far,dp,xs,ws,ts,nn,pN,rfl,hd,hneed,hlc,hts,hcl,ht16,hlcd,hln,hn5,hnn,hlnd,hdn,hd2,q⟩:=h
 refine ⟨_,(Qf (Qr (i:=5) Uu.nd rfl (13:) (YL PySem.F.plainAttrs_list PySem.F.slot_list_pop PySem.F.type_list_pop YV (pv 0)))
  (Qf (QN (JE (PW.pt (pw_and (Qx XM (pv 1) (QM Qc) (QA _)) (pw_and1 (Qx UU (Ql Qv (pv 5) Qd) (Ql Zt Qd (pv 4)) (QA _)))))) (Qj (Qs (Qh Qo (pv 1) (Ql Qv (Ql QY (pv 5) Qd) (Qq Qm rfl G.len PySem.boot_len (47:))) (26:)))) QB)
  (Qf (Qz (Qr (i:=6) Uu.nd rfl (13:) (Qh Qo (QM (Qa (Qd) (Qa (Ql Zt (Ql Qv (Ql QY (pv 5) Qd) Qd) Qd) (Qa (pv 3) (Qa (Ql Zt Qd (pv 3)) Qc))))) (Ql Qv (Ql QY (pv 5) Qd) Qd) (26:))))
  (Qf (Qr (i:=7) Uu.nd rfl (13:) (QM Qc))
  (Qf (Qz (QN (Qx GD (pv 4) Qd (QA _)) (Qj (Zw (i:=7) (CompG.many (xs:=["_law_k"]) (caps:=["_law_calls_here", "_law_deep", "_law_far", "_law_names_here", "_law_xs"]) (cap:=[1,4,3,2,0]) (cs:=[_,_,_,_,_]) rfl rfl (0:) (0:) (0:) (0:) (0:) (0:) rfl rfl rfl) rfl (QI rfl G.rng (Qa (Ql Qv (Ql QY (pv 5) Qd) (Ql Yd Qd (pv 4))) Qc)) (Zb (CompG.many (xs:=["_law_k"]) (caps:=["_law_calls_here", "_law_deep", "_law_far", "_law_names_here", "_law_xs"]) (cap:=[1,4,3,2,0]) (cs:=[_,_,_,_,_]) rfl rfl (0:) (0:) (0:) (0:) (0:) (0:) rfl rfl rfl)) (18:) (fun _ _ _ _=>Qn R hr (Qa (pv 5) (Qa (pv 1) (Qa (pv 4) (Qa (pv 3) (Qa (Ql Zt (pv 2) Qd) Qc))))) (9:)) Uu.nd rfl rfl)) QB))
  (Qj (Qs (Qy (Qa (QX) (Qa (Qh Qo (pv 2) (Ql QR Qd (Ql Qv (Ql QY (pv 5) Qd) Qd)) (26:)) (Qa (ZH Q2 (Ql Qv (Ql QY (pv 5) Qd) Qd) Qd (QA _)) (Qa (pv 6) (Qa (QO QS rfl G.tup PyProof.Rows.boot_tuple (Qa (pv 7) Qc)) Qc))))))))))))),?_⟩
 have hn1:1≤Yx dp:=by
  match dp,hd2 with
  | 0,_=>decide
  | 1,_=>decide
  | 2,_=>decide
 obtain ⟨x,hx⟩:=ZN (xs:=xs) (7:)
 refine ⟨_,rfl,.inl ⟨rfl,_,SqL.of hd⟩,d,_,_,rfl,rfl,hd,hx,?_⟩
 have hdk:Dk H d:=⟨xs,hd⟩
 have g1:SameD d H (upd H d (.lst (NI xs).dropLast)):=fun b u hb e=>by rw [Qi hb];exact e
 have hd1:(upd H d (.lst (NI xs).dropLast)) d=some (.lst (NI xs.dropLast)):=by
  rw [Qb]
  show some (HO.lst (xs.map V.int).dropLast)=some (HO.lst (xs.dropLast.map V.int))
  rw [List.map_dropLast]
 generalize upd H d (.lst (NI xs).dropLast)=H1 at g1 hd1 ⊢
 have hxl:xs.dropLast.length + 1=xs.length:=by rw [List.length_dropLast];lia
 generalize xs.dropLast=xs1 at hd1 hxl
 have hlc1:=g1.seqL hlcd hlc
 have hts1:=hts.mono fun _ _=>g1.seqT hdk
 have hln1:=g1.seqL hlnd hln
 have htl:=hts.length
 refine ⟨fun b H'=>Same H1 H'∧(b=true→ts≠[]),?_,?_⟩
 ·refine ⟨_,rfl,(20:),fun p hp=>?_⟩
  have ge:=Qe hp (.lst [])
  have lay:(PyData.list (tmds ts)).canLay0=true:=by
   simp only [PyData.canLay0]
   exact (Jb ts fun t ht=>by obtain ⟨k,j,rfl,_⟩:=hcl t ht;exact L2.leaf_ok _ _ 0 []).1
  refine ⟨.list (tmds ts),.list [],.lst (ge.seq hlc1) (hts1.mono fun _ _=>ge.seqT).rd,.lst (SqL.of Qb) .nil,lay,by decide,hr.fit (Nat.le_trans (Nat.min_le_right _ _) (by simp [PyData.depth,PyData.depthAll])),_,rfl,?_⟩
  rw [if_pos rfl,GI]
  cases ts with
  | nil=>exact Zj ⟨ge,fun z=>by cases z⟩
  | cons t0 tr =>
   refine QH ⟨_,rfl,_,_,rfl,rfl,(by show (0:Int) < 5;decide),_,rfl,_,_,rfl,rfl,_,_,rfl,rfl,_,rfl,ge,fun _=>List.cons_ne_nil _ _⟩
 rintro b H2 ⟨g2,hne⟩
 have g12:SameD d H H2:=g1.trans (SameD.of g2)
 have hd2':=g2 _ _ hd1
 have hdk1:Dk H1 d:=⟨xs1,hd1⟩
 have hlc2:=g2.seq hlc1
 have hts2:=hts1.mono fun a xs=>g2.seqT (a:=a) (xs:=xs)
 refine MC (fun hb=>?_) (fun _=>?_)
 ·have hpos:0 < ts.length:=List.length_pos_iff.mpr (hne hb)
  obtain ⟨y,hy,hat⟩:=Yj (xs:=ws) (k:=(ws.length:Int)) rfl (7:) (x / 5)
  refine ⟨_,rfl,_,rfl,_,_,rfl,rfl,(22:),_,rfl,lc,_,rfl,.inl hlc2,_,_,rfl,rfl,(by show (0:Int) < (ws.length:Int);lia),lc,ws,_,y,rfl,rfl,hlc2,hat,?_⟩
  obtain ⟨i,hi,ei⟩:=List.getElem_of_mem hy
  have hit:i < ts.length:=by lia
  obtain ⟨cv,hcv,hct⟩:=hts2.get (List.getElem?_eq_getElem hit)
  have ecv:cv=y:=by rw [List.getElem?_eq_getElem hi,ei] at hcv;exact (Option.some.inj hcv).symm
  rw [ecv] at hct
  obtain ⟨k,j,ek,hk⟩:=hcl _ (List.getElem_mem hit)
  refine q y H2 ts[i] xs1 g12 hd2' (7:) hct ?_ ?_
  ·rw [ek];simp only [Qt,TPr];exact ⟨hk,trivial⟩
  ·rw [ek];simp only [Qt,lv,lvs];lia
 refine ⟨fun σ' H'=>∃ add:Int,σ'=[some (.ref d),some (.ref lc),some (.ref ln),some (.int far),some (.int (dp:Int)),some (.int x),some (.int add),none]∧Same H2 H',?_,?_⟩
 ·refine ⟨_,rfl,_,_,rfl,rfl,(22:),_,_,rfl,rfl,(by show (0:Int) < 7;decide),_,_,rfl,rfl,_,rfl,_,rfl,_,_,rfl,rfl,(by show 4≤sizeLine;decide),fun l hl=>?_⟩
  have gl:=Qe hl (.lst [.int 0,.int (x / 20 % 7 - 3),.int far,.int (0 - far)])
  obtain ⟨y,hy,hat⟩:=Yj (xs:=[.int 0,.int (x / 20 % 7 - 3),.int far,.int (0 - far)]) (k:=4) rfl (by show 0 < 4;decide) (x / 140)
  refine ⟨_,rfl,_,_,rfl,rfl,(22:),_,_,rfl,rfl,(by show (0:Int) < 4;decide),l,_,_,y,rfl,rfl,SqL.of Qb,hat,?_⟩
  obtain ⟨add,rfl⟩ : ∃ add:Int,y=.int add:=by
   simp only [List.mem_cons,List.mem_nil_iff,or_false] at hy
   rcases hy with rfl | rfl | rfl | rfl <;> exact ⟨_,rfl⟩
  exact ⟨add,rfl,gl⟩
 rintro σ' H3 ⟨add,rfl,g3⟩
 have g23:=g2.trans g3
 have hd3:=g3 _ _ hd2'
 have g13:SameD d H H3:=g12.trans (SameD.of g3)
 refine ⟨(20:),fun lp hlp=>?_⟩
 have gp:=Qe hlp (.lst [])
 have hdk3:Dk H3 d:=⟨xs1,hd3⟩
 have hlpd:=hdk3.ne hlp
 have hd4:=gp _ _ hd3
 have hlp4:(upd H3 lp (.lst [])) lp=some (.lst []):=Qb
 have g14:SameD d H (upd H3 lp (.lst [])):=g13.trans (SameD.of gp)
 generalize upd H3 lp (.lst [])=H4 at gp hd4 hlp4 g14 ⊢
 have hdk4:Dk H4 d:=⟨xs1,hd4⟩
 have g1H4:Same H1 H4:=g23.trans gp
 refine ⟨fun σ' H'=>∃ (l:Addr) (us:List V) (ps:List Tm) (xs':List Int),σ'=[some (.ref d),some (.ref lc),some (.ref ln),some (.int far),some (.int (dp:Int)),some (.int x),some (.int add),some (.ref l)]∧SameD d H4 H'∧H' d=some (.lst (NI xs'))∧xs1.length + 1≤xs'.length + Yx dp∧H' l=some (.lst us)∧TmAll K H' us ps∧ps.length≤3∧∀ t ∈ ps,TPr pN t∧lv t≤dp,?_,?_⟩
 ·refine ⟨_,rfl,_,_,rfl,rfl,_,rfl,ZZ (fun hc=>?_) (fun _=>?_)⟩
  ·have hc':(dp:Int) > 0:=of_decide_eq_true hc
   have hpos:(0:Int) < 2 * (dp:Int):=by lia
   have k0:0≤x / 560 % (2 * (dp:Int)):=Int.emod_nonneg _ (7:)
   have k1:x / 560 % (2 * (dp:Int)) < 2 * (dp:Int):=Int.emod_lt_of_pos _ hpos
   refine ⟨_,rfl,_,_,rfl,rfl,(22:),_,rfl,_,_,rfl,rfl,.inl (22:),_,_,rfl,rfl,hpos,_,rfl,(by show -(2 ^ 62:Int)≤x / 560 % (2 * (dp:Int));lia),(by show x / 560 % (2 * (dp:Int)) < 2 ^ 62;lia),fun acc hacc=>?_⟩
   have had:=hdk4.ne hacc
   obtain ⟨e,he⟩ : ∃ e,dp=e + 1:=⟨dp - 1,by lia⟩
   have hneed2:Yx dp=1 + (2 * dp - 1) * Yx e:=by
    match dp,e,he,hd2 with
    | 1,0,_,_=>decide
    | 2,1,_,_=>decide
   have hne1:1≤Yx e:=by
    match e,(show e≤1 by lia) with
    | 0,_=>decide
    | 1,_=>decide
   refine ZE (lo:=0) (n:=(x / 560 % (2 * (dp:Int))).toNat) (cs:=[some (.ref lc),some (.int (dp:Int)),some (.int far),some (.ref ln),some (.ref d)]) (tt:=fun _ H Q=>Q true H) (fun i ys H'=>∃ (ps:List Tm) (xs':List Int),H' acc=some (.lst ys)∧SameD d H4 H'∧H' d=some (.lst (NI xs'))∧xs1.length≤xs'.length + i * Yx e∧TmAll K H' ys ps∧ps.length=i∧∀ t ∈ ps,TPr pN t∧lv t≤dp)
    ⟨[],xs1,Qb,SameD.new hacc,by rw [Qi (Ne.symm had)];exact hd4,by lia,.nil,rfl,fun t ht=>(nomatch ht)⟩ ?_ ?_
   ·rintro i ys H' hi ⟨ps,xs',hya,g,hd',hx',hps,hpl,hok⟩
    have hlen:=hps.length
    have hi3:i + 1≤2 * dp - 1:=by lia
    have hmul:(i + 1) * Yx e≤(2 * dp - 1) * Yx e:=Nat.mul_le_mul_right _ hi3
    have hs:(i + 1) * Yx e=i * Yx e + Yx e:=Nat.succ_mul _ _
    have g1':SameD d H H':=g14.trans g
    refine QH ⟨_,rfl,_,rfl,_,rfl,_,rfl,_,rfl,_,_,rfl,rfl,d,lc,ln,far,e,xs',ws,ts,nn,pN,?_,hd',by lia,g1'.seqL hlcd hlc,hts.mono fun _ _=>g1'.seqT hdk,hcl,ht16,hlcd,g1'.seqL hlnd hln,hn5,hnn,hlnd,by lia,by lia,fun v5 H5 t5 xs5 g5 hd5 hx5 hv5 ht5 hl5=>?_⟩
    ·have e1:(dp:Int) - 1=(e:Int):=by lia
     show _=[V.ref d,.ref lc,.ref ln,.int far,.int (e:Int)]
     rw [← e1];rfl
    have hya5:=g5 _ _ had hya
    have hdk':Dk H' d:=⟨xs',hd'⟩
    refine Qp (ys:=ys) hi hya5 (7:) ⟨ps ++ [t5],xs5,Qb,(g.trans g5).put hacc,by rw [Qi (Ne.symm had)];exact hd5,by lia,?_,by simp [hpl],fun t ht=>?_⟩
    ·exact TmAll.append (hps.mono fun _ _ h=>(g5.seqT hdk' h).put hya5) (.cons (hv5.mono fun _ _ h=>h.put hya5) .nil)
    ·rcases List.mem_append.mp ht with z | z
     ·exact hok t z
     ·obtain rfl:t=t5:=by simpa using z
      exact ⟨ht5,by lia⟩
   rintro ys H' ⟨ps,xs',hya,g,hd',hx',hps,hpl,hok⟩
   have hc3:(x / 560 % (2 * (dp:Int))).toNat≤2 * dp - 1:=by lia
   have hmul:(x / 560 % (2 * (dp:Int))).toNat * Yx e≤(2 * dp - 1) * Yx e:=Nat.mul_le_mul_right _ hc3
   exact ⟨acc,ys,ps,xs',rfl,g,hd',by lia,hya,hps,by lia,hok⟩
  ·exact ⟨lp,[],[],xs1,rfl,SameD.refl _ _,hd4,by lia,hlp4,.nil,by simp,fun t ht=>(nomatch ht)⟩
 rintro σ' H5 ⟨l,us,ps,xs',rfl,g5,hd5,hx5,hl5,hps,hp3,hok⟩
 have hlen:=hps.length
 have g15:SameD d H H5:=g14.trans g5
 have hln5:=g15.seqL hlnd hln
 have y0:0≤x / 2240 % 2:=Int.emod_nonneg _ (28:)
 have y1:x / 2240 % 2 < 2:=Int.emod_lt_of_pos _ (28:)
 have hni:(3 + x / 2240 % 2).toNat < nn.length:=by lia
 have hat:atI (nn.map V.str) (3 + x / 2240 % 2)=some (.str nn[(3 + x / 2240 % 2).toNat]):=WG (7:) (by rw [List.getElem?_map,List.getElem?_eq_getElem hni];rfl)
 refine ⟨_,rfl,_,rfl,_,_,rfl,rfl,(22:),_,_,rfl,rfl,(by show (0:Int) < 2;decide),_,_,rfl,rfl,ln,_,_,_,rfl,rfl,hln5,hat,_,rfl,_,_,rfl,rfl,(22:),_,_,rfl,rfl,(by show (0:Int) < 4;decide),rfl,_,rfl,_,rfl,l,us,rfl,.inl ⟨SqL.of hl5,fun pt hpt=>⟨(by show 5≤sizeLine;decide),fun pp hpp=>?_⟩⟩⟩
 have ga:=Qe hpt (.tup us)
 have gb:=Qe hpp (.tup [.str PUT,.str nn[(3 + x / 2240 % 2).toNat],.bl (decide (V.int (x / 4480 % 4)=V.int 0)),.int add,.ref pt])
 have gab:=ga.trans gb
 refine q (.ref pp) _ (.node (.put nn[(3 + x / 2240 % 2).toNat] (decide (V.int (x / 4480 % 4)=V.int 0)) add) 0 ps) xs' (g15.trans (SameD.of gab)) (gab _ _ hd5) (7:) (.put (42:) (gb.seqT (42:)) (hps.mono fun _ _=>gab.seqT) (7:)) ?_ ?_
 ·simp only [TPr]
  exact ⟨hnn _ (List.getElem_mem hni),hp3,(Ye _ ps).mpr fun b hb=>(hok b hb).1⟩
 ·simp only [lv]
  have:=Wb fun b hb=>(hok b hb).2
  lia
theorem Vf {k:Nat}:FnOk P w K mg base CX0 k f fd ["_law_xs", "_law_calls_here", "_law_names_here", "_law_far", "_law_deep"] (Z8 K 0):=by
 have no:∀ vs H Q E,¬ Z8 K 0 vs H Q E:=fun vs H Q E h=>by
  obtain ⟨d,lc,ln,far,dp,xs,ws,ts,nn,pN,_,_,_,_,_,_,_,_,_,_,_,_,h0,_⟩:=h
  lia
 exact (5:)
theorem Xi (F:Fun K "_law_term" "_law_term" J2 f fd) (G:Gm mg) (hb:Binds K fd ["_law_xs", "_law_calls_here", "_law_names_here", "_law_far", "_law_deep"] []) (hm:mg "_law_term" = some (.ref f)):∀ n:Nat,FnOk P w K mg base CX0 (n + 1) f fd ["_law_xs", "_law_calls_here", "_law_names_here", "_law_far", "_law_deep"] (Z8 K n)
 | 0=>Vf
 | n + 1=>LD F G ⟨f,fd,Xi F G hb hm n,hb,F.kp,hm⟩
end
end K52
namespace K52
open K51
open PySem L2 TM TT ST K9 K11
theorem tm_op {K:PySem.W.Frag} {H:Hp} {v:V} {t:Tm} (h:TmV K H v t):(∃ a m b,v=.ref a∧t=.node (.call m b) 0 []∧SqT K H a [.str ZQ,.int m,.int b]) ∨
 ∃ a b vs n k ad ts,v=.ref a∧t=.node (.put n k ad) 0 ts∧SqT K H a [.str PUT,.str n,.bl k,.int ad,.ref b]∧SqT K H b vs∧TmAll K H vs ts∧vs.length≤1000:=by
 cases h with
 | call h=>exact .inl ⟨_,_,_,rfl,rfl,h⟩
 | put h1 h2 h3 h4=>exact .inr ⟨_,_,_,_,_,_,_,rfl,rfl,h1,h2,h3,h4⟩
section
variable {P:Program} {w:World} {K:PySem.W.Frag} {mg:Str→Option Value} {base:Heap} {f:Addr} {fd:FuncData}
theorem Oy:FnScope ["_law_term_here"] ["_law_term_here"] (defScope GB):=(1:)
theorem Np {n:Nat} (F:Fun K "_law_unkept" "_law_unkept" GB f fd) (G:Gm mg) (R:Fn P w K mg base n "_law_unkept" ["_law_term_here"] (YY K n)):FnOk P w K mg base CX0 (n + 1) f fd ["_law_term_here"] (YY K (n + 1)):=by
 refine F.ok Oy (10:) (4:)
 ·obtain ⟨v,t,p,rfl,_⟩:=h
  rfl
 obtain ⟨v,t,pp0,rfl,ht,htd,hlv,q⟩:=h
 refine ⟨_,(Qf (QN (Qx Q2 (3:) QX (QA _)) (Qj (Qs (pv 0))) QB)
  (Qj (Qs (Qy (Qa (QX) (Qa (3:) (Qa (Z3) (Qa (3:) (Qa (QO QS rfl G.tup PyProof.Rows.boot_tuple (Qa (Qw (33:) rfl (Zu (3:)) (Zb (33:)) (18:) (fun _ _ _ _=>Qn R hr (Qa (pv 0) Qc) (9:))) Qc)) Qc))))))))),?_⟩
 have ePC:¬ V.str PUT=V.str ZQ:=by decide +kernel
 rcases tm_op ht with ⟨a,m,b,rfl,rfl,h1⟩ | ⟨a,b,bs,nm,k,ad,ts,rfl,rfl,h1,h2,h3,h4⟩
 ·exact ⟨_,rfl,a,_,0,_,rfl,rfl,h1,rfl,rfl,_,rfl,JB rfl ⟨_,rfl,q _ H _ (Same.refl _) ht htd (9:) (by simp [kp,kpl,kps])⟩⟩
 refine ⟨_,rfl,a,_,0,_,rfl,rfl,h1,rfl,rfl,_,rfl,JX ePC ?_⟩
 have l3:=h3.length
 simp only [TPr] at htd
 simp only [lv] at hlv q
 refine ⟨_,rfl,a,_,1,_,rfl,rfl,h1,rfl,_,rfl,a,_,3,_,rfl,rfl,h1,rfl,_,rfl,a,_,4,_,rfl,rfl,h1,rfl,b,rfl,⟨_,h2⟩,fun acc hacc=>?_⟩
 refine ZJ (K:=K) (xs:=bs) (cs:=[]) (tt:=fun _ H Q=>Q true H) (te:=Zz (YY K n) [] E0 (QL (Q6 0) ZR)) (fun i ys H'=>∃ us:List Tm,H' acc=some (.lst ys)∧Same H H'∧TmAll K H' ys us∧us.length=i∧∀ u ∈ us,TPr pp0 u∧lv u≤lvs ts∧kp u=false)
  ⟨[],Qb,Qe hacc _,.nil,rfl,fun t ht=>(nomatch ht)⟩ ?_ ?_ ?_
 ·rintro i ys H' _ ⟨us,_,g,_⟩
  exact g.seqT h2
 ·rintro i x ys H' hi hx ⟨us,hya,g,hus,hul,hok⟩
  have hit:i < ts.length:=by lia
  have hlen:=hus.length
  obtain ⟨cv,hcv,hct⟩:=h3.get (List.getElem?_eq_getElem hit)
  obtain rfl:cv=x:=Option.some.inj (hcv.symm.trans hx)
  have hm:=List.getElem_mem hit
  have a1:=ZI hm
  refine QH ⟨_,rfl,cv,ts[i],pp0,rfl,hct.mono fun _ _=>g.seqT,(Ye _ ts).mp htd.2.2 _ hm,by lia,fun v4 H4 t4 g4 hv4 ht4 hl4 hk4=>?_⟩
  have hya4:=g4 _ _ hya
  refine Qp (ys:=ys) hi hya4 (7:) ⟨us ++ [t4],Qb,fun x u e=>by rw [Qi (Qg e hacc)];exact g4 _ _ (g _ _ e),?_,by simp [hul],fun u hu=>?_⟩
  ·exact TmAll.append (hus.mono fun _ _ h=>(g4.seqT h).put hya4) (.cons (hv4.mono fun _ _ h=>h.put hya4) .nil)
  ·rcases List.mem_append.mp hu with z | z
   ·exact hok u z
   ·have:u=t4:=by simpa using z
    rw [this];exact ⟨ht4,by lia,hk4⟩
 rintro ys H4 ⟨us,hya,g4,hus,hul,hok⟩
 have hlen:=hus.length
 refine ⟨acc,ys,rfl,.inl ⟨SqL.of hya,fun pt hpt=>⟨(by show 5≤sizeLine;decide),fun pp hpp=>?_⟩⟩⟩
 have ga:=Qe hpt (.tup ys)
 have gb:=Qe hpp (.tup [.str PUT,.str nm,.bl false,.int ad,.ref pt])
 have gab:=ga.trans gb
 refine q (.ref pp) _ (.node (.put nm false ad) 0 us) (g4.trans gab) (.put (42:) (gb.seqT (42:)) (hus.mono fun _ _=>gab.seqT) (7:)) ?_ ?_ ?_
 ·simp only [TPr]
  exact ⟨htd.1,by lia,(Ye _ us).mpr fun b hb=>(hok b hb).1⟩
 ·simp only [lv]
  have:=Wb fun b hb=>(hok b hb).2.1
  lia
 ·simp only [kp,kpl,Bool.false_or]
  rw [JD]
  cases e:(us.map kp).any id with
  | false=>rfl
  | true =>
   rw [List.any_map,List.any_eq_true] at e
   obtain ⟨u,hu,e2⟩:=e
   have e3:kp u=true:=e2
   rw [(hok u hu).2.2] at e3;cases e3
theorem VA {k:Nat}:FnOk P w K mg base CX0 k f fd ["_law_term_here"] (YY K 0):=by
 have no:∀ vs H Q E,¬ YY K 0 vs H Q E:=fun vs H Q E h=>by
  obtain ⟨v,t,p,_,_,_,h0,_⟩:=h
  rw [Zg] at h0;lia
 exact (5:)
theorem WE (F:Fun K "_law_unkept" "_law_unkept" GB f fd) (G:Gm mg) (hb:Binds K fd ["_law_term_here"] []) (hm:mg "_law_unkept" = some (.ref f)):∀ n:Nat,FnOk P w K mg base CX0 n f fd ["_law_term_here"] (YY K n)
 | 0=>VA
 | n + 1=>Np F G ⟨f,fd,WE F G hb hm n,hb,F.kp,hm⟩
end
def Jt (K:PySem.W.Frag):Sp:=fun vs H Q _=>∃ (tu wd lm:Addr) (sv:V) (ks:List KdT) (st:Tm) (ms:List MdT),vs=[.ref tu]∧TurnD K H tu wd lm sv ks st ms∧WoodOk ks∧ms.length≤10 ∧
 ∀ (tu' wd' lm':Addr) (hs:List KdT) (ms':List MdT) (H':Hp),Same H H'→TurnD K H' tu' wd' lm' sv hs st ms'→hs.map Js=ks.map Js→ms'.map MdT.md=ms.map MdT.md→Q (.ref tu') H'
abbrev YN (K:PySem.W.Frag):List V→Hp→VK→Prop:=fun xs H Q=>∃ p ys,xs=[.ref p]∧(SqL K H p ys∨SqT K H p ys)∧∀ l,H l=none→Q (.ref l) (upd H l (.lst ys))
section
variable {P:Program} {w:World} {K:PySem.W.Frag} {mg:Str→Option Value} {base:Heap} {f:Addr} {fd:FuncData}
theorem X6:FnScope ["_law_turning_here", "_law_wood_here"] ["_law_turning_here"] (defScope XO):=(1:)
theorem Gp (F:Fun K "_law_again" "_law_again" XO f fd) (G:Gm mg):FnOk P w K mg base CX0 1 f fd ["_law_turning_here"] (Jt K):=by
 refine F.ok X6 (10:) (4:)
 ·obtain ⟨tu,wd,lm,sv,ks,st,ms,rfl,_⟩:=h
  rfl
 obtain ⟨tu,wd,lm,sv,ks,st,ms,rfl,hT,hO,hm10,q⟩:=h
 refine ⟨_,(Qf (Zw (i:=1) (CompG.many (xs:=["_law_kind", "_law_rows_here"]) (caps:=[]) (cap:=[]) (cs:=[]) rfl rfl (0:) (0:) (0:) (0:) (0:) (0:) rfl rfl rfl) rfl (QJ (3:)) (ZB (CompG.many (xs:=["_law_kind", "_law_rows_here"]) (caps:=[]) (cap:=[]) (cs:=[]) rfl rfl (0:) (0:) (0:) (0:) (0:) (0:) rfl rfl rfl) rfl) (18:) (fun _ _ _ _=>(Qy (Qa (pv 0) (Qa (QO (r:=YN K) Zx rfl G.lst PyProof.Rows.boot_list (47:)) Qc)))) X6.nd rfl rfl)
  (Qj (Qs (Qy (Qa (pv 1) (Qa (3:) (Qa (Qw (25:) rfl (QJ (3:)) (ZB (25:) rfl) (18:) (fun _ _ _ _=>(Qy (Qa (pv 0) (Qa (QO (r:=YN K) Zx rfl G.lst PyProof.Rows.boot_list (47:)) Qc))))) Qc))))))),?_⟩
 refine ⟨_,rfl,tu,_,0,_,rfl,rfl,hT.tu,rfl,wd,rfl,⟨_,hT.w.1⟩,fun lx hlx=>?_⟩
 refine Zc (K:=K) (xs:=ks.map fun k=>V.ref k.1) (cs:=[]) (tt:=fun _ H Q=>Q true H) (te:=Lc (QL (Q6 0) (QL (tCB (YN K) (QL (Q6 1) ZR)) ZR))) (fun j ys H'=>∃ hs:List KdT,ys=hs.map (fun k=>V.ref k.1)∧hs.map Js=(ks.take j).map Js∧(∀ k ∈ hs,SqT K H' k.1 [.str k.2.1,.ref k.2.2.1]∧(H' k.2.2.1=some (.lst (k.2.2.2.map fun t=>V.ref t.1))∧k.2.2.1≠lx)∧∀ t ∈ k.2.2.2,RowAt K H' t)∧H' lx=some (.lst ys)∧Same H H')
  ⟨[],rfl,rfl,fun k hk=>(nomatch hk),Qb,Qe hlx _⟩ ?_ ?_ ?_
 ·rintro j ys H' _ ⟨hs,_,_,_,_,g⟩
  exact (hT.w.same g).1
 ·rintro j x ys H' hj hx ⟨hs,rfl,hkey,hat,hya,g⟩
  have hjk:j < ks.length:=by simpa using hj
  obtain rfl:x=.ref ks[j].1:=by
   rw [List.getElem?_map,List.getElem?_eq_getElem hjk] at hx
   exact (54:).symm
  obtain ⟨hk1,hkr⟩:=(hT.w.same g).2 _ (List.getElem_mem hjk)
  have hhl:hs.length=j:=by
   have:=congrArg List.length hkey
   rw [List.length_map,List.length_map,List.length_take] at this
   lia
  have hkl:=hO.len
  refine ⟨ks[j].1,_,_,rfl,hk1,QH ⟨_,rfl,_,rfl,ks[j].2.2.1,_,rfl,.inl hkr.1,fun l2 hl2=>⟨(19:),fun p2 hp2=>?_⟩⟩⟩
  have e1:=Qe hl2 (.lst (ks[j].2.2.2.map fun t=>V.ref t.1))
  have e2:=Qe hp2 (.tup [.str ks[j].2.1,.ref l2])
  have e12:=e1.trans e2
  have hya2:=e12 _ _ hya
  have hl2x:l2≠lx:=fun z=>by rw [z,hya] at hl2;cases hl2
  refine Qp (ys:=hs.map fun k=>V.ref k.1) hj hya2 (34:) ⟨hs ++ [(p2,ks[j].2.1,l2,ks[j].2.2.2)],by simp,?_,fun k hk=>?_,Qb,fun x u e=>by rw [Qi (Qg e hlx)];exact e12 _ _ (g _ _ e)⟩
  ·rw [List.map_append,hkey,List.take_add_one,List.getElem?_eq_getElem hjk,List.map_append]
   rfl
  ·rcases List.mem_append.mp hk with z | z
   ·obtain ⟨a1,⟨a2,a3⟩,a4⟩:=hat k z
    exact ⟨(e12.seqT a1).put hya2,⟨by rw [Qi a3];exact e12 _ _ a2,a3⟩,fun t ht=>⟨(e12.seqT (a4 t ht).1).put hya2,(e12.seqT (a4 t ht).2).put hya2⟩⟩
   ·have:k=(p2,ks[j].2.1,l2,ks[j].2.2.2):=by simpa using z
    rw [this]
    refine ⟨SqT.put (42:) hya2,⟨by rw [Qi hl2x];exact e2 _ _ Qb,hl2x⟩,fun t ht=>⟨(e12.seqT (hkr.2 t ht).1).put hya2,(e12.seqT (hkr.2 t ht).2).put hya2⟩⟩
 rintro ys H1 ⟨hs,rfl,hkey,hat,hya,g1⟩
 rw [List.length_map,List.take_length] at hkey
 have hWH:WoodAt K H1 lx hs:=⟨SqL.of hya,fun k hk=>by
  obtain ⟨a1,⟨a2,_⟩,a4⟩:=hat k hk
  exact ⟨a1,SqL.of a2,a4⟩⟩
 have hT1:=hT.same g1
 refine ⟨_,rfl,_,rfl,tu,_,1,_,rfl,rfl,hT1.tu,rfl,_,rfl,tu,_,2,_,rfl,rfl,hT1.tu,rfl,lm,rfl,⟨_,hT1.m.1⟩,fun ly hly=>?_⟩
 refine Zc (K:=K) (xs:=ms.map fun k=>V.ref k.1) (cs:=[]) (tt:=fun _ H Q=>Q true H) (te:=Lc (QL (Q6 0) (QL (tCB (YN K) (QL (Q6 1) ZR)) ZR))) (fun j ys H'=>∃ ns:List MdT,ys=ns.map (fun k=>V.ref k.1)∧ns.map MdT.md=(ms.take j).map MdT.md∧(∀ m ∈ ns,SqT K H' m.1 [.str m.2.1,.ref m.2.2.1]∧(H' m.2.2.1=some (.lst m.2.2.2.1)∧m.2.2.1≠ly)∧TmAll K H' m.2.2.2.1 m.2.2.2.2)∧H' ly=some (.lst ys)∧Same H1 H')
  ⟨[],rfl,rfl,fun k hk=>(nomatch hk),Qb,Qe hly _⟩ ?_ ?_ ?_
 ·rintro j ys H' _ ⟨hs,_,_,_,_,g⟩
  exact (hT1.m.same g).1
 ·rintro j x ys H' hj hx ⟨ns,rfl,hkm,hat,hyb,g⟩
  have hjk:j < ms.length:=by simpa using hj
  obtain rfl:x=.ref ms[j].1:=by
   rw [List.getElem?_map,List.getElem?_eq_getElem hjk] at hx
   exact (54:).symm
  obtain ⟨hk1,hk2,hk3⟩:=(hT1.m.same g).2 _ (List.getElem_mem hjk)
  have hhl:ns.length=j:=by
   have:=congrArg List.length hkm
   rw [List.length_map,List.length_map,List.length_take] at this
   lia
  refine ⟨ms[j].1,_,_,rfl,hk1,QH ⟨_,rfl,_,rfl,ms[j].2.2.1,_,rfl,.inl hk2,fun l2 hl2=>⟨(19:),fun p2 hp2=>?_⟩⟩⟩
  have e1:=Qe hl2 (.lst ms[j].2.2.2.1)
  have e2:=Qe hp2 (.tup [.str ms[j].2.1,.ref l2])
  have e12:=e1.trans e2
  have hyb2:=e12 _ _ hyb
  have hl2x:l2≠ly:=fun z=>by rw [z,hyb] at hl2;cases hl2
  refine Qp (ys:=ns.map fun k=>V.ref k.1) hj hyb2 (34:) ⟨ns ++ [(p2,ms[j].2.1,l2,ms[j].2.2.2.1,ms[j].2.2.2.2)],by simp,?_,fun k hk=>?_,Qb,fun x u e=>by rw [Qi (Qg e hly)];exact e12 _ _ (g _ _ e)⟩
  ·rw [List.map_append,hkm,List.take_add_one,List.getElem?_eq_getElem hjk,List.map_append]
   rfl
  ·rcases List.mem_append.mp hk with z | z
   ·obtain ⟨a1,⟨a2,a3⟩,a4⟩:=hat k z
    exact ⟨(e12.seqT a1).put hyb2,⟨by rw [Qi a3];exact e12 _ _ a2,a3⟩,a4.mono fun _ _ h=>(e12.seqT h).put hyb2⟩
   ·have:k=(p2,ms[j].2.1,l2,ms[j].2.2.2.1,ms[j].2.2.2.2):=by simpa using z
    rw [this]
    exact ⟨SqT.put (42:) hyb2,⟨by rw [Qi hl2x];exact e2 _ _ Qb,hl2x⟩,hk3.mono fun _ _ h=>(e12.seqT h).put hyb2⟩
 rintro ys H2 ⟨ns,rfl,hkm,hat2,hyb,g2⟩
 rw [List.length_map,List.take_length] at hkm
 refine ⟨(30:),fun p hp=>?_⟩
 have k3:=Qe hp (.tup [.ref lx,sv,.ref ly])
 have g23:=g2.trans k3
 exact q p lx ly hs ns _ (g1.trans g23) ⟨SqT.of Qb,hWH.same g23,hT1.s.mono fun _ _=>g23.seqT,⟨SqL.of (k3 _ _ hyb),fun m hm=>by
  obtain ⟨a1,⟨a2,_⟩,a4⟩:=hat2 m hm
  exact ⟨k3.seqT a1,SqL.of (k3 _ _ a2),a4.mono fun _ _=>k3.seqT⟩⟩⟩ hkey hkm
end
end K52
namespace K52
open K51
open PySem L2 TM TT ST K9 K11
def OF (t:TE):TE:=fun σ H Q=>∃ R:VK,t σ H R∧∀ v H',R v H'→Q v H'
theorem MX {X:Cx} {e:Expr} {t:TE} (h:PE X e t):PE X e (OF t):=by
 intro pins s σ H Q I hw
 obtain ⟨R,k1,k2⟩:=hw
 exact thn (h pins s σ H R I k1) fun u s1 ⟨x,H1,I1,r1,q1⟩=>⟨x,H1,I1,r1,k2 x H1 q1⟩
abbrev Me (K:PySem.W.Frag):List V→Hp→VK→Prop:=fun xs H Q=>∃ p ys,xs=[.ref p]∧(SqL K H p ys∨SqT K H p ys)∧Q (.int (ys.length:Int)) H
def Kx (kn:List Str) (rs:List PNx):Prop:=(∀ r ∈ rs,∀ x ∈ r.2.2.2,x ∈ kn)∧∃ r ∈ rs,r.2.2.2=[]
abbrev OkN (kn:List Str) (x:Str):Prop:=PyData.strOk x=true∧x ∈ kn
structure WD (ks:List KdT):Prop where
 ok:WoodOk ks
 pos:0 < ks.length
 three:ks.length≤3
 nm:∀ k ∈ ks,PyData.strOk k.2.1=true
 rws:∀ k ∈ ks,0 < k.2.2.2.length∧k.2.2.2.length≤3
 kx:∀ k ∈ ks,Kx (ks.map fun k=>k.2.1) k.2.2.2
def XX (K:PySem.W.Frag):Sp:=fun vs H Q _=>∃ (a:Addr) (ns:List Int),vs=[.ref a]∧SqL K H a (ns.map V.int)∧∀ (wd:Addr) (ks:List KdT) (H':Hp),Same H H'→WoodAt K H' wd ks→WD ks→Q (.ref wd) H'
def Pb (K:PySem.W.Frag) (H:Hp) (d lw:Addr) (k:KdT):Prop:=SqT K H k.1 [.str k.2.1,.ref k.2.2.1]∧H k.2.2.1=some (.lst (k.2.2.2.map fun t=>V.ref t.1))∧k.2.2.1≠d∧k.2.2.1≠lw∧∀ t ∈ k.2.2.2,RowAt K H t
def rix (first:Int) (q:Nat):Int:=match q with
 | 0=>3 + first
 | q + 1=>3 + (first + (q:Int)+1) % 6
theorem XA {first:Int} (h0:0≤first) (h1:first < 6) (q:Nat):0≤rix first q∧rix first q < 9:=by
 cases q with
 | zero=>simp only [rix];lia
 | succ q=>simp only [rix];lia
theorem Ll {first:Int} (h0:0≤first) (h1:first < 6) {p q:Nat} (hp:p < 3) (hq:q < 3) (e:rix first p=rix first q):p=q:=by
 match p,q,hp,hq with
 | 0,0,_,_=>rfl
 | 0,1,_,_=>simp only [rix] at e;lia
 | 0,2,_,_=>simp only [rix] at e;lia
 | 1,0,_,_=>simp only [rix] at e;lia
 | 1,1,_,_=>rfl
 | 1,2,_,_=>simp only [rix] at e;lia
 | 2,0,_,_=>simp only [rix] at e;lia
 | 2,1,_,_=>simp only [rix] at e;lia
 | 2,2,_,_=>rfl
def Gj (c first:Int) (kn:List Str) (rs:List PNx):Prop:=rs.map (fun r=>r.2.1)=(List.range rs.length).map (fun (q:Nat)=>pn c (rix first q))∧(∀ r ∈ rs,(∀ x ∈ r.2.2.2,OkN kn x)∧r.2.2.2.length≤3)∧∃ r ∈ rs,r.2.2.2=[]
theorem JQ {c first:Int} {kn:List Str} {rs out:List PNx} (h:Gj c first kn rs) (h0:0≤first) (h1:first < 6) (hl:rs.length≤3) (hp:out.Perm rs):RowsOk out:=by
 have nd:(rs.map fun r=>r.2.1).Nodup:=by
  rw [h.1,List.nodup_iff_pairwise_ne,List.pairwise_map]
  refine List.Pairwise.imp_of_mem (fun {i j} hi hj hne e=>hne ?_) (List.nodup_iff_pairwise_ne.mp List.nodup_range)
  have hi':=List.mem_range.mp hi
  have hj':=List.mem_range.mp hj
  have a:=XA h0 h1 i
  have b:=XA h0 h1 j
  exact Ll h0 h1 (7:) (7:) (Vk a.1 (7:) b.1 (7:) e)
 have hlen:=hp.length_eq
 refine ⟨(hp.map _).nodup_iff.mpr nd,by lia,fun r hr=>?_,fun r hr x hx=>((h.2.1 r (hp.mem_iff.mp hr)).1 x hx).1,fun r hr=>Nat.le_trans (h.2.1 r (hp.mem_iff.mp hr)).2 (28:)⟩
 have:r.2.1 ∈ rs.map fun r=>r.2.1:=List.mem_map.mpr ⟨r,hp.mem_iff.mp hr,rfl⟩
 rw [h.1] at this
 obtain ⟨q,_,e⟩:=List.mem_map.mp this
 rw [← e];exact Xa _ _
theorem GS {c first:Int} {kn:List Str} {rs out:List PNx} (h:Gj c first kn rs) (hp:out.Perm rs):Kx kn out:=⟨fun r hr x hx=>((h.2.1 r (hp.mem_iff.mp hr)).1 x hx).2,by obtain ⟨r,h1,h2⟩:=h.2.2;exact ⟨r,hp.mem_iff.mpr h1,h2⟩⟩
theorem Xk (xs:List Int):(NI xs).dropLast=NI xs.dropLast:=by
 show (xs.map V.int).dropLast=xs.dropLast.map V.int
 rw [List.map_dropLast]
theorem Ga {c first:Int} (h0:0≤first) (h1:first < 6) (q:Nat):atI ((pns c 9).map V.str) (rix first q)=some (.str (pn c (rix first q))):=by
 obtain ⟨a,b⟩:=XA h0 h1 q
 have e:((rix first q).toNat:Int)=rix first q:=by lia
 refine WG a ?_
 rw [List.getElem?_map,List.getElem?_map,List.getElem?_range (7:)]
 show some (V.str (pn c (((rix first q).toNat:Nat):Int)))=_
 rw [e]
theorem asG {G0:Prop} (h:∀ G:Prop,(G0→G)→G):G0:=h G0 fun z=>z
theorem Za {t:TS} {nx:L2.St→Hp→Prop} {rt:VK} {bk ct:L2.St→Hp→Prop} {σ:L2.St} {H:Hp} (h:∀ K:L2.St→Hp→Prop,(∀ σ' H',nx σ' H'→K σ' H')→t ⟨K,rt,bk,ct⟩ σ H):M9 t ⟨nx,rt,bk,ct⟩ σ H:=⟨nx,h nx (fun _ _ z=>z),fun _ _ z=>z⟩
theorem WY {t:TS} {nx:L2.St→Hp→Prop} {rt:VK} {bk ct:L2.St→Hp→Prop} {σ:L2.St} {H:Hp} (R:L2.St→Hp→Prop) (h:t ⟨R,rt,bk,ct⟩ σ H) (k:∀ σ' H',R σ' H'→nx σ' H'):M9 t ⟨nx,rt,bk,ct⟩ σ H:=⟨R,h,k⟩
section
variable {P:Program} {w:World} {K:PySem.W.Frag} {mg:Str→Option Value} {base:Heap} {f:Addr} {fd:FuncData}
theorem Zy:FnScope ["_law_script", "_law_names_here", "_law_xs", "_law_kinds", "_law_wood_here", "_law_kind", "_law_first", "_law_rows_here", "_law_k", "_law_branches", "_law_j"] ["_law_script"] (defScope V5):=(1:)
theorem LI (F:Fun K "_law_wood" "_law_wood" V5 f fd) (G:Gm mg) (RC:Fn P w K mg base 1 "_law_cell_at" ["_law_script", "_law_k"] (YO K)) (RS:Fn P w K mg base 1 "_law_stream" ["_law_cell", "_law_count"] ZV) (RN:Fn P w K mg base 1 "_law_names" ["_law_cell", "_law_count"] YG):FnOk P w K mg base CX0 2 f fd ["_law_script"] (XX K):=by
 refine F.ok Zy (10:) (4:)
 ·obtain ⟨a,ns,rfl,_⟩:=h
  rfl
 obtain ⟨a,ns,rfl,hS,q⟩:=h
 refine ⟨_,(Qf (Qz (Qr (i:=1) Zy.nd rfl (13:) (Qn RN hr (31:))))
  (Qf (Qz (Qr (i:=2) Zy.nd rfl (13:) (Qn RS hr (31:))))
  (Qf (Qz (Qr (i:=3) Zy.nd rfl (13:) (UN Jp (pv 1) Ji (Jo (Ql QR Qd (Ql Qv (Qh Qo (pv 2) Qd (26:)) Qd))))))
  (Qf (Qz (Qr (i:=4) Zy.nd rfl (13:) (QM Qc)))
  (Qf (Q5 PassesOwn.never rfl (QJ (pv 3)) (QC (i:=5) Zy.nd rfl (13:)) (Qf (Qz (Qr (i:=6) Zy.nd rfl (13:) (Ql Qv (35:) Qd)))
  (Qf (Qz (Qr (i:=7) Zy.nd rfl (13:) (QM (Qa ((Qy (Qa (Qh Qo (pv 1) (Ql QR Qd (pv 6)) (26:)) (Qa (Qy Qc) Qc)))) Qc))))
  (Qf (Q5 PassesOwn.never rfl (QI rfl G.rng (Qa (MX (Qh Qo (QM (Qa (Qd) (Qa (Qd) (Qa (Qd) (Qa (Qd) Qc))))) (Ql Qv (35:) Qd) (26:))) Qc)) (QC (i:=8) Zy.nd rfl (13:)) (Qf (Qr (i:=9) Zy.nd rfl (13:) (QM Qc))
  (Qf (Q5 PassesOwn.never rfl (QI rfl G.rng (Qa (Ql Qv (35:) Qd) Qc)) (QC (i:=10) Zy.nd rfl (13:)) (Qj (Q8 (Z1 PySem.F.plainAttrs_list PySem.F.slot_list_append PySem.F.type_list_append QU (pv 9) (Qa (Qh Qo (pv 3) (Ql Qv (35:) (44:)) (26:)) Qc)))))
  (Qj (Q8 (Z1 PySem.F.plainAttrs_list PySem.F.slot_list_append PySem.F.type_list_append QU (pv 7) (Qa ((Qy (Qa (Qh Qo (pv 1) (Ql QR Qd (Ql Qv (Ql QR (Ql QR (pv 6) (pv 8)) Qd) Qd)) (26:)) (Qa (QO QS rfl G.tup PyProof.Rows.boot_tuple (Qa (pv 9) Qc)) Qc)))) Qc)))))))
  (Qj (Q8 (Z1 PySem.F.plainAttrs_list PySem.F.slot_list_append PySem.F.type_list_append QU (pv 4) (Qa ((Qy (Qa (pv 5) (Qa (Qq (JO (hr.fit (28:))) rfl G.srt PyProof.Rows.boot_sorted (Qa (pv 7) Qc)) Qc)))) Qc))))))))
  (Qj (Qs (pv 4)))))))),?_⟩
 refine Za fun KK hKK=>?_
 refine ⟨_,rfl,a,ns,0,rfl,hS,_,9,rfl,by decide,fun ln H1 g1 hln0 hln=>?_⟩
 generalize (ns[0]?).getD 0=c at hln ⊢
 refine hKK _ _ ?_
 clear hKK KK
 refine Za fun KK hKK=>?_
 refine ⟨_,rfl,a,ns,1,rfl,g1.seq hS,_,32,rfl,by decide,fun d xs H2 g2 hd0 hd hxl hx0=>?_⟩
 refine hKK _ _ ?_
 clear hKK KK
 refine Za fun KK hKK=>?_
 have hln2:=g2 _ _ hln
 have g12:=g1.trans g2
 have hx00:0 < xs.length:=by lia
 refine asG fun G' hG'=>?_
 obtain ⟨x0,hx0'⟩ : ∃ x0:Int,xs[0]?=some x0:=⟨_,List.getElem?_eq_getElem hx00⟩
 refine hG' ?_
 clear hG' G'
 have hat0:atI (xs.map V.int) 0=some (.int x0):=Qu (j:=0) (by rw [List.getElem?_map,hx0'];rfl)
 refine ⟨_,rfl,_,rfl,d,_,0,_,rfl,rfl,SqL.of hd,hat0,_,_,rfl,rfl,(by show (0:Int) < 3;decide),_,_,rfl,rfl,_,rfl,ln,_,rfl,SqL.of hln2,fun lk hlk=>?_⟩
 have z0:0≤x0 % 3:=Int.emod_nonneg _ (28:)
 have z1:x0 % 3 < 3:=Int.emod_lt_of_pos _ (28:)
 refine asG fun G' hG'=>?_
 obtain ⟨m,hm,m1,m3⟩ : ∃ m:Nat,1 + x0 % 3=(m:Int)∧1≤m∧m≤3:=⟨(1 + x0 % 3).toNat,by lia,by lia,by lia⟩
 refine hG' ?_
 clear hG' G'
 rw [hm,Ma]
 refine asG fun G' hG'=>?_
 obtain ⟨kn,ekn⟩ : ∃ kn,kn=(pns c 9).take m:=⟨_,rfl⟩
 refine hG' ?_
 clear hG' G'
 have ekv:((pns c 9).map V.str).take m=kn.map V.str:=by rw [ekn,List.map_take]
 rw [ekv]
 refine hKK _ _ ?_
 clear hKK KK
 have hkl:kn.length=m:=by rw [ekn,List.length_take,List.length_map,List.length_range];lia
 have hknd:kn.Nodup:=by
  rw [ekn]
  refine List.Nodup.sublist (List.take_sublist _ _) ?_
  rw [List.nodup_iff_pairwise_ne,List.pairwise_map]
  refine List.Pairwise.imp_of_mem (fun {i j} hi hj hne e=>hne ?_) (List.nodup_iff_pairwise_ne.mp List.nodup_range)
  have hi':=List.mem_range.mp hi
  have hj':=List.mem_range.mp hj
  have:=Vk (c:=c) (k:=(i:Int)) (k':=(j:Int)) (7:) (7:) (7:) (7:) e
  lia
 have hkok:∀ x ∈ kn,PyData.strOk x=true:=fun x hx=>by
  rw [ekn] at hx
  obtain ⟨i,_,rfl⟩:=List.mem_map.mp (List.mem_of_mem_take hx)
  exact Xa _ _
 have gk:=Qe hlk (.lst (kn.map V.str))
 refine Za fun KK hKK=>?_
 refine ⟨(20:),fun lw hlw=>?_⟩
 refine hKK _ _ ?_
 clear hKK KK
 have gw:=Qe hlw (.lst [])
 have gkw:=gk.trans gw
 have hlw3:(upd (upd H2 lk (.lst (kn.map V.str))) lw (.lst [])) lw=some (.lst []):=Qb
 have hlk3:=gw _ _ (show (upd H2 lk (.lst (kn.map V.str))) lk=_ from Qb)
 have hd3:=gkw _ _ hd
 have hln3:=gkw _ _ hln2
 have gH3:=g12.trans gkw
 have hdH:H d=none:=g1.free hd0
 have hlwH:H lw=none:=(g12.trans gk).free hlw
 have dln:d≠ln:=fun z=>by rw [z,hln] at hd0;cases hd0
 have dlk:d≠lk:=fun z=>by rw [← z,hd] at hlk;cases hlk
 have dlw:d≠lw:=fun z=>by rw [← z,gk _ _ hd] at hlw;cases hlw
 have lwln:lw≠ln:=fun z=>by rw [z,gk _ _ hln2] at hlw;cases hlw
 have lwlk:lw≠lk:=fun z=>by rw [z,Qb] at hlw;cases hlw
 generalize upd (upd H2 lk (.lst (kn.map V.str))) lw (.lst [])=H3 at hlw3 hlk3 hd3 hln3 gH3 ⊢
 refine ⟨_,rfl,lk,rfl,⟨_,SqL.of hlk3⟩,?_⟩
 refine Yb (K:=K) (xs:=kn.map V.str) (fun i σ H'=>∃ (ks:List KdT) (xs':List Int) (c5 c6 c7 c8 c9 c10:Option V),σ=[some (.ref a),some (.ref ln),some (.ref d),some (.ref lk),some (.ref lw),c5,c6,c7,c8,c9,c10]∧Same H H'∧H' ln=some (.lst ((pns c 9).map V.str))∧H' lk=some (.lst (kn.map V.str))∧H' d=some (.lst (NI xs'))∧32≤xs'.length + 10 * i∧H' lw=some (.lst (ks.map fun k=>V.ref k.1))∧ks.map (fun k=>k.2.1)=kn.take i∧∀ k ∈ ks,Pb K H' d lw k∧RowsOk k.2.2.2∧(0 < k.2.2.2.length∧k.2.2.2.length≤3)∧Kx kn k.2.2.2)
  ⟨[],xs,none,none,none,none,none,none,rfl,gH3,hln3,hlk3,hd3,by lia,hlw3,rfl,fun k hk=>(nomatch hk)⟩ ?_ ?_ ?_
 ·rintro i σ H' _ ⟨_,_,_,_,_,_,_,_,_,_,_,h,_⟩
  exact SqL.of h
 ·intro i x σ H' hx hinv
  refine asG fun G' hG'=>?_
  obtain ⟨ks,xs',c5,c6,c7,c8,c9,c10,rfl,g,hln',hlk',hd',hxl',hlw',hkk,hat⟩:=hinv
  refine hG' ?_
  clear hG' G'
  have hik:i < kn.length:=by have:=(List.getElem?_eq_some_iff.mp hx).1;simpa using this
  obtain rfl:x=.str kn[i]:=by
   rw [List.getElem?_map,List.getElem?_eq_getElem hik] at hx
   exact (54:).symm
  refine asG fun G' hG'=>?_
  obtain ⟨x1,hx1⟩:=ZN (xs:=xs') (7:)
  refine hG' ?_
  clear hG' G'
  refine Za fun KK hKK=>?_
  refine ⟨_,rfl,.inl ⟨rfl,_,SqL.of hd'⟩,d,_,_,rfl,rfl,hd',hx1,_,_,rfl,rfl,(by show (0:Int) < 6;decide),?_⟩
  show QV 6 (V.int (x1 % 6)) _ _ _
  have f0:0≤x1 % 6:=Int.emod_nonneg _ (28:)
  have f1:x1 % 6 < 6:=Int.emod_lt_of_pos _ (28:)
  generalize x1 % 6=first at f0 f1 ⊢
  rw [Xk]
  have ga:SameD d H' (upd H' d (.lst (NI xs'.dropLast))):=fun b u hb e=>by rw [Qi hb];exact e
  have hxa:xs'.dropLast.length + 1=xs'.length:=by rw [List.length_dropLast];lia
  have hda:(upd H' d (.lst (NI xs'.dropLast))) d=some (.lst (NI xs'.dropLast)):=Qb
  have hnone:∀ b,(upd H' d (.lst (NI xs'.dropLast))) b=none→H' b=none:=fun b hb=>by
   by_cases z:b=d
   ·rw [z,Qb] at hb;cases hb
   ·rw [Qi z] at hb;exact hb
  generalize upd H' d (.lst (NI xs'.dropLast))=Ha at ga hda hnone ⊢
  generalize xs'.dropLast=xa at hxa hda
  refine hKK _ _ ?_
  clear hKK KK
  refine Za fun KK hKK=>?_
  have hlna:=ga _ _ (Ne.symm dln) hln'
  refine ⟨_,rfl,_,rfl,_,_,rfl,rfl,ln,_,_,_,rfl,rfl,SqL.of hlna,Ga (c:=c) f0 f1 0,(20:),fun pe hpe=>⟨(19:),fun pr hpr=>⟨(50:),fun lr hlr=>?_⟩⟩⟩
  have e1:=Qe hpe (.tup [])
  have e2:=Qe hpr (.tup [.str (pn c (rix first 0)),.ref pe])
  have e3:=Qe hlr (.lst [.ref pr])
  have e123:=e1.trans (e2.trans e3)
  have hlrb:(upd (upd (upd Ha pe (.tup [])) pr (.tup [.str (pn c (rix first 0)),.ref pe])) lr (.lst [.ref pr])) lr=some (.lst [.ref pr]):=Qb
  have hrow0:RowAt K (upd (upd (upd Ha pe (.tup [])) pr (.tup [.str (pn c (rix first 0)),.ref pe])) lr (.lst [.ref pr])) (pr,pn c (rix first 0),pe,[]):=⟨e3.seqT (42:),(e2.trans e3).seqT (42:)⟩
  have hlrH:H' lr=none:=hnone lr ((e1.trans e2).free hlr)
  have hdb:=e123 _ _ hda
  have hdlr:lr≠d:=fun z=>by rw [z,(e1.trans e2) _ _ hda] at hlr;cases hlr
  have gb:SameD d H' (upd (upd (upd Ha pe (.tup [])) pr (.tup [.str (pn c (rix first 0)),.ref pe])) lr (.lst [.ref pr])):=ga.trans (SameD.of e123)
  generalize upd (upd (upd Ha pe (.tup [])) pr (.tup [.str (pn c (rix first 0)),.ref pe])) lr (.lst [.ref pr])=Hb at hlrb hrow0 hdb gb ⊢
  refine hKK _ _ ?_
  clear hKK KK
  refine ⟨fun v H4=>∃ (cnt:Nat) (xb:List Int),v=.int (cnt:Int)∧cnt≤2∧SameD d Hb H4∧H4 d=some (.lst (NI xb))∧xb.length + 1=xa.length,?_,?_⟩
  ·refine ⟨(by show 4≤sizeLine;decide),fun l4 hl4=>?_⟩
   have e4:=Qe hl4 (.lst [.int 2,.int 1,.int 2,.int 0])
   refine asG fun G' hG'=>?_
   obtain ⟨x2,hx2⟩:=ZN (xs:=xa) (7:)
   refine hG' ?_
   clear hG' G'
   have hd4:=e4 _ _ hdb
   have hl4d:l4≠d:=fun z=>by rw [z,hdb] at hl4;cases hl4
   obtain ⟨y,hy,hyat⟩:=Yj (xs:=[V.int 2,.int 1,.int 2,.int 0]) (k:=4) rfl (by show 0 < 4;decide) x2
   refine ⟨_,rfl,.inl ⟨rfl,_,SqL.of hd4⟩,d,_,_,rfl,rfl,hd4,hx2,_,_,rfl,rfl,(by show (0:Int) < 4;decide),l4,_,_,y,rfl,rfl,SqL.of (by rw [Qi hl4d];exact Qb),hyat,?_⟩
   obtain ⟨cnt,rfl,hc2⟩ : ∃ cnt:Nat,y=.int (cnt:Int)∧cnt≤2:=by
    simp only [List.mem_cons,List.mem_nil_iff,or_false] at hy
    rcases hy with rfl | rfl | rfl | rfl
    ·exact ⟨2,rfl,by decide⟩
    ·exact ⟨1,rfl,by decide⟩
    ·exact ⟨2,rfl,by decide⟩
    ·exact ⟨0,rfl,by decide⟩
   refine ⟨cnt,xa.dropLast,rfl,hc2,fun b u hb e=>?_,?_,by rw [List.length_dropLast];lia⟩
   ·rw [Qi hb];exact e4 _ _ e
   ·rw [Qb,Xk]
  intro v H4 hinv
  refine asG fun G' hG'=>?_
  obtain ⟨cnt,xb,rfl,hc2,g4,hd4,hxb⟩:=hinv
  refine hG' ?_
  clear hG' G'
  refine ⟨_,rfl,(by show -(2 ^ 62:Int)≤(cnt:Int);lia),(by show (cnt:Int) < 2 ^ 62;lia),?_⟩
  have gb4:=gb.trans g4
  have hdkb:Dk Hb d:=⟨xa,hdb⟩
  refine Q3 (lo:=0) (n:=(cnt:Int).toNat) (fun q σ Hk=>∃ (rs:List PNx) (xk:List Int) (c8 c9 c10:Option V),σ=[some (.ref a),some (.ref ln),some (.ref d),some (.ref lk),some (.ref lw),some (.str kn[i]),some (.int first),some (.ref lr),c8,c9,c10]∧SameD d H' Hk∧Hk d=some (.lst (NI xk))∧xs'.length≤xk.length + 2 + 4 * q∧Hk lr=some (.lst (rs.map fun r=>V.ref r.1))∧rs.length=q + 1∧Gj c first kn rs∧∀ r ∈ rs,RowAt K Hk r)
   ⟨[(pr,pn c (rix first 0),pe,[])],xb,_,_,_,rfl,gb4,hd4,by lia,g4 _ _ hdlr hlrb,rfl,⟨rfl,fun r hr=>by
    obtain rfl:r=(pr,pn c (rix first 0),pe,[]):=by simpa using hr
    exact ⟨fun x hx=>(nomatch hx),by simp⟩,_,List.mem_singleton.mpr rfl,rfl⟩,fun r hr=>by
    obtain rfl:r=(pr,pn c (rix first 0),pe,[]):=by simpa using hr
    exact ⟨g4.seqT hdkb hrow0.1,g4.seqT hdkb hrow0.2⟩⟩ ?_ ?_
  ·clear gb4 hd4 g4 hxb xb hdb hrow0 hlrb gb e123 e1 e2 e3 hdkb c5 c6 c7 c8 c9 c10
   intro q σ Hk hq hinv
   refine asG fun G' hG'=>?_
   obtain ⟨rs,xk,c8,c9,c10,rfl,gk',hdk,hxk,hlrk,hrl,hrf,hrat⟩:=hinv
   refine hG' ?_
   clear hG' G'
   rw [Int.toNat_natCast] at hq
   refine ⟨(20:),fun lb hlb=>?_⟩
   have e5:=Qe hlb (.lst [])
   have hd5:=e5 _ _ hdk
   have hlbd:lb≠d:=fun z=>by rw [z,hdk] at hlb;cases hlb
   refine asG fun G' hG'=>?_
   obtain ⟨x3,hx3⟩:=ZN (xs:=xk) (7:)
   refine hG' ?_
   clear hG' G'
   have b0:0≤x3 % 4:=Int.emod_nonneg _ (28:)
   have b1:x3 % 4 < 4:=Int.emod_lt_of_pos _ (28:)
   refine ⟨_,rfl,.inl ⟨rfl,_,SqL.of hd5⟩,d,_,_,rfl,rfl,hd5,hx3,_,_,rfl,rfl,(by show (0:Int) < 4;decide),_,rfl,(by show -(2 ^ 62:Int)≤x3 % 4;lia),(by show x3 % 4 < 2 ^ 62;lia),?_⟩
   have hdkk:Dk Hk d:=⟨xk,hdk⟩
   refine Q3 (lo:=0) (n:=(x3 % 4).toNat) (fun j σ Hj=>∃ (bs:List Str) (xj:List Int) (c10:Option V),σ=[some (.ref a),some (.ref ln),some (.ref d),some (.ref lk),some (.ref lw),some (.str kn[i]),some (.int first),some (.ref lr),some (.int (0 + (q:Int))),some (.ref lb),c10]∧SameD d Hk Hj∧Hj d=some (.lst (NI xj))∧xk.length≤xj.length + 1 + j∧Hj lb=some (.lst (bs.map V.str))∧bs.length=j∧∀ x ∈ bs,OkN kn x)
    ⟨[],xk.dropLast,_,rfl,fun b u hb e=>by rw [Qi hb];exact e5 _ _ e,by rw [Qb,Xk],by rw [List.length_dropLast];lia,by rw [Qi hlbd];exact Qb,rfl,fun x hx=>(nomatch hx)⟩ ?_ ?_
   ·intro j σ Hj hj hinv
    refine asG fun G' hG'=>?_
    obtain ⟨bs,xj,c10,rfl,gj,hdj,hxj,hlbj,hbl,hbok⟩:=hinv
    refine hG' ?_
    clear hG' G'
    have hlkj:Hj lk=some (.lst (kn.map V.str)):=gj _ _ (Ne.symm dlk) (gk' _ _ (Ne.symm dlk) hlk')
    refine asG fun G' hG'=>?_
    obtain ⟨x4,hx4⟩:=ZN (xs:=xj) (7:)
    refine hG' ?_
    clear hG' G'
    have hlk6:(upd Hj d (.lst (NI xj).dropLast)) lk=some (.lst (kn.map V.str)):=by rw [Qi (Ne.symm dlk)];exact hlkj
    obtain ⟨y,hy,hyat⟩:=Yj (xs:=kn.map V.str) (k:=((kn.map V.str).length:Int)) rfl (34:) x4
    obtain ⟨z,hz,rfl⟩:=List.mem_map.mp hy
    refine ⟨_,rfl,.inl ⟨rfl,_,SqL.of hlbj⟩,_,rfl,_,rfl,.inl ⟨rfl,_,SqL.of hdj⟩,d,_,_,rfl,rfl,hdj,hx4,_,rfl,lk,_,rfl,.inl (SqL.of hlk6),_,_,rfl,rfl,(by rw [List.length_map];show (0:Int) < (kn.length:Int);lia),lk,_,_,_,rfl,rfl,SqL.of hlk6,hyat,lb,_,_,rfl,rfl,(by rw [Qi hlbd];exact hlbj),by rw [List.length_map,QZ];lia,?_⟩
    refine ⟨bs ++ [z],xj.dropLast,_,rfl,fun b u hb e=>?_,?_,by rw [List.length_dropLast];lia,?_,by simp [hbl],fun x hx=>?_⟩
    ·rw [Qi (Qg e hlb),Qi hb];exact gj _ _ hb e
    ·rw [Qi (Ne.symm hlbd),Qb,Xk]
    ·rw [Qb,List.map_append];rfl
    ·rcases List.mem_append.mp hx with h | h
     ·exact hbok x h
     ·obtain rfl:x=z:=by simpa using h
      exact ⟨hkok x hz,hz⟩
   ·intro σ Hj hinv
    refine asG fun G' hG'=>?_
    obtain ⟨bs,xj,c10,rfl,gj,hdj,hxj,hlbj,hbl,hbok⟩:=hinv
    refine hG' ?_
    clear hG' G'
    have hdlr':Hj lr=some (.lst (rs.map fun r=>V.ref r.1)):=gj _ _ hdlr hlrk
    have hlnj:Hj ln=some (.lst ((pns c 9).map V.str)):=gj _ _ (Ne.symm dln) (gk' _ _ (Ne.symm dln) hln')
    have hat6:atI ((pns c 9).map V.str) (3 + (first + (0 + (q:Int))+1) % 6)=some (.str (pn c (rix first (q + 1)))):=by
     have:=Ga (c:=c) f0 f1 (q + 1)
     rw [Int.zero_add]
     exact this
    refine ⟨_,rfl,.inl ⟨rfl,_,SqL.of hdlr'⟩,_,rfl,_,rfl,_,rfl,_,_,rfl,rfl,_,_,rfl,rfl,_,_,rfl,rfl,(by show (0:Int) < 6;decide),_,_,rfl,rfl,ln,_,_,_,rfl,rfl,SqL.of hlnj,hat6,_,rfl,lb,_,rfl,.inl ⟨SqL.of hlbj,fun pt hpt=>⟨(19:),fun pq hpq=>?_⟩⟩⟩
    have e7:=Qe hpt (.tup (bs.map V.str))
    have e8:=Qe hpq (.tup [.str (pn c (rix first (q + 1))),.ref pt])
    have e78:=e7.trans e8
    have hlr8:=e78 _ _ hdlr'
    refine ⟨lr,_,_,rfl,rfl,hlr8,by rw [List.length_map,QZ];lia,?_⟩
    have hdkj:Dk Hj d:=⟨xj,hdj⟩
    refine ⟨rs ++ [(pq,pn c (rix first (q + 1)),pt,bs)],xj,_,_,_,rfl,fun b u hb e=>?_,?_,by lia,?_,by simp [hrl],?_,fun r hr=>?_⟩
    ·rw [Qi (Qg e hlrH)];exact e78 _ _ (gj _ _ hb (gk' _ _ hb e))
    ·rw [Qi (Ne.symm hdlr)];exact e78 _ _ hdj
    ·rw [Qb,List.map_append];rfl
    ·refine ⟨?_,fun r hr=>?_,by obtain ⟨r0,h1,h2⟩:=hrf.2.2;exact ⟨r0,List.mem_append_left _ h1,h2⟩⟩
     ·rw [List.map_append,hrf.1,List.length_append,List.length_singleton,List.range_succ,List.map_append,hrl];rfl
     ·rcases List.mem_append.mp hr with h | h
      ·exact hrf.2.1 r h
      ·obtain rfl:r=(pq,pn c (rix first (q + 1)),pt,bs):=by simpa using h
       exact ⟨hbok,by show bs.length≤3;lia⟩
    ·rcases List.mem_append.mp hr with h | h
     ·obtain ⟨r1,r2⟩:=hrat r h
      exact ⟨(e78.seqT (gj.seqT hdkk r1)).put hlr8,(e78.seqT (gj.seqT hdkk r2)).put hlr8⟩
     ·obtain rfl:r=(pq,pn c (rix first (q + 1)),pt,bs):=by simpa using h
      exact ⟨SqT.put (42:) hlr8,SqT.put (e8.seqT (42:)) hlr8⟩
  ·intro σ Hk hinv
   refine asG fun G' hG'=>?_
   obtain ⟨rs,xk,c8,c9,c10,rfl,gk',hdk,hxk,hlrk,hrl,hrf,hrat⟩:=hinv
   refine hG' ?_
   clear hG' G'
   rw [Int.toNat_natCast] at hrl hxk
   have hlwk:=gk' _ _ (Ne.symm dlw) hlw'
   have hr3:rs.length≤3:=by lia
   have ro:=JQ hrf f0 f1 hr3 (List.Perm.refl rs)
   refine ⟨_,rfl,.inl ⟨rfl,_,SqL.of hlwk⟩,_,rfl,_,rfl,lr,rs,rfl,SqL.of hlrk,fun t ht=>⟨(hrat t ht).1,(hrat t ht).2,fun x hx=>((hrf.2.1 t ht).1 x hx).1⟩,ro.nd,by lia,fun out p hperm hsrt hp=>⟨(19:),fun pk hpk=>?_⟩⟩
   have e7:=Qe hp (.lst (out.map fun t=>V.ref t.1))
   have e8:=Qe hpk (.tup [.str kn[i],.ref p])
   have e78:=e7.trans e8
   have hlw8:=e78 _ _ hlwk
   have hkl':=congrArg List.length hkk
   rw [List.length_map,List.length_take] at hkl'
   refine ⟨lw,_,_,rfl,rfl,hlw8,by rw [List.length_map,QZ];lia,?_⟩
   have hpd:p≠d:=fun z=>by rw [z,hdk] at hp;cases hp
   have hpw:p≠lw:=fun z=>by rw [z,hlwk] at hp;cases hp
   have hdkH:Dk H' d:=⟨xs',hd'⟩
   refine ⟨ks ++ [(pk,kn[i],p,out)],xk,_,_,_,_,_,_,rfl,fun b u e=>?_,?_,?_,?_,by lia,?_,?_,fun k hk=>?_⟩
   ·rw [Qi (Qg e hlwH)];exact e78 _ _ (gk' _ _ (Qg e hdH) (g _ _ e))
   ·rw [Qi (Ne.symm lwln)];exact e78 _ _ (gk' _ _ (Ne.symm dln) hln')
   ·rw [Qi (Ne.symm lwlk)];exact e78 _ _ (gk' _ _ (Ne.symm dlk) hlk')
   ·rw [Qi dlw];exact e78 _ _ hdk
   ·rw [Qb,List.map_append];rfl
   ·rw [List.map_append,hkk,List.take_add_one,List.getElem?_eq_getElem hik];rfl
   ·rcases List.mem_append.mp hk with h | h
    ·obtain ⟨⟨a1,a2,a3,a4,a5⟩,a6⟩:=hat k h
     refine ⟨⟨(e78.seqT (gk'.seqT hdkH a1)).put hlw8,?_,a3,a4,fun t ht=>⟨(e78.seqT (gk'.seqT hdkH (a5 t ht).1)).put hlw8,(e78.seqT (gk'.seqT hdkH (a5 t ht).2)).put hlw8⟩⟩,a6⟩
     rw [Qi a4];exact e78 _ _ (gk' _ _ a3 a2)
    ·obtain rfl:k=(pk,kn[i],p,out):=by simpa using h
     have hol:=hperm.length_eq
     refine ⟨⟨SqT.put (42:) hlw8,?_,hpd,hpw,fun t ht=>?_⟩,JQ hrf f0 f1 hr3 hperm,⟨by show 0 < out.length;lia,by show out.length≤3;lia⟩,GS hrf hperm⟩
     ·show (upd _ lw _) p=_
      rw [Qi hpw];exact e8 _ _ Qb
     ·obtain ⟨r1,r2⟩:=hrat t (hperm.mem_iff.mp ht)
      exact ⟨(e78.seqT r1).put hlw8,(e78.seqT r2).put hlw8⟩
 ·intro σ H' hinv
  refine asG fun G' hG'=>?_
  obtain ⟨ks,xs',c5,c6,c7,c8,c9,c10,rfl,g,_,_,_,_,hlw',hkk,hat⟩:=hinv
  refine hG' ?_
  clear hG' G'
  rw [List.length_map,List.take_length] at hkk
  have hkl':=congrArg List.length hkk
  rw [List.length_map] at hkl'
  refine ⟨_,rfl,q lw ks H' g ⟨SqL.of hlw',fun k hk=>?_⟩ ⟨⟨by rw [hkk];exact hknd,by lia,fun k hk=>(hat k hk).2.1⟩,by lia,by lia,fun k hk=>?_,fun k hk=>(hat k hk).2.2.1,fun k hk=>by rw [hkk];exact (hat k hk).2.2.2⟩⟩
  ·obtain ⟨⟨a1,a2,a3,a4,a5⟩,_⟩:=hat k hk
   exact ⟨a1,SqL.of a2,a5⟩
  ·exact hkok _ (by rw [← hkk];exact List.mem_map.mpr ⟨k,hk,rfl⟩)
end
end K52
namespace K52
open K51
open PySem L2 TM TT ST K9 K11
def Fc (kn bs:List Str):Int→Int→Prop:=fun a b=>∃ (k j:Nat) (z:Str),a=(k:Int)∧b=(j:Int)∧kn[k]?=some z∧bs[j]?=some z
theorem Fc.pn {kn bs:List Str} {a b:Int} (h:Fc kn bs a b):Pn kn.length a b:=by
 obtain ⟨k,j,z,rfl,rfl,h1,_⟩:=h
 have:=(List.getElem?_eq_some_iff.mp h1).1
 exact ⟨by lia,by lia⟩
def RF (kn:List Str) (rs:List PNx) (ts:List Tm) (L:Nat):Prop:=(∀ t ∈ ts,TPr (Pn kn.length) t∧lv t≤L)∧∀ (j:Nat) (r:PNx) (t:Tm),rs[j]?=some r→ts[j]?=some t→TPr (Fc kn r.2.2.2) t
theorem RF.nil {kn:List Str} {rs:List PNx} {L:Nat}:RF kn rs [] L:=⟨fun t ht=>(nomatch ht),fun j r t _ h=>(nomatch h)⟩
theorem RF.snoc {kn:List Str} {rs:List PNx} {ts:List Tm} {L i:Nat} {r:PNx} {t:Tm} (h:RF kn rs ts L) (hl:ts.length=i) (hr:rs[i]?=some r) (ht:TPr (Fc kn r.2.2.2) t) (hv:lv t≤L):RF kn rs (ts ++ [t]) L:=by
 refine ⟨fun u hu=>?_,fun j r' u a b=>?_⟩
 ·rcases List.mem_append.mp hu with q | q
  ·exact h.1 u q
  ·rw [List.mem_singleton.mp q];exact ⟨ht.mono fun a b k=>k.pn,hv⟩
 ·by_cases hj:j < ts.length
  ·rw [List.getElem?_append_left hj] at b
   exact h.2 j r' u a b
  ·have hji:j=i:=by
    have:=(List.getElem?_eq_some_iff.mp b).1
    rw [List.length_append] at this
    have h1:[t].length=1:=rfl
    lia
   subst hji
   rw [List.getElem?_append_right (7:),hl,Nat.sub_self] at b
   cases b
   rw [hr] at a
   cases a
   exact ht
structure T51 (ks:List KdT) (st:Tm) (ms:List MdT):Prop where
 pos:0 < ms.length
 three:ms.length≤3
 sc:∀ k0,ks[0]?=some k0→TPr (fun a _=>0≤a∧a < (11:)∧∃ m,ms[a.toNat]?=some m∧m.2.1=k0.2.1) st
 sl:lv st≤3∧kp st=false
 sf:∀ k0,ks[0]?=some k0→TPr (Fc (ms.map fun m=>m.2.1) [k0.2.1]) st
 ft:∀ m ∈ ms,∃ kd ∈ ks,kd.2.1=m.2.1∧∀ (j:Nat) (r:PNx) (t:Tm),kd.2.2.2[j]?=some r→m.2.2.2.2[j]?=some t→TPr (Fc (ms.map fun m=>m.2.1) r.2.2.2) t
 md:∀ m ∈ ms,∃ kd ∈ ks,kd.2.1=m.2.1∧m.2.2.2.2.length=kd.2.2.2.length∧∀ t ∈ m.2.2.2.2,TPr (Pn ms.length) t∧lv t≤4
def Xz (K:PySem.W.Frag):Sp:=fun vs H Q _=>∃ (a:Addr) (ns:List Int) (wd:Addr) (ks:List KdT),vs=[.ref a,.ref wd]∧SqL K H a (ns.map V.int)∧WoodAt K H wd ks∧WD ks ∧
 ∀ (tu lm:Addr) (sv:V) (st:Tm) (ms:List MdT) (H':Hp),Same H H'→TurnD K H' tu wd lm sv ks st ms→T51 ks st ms→Q (.ref tu) H'
def Nl (K:PySem.W.Frag) (H:Hp) (lm:Addr) (m:MdT):Prop:=SqT K H m.1 [.str m.2.1,.ref m.2.2.1]∧H m.2.2.1=some (.lst m.2.2.2.1)∧m.2.2.1≠lm∧TmAll K H m.2.2.2.1 m.2.2.2.2
theorem JK (c:Int) (n:Nat):∀ x ∈ pns c n,PyData.strOk x=true:=fun x hx=>by
 obtain ⟨i,_,rfl⟩:=List.mem_map.mp hx
 exact Xa _ _
theorem Zh {d:Addr} {H H1 H2:Hp} (g:Same H H1) (h:H d=none) (k:SameD d H1 H2):Same H H2:=fun b u e=>k b u (Qg e h) (g b u e)
section
variable {P:Program} {w:World} {K:PySem.W.Frag} {mg:Str→Option Value} {base:Heap} {f:Addr} {fd:FuncData}
theorem Zd:FnScope ["_law_script", "_law_wood_here", "_law_names_here", "_law_xs", "_law_far", "_law_kinds", "_law_modes", "_law_k", "_law_rules", "_law_name", "_law_branches", "_law_ys", "_law_leaf", "_law_start"] ["_law_script", "_law_wood_here"] (defScope Gf):=(1:)
theorem LP (F:Fun K "_law_turning" "_law_turning" Gf f fd) (G:Gm mg) (RC:Fn P w K mg base 1 "_law_cell_at" ["_law_script", "_law_k"] (YO K)) (RS:Fn P w K mg base 1 "_law_stream" ["_law_cell", "_law_count"] ZV) (RN:Fn P w K mg base 1 "_law_names" ["_law_cell", "_law_count"] YG)
 (RR:Fn P w K mg base 1 "_law_rows" ["_law_wood_here", "_law_kind"] (Ya K)) (RL:Fn P w K mg base 1 "_law_calls" ["_law_branches", "_law_kinds"] (Uc K)) (RT:Fn P w K mg base 4 "_law_term" ["_law_xs", "_law_calls_here", "_law_names_here", "_law_far", "_law_deep"] (Z8 K 3)) (RU:Fn P w K mg base 4 "_law_unkept" ["_law_term_here"] (YY K 4)):FnOk P w K mg base CX0 5 f fd ["_law_script", "_law_wood_here"] (Xz K):=by
 refine F.ok Zd (10:) (4:)
 ·obtain ⟨a,ns,wd,ks,rfl,_⟩:=h
  rfl
 obtain ⟨a,ns,wd,ks,rfl,hS,hw,hW,q⟩:=h
 refine ⟨_,(Qf (Qz (Qr (i:=2) Zd.nd rfl (Or.inr rfl) (Qn RN hr (31:))))
  (Qf (Qz (Qr (i:=3) Zd.nd rfl (13:) (Qn RS hr (31:))))
  (Qf (Qz (Qr (i:=4) Zd.nd rfl (Or.inr rfl) (Ql Qv (Qn RC hr (Qa (pv 0) (Qa (Qd) Qc))) (Ql JA Qd Qd))))
  (Qf (Qz (Qr (i:=5) Zd.nd rfl (13:) (Ql ZX (QM (Qa (Qh Qk (Qh Qo (pv 1) Qd (26:)) Qd (26:)) Qc)) (Qw (CompG.many (xs:=["_law_x"]) (caps:=["_law_wood_here"]) (cap:=[1]) (cs:=[_]) rfl rfl (0:) (0:) (0:) (0:) (0:) (0:) rfl rfl rfl) rfl (QJ (UN Jp (pv 3) Ji (Jo (Ql Qv (Qh Qo (pv 3) Qd (26:)) Qd)))) (Zb (CompG.many (xs:=["_law_x"]) (caps:=["_law_wood_here"]) (cap:=[1]) (cs:=[_]) rfl rfl (0:) (0:) (0:) (0:) (0:) (0:) rfl rfl rfl)) (18:) (fun _ _ _ _=>Qh (r:=Vh K) Qk (Qh (r:=WN K) Qo (pv 1) (Ql Qv (pv 0) (Qq (r:=Me K) Qm rfl G.len PySem.boot_len (47:))) (26:)) Qd (26:))))))
  (Qf (Qz (Qr (i:=6) Zd.nd rfl (13:) (QM Qc)))
  (Qf (Q5 PassesOwn.never rfl (QI rfl G.rng (Qa (Qq Qm rfl G.len PySem.boot_len (Qa (pv 5) Qc)) Qc)) (QC (i:=7) Zd.nd rfl (13:)) (Qf (Qz (Qr (i:=8) Zd.nd rfl (13:) (QM Qc)))
  (Qf (Q5 PassesOwn.never rfl (QJ (Qn RR hr (Qa (pv 1) (Qa (Qh Qo (pv 5) (pv 7) (26:)) Qc)))) (ZM rfl (QK (QC (i:=9) Zd.nd rfl (13:)) (QK (QC (i:=10) Zd.nd rfl (13:)) Zv))) (Qf (Qr (i:=11) Zd.nd rfl (13:) (Qn RS hr (Qa (Qn RC hr (Qa (pv 0) (Qa (Ql QR (Ql QR Qd (Ql Yd Qd (pv 7))) (Qq Qm rfl G.len PySem.boot_len (Qa (pv 8) Qc))) Qc))) (Qa (Qd) Qc))))
  (Qj (Q8 (Z1 PySem.F.plainAttrs_list PySem.F.slot_list_append PySem.F.type_list_append QU (pv 8) (Qa (Qn RT hr (Qa (pv 11) (Qa (Qn RL hr (Qa (pv 10) (Qa (pv 5) Qc))) (Qa (pv 2) (Qa (pv 4) (Qa (Qd) Qc)))))) Qc))))))
  (Qf (Qz (QN (Qx Q2 (Ql Qv (Qh Qo (pv 3) (Ql QR Qd (pv 7)) (26:)) Qd) Qd (QA _)) (Qf (Qr (i:=12) Zd.nd rfl (Or.inr rfl) (Qy (Qa (QX) (Qa (Qh Qo (pv 2) Qd (26:)) (Qa (Z3) (Qa (Qd) (Qa (Qy Qc) Qc)))))))
  (Qj (Zw (i:=8) (CompG.many (xs:=["_law_rule"]) (caps:=["_law_far", "_law_leaf", "_law_names_here"]) (cap:=[4,12,2]) (cs:=[_,_,_]) rfl rfl (0:) (0:) (0:) (0:) (0:) (0:) rfl rfl rfl) rfl (QJ (pv 8)) (Zb (CompG.many (xs:=["_law_rule"]) (caps:=["_law_far", "_law_leaf", "_law_names_here"]) (cap:=[4,12,2]) (cs:=[_,_,_]) rfl rfl (0:) (0:) (0:) (0:) (0:) (0:) rfl rfl rfl)) (18:) (fun _ _ _ _=>(Qy (Qa (QX) (Qa (Qh (r:=WN K) Qo (pv 3) Qd (26:)) (Qa (Z3) (Qa (pv 1) (Qa ((Qy (Qa (pv 0) (Qa (pv 2) Qc)))) Qc))))))) Zd.nd rfl rfl))) QB))
  (Qj (Q8 (Z1 PySem.F.plainAttrs_list PySem.F.slot_list_append PySem.F.type_list_append QU (pv 6) (Qa ((Qy (Qa (Qh Qo (pv 5) (pv 7) (26:)) (Qa (pv 8) Qc)))) Qc))))))))
  (Qf (Qz (Qr (i:=11) Zd.nd rfl (13:) (Qn RS hr (31:))))
  (Qf (Qz (Qr (i:=13) Zd.nd rfl (13:) (Qn RT hr (Qa (pv 11) (Qa (Qn RL hr (Qa ((Qy (Qa (Qh Qk (Qh Qo (pv 1) Qd (26:)) Qd (26:)) Qc))) (Qa (pv 5) Qc))) (Qa (pv 2) (Qa (pv 4) (Qa (Qd) Qc))))))))
  (Qj (Qs (Qy (Qa (pv 1) (Qa (Qn RU hr (Qa (pv 13) Qc)) (Qa (pv 6) Qc)))))))))))))),?_⟩
 refine Za fun KK hKK=>?_
 refine ⟨_,rfl,a,ns,0,rfl,hS,_,9,rfl,by decide,fun ln H1 g1 _ hln=>?_⟩
 generalize (ns[0]?).getD 0=c at hln ⊢
 refine hKK _ _ ?_
 clear hKK KK
 refine Za fun KK hKK=>?_
 refine ⟨_,rfl,a,ns,2,rfl,g1.seq hS,_,8,rfl,by decide,fun d xs H2 g2 _ hd hxl hx0=>?_⟩
 refine hKK _ _ ?_
 clear hKK KK
 refine Za fun KK hKK=>?_
 have g12:=g1.trans g2
 refine ⟨_,rfl,a,ns,3,rfl,g12.seq hS,_,_,rfl,rfl,⟨by decide,by decide,by decide⟩,_,_,rfl,rfl,(by show (0:Int) < 10 ^ 59;decide),?_⟩
 show QV 4 (V.int ((ns[3]?).getD 0 % 10 ^ 59)) _ _ _
 generalize (ns[3]?).getD 0 % 10 ^ 59=far
 refine hKK _ _ ?_
 clear hKK KK
 refine Za fun KK hKK=>?_
 have kpos:=hW.pos
 have hk0:=List.getElem_mem kpos
 have hw2:=hw.same g12
 have hatw:atI (ks.map fun k=>V.ref k.1) 0=some (.ref ks[0].1):=Qu (j:=0) (by rw [List.getElem?_map,List.getElem?_eq_getElem kpos];rfl)
 refine ⟨_,rfl,wd,_,0,_,rfl,rfl,hw2.1,hatw,ks[0].1,_,0,_,rfl,rfl,(hw2.2 _ hk0).1,rfl,(50:),fun l1 hl1=>?_⟩
 have gl1:=Qe hl1 (.lst [.str ks[0].2.1])
 have hd1:=gl1 _ _ hd
 have h7:7 < xs.length:=by lia
 refine asG fun G' hG'=>?_
 obtain ⟨x7,hx7⟩ : ∃ x7:Int,xs[7]?=some x7:=⟨_,List.getElem?_eq_getElem h7⟩
 refine hG' ?_
 clear hG' G'
 have hat7:atI (xs.map V.int) 7=some (.int x7):=Qu (j:=7) (by rw [List.getElem?_map,hx7];rfl)
 refine ⟨_,rfl,_,rfl,d,_,7,_,rfl,rfl,SqL.of hd1,hat7,_,_,rfl,rfl,(by show (0:Int) < 3;decide),_,rfl,d,_,rfl,SqL.of hd1,fun ls hls=>⟨ls,rfl,⟨_,SqL.of Qb⟩,fun acc hacc=>?_⟩⟩
 have z0:0≤x7 % 3:=Int.emod_nonneg _ (28:)
 have z1:x7 % 3 < 3:=Int.emod_lt_of_pos _ (28:)
 refine asG fun G' hG'=>?_
 obtain ⟨m,hm,m2⟩ : ∃ m:Nat,x7 % 3=(m:Int)∧m≤2:=⟨(x7 % 3).toNat,by lia,by lia⟩
 refine hG' ?_
 clear hG' G'
 have ecut:cutV (xs.map V.int) none (some (x7 % 3))=(xs.take m).map V.int:=by rw [hm,Ma,List.map_take]
 have gls:=Qe hls (.lst (cutV (xs.map V.int) none (some (x7 % 3))))
 have hlsv:(upd (upd H2 l1 (.lst [.str ks[0].2.1])) ls (.lst (cutV (xs.map V.int) none (some (x7 % 3))))) ls=some (.lst ((xs.take m).map V.int)):=by rw [Qb,ecut]
 have g1s:=gl1.trans gls
 generalize upd (upd H2 l1 (.lst [.str ks[0].2.1])) ls (.lst (cutV (xs.map V.int) none (some (x7 % 3))))=Hs at gls hlsv g1s hacc ⊢
 have hl1s:=gls _ _ (show (upd H2 l1 (.lst [.str ks[0].2.1])) l1=_ from Qb)
 have g2s:=g12.trans g1s
 have hws:=hw.same g2s
 refine ZF (K:=K) (xs:=(xs.take m).map V.int) (cs:=[some (.ref wd)]) (tt:=fun _ H Q=>Q true H) (fun i ys H'=>∃ zs:List Str,ys=zs.map V.str∧zs.length=i∧(∀ z ∈ zs,∃ kd ∈ ks,kd.2.1=z)∧H' acc=some (.lst ys)∧Same Hs H')
  ⟨[],rfl,rfl,fun z hz=>(nomatch hz),Qb,Qe hacc _⟩ ?_ ?_ ?_
 ·rintro i ys H' _ ⟨zs,_,_,_,_,g⟩
  exact SqL.of (g _ _ hlsv)
 ·rintro i x ys H' hi hx ⟨zs,rfl,hzl,hz,hya,g⟩
  obtain ⟨n,rfl⟩ : ∃ n:Int,x=.int n:=by
   rw [List.getElem?_map] at hx
   cases e:(xs.take m)[i]? with
   | none=>rw [e] at hx;cases hx
   | some n=>rw [e] at hx;exact ⟨n,(54:).symm⟩
  have hw':=hws.same g
  obtain ⟨y,hy,hyat⟩:=Yj (xs:=ks.map fun k=>V.ref k.1) (k:=((ks.map fun k=>V.ref k.1).length:Int)) rfl (by rw [List.length_map];exact kpos) n
  obtain ⟨kd,hkd,rfl⟩:=List.mem_map.mp hy
  have hi2:i < 3:=by rw [List.length_map,List.length_take] at hi;lia
  refine QH ⟨_,rfl,_,rfl,_,rfl,wd,_,rfl,.inl hw'.1,_,_,rfl,rfl,(by rw [List.length_map];show (0:Int) < (ks.length:Int);lia),wd,_,_,_,rfl,rfl,hw'.1,hyat,kd.1,_,0,_,rfl,rfl,(hw'.2 kd hkd).1,rfl,?_⟩
  refine Qp (ys:=zs.map V.str) hi hya (34:) ⟨zs ++ [kd.2.1],by simp,by simp [hzl],fun z hz'=>?_,Qb,fun b u e=>?_⟩
  ·rcases List.mem_append.mp hz' with h | h
   ·exact hz z h
   ·have h':z=kd.2.1:=by simpa using h
    exact ⟨kd,hkd,h'.symm⟩
  ·rw [Qi (Qg e hacc)];exact g _ _ e
 intro ys H3 hinv
 refine asG fun G' hG'=>?_
 obtain ⟨zs,rfl,hzl,hz,hya,g3⟩:=hinv
 refine hG' ?_
 clear hG' G'
 have hzl2:zs.length≤2:=by rw [List.length_map,List.length_take] at hzl;lia
 refine ⟨l1,acc,_,_,rfl,rfl,SqL.of (g3 _ _ hl1s),SqL.of hya,(by rw [List.length_map,List.length_singleton];exact Zk (7:)),fun lk hlk=>?_⟩
 refine hKK _ _ ?_
 clear hKK KK
 refine Za fun KK hKK=>?_
 refine asG fun G' hG'=>?_
 obtain ⟨kn,ekn⟩ : ∃ kn,kn=ks[0].2.1 :: zs:=⟨_,rfl⟩
 refine hG' ?_
 clear hG' G'
 have ekv:[V.str ks[0].2.1] ++ zs.map V.str=kn.map V.str:=by rw [ekn];rfl
 rw [ekv]
 have hkl3:kn.length≤3:=by rw [ekn,List.length_cons];lia
 have hkl1:0 < kn.length:=by rw [ekn,List.length_cons];lia
 have hkin:∀ z ∈ kn,∃ kd ∈ ks,kd.2.1=z:=fun z hz'=>by
  rw [ekn] at hz'
  rcases List.mem_cons.mp hz' with h | h
  ·exact ⟨ks[0],hk0,h.symm⟩
  ·exact hz z h
 have glk:=Qe hlk (.lst (kn.map V.str))
 have hlkv:(upd H3 lk (.lst (kn.map V.str))) lk=some (.lst (kn.map V.str)):=Qb
 have gH4:Same H (upd H3 lk (.lst (kn.map V.str))):=g2s.trans (g3.trans glk)
 have hln4:=(g2.trans (g1s.trans (g3.trans glk))) _ _ hln
 have hd4:=(g1s.trans (g3.trans glk)) _ _ hd
 generalize upd H3 lk (.lst (kn.map V.str))=H4 at hlkv gH4 hln4 hd4 ⊢
 have hw4:=hw.same gH4
 have hS4:=gH4.seq hS
 refine ⟨(20:),fun lm hlm=>?_⟩
 refine hKK _ _ ?_
 clear hKK KK
 have glm:=Qe hlm (.lst [])
 have hlk5:=glm _ _ hlkv
 have ekl:(kn.map V.str).length=kn.length:=List.length_map ..
 refine ⟨_,rfl,lk,_,rfl,.inl (SqL.of hlk5),?_⟩
 rw [ekl]
 refine ⟨_,rfl,(by show -(2 ^ 62:Int)≤(kn.length:Int);lia),(by show (kn.length:Int) < 2 ^ 62;lia),?_⟩
 refine Q3 (lo:=0) (n:=(kn.length:Int).toNat) (fun k σ H'=>∃ (ms:List MdT) (c7 c8 c9 c10 c11 c12:Option V),σ=[some (.ref a),some (.ref wd),some (.ref ln),some (.ref d),some (.int far),some (.ref lk),some (.ref lm),c7,c8,c9,c10,c11,c12,none]∧Same H4 H'∧H' lm=some (.lst (23:))∧ms.map (fun m=>m.2.1)=kn.take k∧∀ m ∈ ms,Nl K H' lm m∧∃ kd ∈ ks,kd.2.1=m.2.1∧m.2.2.2.2.length=kd.2.2.2.length∧RF kn kd.2.2.2 m.2.2.2.2 4)
  ⟨[],none,none,none,none,none,none,rfl,glm,Qb,rfl,fun m hm=>(nomatch hm)⟩ ?_ ?_
 ·intro k σ H' hk hinv
  refine asG fun G' hG'=>?_
  obtain ⟨ms,c7,c8,c9,c10,c11,c12,rfl,g,hlm',hmk,hmo⟩:=hinv
  refine hG' ?_
  clear hG' G'
  rw [Int.toNat_natCast] at hk
  refine asG fun G' hG'=>?_
  obtain ⟨kd,hkd,ekd⟩:=hkin _ (List.getElem_mem hk)
  refine hG' ?_
  clear hG' G'
  have hatk:atI (kn.map V.str) (0 + (k:Int))=some (.str kd.2.1):=by rw [Int.zero_add];exact Qu (by rw [List.getElem?_map,List.getElem?_eq_getElem hk,ekd];rfl)
  refine Za fun KK hKK=>?_
  refine ⟨(20:),fun lr hlr=>?_⟩
  refine hKK _ _ ?_
  clear hKK KK
  have glr:=Qe hlr (.lst [])
  have gr:=g.trans glr
  refine ⟨_,rfl,_,rfl,_,rfl,lk,_,_,_,rfl,rfl,SqL.of (gr _ _ hlkv),hatk,wd,ks,kd,rfl,hw4.same gr,hW.ok.nd,hkd,kd.2.2.1,rfl,⟨_,(hw4.same gr).2 kd hkd |>.2.1⟩,?_⟩
  have hr3:=(hW.rws kd hkd).2
  have hkb:=(hW.ok.rows kd hkd)
  refine Yb (K:=K) (xs:=kd.2.2.2.map fun t=>V.ref t.1) (fun i σ Hi=>∃ (us:List V) (ts:List Tm) (c9 c10 c11:Option V),σ=[some (.ref a),some (.ref wd),some (.ref ln),some (.ref d),some (.int far),some (.ref lk),some (.ref lm),some (.int (0 + (k:Int))),some (.ref lr),c9,c10,c11,c12,none]∧Same H' Hi∧Hi lr=some (.lst us)∧TmAll K Hi us ts∧ts.length=i∧RF kn kd.2.2.2 ts 3)
   ⟨[],[],_,_,_,rfl,glr,Qb,.nil,rfl,RF.nil⟩ ?_ ?_ ?_
  ·rintro i σ Hi _ ⟨_,_,_,_,_,_,gi,_⟩
   exact ((hw4.same (g.trans gi)).2 kd hkd).2.1
  ·intro i x σ Hi hx hinv
   refine asG fun G' hG'=>?_
   obtain ⟨us,ts,c9,c10,c11,rfl,gi,hlri,hts,htl,hok⟩:=hinv
   refine hG' ?_
   clear hG' G'
   have hir:i < kd.2.2.2.length:=by have:=(List.getElem?_eq_some_iff.mp hx).1;simpa using this
   obtain rfl:x=.ref kd.2.2.2[i].1:=by
    rw [List.getElem?_map,List.getElem?_eq_getElem hir] at hx
    exact (54:).symm
   have g4i:=g.trans gi
   have hra:=((hw4.same g4i).2 kd hkd).2.2 _ (List.getElem_mem hir)
   have hlen:=hts.length
   refine ⟨kd.2.2.2[i].1,_,rfl,hra.1,rfl,_,_,rfl,_,_,rfl,rfl,?_⟩
   refine ⟨_,rfl,_,rfl,_,_,rfl,rfl,.inl (22:),_,_,rfl,rfl,_,rfl,lr,_,rfl,.inl (SqL.of hlri),_,_,rfl,rfl,a,ns,4 + 3 * k + us.length,?_,g4i.seq hS4,_,8,rfl,by decide,fun ly ysl Hy gy hly0 hly hyl hy0=>?_⟩
   ·have e5:(4 + 3 * (0 + (k:Int))+(us.length:Int))=((4 + 3 * k + us.length:Nat):Int):=by lia
    show [V.ref a,V.int (4 + 3 * (0 + (k:Int))+(us.length:Int))] ++ []=_
    rw [e5];rfl
   have g4y:=g4i.trans gy
   refine ⟨_,rfl,.inl ⟨rfl,_,SqL.of (gy _ _ hlri)⟩,_,rfl,_,rfl,_,rfl,kd.2.2.2[i].2.2.1,lk,kd.2.2.2[i].2.2.2,kn,rfl,gy.seqT hra.2,SqL.of (g4y _ _ hlkv),hkb.kl _ (List.getElem_mem hir),by lia,fun lc ws tc Hc gc hlc0 hlc htc hcl hc16=>?_⟩
   have hlcy:lc≠ly:=fun z=>by rw [z,hly] at hlc0;cases hlc0
   have g4c:=g4y.trans gc
   have hlnc:=g4c _ _ hln4
   have hlny:ln≠ly:=fun z=>by rw [← z,g4i _ _ hln4] at hly0;cases hly0
   refine ⟨_,rfl,_,rfl,ly,lc,ln,far,2,ysl,ws,tc,pns c 9,Fc kn kd.2.2.2[i].2.2.2,rfl,gc _ _ hly,by rw [hyl];decide,SqL.of hlc,htc,fun t ht=>(by
    obtain ⟨k2,j2,e,z,e1,e2⟩:=hcl t ht
    exact ⟨_,_,e,k2,j2,z,rfl,rfl,e1,e2⟩),hc16,hlcy,SqL.of hlnc,by simp,JK c 9,hlny,by decide,by decide,fun v5 H5 t5 xs5 g5 hd5 _ hv5 ht5 hl5=>?_⟩
   have gi5:Same Hi H5:=Zh (gy.trans gc) hly0 g5
   have hlr5:=gi5 _ _ hlri
   refine ⟨lr,us,_,rfl,rfl,hlr5,by rw [QZ];lia,?_⟩
   refine ⟨us ++ [v5],ts ++ [t5],_,_,_,rfl,fun b u e=>?_,Qb,?_,by simp [htl],?_⟩
   ·rw [Qi (Qg e hlr)];exact gi5 _ _ (gi _ _ e)
   ·exact TmAll.append (hts.mono fun _ _ h=>(gi5.seqT h).put hlr5) (.cons (hv5.mono fun _ _ h=>h.put hlr5) .nil)
   ·exact hok.snoc htl (List.getElem?_eq_getElem hir) ht5 hl5
  ·intro σ Hi hinv
   refine asG fun G' hG'=>?_
   obtain ⟨us,ts,c9,c10,c11,rfl,gi,hlri,hts,htl,hok⟩:=hinv
   refine hG' ?_
   clear hG' G'
   rw [List.length_map] at htl
   have g4i:=g.trans gi
   have hlen:=hts.length
   refine ⟨fun σ' H6=>∃ (l:Addr) (us':List V) (ts':List Tm) (c12':Option V),σ'=[some (.ref a),some (.ref wd),some (.ref ln),some (.ref d),some (.int far),some (.ref lk),some (.ref lm),some (.int (0 + (k:Int))),some (.ref l),c9,c10,c11,c12',none]∧Same H' H6∧H6 l=some (.lst us')∧l≠lm∧TmAll K H6 us' ts'∧ts'.length=kd.2.2.2.length∧RF kn kd.2.2.2 ts' 4,?_,?_⟩
   ·have h3k:3 + k < xs.length:=by lia
    have hat3:atI (xs.map V.int) (3 + (0 + (k:Int)))=some (.int xs[3 + k]):=by
     have e5:(3 + (0 + (k:Int)))=((3 + k:Nat):Int):=by lia
     rw [e5];exact Qu (by rw [List.getElem?_map,List.getElem?_eq_getElem h3k];rfl)
    have hlrlm:lr≠lm:=fun z=>by rw [z,hlm'] at hlr;cases hlr
    refine ⟨_,rfl,_,rfl,_,_,rfl,rfl,d,_,_,_,rfl,rfl,SqL.of (g4i _ _ hd4),hat3,_,_,rfl,rfl,(by show (0:Int) < 3;decide),rfl,_,rfl,ZZ (fun _=>?_) (fun _=>?_)⟩
    ·have hlni:=g4i _ _ hln4
     have hatn:∀ i:Nat,i < 9→atI ((pns c 9).map V.str) (i:Int)=some (.str (pn c (i:Int))):=fun i hi=>Qu (by rw [List.getElem?_map,List.getElem?_map,List.getElem?_range hi];rfl)
     refine ⟨_,rfl,ln,_,3,_,rfl,rfl,SqL.of hlni,hatn 3 (28:),(20:),fun p0 hp0=>⟨(by show 5≤sizeLine;decide),fun pl hpl=>?_⟩⟩
     have e1:=Qe hp0 (.tup [])
     have e2:=Qe hpl (.tup [.str PUT,.str (pn c 3),.bl false,.int 0,.ref p0])
     have e12:=e1.trans e2
     have hleaf:TmV K (upd (upd Hi p0 (.tup [])) pl (.tup [.str PUT,.str (pn c 3),.bl false,.int 0,.ref p0])) (.ref pl) (.node (.put (pn c 3) false 0) 0 []):=.put (42:) (e2.seqT (42:)) .nil (by simp)
     generalize upd (upd Hi p0 (.tup [])) pl (.tup [.str PUT,.str (pn c 3),.bl false,.int 0,.ref p0])=Hl at e12 hleaf ⊢
     have hlrl:=e12 _ _ hlri
     refine ⟨_,rfl,lr,rfl,⟨_,SqL.of hlrl⟩,fun acc2 hacc2=>?_⟩
     refine ZF (K:=K) (xs:=us) (cs:=[some (.int far),some (.ref pl),some (.ref ln)]) (tt:=fun _ H Q=>Q true H) (fun i ys Hj=>∃ ps:List Tm,Hj acc2=some (.lst ys)∧Same Hl Hj∧TmAll K Hj ys ps∧ps.length=i∧RF kn kd.2.2.2 ps 4)
      ⟨[],Qb,Qe hacc2 _,.nil,rfl,RF.nil⟩ ?_ ?_ ?_
     ·rintro i ys Hj _ ⟨_,_,gj,_⟩
      exact SqL.of (gj _ _ hlrl)
     ·rintro i x ys Hj hi hx ⟨ps,hya2,gj,hps,hpl2,hpok⟩
      have hit:i < ts.length:=by lia
      have hlenp:=hps.length
      obtain ⟨cv,hcv,hct⟩:=hts.get (List.getElem?_eq_getElem hit)
      obtain rfl:cv=x:=Option.some.inj (hcv.symm.trans hx)
      obtain ⟨o1,o2⟩:=hok.1 _ (List.getElem_mem hit)
      have hir:i < kd.2.2.2.length:=by lia
      have o3:=hok.2 i _ _ (List.getElem?_eq_getElem hir) (List.getElem?_eq_getElem hit)
      refine QH ⟨_,rfl,ln,_,4,_,rfl,rfl,SqL.of (gj _ _ (e12 _ _ hlni)),hatn 4 (28:),_,rfl,_,rfl,_,rfl,(19:),fun p1 hp1=>⟨(by show 5≤sizeLine;decide),fun p2 hp2=>?_⟩⟩
      have e3:=Qe hp1 (.tup [cv,.ref pl])
      have e4:=Qe hp2 (.tup [.str PUT,.str (pn c 4),.bl false,.int far,.ref p1])
      have e34:=e3.trans e4
      have hya4:=e34 _ _ hya2
      have gl4:=gj.trans e34
      refine Qp (ys:=ys) hi hya4 (7:) ⟨ps ++ [.node (.put (pn c 4) false far) 0 [ts[i],.node (.put (pn c 3) false 0) 0 []]],Qb,fun b u e=>?_,?_,by simp [hpl2],?_⟩
      ·rw [Qi (Qg e hacc2)];exact e34 _ _ (gj _ _ e)
      ·refine TmAll.append (hps.mono fun _ _ h=>(e34.seqT h).put hya4) (.cons (.put (SqT.put (42:) hya4) (SqT.put (e4.seqT (42:)) hya4) (.cons (hct.mono fun _ _ h=>(gl4.seqT (e12.seqT h)).put hya4) (.cons (hleaf.mono fun _ _ h=>(gl4.seqT h).put hya4) .nil)) (by simp)) .nil)
      ·refine hpok.snoc hpl2 (List.getElem?_eq_getElem hir) ?_ ?_
       ·simp only [TPr,TPrs]
        exact ⟨Xa _ _,by simp,o3,⟨Xa _ _,by simp,trivial⟩,trivial⟩
       ·simp only [lv,lvs];lia
     rintro ys Hj ⟨ps,hya2,gj,hps,hpl2,hpok⟩
     have haclm:acc2≠lm:=fun z=>by rw [z,(e12 _ _ (gi _ _ hlm'))] at hacc2;cases hacc2
     exact ⟨acc2,ys,ps,_,rfl,gi.trans (e12.trans gj),hya2,haclm,hps,by lia,hpok⟩
    ·exact ⟨lr,us,ts,_,rfl,gi,hlri,hlrlm,hts,htl,fun t ht=>⟨(hok.1 t ht).1,by have:=(hok.1 t ht).2;lia⟩,hok.2⟩
   intro σ' H6 hinv
   refine asG fun G' hG'=>?_
   obtain ⟨l,us',ts',c12',rfl,g6,hl6,hllm,hts6,htl6,hok6⟩:=hinv
   refine hG' ?_
   clear hG' G'
   have g46:=g.trans g6
   have hlm6:=g6 _ _ hlm'
   refine ⟨_,rfl,.inl ⟨rfl,_,SqL.of hlm6⟩,_,rfl,_,rfl,lk,_,_,_,rfl,rfl,SqL.of (g46 _ _ hlkv),hatk,_,rfl,(19:),fun pm hpm=>?_⟩
   have e7:=Qe hpm (.tup [.str kd.2.1,.ref l])
   have hlm7:=e7 _ _ hlm6
   have hml:=congrArg List.length hmk
   rw [List.length_map,List.length_take] at hml
   refine ⟨lm,_,_,rfl,rfl,hlm7,by rw [List.length_map,QZ];lia,?_⟩
   refine ⟨ms ++ [(pm,kd.2.1,l,us',ts')],_,_,_,_,_,_,rfl,fun b u e=>?_,by rw [Qb,List.map_append];rfl,?_,fun m hm=>?_⟩
   ·rw [Qi (Qg e hlm)];exact e7 _ _ (g46 _ _ e)
   ·rw [List.map_append,hmk,List.take_add_one,List.getElem?_eq_getElem hk,← ekd];rfl
   ·rcases List.mem_append.mp hm with h | h
    ·obtain ⟨⟨a1,a2,a3,a4⟩,a5⟩:=hmo m h
     have g67:=g6.trans e7
     refine ⟨⟨(g67.seqT a1).put hlm7,by rw [Qi a3];exact g67 _ _ a2,a3,a4.mono fun _ _ h=>(g67.seqT h).put hlm7⟩,a5⟩
    ·obtain rfl:m=(pm,kd.2.1,l,us',ts'):=by simpa using h
     refine ⟨⟨SqT.put (42:) hlm7,?_,hllm,hts6.mono fun _ _ h=>(e7.seqT h).put hlm7⟩,kd,hkd,rfl,htl6,hok6⟩
     show (upd _ lm _) l=_
     rw [Qi hllm];exact e7 _ _ hl6
 ·intro σ H' hinv
  refine asG fun G' hG'=>?_
  obtain ⟨ms,c7,c8,c9,c10,c11,c12,rfl,g,hlm',hmk,hmo⟩:=hinv
  refine hG' ?_
  clear hG' G'
  rw [Int.toNat_natCast,List.take_length] at hmk
  have hml:=congrArg List.length hmk
  rw [List.length_map] at hml
  refine Za fun KK hKK=>?_
  refine ⟨_,rfl,a,ns,13,rfl,g.seq hS4,_,8,rfl,by decide,fun ly ysl Hy gy hly0 hly hyl hy0=>?_⟩
  refine hKK _ _ ?_
  clear hKK KK
  refine Za fun KK hKK=>?_
  have g4y:=g.trans gy
  have hwy:=hw4.same g4y
  refine ⟨_,rfl,_,rfl,wd,_,0,_,rfl,rfl,hwy.1,hatw,ks[0].1,_,0,_,rfl,rfl,(hwy.2 _ hk0).1,rfl,(50:),fun pb hpb=>?_⟩
  have e9:=Qe hpb (.tup [.str ks[0].2.1])
  refine ⟨_,rfl,pb,lk,[ks[0].2.1],kn,rfl,SqT.of Qb,SqL.of (e9 _ _ (g4y _ _ hlkv)),by simp,by lia,fun lc ws tc Hc gc hlc0 hlc htc hcl hc16=>?_⟩
  have gyc:=e9.trans gc
  have hlcy:lc≠ly:=fun z=>by rw [z,e9 _ _ hly] at hlc0;cases hlc0
  have hlnc:=gyc _ _ (g4y _ _ hln4)
  have hlny:ln≠ly:=fun z=>by rw [← z,g _ _ hln4] at hly0;cases hly0
  refine ⟨_,rfl,_,rfl,ly,lc,ln,far,2,ysl,ws,tc,pns c 9,fun a b=>(0≤a∧a < (kn.length:Int)∧kn[a.toNat]?=some ks[0].2.1)∧Fc kn [ks[0].2.1] a b,rfl,gyc _ _ hly,by rw [hyl];decide,SqL.of hlc,htc,fun t ht=>(by
   obtain ⟨k2,j2,e,z,e1,e2⟩:=hcl t ht
   have h2:=(List.getElem?_eq_some_iff.mp e1).1
   have h3:z ∈ [ks[0].2.1]:=List.mem_of_getElem? e2
   have h4:z=ks[0].2.1:=by simpa using h3
   exact ⟨_,_,e,⟨by lia,by lia,by rw [Int.toNat_natCast,e1,h4]⟩,k2,j2,z,rfl,rfl,e1,e2⟩),hc16,hlcy,SqL.of hlnc,by simp,JK c 9,hlny,by decide,by decide,fun v5 H5 t5 xs5 g5 hd5 _ hv5 ht5 hl5=>?_⟩
  refine hKK _ _ ?_
  clear hKK KK
  have g45:Same H' H5:=Zh (gy.trans gyc) hly0 g5
  refine ⟨_,rfl,_,rfl,v5,t5,_,rfl,hv5,ht5,by lia,fun v6 H6 t6 g6 hv6 ht6 hl6 hk6=>⟨_,rfl,(30:),fun tu htu=>?_⟩⟩
  have e10:=Qe htu (.tup [.ref wd,v6,.ref lm])
  have g4t:=g45.trans (g6.trans e10)
  have gT:=gH4.trans (g.trans g4t)
  refine q tu lm v6 t6 ms _ gT ⟨SqT.of Qb,hw.same gT,hv6.mono fun _ _=>e10.seqT,SqL.of (g4t _ _ hlm'),fun m hm=>?_⟩ ⟨by lia,by lia,fun k0 hk0'=>?_,⟨by lia,hk6⟩,fun k0 hk0'=>?_,fun m hm=>?_,fun m hm=>?_⟩
  ·obtain ⟨⟨a1,a2,a3,a4⟩,_⟩:=hmo m hm
   exact ⟨g4t.seqT a1,SqL.of (g4t _ _ a2),a4.mono fun _ _=>g4t.seqT⟩
  ·rw [List.getElem?_eq_getElem kpos] at hk0'
   obtain rfl:=Option.some.inj hk0'
   refine ht6.mono fun a b h=>⟨h.1.1,by rw [hml];exact h.1.2.1,?_⟩
   have h3:=h.1.2.2
   rw [← hmk,List.getElem?_map] at h3
   cases em:ms[a.toNat]? with
   | none=>rw [em] at h3;cases h3
   | some m=>rw [em] at h3;exact ⟨m,rfl,Option.some.inj h3⟩
  ·rw [List.getElem?_eq_getElem kpos] at hk0'
   obtain rfl:=Option.some.inj hk0'
   rw [hmk]
   exact ht6.mono fun a b h=>h.2
  ·obtain ⟨_,kd,hkd,e1,e2,e3⟩:=hmo m hm
   rw [hmk]
   exact ⟨kd,hkd,e1,e3.2⟩
  ·obtain ⟨_,kd,hkd,e1,e2,e3⟩:=hmo m hm
   exact ⟨kd,hkd,e1,e2,fun t ht=>by rw [hml];exact e3.1 t ht⟩
end
end K52
namespace L2
open PySem PySem.Spec PyProof.Rows PySem.W
section
variable {X:Cx}
theorem Vg:ZC X (.type "range") (fun xs H Q=>∃ n:Int,xs=[.int n]∧0≤n∧n < 2 ^ 20∧∀ p,H p=none→Q (.ref p) (upd H p (.rng 0 n))):=by
 intro pins s σ H xs us Q I r h
 obtain ⟨n,rfl,h0,h1,q⟩:=h
 cases r with
 | cons r rr =>
  cases rr
  obtain ⟨t,rfl⟩:=r
  refine call_range_1 ?_
  refine ⟨.ref s.heap.objs.size,_,I.laid (a:=s.heap.objs.size) (o:=.rng 0 n) (fun b o e=>Heap.get?_push_of_some _ e) (9:) ⟨_,_,_,Heap.get?_push_size _ rfl⟩,rfl,q _ (I.hok.fresh (9:))⟩
end
section
variable {prog:Program} {w:World} {A:Around} {E:Value→Shared→Prop} {s:Shared}
end
section
variable {X:Cx} {tg:Expr}
end
end L2
namespace L2
open PySem PySem.Spec PyProof.Rows
theorem Z2:∀ {ys:List Value} {is:List Int},CarriedAll ys (is.map PyData.int)→Vals (is.map V.int) ys
 | _,[],h=>by cases h;exact .nil
 | _,i :: r,h=>by
  cases h with
  | cons a b =>
   cases a
   exact .cons ⟨_,rfl⟩ (Z2 b)
section
variable {X:Cx}
theorem UP (hc:X.calm=true):ZC X (.type "list") (fun xs H Q=>∃ (r:Addr) (n:Nat),xs=[.ref r]∧H r=some (.rng 0 (n:Int))∧n≤1000∧∀ l,H l=none→Q (.ref l) (upd H l (.lst ((List.range n).map fun (i:Nat)=>V.int (i:Int))))):=by
 intro pins s σ H xs us Q I rr h
 obtain ⟨r,n,rfl,hr,hn,q⟩:=h
 obtain ⟨u,rfl,rx⟩:=Wl rr
 cases rx
 obtain ⟨t,u,v,hro⟩:=(show ObjOk X.prog X.w H s.heap r (.rng 0 (n:Int)) from I.hok r _ hr)
 obtain ⟨m,hfr⟩:=I.fr
 have hsz:Builtin.Range.rangeSize 0 (n:Int) 1=(n:Int):=by
  unfold Builtin.Range.rangeSize
  by_cases h0:(0:Int) < (n:Int)
  ·rw [if_pos (28:),if_pos h0];lia
  ·rw [if_pos (28:),if_neg h0];lia
 have fits:∀ z:Int,0≤z→z≤2000→Builtin.Range.rangeFitsLong z=true:=fun z h0 h1=>by
  unfold Builtin.Range.rangeFitsLong
  simp only [Bool.and_eq_true,decide_eq_true_eq]
  constructor <;> lia
 have hsm:Builtin.Range.small 0 (n:Int) 1=true:=by
  unfold Builtin.Range.small
  rw [hsz,if_pos (28:),fits 0 (28:) (28:),fits (n:Int) (7:) (7:),fits 1 (28:) (28:),fits ((n:Int)+(1 - 1)) (7:) (7:)]
  simp
 refine list_rangeD (news:=[]) (I.ok.hd hc) hfr (fun p hp=>nomatch hp) hro hsm hsz (Nat.le_trans hn (28:)) fun h' tk ys F' N' kp h0 hil hpl hca=>?_
 have ev:(rangeInts 0 1 n).map PyData.int=(((List.range n).map fun (i:Nat)=>(i:Int))).map PyData.int:=by
  have e1:rangeInts 0 1 n=(List.range n).map fun (i:Nat)=>(i:Int):=by
   unfold rangeInts
   refine List.map_congr_left fun i _=>?_
   show 0 + (i:Int) * 1=(i:Int)
   rw [Int.mul_one,Int.zero_add]
  rw [e1]
 rw [ev] at hca
 have rv:=Z2 hca
 rw [List.map_map] at rv
 obtain ⟨k,hk⟩ : ∃ k,h'.get? s.heap.objs.size=some { cls:=.type "list", data:=.seq ys.toArray k }:=hpl.1
 exact ⟨.ref s.heap.objs.size,_,I.laid (t':=tk) kp (9:) (show ObjOk X.prog X.w _ h' _ (.lst ((List.range n).map fun (i:Nat)=>V.int (i:Int))) from ⟨by rw [List.length_map,List.length_range];exact Zk (7:),ys,k,rv,hk⟩),rfl,q _ (I.hok.fresh (9:))⟩
end
end L2
namespace K52
open K51
open PySem L2 TM TT ST K9 K11
theorem V3 {X:Cx} {K:PySem.W.Frag} {tg e:Expr} {te:TE} (hK:X.K=K) (h:PE X e te):PI X tg e (Mc K te):=by
 subst hK
 exact QJ h
abbrev NE (K:PySem.W.Frag):List V→Hp→VK→Prop:=fun xs H Q=>∃ (l:Addr) (ns:List Int),xs=[.ref l]∧SqL K H l (ns.map V.int)∧Q (.int ns.sum) H
def ZY (K:PySem.W.Frag) (n:Nat):Sp:=fun vs H Q _=>∃ (v:V) (t:Tm),vs=[v]∧TmV K H v t∧lv t≤n∧∀ (z:Int) (H':Hp),Same H H'→Q (.int z) H'
def Xy (K:PySem.W.Frag):Sp:=fun vs H Q _=>∃ (tu lm:Addr) (x sv:V) (st:Tm) (ms:List MdT),vs=[.ref tu]∧SqT K H tu [x,sv,.ref lm]∧TmV K H sv st∧lv st≤8∧ModesL K H lm ms∧ms.length≤10∧(∀ m ∈ ms,m.2.2.2.2.length≤10∧∀ t ∈ m.2.2.2.2,lv t≤8)∧∀ (z:Int) (H':Hp),Same H H'→Q (.int z) H'
section
variable {P:Program} {w:World} {K:PySem.W.Frag} {mg:Str→Option Value} {base:Heap} {f:Addr} {fd:FuncData}
theorem MN:FnScope ["_law_term_here"] ["_law_term_here"] (defScope J1):=(1:)
theorem Lm {n:Nat} (F:Fun K "_law_size" "_law_size" J1 f fd) (G:Gm mg) (R:Fn P w K mg base (n + 1) "_law_size" ["_law_term_here"] (ZY K n)):FnOk P w K mg base CX0 (n + 2) f fd ["_law_term_here"] (ZY K (n + 1)):=by
 refine F.ok MN (10:) (4:)
 ·obtain ⟨v,t,rfl,_⟩:=h
  rfl
 obtain ⟨v,t,rfl,ht,hlv,q⟩:=h
 refine ⟨_,(Qf (QN (Qx Q2 (3:) QX (QA _)) (Qj (Qs Qd)) QB)
  (Qj (Qs (Ql QR Qd (Qq (YQ rfl) rfl G.sum PyProof.Rows.boot_sum (Qa (Qw (33:) rfl (Zu (3:)) (Zb (33:)) (18:) (fun _ _ _ _=>Qn R hr (Qa (pv 0) Qc) (9:))) Qc)))))),?_⟩
 have ePC:¬ V.str PUT=V.str ZQ:=by decide +kernel
 rcases Zr ht with ⟨a,m,b,rfl,rfl,h1⟩ | ⟨a,b,bs,nm,k,ad,rfl,et,h1,h2,h3,h4⟩
 ·exact ⟨_,rfl,a,_,0,_,rfl,rfl,h1,rfl,rfl,_,rfl,JB rfl (q 1 H (Same.refl _))⟩
 refine ⟨_,rfl,a,_,0,_,rfl,rfl,h1,rfl,rfl,_,rfl,JX ePC ?_⟩
 have hlen:=h3.length
 rw [Zg] at hlv
 refine ⟨_,rfl,a,_,4,_,rfl,rfl,h1,rfl,b,rfl,⟨_,h2⟩,fun acc hacc=>?_⟩
 refine ZJ (K:=K) (xs:=bs) (cs:=[]) (tt:=fun _ H Q=>Q true H) (te:=Zz (ZY K n) [] E0 (QL (Q6 0) ZR)) (fun i ys H'=>∃ zs:List Int,ys=zs.map V.int∧zs.length=i∧H' acc=some (.lst ys)∧Same H H')
  ⟨[],rfl,rfl,Qb,Qe hacc _⟩ ?_ ?_ ?_
 ·rintro i ys H' _ ⟨_,_,_,_,g⟩
  exact g.seqT h2
 ·rintro i x ys H' hi hx ⟨zs,rfl,hzl,hya,g⟩
  obtain ⟨c,hc⟩ : ∃ c,t.bs[i]?=some c:=(43:)
  obtain ⟨cv,hcv,hct⟩:=h3.get hc
  obtain rfl:cv=x:=Option.some.inj (hcv.symm.trans hx)
  have a1:=ZI (List.mem_of_getElem? hc)
  refine QH ⟨_,rfl,cv,c,rfl,hct.mono fun _ _=>g.seqT,by lia,fun z H4 g4=>?_⟩
  refine Qp hi (g4 _ _ hya) (34:) ⟨zs ++ [z],by simp,by simp [hzl],Qb,fun x u e=>?_⟩
  rw [Qi (Qg e hacc)];exact g4 _ _ (g _ _ e)
 rintro ys H1 ⟨zs,rfl,hzl,hya,g⟩
 exact ⟨acc,zs,rfl,SqL.of hya,_,_,rfl,rfl,q _ H1 g⟩
theorem WO {k:Nat}:FnOk P w K mg base CX0 k f fd ["_law_term_here"] (ZY K 0):=by
 have no:∀ vs H Q E,¬ ZY K 0 vs H Q E:=fun vs H Q E h=>by
  obtain ⟨v,t,_,_,h0,_⟩:=h
  rw [Zg] at h0;lia
 exact (5:)
theorem Xr (F:Fun K "_law_size" "_law_size" J1 f fd) (G:Gm mg) (hb:Binds K fd ["_law_term_here"] []) (hm:mg "_law_size" = some (.ref f)):∀ n:Nat,FnOk P w K mg base CX0 (n + 1) f fd ["_law_term_here"] (ZY K n)
 | 0=>WO
 | n + 1=>Lm F G ⟨f,fd,Xr F G hb hm n,hb,F.kp,hm⟩
theorem Nn:FnScope ["_law_turning_here"] ["_law_turning_here"] (defScope V2):=(1:)
theorem G9 (F:Fun K "_law_many" "_law_many" V2 f fd) (G:Gm mg) (RZ:Fn P w K mg base 9 "_law_size" ["_law_term_here"] (ZY K 8)):FnOk P w K mg base CX0 10 f fd ["_law_turning_here"] (Xy K):=by
 refine F.ok Nn (10:) (4:)
 ·obtain ⟨tu,lm,x,sv,st,ms,rfl,_⟩:=h
  rfl
 obtain ⟨tu,lm,x,sv,st,ms,rfl,htu,hs,hls,hM,hm10,hmt,q⟩:=h
 refine ⟨_,(Qj (Qs (Ql QR (Qn RZ hr (Qa (3:) Qc)) (Qq (YQ rfl) rfl G.sum PyProof.Rows.boot_sum (Qa (Qw (25:) rfl (QJ (3:)) (ZB (25:) rfl) (18:)
  (fun _ _ _ _=>Qq (r:=NE K) (YQ rfl) rfl G.sum PyProof.Rows.boot_sum (Qa (Qw (CompG.many (xs:=["_law_rule"]) (caps:=[]) (cap:=[]) (cs:=[]) rfl rfl (0:) (0:) (0:) (0:) (0:) (0:) rfl rfl rfl) rfl (V3 (K:=K) rfl (pv 1)) (Zb (CompG.many (xs:=["_law_rule"]) (caps:=[]) (cap:=[]) (cs:=[]) rfl rfl (0:) (0:) (0:) (0:) (0:) (0:) rfl rfl rfl)) (18:) (fun _ _ _ _=>Qn RZ hr (Qa (pv 0) Qc))) Qc))) Qc))))),?_⟩
 refine ⟨_,rfl,tu,_,1,_,rfl,rfl,htu,rfl,sv,st,rfl,hs,hls,fun z0 H1 g1=>?_⟩
 have hM1:=hM.same g1
 refine ⟨_,rfl,tu,_,2,_,rfl,rfl,g1.seqT htu,rfl,lm,rfl,⟨_,hM1.1⟩,fun acc hacc=>?_⟩
 refine Zc (K:=K) (xs:=ms.map fun m=>V.ref m.1) (cs:=[]) (tt:=fun _ H Q=>Q true H) (fun i ys H'=>∃ zs:List Int,ys=zs.map V.int∧zs.length=i∧H' acc=some (.lst ys)∧Same H1 H')
  ⟨[],rfl,rfl,Qb,Qe hacc _⟩ ?_ ?_ ?_
 ·rintro i ys H' _ ⟨_,_,_,_,g⟩
  exact (hM1.same g).1
 ·rintro i x ys H' hi hx ⟨zs,rfl,hzl,hya,g⟩
  have him:i < ms.length:=by simpa using hi
  obtain rfl:x=.ref ms[i].1:=by
   rw [List.getElem?_map,List.getElem?_eq_getElem him] at hx
   exact (54:).symm
  have hmm:=List.getElem_mem him
  obtain ⟨m1,m2,m3⟩:=(hM1.same g).2 _ hmm
  obtain ⟨hl10,htl⟩:=hmt _ hmm
  have hlen:=m3.length
  refine ⟨ms[i].1,_,_,rfl,m1,QH ⟨_,rfl,ms[i].2.2.1,rfl,⟨_,m2⟩,fun acc2 hacc2=>?_⟩⟩
  refine ZF (K:=K) (xs:=ms[i].2.2.2.1) (cs:=[]) (tt:=fun _ H Q=>Q true H) (te:=Zz (ZY K 8) [] E0 (QL (Q6 0) ZR)) (fun j ys2 H2=>∃ zs2:List Int,ys2=zs2.map V.int∧zs2.length=j∧H2 acc2=some (.lst ys2)∧Same H' H2)
   ⟨[],rfl,rfl,Qb,Qe hacc2 _⟩ ?_ ?_ ?_
  ·rintro j ys2 H2 _ ⟨_,_,_,_,g2⟩
   exact g2.seq m2
  ·rintro j y ys2 H2 hj hy ⟨zs2,rfl,hzl2,hya2,g2⟩
   have hjt:j < ms[i].2.2.2.2.length:=by lia
   obtain ⟨cv,hcv,hct⟩:=m3.get (List.getElem?_eq_getElem hjt)
   obtain rfl:cv=y:=Option.some.inj (hcv.symm.trans hy)
   refine QH ⟨_,rfl,cv,_,rfl,hct.mono fun _ _=>g2.seqT,htl _ (List.getElem_mem hjt),fun z H4 g4=>?_⟩
   refine Qp hj (g4 _ _ hya2) (34:) ⟨zs2 ++ [z],by simp,by simp [hzl2],Qb,fun b u e=>?_⟩
   rw [Qi (Qg e hacc2)];exact g4 _ _ (g2 _ _ e)
  rintro ys2 H2 ⟨zs2,rfl,hzl2,hya2,g2⟩
  refine ⟨acc2,zs2,rfl,SqL.of hya2,?_⟩
  refine Qp (ys:=zs.map V.int) hi (g2 _ _ hya) (34:) ⟨zs ++ [zs2.sum],by simp,by simp [hzl],Qb,fun b u e=>?_⟩
  rw [Qi (Qg e hacc)];exact g2 _ _ (g _ _ e)
 rintro ys H2 ⟨zs,rfl,hzl,hya,g⟩
 exact ⟨acc,zs,rfl,SqL.of hya,_,_,rfl,rfl,q _ H2 (g1.trans g)⟩
end
end K52
namespace K52
open K51
open PySem L2 TM TT ST K9 K11
mutual
theorem Jq {p:Int→Int→Prop} {f:Int→Int→Tm} {L:Nat} (hL:1≤L) (h:∀ m b,p m b→lv (f m b)≤L):∀ {t:Tm},TPr p t→lv (TT.sub f t)+1≤lv t + L
 | .node (.call m b) mk bs,k=>by
  simp only [TPr] at k
  obtain ⟨k,rfl⟩:=k
  simp only [TT.sub,hdF,lv,lvs]
  have:=h m b k
  lia
 | .node (.put n kk a) mk bs,k=>by
  simp only [TPr] at k
  simp only [TT.sub,hdF,lv]
  have:=JY hL h k.2.2
  lia
theorem JY {p:Int→Int→Prop} {f:Int→Int→Tm} {L:Nat} (hL:1≤L) (h:∀ m b,p m b→lv (f m b)≤L):∀ {bs:List Tm},TPrs p bs→lvs (TT.subs f bs)+1≤lvs bs + L
 | [],_=>by simp only [TT.subs,lvs];lia
 | b :: r,k=>by
  simp only [TPrs] at k
  simp only [TT.subs,lvs]
  have h1:=Jq hL h k.1
  have h2:=JY hL h k.2
  lia
end
structure OneT (ks:List KdT) (st1:Tm) (ms1:List MdT):Prop where
 few:ms1.length≤4
 pos:0 < ms1.length
 s1:TPr (Pn ms1.length) st1∧lv st1≤3
 r1:∀ m ∈ ms1,∃ kd ∈ ks,kd.2.1=m.2.1∧m.2.2.2.2.length=kd.2.2.2.length∧∀ t ∈ m.2.2.2.2,TPr (Pn ms1.length) t∧lv t≤6
theorem T51.s {ks:List KdT} {st:Tm} {ms:List MdT} (h:T51 ks st ms) (hW:WD ks):TPr (Pn ms.length) st:=(h.sc _ (List.getElem?_eq_getElem hW.pos)).mono fun a b k=>⟨k.1,k.2.1⟩
theorem Jx {n m:Nat} {ns:List Int} (hl:ns.length=n) (h:∀ x ∈ ns,0≤x∧x < (m:Int)) {t:Tm} (ht:TPr (Pn n) t):TPr (Pn m) (TT.sub (fun a b=>Qt (rf ns a) b) t)∧lv (TT.sub (fun a b=>Qt (rf ns a) b) t)≤lv t:=by
 refine ⟨ht.sub fun a b k=>?_,?_⟩
 ·have ha:a.toNat < ns.length:=by have h1:=k.1;have h2:=k.2;lia
  have e:rf ns a=ns[a.toNat]:=by unfold rf;rw [List.getElem?_eq_getElem ha];rfl
  simp only [Qt,TPr]
  exact ⟨by rw [e];exact h _ (List.getElem_mem ha),trivial⟩
 ·have:=Jq (L:=1) (Nat.le_refl 1) (f:=fun a b=>Qt (rf ns a) b) (fun a b _=>by simp [Qt,lv,lvs]) ht
  lia
def HBk (ks:List KdT) (st:Tm) (ms:List MdT) (st1:Tm) (ms1:List MdT):Prop:=st1=Qt (11:) 0∧∃ mh:MdT,ms1=ms ++ [mh]∧(∀ k0,ks[0]?=some k0→mh.2.1=k0.2.1)∧∀ (j:Nat) (r:Tm),mh.2.2.2.2[j]?=some r→r=rin ms j st
def Mv (K:PySem.W.Frag):Sp:=fun vs H Q _=>∃ (tu wd lm:Addr) (sv:V) (ks:List KdT) (st:Tm) (ms:List MdT),vs=[.ref tu]∧TurnD K H tu wd lm sv ks st ms∧WD ks∧T51 ks st ms ∧
 ∀ (tu1 lm1:Addr) (sv1:V) (st1:Tm) (ms1:List MdT) (H':Hp),Same H H'→TurnD K H' tu1 wd lm1 sv1 ks st1 ms1→OneT ks st1 ms1→ms1.length=ms.length + 1→HBk ks st ms st1 ms1→Q (.ref tu1) H'
def TAk (st:Tm) (ms:List MdT) (step:Int) (st1:Tm) (ms1:List MdT):Prop:=∃ ns:List Int,ns=(List.range ms.length).map (fun k:Nat=>((k:Int)+step) % (11:))∧st1=TT.sub (fun m b=>Qt (rf ns m) b) st∧∀ (k:Nat) (md:MdT),ms1[k]?=some md→∃ m2:MdT,ms[(((k:Int) - step) % (11:)).toNat]?=some m2∧m2.2.1=md.2.1∧md.2.2.2.2=m2.2.2.2.2.map (TT.sub fun m b=>Qt (rf ns m) b)
def Ms (K:PySem.W.Frag):Sp:=fun vs H Q _=>∃ (tu wd lm:Addr) (sv:V) (ks:List KdT) (st:Tm) (ms:List MdT) (step:Int),vs=[.ref tu,.int step]∧TurnD K H tu wd lm sv ks st ms∧WD ks∧T51 ks st ms ∧
 ∀ (tu1 lm1:Addr) (sv1:V) (st1:Tm) (ms1:List MdT) (H':Hp),Same H H'→TurnD K H' tu1 wd lm1 sv1 ks st1 ms1→OneT ks st1 ms1→ms1.length=ms.length→TAk st ms step st1 ms1→Q (.ref tu1) H'
section
variable {P:Program} {w:World} {K:PySem.W.Frag} {mg:Str→Option Value} {base:Heap} {f:Addr} {fd:FuncData}
theorem YE:FnScope ["_law_turning_here", "_law_wood_here", "_law_start", "_law_modes", "_law_rules"] ["_law_turning_here"] (defScope X1):=(1:)
theorem NQ (F:Fun K "_law_held_back" "_law_held_back" X1 f fd) (G:Gm mg) (RU:Fn P w K mg base 5 "_law_ruled" ["_law_term_here", "_law_modes", "_law_row"] (Y0 K 4)):FnOk P w K mg base CX0 6 f fd ["_law_turning_here"] (Mv K):=by
 refine F.ok YE (10:) (4:)
 ·obtain ⟨tu,wd,lm,sv,ks,st,ms,rfl,_⟩:=h
  rfl
 obtain ⟨tu,wd,lm,sv,ks,st,ms,rfl,hT,hW,hD,q⟩:=h
 refine ⟨_,(Qf (ZL (pv 0) (ZM rfl (QK (QC (i:=1) YE.nd rfl (13:)) (QK (QC (i:=2) YE.nd rfl (Or.inr rfl)) (QK (QC (i:=3) YE.nd rfl (Or.inr rfl)) Zv)))))
  (Qf (Zw (i:=4) (CompG.many (xs:=["_law_row"]) (caps:=["_law_modes", "_law_start"]) (cap:=[3,2]) (cs:=[_,_]) rfl rfl (0:) (0:) (0:) (0:) (0:) (0:) rfl rfl rfl) rfl (QI rfl G.rng (Qa (Qq Qm rfl G.len PySem.boot_len (Qa (Qh Qk (Qh Qo (pv 1) Qd (26:)) Qd (26:)) Qc)) Qc)) (Zb (CompG.many (xs:=["_law_row"]) (caps:=["_law_modes", "_law_start"]) (cap:=[3,2]) (cs:=[_,_]) rfl rfl (0:) (0:) (0:) (0:) (0:) (0:) rfl rfl rfl)) (18:) (fun _ _ _ _=>Qn RU hr (Qa (pv 2) (Qa (pv 1) (Qa (pv 0) Qc)))) YE.nd rfl rfl)
  (Qj (Qs (Qy (Qa (pv 1) (Qa ((Qy (Qa (QX) (Qa (44:) (Qa (Qd) Qc))))) (Qa (Ql ZX (pv 3) (QM (Qa ((Qy (Qa (Qh Qk (Qh Qo (pv 1) Qd (26:)) Qd (26:)) (Qa (pv 4) Qc)))) Qc))) Qc)))))))),?_⟩
 have kpos:=hW.pos
 have hk0:=List.getElem_mem kpos
 have hatw:atI (ks.map fun k=>V.ref k.1) 0=some (.ref ks[0].1):=Qu (j:=0) (by rw [List.getElem?_map,List.getElem?_eq_getElem kpos];rfl)
 have hrw:=hW.rws _ hk0
 have m3:=hD.three
 have hs0:=hD.sc _ (List.getElem?_eq_getElem kpos)
 have erl:(ks[0].2.2.2.map fun t=>V.ref t.1).length=ks[0].2.2.2.length:=List.length_map ..
 refine ⟨_,rfl,tu,_,rfl,hT.tu,rfl,_,_,rfl,_,_,rfl,_,_,rfl,rfl,?_⟩
 refine ⟨_,rfl,wd,_,0,_,rfl,rfl,hT.w.1,hatw,ks[0].1,_,1,_,rfl,rfl,(hT.w.2 _ hk0).1,rfl,ks[0].2.2.1,_,rfl,.inl (hT.w.2 _ hk0).2.1,?_⟩
 rw [erl]
 refine ⟨_,rfl,(by show -(2 ^ 62:Int)≤(ks[0].2.2.2.length:Int);lia),(by show (ks[0].2.2.2.length:Int) < 2 ^ 62;lia),fun acc hacc=>?_⟩
 have ruleOk:∀ (j:Nat) (m:Int),TPr (Pn ms.length) (QD ms j m)∧lv (QD ms j m)≤4∨∀ md:MdT,ms[m.toNat]?=some md→md.2.2.2.2.length≤j:=fun j m=>by
  cases e:ms[m.toNat]? with
  | none=>exact .inr fun md h=>by cases h
  | some md =>
   by_cases hj:j < md.2.2.2.2.length
   ·obtain ⟨kd,_,_,_,h5⟩:=hD.md md (List.mem_of_getElem? e)
    have er:QD ms j m=md.2.2.2.2[j]:=by
     unfold QD;rw [e]
     show (md.2.2.2.2[j]?).getD _=_
     rw [List.getElem?_eq_getElem hj];rfl
    rw [er];exact .inl (h5 _ (List.getElem_mem hj))
   ·exact .inr fun md' h=>by rw [← Option.some.inj h];lia
 refine ZE (lo:=0) (n:=(ks[0].2.2.2.length:Int).toNat) (cs:=[some (.ref lm),some sv]) (tt:=fun _ H Q=>Q true H) (fun i ys H'=>∃ ps:List Tm,H' acc=some (.lst ys)∧Same H H'∧TmAll K H' ys ps∧ps.length=i∧(∀ (j:Nat) (r:Tm),ps[j]?=some r→r=rin ms j st)∧∀ t ∈ ps,TPr (Pn ms.length) t∧lv t≤6)
  ⟨[],Qb,Qe hacc _,.nil,rfl,fun j r h=>(nomatch h),fun t ht=>(nomatch ht)⟩ ?_ ?_
 ·rintro i ys H' hi ⟨ps,hya,g,hps,hpl,hex,hok⟩
  rw [Int.toNat_natCast] at hi
  have hlen:=hps.length
  have rl:∀ md:MdT,md ∈ ms→md.2.1=ks[0].2.1→i < md.2.2.2.2.length:=fun md hmd e=>by
   obtain ⟨kd,hkd,e1,e2,_⟩:=hD.md md hmd
   have:=ZS hW.ok.nd hkd hk0 (e1.trans e)
   rw [e2,this];exact hi
  have hp:∀ a b:Int,(0≤a∧a < (11:)∧∃ m,ms[a.toNat]?=some m∧m.2.1=ks[0].2.1)→TPr (Pn ms.length) (QD ms i a)∧lv (QD ms i a)≤4:=fun a b h=>by
   obtain ⟨_,_,md,e1,e2⟩:=h
   rcases ruleOk i a with z | z
   ·exact z
   ·have:=z md e1
    have:=rl md (List.mem_of_getElem? e1) e2
    lia
  refine QH ⟨_,rfl,_,rfl,_,rfl,sv,st,lm,ms,i,by rw [Int.zero_add];rfl,hT.s.mono fun _ _=>g.seqT,by have:=hD.sl.1;lia,hT.m.same g,fun c hc=>?_,fun v4 H4 g4 hv4=>?_⟩
  ·obtain ⟨c0,_,md,e1,e2⟩:=hs0.calls c hc
   exact ⟨c0,md,e1,rl md (List.mem_of_getElem? e1) e2⟩
  have hya4:=g4 _ _ hya
  refine Qp (ys:=ys) (by rw [Int.toNat_natCast];exact hi) hya4 (7:) ⟨ps ++ [TT.sub (fun m _=>QD ms i m) st],Qb,fun b u e=>?_,?_,by simp [hpl],fun j r hj=>?_,fun t ht=>?_⟩
  ·rw [Qi (Qg e hacc)];exact g4 _ _ (g _ _ e)
  ·exact TmAll.append (hps.mono fun _ _ h=>(g4.seqT h).put hya4) (.cons (hv4.mono fun _ _ h=>h.put hya4) .nil)
  ·by_cases hjl:j < ps.length
   ·rw [List.getElem?_append_left hjl] at hj
    exact hex j r hj
   ·have hji:j=i:=by
     have:=(List.getElem?_eq_some_iff.mp hj).1
     rw [List.length_append,List.length_singleton] at this
     lia
    subst hji
    rw [List.getElem?_append_right (7:),hpl,Nat.sub_self] at hj
    cases hj
    rfl
  ·rcases List.mem_append.mp ht with z | z
   ·exact hok t z
   ·obtain rfl:t=TT.sub (fun m _=>QD ms i m) st:=by simpa using z
    have h6:=Jq (L:=4) (28:) (f:=fun m _=>QD ms i m) (fun a b h=>(hp a b h).2) hs0
    have:=hD.sl.1
    exact ⟨hs0.sub fun a b h=>(hp a b h).1,by lia⟩
 rintro ys H1 ⟨ps,hya,g,hps,hpl,hex,hok⟩
 rw [Int.toNat_natCast] at hpl
 have hT1:=hT.same g
 have hlen:=hps.length
 have elm:(23:).length=ms.length:=List.length_map ..
 refine ⟨_,rfl,_,rfl,lm,_,rfl,.inl hT1.m.1,?_⟩
 rw [elm]
 refine ⟨(30:),fun pc hpc=>?_⟩
 have e1:=Qe hpc (.tup [.str ZQ,.int (11:),.int 0])
 have hT2:=hT1.same e1
 refine ⟨_,rfl,_,rfl,wd,_,0,_,rfl,rfl,hT2.w.1,hatw,ks[0].1,_,0,_,rfl,rfl,(hT2.w.2 _ hk0).1,rfl,_,rfl,(19:),fun pm hpm=>⟨(50:),fun l1 hl1=>?_⟩⟩
 have e2:=Qe hpm (.tup [.str ks[0].2.1,.ref acc])
 have e3:=Qe hl1 (.lst [.ref pm])
 have e23:=e2.trans e3
 refine ⟨lm,l1,_,_,rfl,rfl,(hT2.same e23).m.1,SqL.of Qb,by rw [elm,List.length_singleton];exact Zk (7:),fun l2 hl2=>⟨(30:),fun tu1 htu1=>?_⟩⟩
 have e4:=Qe hl2 (.lst ((23:) ++ [.ref pm]))
 have e5:=Qe htu1 (.tup [.ref wd,.ref pc,.ref l2])
 have e45:=e4.trans e5
 have ee:=e23.trans e45
 have gA:=g.trans (e1.trans ee)
 refine q tu1 l2 (.ref pc) (Qt (11:) 0) (ms ++ [(pm,ks[0].2.1,acc,ys,ps)]) _ gA ⟨SqT.of Qb,(hT.same gA).w,.call (ee.seqT (42:)),SqL.of (by rw [List.map_append];exact e5 _ _ Qb),fun m hm=>?_⟩ ⟨by simp;lia,by simp,?_,fun m hm=>?_⟩ (by simp) ⟨rfl,_,rfl,fun k0 h0=>by rw [List.getElem?_eq_getElem kpos] at h0;cases h0;rfl,hex⟩
 ·rcases List.mem_append.mp hm with h | h
  ·exact (hT.same gA).m.2 m h
  ·obtain rfl:m=(pm,ks[0].2.1,acc,ys,ps):=by simpa using h
   have g6:=e1.trans ee
   exact ⟨(e3.trans e45).seqT (42:),SqL.of (g6 _ _ hya),hps.mono fun _ _=>g6.seqT⟩
 ·refine ⟨?_,by simp [Qt,lv,lvs]⟩
  simp only [Qt,TPr,Pn]
  exact ⟨⟨by lia,by simp only [List.length_append,List.length_singleton];lia⟩,trivial⟩
 ·rcases List.mem_append.mp hm with h | h
  ·obtain ⟨kd,hkd,a1,a2,a3⟩:=hD.md m h
   exact ⟨kd,hkd,a1,a2,fun t ht=>⟨(a3 t ht).1.mono fun a b k=>⟨k.1,by have:=k.2;simp;lia⟩,by have:=(a3 t ht).2;lia⟩⟩
  ·obtain rfl:m=(pm,ks[0].2.1,acc,ys,ps):=by simpa using h
   exact ⟨ks[0],hk0,rfl,hpl,fun t ht=>⟨(hok t ht).1.mono fun a b k=>⟨k.1,by have:=k.2;simp;lia⟩,(hok t ht).2⟩⟩
end
end K52
namespace K52
open K51
open PySem L2 TM TT ST K9 K11
def NsD (n mo:Nat) (ns:List Int):Prop:=∀ m:Nat,m < n→ns[m]?=some (m:Int)∨m=mo∧ns[m]?=some (n:Int)
theorem V8 {n mo N:Nat} (h:n≤N):NsD n mo ((List.range N).map fun (i:Nat)=>(i:Int)):=fun m hm=>.inl (by rw [List.getElem?_map,List.getElem?_range (7:)];rfl)
theorem Lu {n mo N:Nat} (h:N=n + 1) (hmo:mo < n):NsD n mo (((List.range N).map fun (i:Nat)=>(i:Int)).set mo ((N:Int) - 1)):=fun m hm=>by
 by_cases e:mo=m
 ·subst e
  refine .inr ⟨rfl,?_⟩
  rw [List.getElem?_set_self (by rw [List.length_map,List.length_range];lia),h]
  congr 1
  lia
 ·rw [List.getElem?_set_ne e]
  exact V8 (n:=n) (mo:=mo) (7:) m hm
def DOk (st:Tm) (ms:List MdT) (mo:Nat) (st1:Tm) (ms1:List MdT):Prop:=(∃ ns:List Int,NsD ms.length mo ns∧st1=TT.sub (fun m b=>Qt (rf ns m) b) st)∧∃ m0:MdT,ms[mo]?=some m0∧∀ (k:Nat) (md:MdT),ms1[k]?=some md→∃ m2:MdT,(ms ++ [m0])[k]?=some m2∧m2.2.1=md.2.1∧∃ ns:List Int,NsD ms.length mo ns∧md.2.2.2.2=m2.2.2.2.2.map (TT.sub fun m b=>Qt (rf ns m) b)
def M1 (K:PySem.W.Frag):Sp:=fun vs H Q _=>∃ (tu wd lm:Addr) (sv:V) (ks:List KdT) (st:Tm) (ms:List MdT) (mo:Nat) (bits:Int),vs=[.ref tu,.int (mo:Int),.int bits]∧TurnD K H tu wd lm sv ks st ms∧WD ks∧T51 ks st ms∧mo < ms.length ∧
 ∀ (tu1 lm1:Addr) (sv1:V) (st1:Tm) (ms1:List MdT) (H':Hp),Same H H'→TurnD K H' tu1 wd lm1 sv1 ks st1 ms1→OneT ks st1 ms1→ms1.length=ms.length + 1→DOk st ms mo st1 ms1→Q (.ref tu1) H'
def MoR (ks:List KdT) (n:Nat) (m:MdT):Prop:=∃ kd ∈ ks,kd.2.1=m.2.1∧m.2.2.2.2.length=kd.2.2.2.length∧∀ t ∈ m.2.2.2.2,TPr (Pn n) t∧lv t≤6
section
variable {P:Program} {w:World} {K:PySem.W.Frag} {mg:Str→Option Value} {base:Heap} {f:Addr} {fd:FuncData}
theorem Yu:FnScope ["_law_turning_here", "_law_step", "_law_modes", "_law_names_here", "_law_found", "_law_k", "_law_kind", "_law_rules"] ["_law_turning_here", "_law_step"] (defScope Gv):=(1:)
theorem Oh (F:Fun K "_law_turned_about" "_law_turned_about" Gv f fd) (G:Gm mg) (RR:Fn P w K mg base 5 "_law_renamed" ["_law_term_here", "_law_names_here"] (Z5 K 4)):FnOk P w K mg base CX0 6 f fd ["_law_turning_here", "_law_step"] (Ms K):=by
 refine F.ok Yu (10:) (4:)
 ·obtain ⟨tu,wd,lm,sv,ks,st,ms,step,rfl,_⟩:=h
  rfl
 obtain ⟨tu,wd,lm,sv,ks,st,ms,step,rfl,hT,hW,hD,q⟩:=h
 refine ⟨_,(Qf (Qz (Qr (i:=2) Yu.nd rfl (Or.inr rfl) (3:)))
  (Qf (Qz (Qr (i:=3) Yu.nd rfl (Or.inr rfl) (Qw (CompG.many (xs:=["_law_k"]) (caps:=["_law_modes", "_law_step"]) (cap:=[2,1]) (cs:=[_,_]) rfl rfl (0:) (0:) (0:) (0:) (0:) (0:) rfl rfl rfl) rfl (QI rfl G.rng (Qa (Qq Qm rfl G.len PySem.boot_len (Qa (pv 2) Qc)) Qc)) (Zb (CompG.many (xs:=["_law_k"]) (caps:=["_law_modes", "_law_step"]) (cap:=[2,1]) (cs:=[_,_]) rfl rfl (0:) (0:) (0:) (0:) (0:) (0:) rfl rfl rfl)) (18:) (fun _ _ _ _=>Ql Qv (Ql QR (pv 0) (pv 2)) (Qq (r:=Me K) Qm rfl G.len PySem.boot_len (47:))))))
  (Qf (Qz (Qr (i:=4) Yu.nd rfl (13:) (QM Qc)))
  (Qf (Q5 PassesOwn.never rfl (QI rfl G.rng (Qa (Qq Qm rfl G.len PySem.boot_len (Qa (pv 2) Qc)) Qc)) (QC (i:=5) Yu.nd rfl (13:)) (Qf (ZL (Qh Qo (pv 2) (Ql Qv (Ql Zt (pv 5) (pv 1)) (Qq Qm rfl G.len PySem.boot_len (Qa (pv 2) Qc))) (26:)) (ZM rfl (QK (QC (i:=6) Yu.nd rfl (13:)) (QK (QC (i:=7) Yu.nd rfl (13:)) Zv))))
  (Qj (Q8 (Z1 PySem.F.plainAttrs_list PySem.F.slot_list_append PySem.F.type_list_append QU (pv 4) (Qa ((Qy (Qa (pv 6) (Qa (Qw (CompG.many (xs:=["_law_rule"]) (caps:=["_law_names_here"]) (cap:=[3]) (cs:=[_]) rfl rfl (0:) (0:) (0:) (0:) (0:) (0:) rfl rfl rfl) rfl (QJ (pv 7)) (Zb (CompG.many (xs:=["_law_rule"]) (caps:=["_law_names_here"]) (cap:=[3]) (cs:=[_]) rfl rfl (0:) (0:) (0:) (0:) (0:) (0:) rfl rfl rfl)) (18:) (fun _ _ _ _=>Qn RR hr (Qa (pv 0) (47:)))) Qc)))) Qc))))))
  (Qj (Qs (Qy (Qa (3:) (Qa (Qn RR hr (Qa (3:) (Qa (pv 3) Qc))) (Qa (pv 4) Qc)))))))))),?_⟩
 have m3:=hD.three
 have m1:=hD.pos
 have elm:(23:).length=ms.length:=List.length_map ..
 refine Za fun KK hKK=>?_
 refine ⟨_,rfl,tu,_,2,_,rfl,rfl,hT.tu,rfl,?_⟩
 refine hKK _ _ ?_
 clear hKK KK
 refine Za fun KK hKK=>?_
 refine ⟨_,rfl,lm,_,rfl,.inl hT.m.1,?_⟩
 rw [elm]
 refine ⟨_,rfl,(by show -(2 ^ 62:Int)≤(11:);lia),(by show (11:) < 2 ^ 62;lia),fun ln hln=>?_⟩
 refine ZE (lo:=0) (n:=(11:).toNat) (cs:=[some (.ref lm),some (.int step)]) (tt:=fun _ H Q=>Q true H) (fun i ys H'=>∃ ns:List Int,ys=ns.map V.int∧ns.length=i∧(∀ x ∈ ns,0≤x∧x < (11:))∧ns=(List.range i).map (fun k:Nat=>((k:Int)+step) % (11:))∧H' ln=some (.lst ys)∧Same H H')
  ⟨[],rfl,rfl,fun x hx=>(nomatch hx),rfl,Qb,Qe hln _⟩ ?_ ?_
 ·rintro i ys H' hi ⟨ns,rfl,hnl,hns,hne,hya,g⟩
  rw [Int.toNat_natCast] at hi
  have hpos:(0:Int) < (11:):=by lia
  refine QH ⟨_,rfl,_,rfl,_,_,rfl,rfl,_,rfl,lm,_,rfl,.inl (hT.m.same g).1,?_⟩
  rw [elm]
  refine ⟨_,_,rfl,rfl,hpos,?_⟩
  refine Qp (ys:=ns.map V.int) (by rw [Int.toNat_natCast];exact hi) hya (34:) ⟨ns ++ [(0 + (i:Int)+step) % (11:)],by simp,by simp [hnl],fun x hx=>?_,?_,Qb,fun b u e=>?_⟩
  ·rcases List.mem_append.mp hx with h | h
   ·exact hns x h
   ·obtain rfl:x=(0 + (i:Int)+step) % (ms.length:Int):=by simpa using h
    exact ⟨Int.emod_nonneg _ (7:),Int.emod_lt_of_pos _ hpos⟩
  ·rw [List.range_succ,List.map_append,← hne,Int.zero_add];rfl
  ·rw [Qi (Qg e hln)];exact g _ _ e
 rintro ys H1 ⟨ns,rfl,hnl,hns,hne,hln1,g1⟩
 refine hKK _ _ ?_
 clear hKK KK
 rw [Int.toNat_natCast] at hnl hne
 refine Za fun KK hKK=>?_
 refine ⟨(20:),fun lf hlf=>?_⟩
 refine hKK _ _ ?_
 clear hKK KK
 have gf:=Qe hlf (.lst [])
 have gHf:=g1.trans gf
 refine ⟨_,rfl,lm,_,rfl,.inl (hT.m.same gHf).1,?_⟩
 rw [elm]
 refine ⟨_,rfl,(by show -(2 ^ 62:Int)≤(11:);lia),(by show (11:) < 2 ^ 62;lia),?_⟩
 refine Q3 (lo:=0) (n:=(11:).toNat) (fun k σ H'=>∃ (fs:List MdT) (c5 c6 c7:Option V),σ=[some (.ref tu),some (.int step),some (.ref lm),some (.ref ln),some (.ref lf),c5,c6,c7]∧Same H1 H'∧H' lf=some (.lst (fs.map fun m=>V.ref m.1))∧fs.length=k∧(∀ (i:Nat) (md:MdT),fs[i]?=some md→∃ m2:MdT,ms[(((i:Int) - step) % (11:)).toNat]?=some m2∧m2.2.1=md.2.1∧md.2.2.2.2=m2.2.2.2.2.map (TT.sub fun m b=>Qt (rf ns m) b))∧∀ m ∈ fs,Nl K H' lf m∧MoR ks ms.length m)
  ⟨[],none,none,none,rfl,gf,Qb,rfl,fun i md h=>(nomatch h),fun m hm=>(nomatch hm)⟩ ?_ ?_
 ·rintro k σ H' hk ⟨fs,c5,c6,c7,rfl,g,hlf',hfl,hfx,hfo⟩
  rw [Int.toNat_natCast] at hk
  have gH:=g1.trans g
  have hM':=hT.m.same gH
  have i0:0≤(0 + (k:Int) - step) % (11:):=Int.emod_nonneg _ (7:)
  have i1:(0 + (k:Int) - step) % (11:) < (11:):=Int.emod_lt_of_pos _ (7:)
  obtain ⟨md,hmx⟩ : ∃ md,ms[((0 + (k:Int) - step) % (ms.length:Int)).toNat]?=some md:=(43:)
  have hmd:=List.mem_of_getElem? hmx
  have hyat:atI (23:) ((0 + (k:Int) - step) % (11:))=some (.ref md.1):=by
   have z:=Qu (xs:=ms.map fun m=>V.ref m.1) (j:=((0 + (k:Int) - step) % (11:)).toNat) (v:=.ref md.1) (by rw [List.getElem?_map,hmx];rfl)
   rw [Int.toNat_of_nonneg i0] at z
   exact z
  obtain ⟨kd,hkd,q1,q2,q3⟩:=hD.md md hmd
  have hr3:=(hW.rws kd hkd).2
  obtain ⟨d1,d2,d3⟩:=hM'.2 md hmd
  have hlen:=d3.length
  refine ⟨_,rfl,_,rfl,_,rfl,_,_,rfl,rfl,_,rfl,lm,_,rfl,.inl hM'.1,?_⟩
  rw [elm]
  refine ⟨_,_,rfl,rfl,(by show (0:Int) < (11:);lia),lm,_,_,_,rfl,rfl,hM'.1,hyat,md.1,_,rfl,d1,rfl,_,_,rfl,_,_,rfl,rfl,?_⟩
  refine ⟨_,rfl,.inl ⟨rfl,_,SqL.of hlf'⟩,_,rfl,_,rfl,md.2.2.1,rfl,⟨_,d2⟩,fun acc hacc=>?_⟩
  refine ZF (K:=K) (xs:=md.2.2.2.1) (cs:=[some (.ref ln)]) (tt:=fun _ H Q=>Q true H) (te:=Zz (Z5 K 4) [] E0 (QL (Q6 0) (QL (Q6 1) ZR))) (fun j ys H2=>∃ ps:List Tm,H2 acc=some (.lst ys)∧Same H' H2∧TmAll K H2 ys ps∧ps.length=j∧ps=(md.2.2.2.2.take j).map (TT.sub fun m b=>Qt (rf ns m) b)∧∀ t ∈ ps,TPr (Pn ms.length) t∧lv t≤6)
   ⟨[],Qb,Qe hacc _,.nil,rfl,rfl,fun t ht=>(nomatch ht)⟩ ?_ ?_ ?_
  ·rintro j ys H2 _ ⟨_,_,g2,_⟩
   exact g2.seq d2
  ·rintro j x ys H2 hj hx ⟨ps,hya,g2,hps,hpl,hpe,hok⟩
   have hjt:j < md.2.2.2.2.length:=by lia
   have hlen2:=hps.length
   obtain ⟨cv,hcv,hct⟩:=d3.get (List.getElem?_eq_getElem hjt)
   obtain rfl:cv=x:=Option.some.inj (hcv.symm.trans hx)
   obtain ⟨o1,o2⟩:=q3 _ (List.getElem_mem hjt)
   refine QH ⟨_,rfl,_,rfl,cv,_,ln,ns,rfl,hct.mono fun _ _=>g2.seqT,o2,SqL.of (g2 _ _ (g _ _ hln1)),fun c hc=>?_,fun v4 H4 g4 hv4=>?_⟩
   ·rw [hnl];exact o1.calls c hc
   have hya4:=g4 _ _ hya
   obtain ⟨r1,r2⟩:=Jx hnl hns o1
   refine Qp (ys:=ys) hj hya4 (7:) ⟨ps ++ [_],Qb,fun b u e=>?_,TmAll.append (hps.mono fun _ _ h=>(g4.seqT h).put hya4) (.cons (hv4.mono fun _ _ h=>h.put hya4) .nil),by simp [hpl],?_,fun t ht=>?_⟩
   ·rw [Qi (Qg e hacc)];exact g4 _ _ (g2 _ _ e)
   ·rw [hpe,List.take_add_one,List.getElem?_eq_getElem hjt,List.map_append];rfl
   ·rcases List.mem_append.mp ht with z | z
    ·exact hok t z
    ·have e:=List.mem_singleton.mp z
     rw [e];exact ⟨r1,by lia⟩
  rintro ys H2 ⟨ps,hya,g2,hps,hpl,hpe,hok⟩
  refine ⟨(19:),fun pm hpm=>?_⟩
  have e7:=Qe hpm (.tup [.str md.2.1,.ref acc])
  have g27:=g2.trans e7
  have hlf7:=g27 _ _ hlf'
  refine ⟨lf,_,_,rfl,rfl,hlf7,by rw [List.length_map,QZ];lia,?_⟩
  have hacl:acc≠lf:=fun z=>by rw [z,hlf'] at hacc;cases hacc
  refine ⟨fs ++ [(pm,md.2.1,acc,ys,ps)],_,_,_,rfl,fun b u e=>?_,by rw [Qb,List.map_append];rfl,by simp [hfl],fun i md' hi'=>?_,fun m hm=>?_⟩
  ·rw [Qi (Qg e hlf)];exact g27 _ _ (g _ _ e)
  ·by_cases hil:i < fs.length
   ·rw [List.getElem?_append_left hil] at hi'
    exact hfx i md' hi'
   ·have hik:i=k:=by
     have:=(List.getElem?_eq_some_iff.mp hi').1
     rw [List.length_append,List.length_singleton] at this
     lia
    subst hik
    rw [List.getElem?_append_right (7:),hfl,Nat.sub_self] at hi'
    cases hi'
    rw [Int.zero_add] at hmx
    refine ⟨md,hmx,rfl,?_⟩
    show ps=_
    rw [hpe,List.take_of_length_le (7:)]
  ·rcases List.mem_append.mp hm with h | h
   ·obtain ⟨⟨a1,a2,a3,a4⟩,a5⟩:=hfo m h
    exact ⟨⟨(g27.seqT a1).put hlf7,by rw [Qi a3];exact g27 _ _ a2,a3,a4.mono fun _ _ h=>(g27.seqT h).put hlf7⟩,a5⟩
   ·obtain rfl:m=(pm,md.2.1,acc,ys,ps):=by simpa using h
    refine ⟨⟨SqT.put (42:) hlf7,?_,hacl,hps.mono fun _ _ h=>(e7.seqT h).put hlf7⟩,kd,hkd,q1,by show ps.length=_;lia,hok⟩
    show (upd _ lf _) acc=_
    rw [Qi hacl];exact e7 _ _ hya
 ·rintro σ H' ⟨fs,c5,c6,c7,rfl,g,hlf',hfl,hfx,hfo⟩
  rw [Int.toNat_natCast] at hfl
  have gH:=g1.trans g
  have hT':=hT.same gH
  have hs:=hD.s hW
  obtain ⟨r1,r2⟩:=Jx hnl hns hs
  refine ⟨_,rfl,tu,_,0,_,rfl,rfl,hT'.tu,rfl,_,rfl,tu,_,1,_,rfl,rfl,hT'.tu,rfl,_,rfl,sv,st,ln,ns,rfl,hT'.s,by have:=hD.sl.1;lia,SqL.of (g _ _ hln1),fun c hc=>(by rw [hnl];exact hs.calls c hc),fun v4 H4 g4 hv4=>⟨_,rfl,(30:),fun tu1 htu1=>?_⟩⟩
  have e8:=Qe htu1 (.tup [.ref wd,v4,.ref lf])
  have g48:=g4.trans e8
  have gA:=gH.trans g48
  refine q tu1 lf v4 _ fs _ gA ⟨SqT.of Qb,(hT.same gA).w,hv4.mono fun _ _=>e8.seqT,SqL.of (g48 _ _ hlf'),fun m hm=>?_⟩ ⟨by lia,by lia,⟨by rw [hfl];exact r1,by have:=hD.sl.1;lia⟩,fun m hm=>?_⟩ hfl ⟨ns,hne,rfl,hfx⟩
  ·obtain ⟨⟨a1,a2,a3,a4⟩,_⟩:=hfo m hm
   exact ⟨g48.seqT a1,SqL.of (g48 _ _ a2),a4.mono fun _ _=>g48.seqT⟩
  ·obtain ⟨_,kd,hkd,b1,b2,b3⟩:=hfo m hm
   exact ⟨kd,hkd,b1,b2,fun t ht=>by rw [hfl];exact b3 t ht⟩
theorem Xn:FnScope ["_law_turning_here", "_law_mode", "_law_bits", "_law_modes", "_law_found", "_law_k", "_law_names_here"] ["_law_turning_here", "_law_mode", "_law_bits"] (defScope MW):=(1:)
theorem MF (F:Fun K "_law_doubled" "_law_doubled" MW f fd) (G:Gm mg) (RR:Fn P w K mg base 5 "_law_renamed" ["_law_term_here", "_law_names_here"] (Z5 K 4)):FnOk P w K mg base CX0 6 f fd ["_law_turning_here", "_law_mode", "_law_bits"] (M1 K):=by
 refine F.ok Xn (10:) (4:)
 ·obtain ⟨tu,wd,lm,sv,ks,st,ms,mo,bits,rfl,_⟩:=h
  rfl
 obtain ⟨tu,wd,lm,sv,ks,st,ms,mo,bits,rfl,hT,hW,hD,hmo,q⟩:=h
 refine ⟨_,(Qf (Qz (Qr (i:=3) Xn.nd rfl (13:) (Ql ZX (3:) (QM (Qa (Qh Qo (3:) (pv 1) (26:)) Qc)))))
  (Qf (Qz (Qr (i:=4) Xn.nd rfl (13:) (QM Qc)))
  (Qf (Q5 PassesOwn.never rfl (QI rfl G.rng (Qa (Ql QR (44:) Qd) Qc)) (QC (i:=5) Xn.nd rfl (13:)) (Qf (Qr (i:=6) Xn.nd rfl (Or.inr rfl) (QO (UP rfl) rfl G.lst PyProof.Rows.boot_list (Qa (QO Vg rfl G.rng PyProof.Rows.boot_range (Qa (44:) Qc)) Qc)))
  (Qf (Qz (QN (JE (PW.pt (pw_or ((PW.pt (pw_and (Qx Q2 (Ql Qv (Ql QY (pv 2) Qd) Qd) Qd (QA _)) (pw_and1 (Qx Q2 (Ql Qv (pv 5) Qd) Qd (QA _)))))) (pw_or1 ((PW.pt (pw_and (Qx Q2 (Ql Qv (pv 2) Qd) Qd (QA _)) (pw_and1 (Qx Q2 (Ql Qv (pv 5) Qd) Qd (QA _)))))))))) (Qj (ZL (Ql Zt (44:) Qd) (Jy (pv 6) (pv 1) YH))) QB))
  (Qj (QN (Qx UU (pv 5) (44:) (QA _)) (Qj (Q8 (Z1 PySem.F.plainAttrs_list PySem.F.slot_list_append PySem.F.type_list_append QU (pv 4) (Qa ((Qy (Qa (Qh Qk (Qh Qo (pv 3) (pv 5) (26:)) Qd (26:)) (Qa (Qw (CompG.many (xs:=["_law_rule"]) (caps:=["_law_names_here"]) (cap:=[6]) (cs:=[_]) rfl rfl (0:) (0:) (0:) (0:) (0:) (0:) rfl rfl rfl) rfl (QJ (Qh Qk (Qh Qo (pv 3) (pv 5) (26:)) Qd (26:))) (Zb (CompG.many (xs:=["_law_rule"]) (caps:=["_law_names_here"]) (cap:=[6]) (cs:=[_]) rfl rfl (0:) (0:) (0:) (0:) (0:) (0:) rfl rfl rfl)) (18:) (fun _ _ _ _=>Qn RR hr (Qa (pv 0) (47:)))) Qc)))) Qc)))) QB)))))
  (Qj (Qs (Qy (Qa (3:) (Qa (Qn RR hr (Qa (3:) (Qa (pv 6) Qc))) (Qa (pv 4) Qc))))))))),?_⟩
 have m3:=hD.three
 have elm:(23:).length=ms.length:=List.length_map ..
 have hatm:atI (23:) (mo:Int)=some (.ref ms[mo].1):=Qu (by rw [List.getElem?_map,List.getElem?_eq_getElem hmo];rfl)
 refine Za fun KK hKK=>?_
 refine ⟨_,rfl,tu,_,2,_,rfl,rfl,hT.tu,rfl,_,rfl,tu,_,2,_,rfl,rfl,hT.tu,rfl,_,rfl,lm,_,_,_,rfl,rfl,hT.m.1,hatm,(50:),fun l1 hl1=>?_⟩
 have e1:=Qe hl1 (.lst [.ref ms[mo].1])
 refine ⟨lm,l1,_,_,rfl,rfl,e1.seq hT.m.1,SqL.of Qb,by rw [elm,List.length_singleton];exact Zk (7:),fun l3 hl3=>?_⟩
 refine hKK _ _ ?_
 clear hKK KK
 obtain ⟨ms3,ems3⟩ : ∃ ms3,ms3=ms ++ [ms[mo]]:=⟨_,rfl⟩
 have ev:(23:) ++ [V.ref ms[mo].1]=ms3.map fun m=>V.ref m.1:=by rw [ems3,List.map_append];rfl
 rw [ev]
 have hl3n:ms3.length=ms.length + 1:=by rw [ems3,List.length_append];rfl
 have hin:∀ m ∈ ms3,m ∈ ms:=fun m hm=>by
  rw [ems3] at hm
  rcases List.mem_append.mp hm with h | h
  ·exact h
  ·rw [List.mem_singleton.mp h];exact List.getElem_mem hmo
 have e2:=Qe hl3 (.lst (ms3.map fun m=>V.ref m.1))
 have hl3v:(upd (upd H l1 (.lst [.ref ms[mo].1])) l3 (.lst (ms3.map fun m=>V.ref m.1))) l3=some (.lst (ms3.map fun m=>V.ref m.1)):=Qb
 have gB:=e1.trans e2
 generalize upd (upd H l1 (.lst [.ref ms[mo].1])) l3 (.lst (ms3.map fun m=>V.ref m.1))=Hb at hl3v gB ⊢
 have el3:(ms3.map fun m=>V.ref m.1).length=ms3.length:=List.length_map ..
 refine Za fun KK hKK=>?_
 refine ⟨(20:),fun lf hlf=>?_⟩
 refine hKK _ _ ?_
 clear hKK KK
 have gf:=Qe hlf (.lst [])
 refine ⟨_,rfl,l3,_,rfl,.inl (SqL.of (gf _ _ hl3v)),?_⟩
 rw [el3]
 refine ⟨_,_,rfl,rfl,_,rfl,(by show -(2 ^ 62:Int)≤(ms3.length:Int)+1;lia),(by show (ms3.length:Int)+1 < 2 ^ 62;lia),?_⟩
 refine Q3 (lo:=0) (n:=((ms3.length:Int)+1).toNat) (fun k σ H'=>∃ (fs:List MdT) (c5 c6:Option V),σ=[some (.ref tu),some (.int (mo:Int)),some (.int bits),some (.ref l3),some (.ref lf),c5,c6]∧Same Hb H'∧H' lf=some (.lst (fs.map fun m=>V.ref m.1))∧fs.length=min k ms3.length∧(∀ (i:Nat) (md:MdT),fs[i]?=some md→∃ m2:MdT,ms3[i]?=some m2∧m2.2.1=md.2.1∧∃ ns:List Int,NsD ms.length mo ns∧md.2.2.2.2=m2.2.2.2.2.map (TT.sub fun m b=>Qt (rf ns m) b))∧(∀ m ∈ fs,Nl K H' lf m∧MoR ks ms3.length m)∧(0 < k→∃ (lnm:Addr) (ns:List Int),c6=some (.ref lnm)∧H' lnm=some (.lst (NI ns))∧NsD ms.length mo ns∧ns.length=ms3.length∧∀ x ∈ ns,0≤x∧x < (ms3.length:Int)))
  ⟨[],none,none,rfl,gf,Qb,by simp,fun i md h=>(nomatch h),fun m hm=>(nomatch hm),fun h=>absurd h (Nat.lt_irrefl 0)⟩ ?_ ?_
 ·rintro k σ H' hk ⟨fs,c5,c6,rfl,g,hlf',hfl,hfx,hfo,_⟩
  have hl3':=g _ _ hl3v
  refine ⟨_,rfl,l3,_,rfl,.inl (SqL.of hl3'),?_⟩
  rw [el3]
  refine ⟨_,rfl,by lia,(by show (ms3.length:Int) < 2 ^ 20;lia),fun pr hpr=>⟨pr,ms3.length,rfl,Qb,by lia,fun lnm hlnm=>?_⟩⟩
  have e3:=Qe hpr (.rng 0 (ms3.length:Int))
  have e4:=Qe hlnm (.lst ((List.range ms3.length).map fun (i:Nat)=>V.int (i:Int)))
  have e34:=e3.trans e4
  have hlnv:(upd (upd H' pr (.rng 0 (ms3.length:Int))) lnm (.lst ((List.range ms3.length).map fun (i:Nat)=>V.int (i:Int)))) lnm=some (.lst (NI (55:))):=by rw [Qb];show _=some (HO.lst ((55:).map V.int));rw [List.map_map];rfl
  have hlnH:H' lnm=none:=e3.free hlnm
  generalize upd (upd H' pr (.rng 0 (ms3.length:Int))) lnm (.lst ((List.range ms3.length).map fun (i:Nat)=>V.int (i:Int)))=Hy at e34 hlnv ⊢
  have r0:∀ x ∈ (List.range ms3.length).map fun (i:Nat)=>(i:Int),0≤x∧x < (ms3.length:Int):=fun x hx=>by
   obtain ⟨i,hi,rfl⟩:=List.mem_map.mp hx
   have:=List.mem_range.mp hi
   lia
  have r1:(55:).length=ms3.length:=by rw [List.length_map,List.length_range]
  refine ⟨fun σ' H2=>∃ ns:List Int,σ'=[some (.ref tu),some (.int (mo:Int)),some (.int bits),some (.ref l3),some (.ref lf),some (.int (0 + (k:Int))),some (.ref lnm)]∧Same H' H2∧H2 lnm=some (.lst (NI ns))∧NsD ms.length mo ns∧ns.length=ms3.length∧∀ x ∈ ns,0≤x∧x < (ms3.length:Int),?_,?_⟩
  ·refine ⟨fun b Hx=>Hx=Hy,?_,?_⟩
   ·refine ⟨_,rfl,_,_,rfl,rfl,(22:),_,_,rfl,rfl,(by show (0:Int) < 2;decide),rfl,_,rfl,ZZ (fun _=>?_) (fun _=>?_)⟩
    ·refine ⟨_,rfl,_,_,rfl,rfl,(by show (0:Int) < 2;decide),rfl,_,rfl,ZZ (fun _=>rfl) (fun _=>?_)⟩
     exact ⟨_,rfl,_,_,rfl,rfl,(by show (0:Int) < 2;decide),rfl,_,rfl,ZZ (fun _=>⟨_,rfl,_,_,rfl,rfl,(by show (0:Int) < 2;decide),rfl,_,rfl,rfl⟩) (fun _=>rfl)⟩
    ·exact Zj ⟨_,rfl,_,_,rfl,rfl,(by show (0:Int) < 2;decide),rfl,_,rfl,ZZ (fun _=>⟨_,rfl,_,_,rfl,rfl,(by show (0:Int) < 2;decide),rfl,_,rfl,rfl⟩) (fun _=>rfl)⟩
   rintro b Hx rfl
   refine MC (fun _=>?_) (fun _=>?_)
   ·refine ⟨_,rfl,l3,_,rfl,.inl (SqL.of (e34 _ _ hl3')),?_⟩
    rw [el3]
    refine ⟨_,_,rfl,rfl,_,rfl,_,rfl,lnm,_,_,mo,rfl,rfl,hlnv,Uf (by rw [List.length_map,r1];lia),?_⟩
    refine ⟨(55:).set mo ((ms3.length:Int) - 1),rfl,fun b u e=>?_,?_,Lu hl3n hmo,by rw [List.length_set,r1],fun x hx=>?_⟩
    ·rw [Qi (Qg e hlnH)];exact e34 _ _ e
    ·rw [Qb]
     show some (HO.lst (((55:).map V.int).set mo (V.int ((ms3.length:Int) - 1))))=some (HO.lst (((55:).set mo ((ms3.length:Int) - 1)).map V.int))
     rw [List.map_set]
    ·rcases List.mem_or_eq_of_mem_set hx with h | h
     ·exact r0 x h
     ·lia
   ·exact ⟨_,rfl,e34,hlnv,V8 (7:),r1,r0⟩
  rintro σ' H2 ⟨ns,rfl,g2,hln2,hnd,hnl,hns⟩
  have hl32:=g2 _ _ hl3'
  have hlf2:=g2 _ _ hlf'
  have gB2:=gB.trans (g.trans g2)
  refine ⟨_,rfl,_,rfl,l3,_,rfl,.inl (SqL.of hl32),?_⟩
  rw [el3]
  refine ⟨_,_,rfl,rfl,_,rfl,ZZ (fun hc=>?_) (fun hc=>?_)⟩
  ·have hc':0 + (k:Int) < (ms3.length:Int):=of_decide_eq_true hc
   have hk3:k < ms3.length:=by lia
   have hmd:=hin _ (List.getElem_mem hk3)
   obtain ⟨kd,hkd,q1,q2,q3⟩:=hD.md _ hmd
   have hr3:=(hW.rws kd hkd).2
   obtain ⟨d1,d2,d3⟩:=(hT.m.same gB2).2 _ hmd
   have hlen:=d3.length
   have hat3:atI (ms3.map fun m=>V.ref m.1) (0 + (k:Int))=some (.ref ms3[k].1):=by rw [Int.zero_add];exact Qu (by rw [List.getElem?_map,List.getElem?_eq_getElem hk3];rfl)
   refine ⟨_,rfl,.inl ⟨rfl,_,SqL.of hlf2⟩,_,rfl,_,rfl,l3,_,_,_,rfl,rfl,SqL.of hl32,hat3,ms3[k].1,_,0,_,rfl,rfl,d1,rfl,_,rfl,_,rfl,l3,_,_,_,rfl,rfl,SqL.of hl32,hat3,ms3[k].1,_,1,_,rfl,rfl,d1,rfl,ms3[k].2.2.1,rfl,⟨_,d2⟩,fun acc hacc=>?_⟩
   refine ZF (K:=K) (xs:=ms3[k].2.2.2.1) (cs:=[some (.ref lnm)]) (tt:=fun _ H Q=>Q true H) (te:=Zz (Z5 K 4) [] E0 (QL (Q6 0) (QL (Q6 1) ZR))) (fun j ys H3=>∃ ps:List Tm,H3 acc=some (.lst ys)∧Same H2 H3∧TmAll K H3 ys ps∧ps.length=j∧ps=(ms3[k].2.2.2.2.take j).map (TT.sub fun m b=>Qt (rf ns m) b)∧∀ t ∈ ps,TPr (Pn ms3.length) t∧lv t≤6)
    ⟨[],Qb,Qe hacc _,.nil,rfl,rfl,fun t ht=>(nomatch ht)⟩ ?_ ?_ ?_
   ·rintro j ys H3 _ ⟨_,_,g3,_⟩
    exact g3.seq d2
   ·rintro j x ys H3 hj hx ⟨ps,hya,g3,hps,hpl,hpe,hok⟩
    have hjt:j < ms3[k].2.2.2.2.length:=by lia
    have hlen2:=hps.length
    obtain ⟨cv,hcv,hct⟩:=d3.get (List.getElem?_eq_getElem hjt)
    obtain rfl:cv=x:=Option.some.inj (hcv.symm.trans hx)
    obtain ⟨o1,o2⟩:=q3 _ (List.getElem_mem hjt)
    have o1':TPr (Pn ms3.length) ms3[k].2.2.2.2[j]:=o1.mono fun a b h=>⟨h.1,by have:=h.2;lia⟩
    refine QH ⟨_,rfl,_,rfl,cv,_,lnm,ns,rfl,hct.mono fun _ _=>g3.seqT,o2,SqL.of (g3 _ _ hln2),fun c hc=>?_,fun v4 H4 g4 hv4=>?_⟩
    ·rw [hnl];exact o1'.calls c hc
    have hya4:=g4 _ _ hya
    obtain ⟨s1,s2⟩:=Jx hnl hns o1'
    refine Qp (ys:=ys) hj hya4 (7:) ⟨ps ++ [_],Qb,fun b u e=>?_,TmAll.append (hps.mono fun _ _ h=>(g4.seqT h).put hya4) (.cons (hv4.mono fun _ _ h=>h.put hya4) .nil),by simp [hpl],?_,fun t ht=>?_⟩
    ·rw [Qi (Qg e hacc)];exact g4 _ _ (g3 _ _ e)
    ·rw [hpe,List.take_add_one,List.getElem?_eq_getElem hjt,List.map_append];rfl
    ·rcases List.mem_append.mp ht with z | z
     ·exact hok t z
     ·have e:=List.mem_singleton.mp z
      rw [e];exact ⟨s1,by lia⟩
   rintro ys H3 ⟨ps,hya,g3,hps,hpl,hpe,hok⟩
   refine ⟨(19:),fun pm hpm=>?_⟩
   have e7:=Qe hpm (.tup [.str ms3[k].2.1,.ref acc])
   have g37:=g3.trans e7
   have hlf7:=g37 _ _ hlf2
   refine ⟨lf,_,_,rfl,rfl,hlf7,by rw [List.length_map,QZ];lia,?_⟩
   have hacl:acc≠lf:=fun z=>by rw [z,hlf2] at hacc;cases hacc
   have hnlf:lnm≠lf:=fun z=>by rw [z,hlf'] at hlnH;cases hlnH
   have g27:=g2.trans g37
   refine ⟨fs ++ [(pm,ms3[k].2.1,acc,ys,ps)],_,_,rfl,fun b u e=>?_,by rw [Qb,List.map_append];rfl,by rw [List.length_append,List.length_singleton,hfl,Nat.min_eq_left (Nat.le_of_lt hk3),Nat.min_eq_left (Nat.succ_le_of_lt hk3)],fun i md' hi'=>?_,fun m hm=>?_,fun _=>⟨lnm,ns,rfl,by rw [Qi hnlf];exact g37 _ _ hln2,hnd,hnl,hns⟩⟩
   ·rw [Qi (Qg e hlf)];exact g27 _ _ (g _ _ e)
   ·have hfk:fs.length=k:=by rw [hfl,Nat.min_eq_left (Nat.le_of_lt hk3)]
    by_cases hil:i < fs.length
    ·rw [List.getElem?_append_left hil] at hi'
     exact hfx i md' hi'
    ·have hik:i=k:=by
      have:=(List.getElem?_eq_some_iff.mp hi').1
      rw [List.length_append,List.length_singleton] at this
      lia
     subst hik
     rw [List.getElem?_append_right (7:),hfk,Nat.sub_self] at hi'
     cases hi'
     refine ⟨ms3[i],List.getElem?_eq_getElem hk3,rfl,ns,hnd,?_⟩
     show ps=_
     rw [hpe,List.take_of_length_le (7:)]
   ·rcases List.mem_append.mp hm with h | h
    ·obtain ⟨⟨a1,a2,a3,a4⟩,a5⟩:=hfo m h
     exact ⟨⟨(g27.seqT a1).put hlf7,by rw [Qi a3];exact g27 _ _ a2,a3,a4.mono fun _ _ h=>(g27.seqT h).put hlf7⟩,a5⟩
    ·obtain rfl:m=(pm,ms3[k].2.1,acc,ys,ps):=by simpa using h
     refine ⟨⟨SqT.put (42:) hlf7,?_,hacl,hps.mono fun _ _ h=>(e7.seqT h).put hlf7⟩,kd,hkd,q1,by show ps.length=_;lia,hok⟩
     show (upd _ lf _) acc=_
     rw [Qi hacl];exact e7 _ _ hya
  ·have hc':¬ 0 + (k:Int) < (ms3.length:Int):=fun z=>hc (decide_eq_true z)
   have hkn:ms3.length≤k:=Nat.le_of_not_lt fun z=>hc' (by rw [Int.zero_add];exact Int.ofNat_lt.mpr z)
   refine ⟨fs,_,_,rfl,g.trans g2,hlf2,by rw [hfl,Nat.min_eq_right hkn,Nat.min_eq_right (Nat.le_succ_of_le hkn)],hfx,fun m hm=>?_,fun _=>⟨lnm,ns,rfl,hln2,hnd,hnl,hns⟩⟩
   obtain ⟨⟨a1,a2,a3,a4⟩,a5⟩:=hfo m hm
   exact ⟨⟨g2.seqT a1,g2 _ _ a2,a3,a4.mono fun _ _=>g2.seqT⟩,a5⟩
 ·rintro σ H' ⟨fs,c5,c6,rfl,g,hlf',hfl,hfx,hfo,hnm⟩
  have et:((ms3.length:Int)+1).toNat=ms3.length + 1:=Int.toNat_natCast (ms3.length + 1)
  have hfl':fs.length=ms3.length:=by rw [hfl,et,Nat.min_eq_right (Nat.le_succ _)]
  obtain ⟨lnm,ns,rfl,hln',hnd,hnl,hns⟩:=hnm (by rw [et];exact Nat.succ_pos _)
  clear hfl
  have gH:=gB.trans g
  have hT':=hT.same gH
  have hs:TPr (Pn ms3.length) st:=(hD.s hW).mono fun a b h=>⟨h.1,by have:=h.2;lia⟩
  obtain ⟨r1,r2⟩:=Jx hnl hns hs
  refine ⟨_,rfl,tu,_,0,_,rfl,rfl,hT'.tu,rfl,_,rfl,tu,_,1,_,rfl,rfl,hT'.tu,rfl,_,rfl,sv,st,lnm,ns,rfl,hT'.s,by have:=hD.sl.1;lia,SqL.of hln',fun c hc=>(by rw [hnl];exact hs.calls c hc),fun v4 H4 g4 hv4=>⟨_,rfl,(30:),fun tu1 htu1=>?_⟩⟩
  have e8:=Qe htu1 (.tup [.ref wd,v4,.ref lf])
  have g48:=g4.trans e8
  have gA:=gH.trans g48
  refine q tu1 lf v4 _ fs _ gA ⟨SqT.of Qb,(hT.same gA).w,hv4.mono fun _ _=>e8.seqT,SqL.of (g48 _ _ hlf'),fun m hm=>?_⟩ ⟨by lia,by lia,⟨by rw [hfl'];exact r1,by have:=hD.sl.1;lia⟩,fun m hm=>?_⟩ (7:) ⟨⟨ns,hnd,rfl⟩,ms[mo],List.getElem?_eq_getElem hmo,by rw [← ems3];exact hfx⟩
  ·obtain ⟨⟨a1,a2,a3,a4⟩,_⟩:=hfo m hm
   exact ⟨g48.seqT a1,SqL.of (g48 _ _ a2),a4.mono fun _ _=>g48.seqT⟩
  ·obtain ⟨_,kd,hkd,b1,b2,b3⟩:=hfo m hm
   exact ⟨kd,hkd,b1,b2,fun t ht=>by rw [hfl'];exact b3 t ht⟩
end
end K52
namespace K51
open PySem TM TT L2 K9 K11 ST
inductive Mk (rl:Int→Str→Option Tm):Tm→Int→List (Tree Str)→Tree Str→Prop where
 | call {m b z:Int} {qs:List Tm} {mark:Int} {bs:List (Tree Str)} {n:Str} {mm:Int} {cs:List (Tree Str)} {r:Tm} {o:Tree Str}:bs[b.toNat]?=some (.node n mm cs)→rl m n=some r→Mk rl r mm cs o→Mk rl (.node (.call m b) z qs) mark bs o
 | put {n:Str} {k:Bool} {a z:Int} {ps:List Tm} {mark:Int} {bs os:List (Tree Str)}:os.length=ps.length→(∀ (i:Nat) (p:Tm) (o:Tree Str),ps[i]?=some p→os[i]?=some o→Mk rl p mark bs o)→Mk rl (.node (.put n k a) z ps) mark bs (.node n (if k then a + mark else a) os)
theorem Mk.det {rl:Int→Str→Option Tm} {t:Tm} {mark:Int} {bs:List (Tree Str)} {o:Tree Str} (h:Mk rl t mark bs o):∀ {o':Tree Str},Mk rl t mark bs o'→o=o':=by
 induction h with
 | call e1 e2 _ ih =>
  intro o' h'
  cases h' with
  | call f1 f2 f3 =>
   rw [e1] at f1
   injection Option.some.inj f1 with q1 q2 q3
   subst q1 q2 q3
   rw [e2] at f2
   rw [← Option.some.inj f2] at f3
   exact ih f3
 | @put n k a z ps mark bs os hl _ ih =>
  intro o' h'
  cases h' with
  | @put _ _ _ _ _ _ _ os' hl' h2 =>
   have e:os=os':=by
    apply List.ext_getElem?
    intro i
    by_cases hi:i < os.length
    ·have hi':i < os'.length:=by lia
     rw [List.getElem?_eq_getElem hi,List.getElem?_eq_getElem hi']
     exact congrArg some (ih i _ _ (List.getElem?_eq_getElem (show i < ps.length by lia)) (List.getElem?_eq_getElem hi) (h2 i _ _ (List.getElem?_eq_getElem (show i < ps.length by lia)) (List.getElem?_eq_getElem hi')))
    ·rw [List.getElem?_eq_none (7:),List.getElem?_eq_none (7:)]
   rw [e]
theorem UX:∀ {ps qs:List Tm},PyData.eqvAll (tmds ps) (tmds qs)=true→ps.length=qs.length∧∀ (i:Nat) (p q:Tm),ps[i]?=some p→qs[i]?=some q→eqT p q=true
 | [],[],_=>⟨rfl,fun i p q h=>by simp at h⟩
 | [],_ :: _,h=>by simp [tmds,PyData.eqvAll] at h
 | _ :: _,[],h=>by simp [tmds,PyData.eqvAll] at h
 | p :: ps,q :: qs,h=>by
  simp only [tmds,PyData.eqvAll,Bool.and_eq_true] at h
  obtain ⟨a,b⟩:=UX h.2
  refine ⟨by simp [a],fun i x y hx hy=>?_⟩
  cases i with
  | zero =>
   obtain rfl:p=x:=by simpa using hx
   obtain rfl:q=y:=by simpa using hy
   exact h.1
  | succ i=>exact b i x y (by simpa using hx) (by simpa using hy)
theorem VZ {m b z:Int} {qs:List Tm} {u:Tm} (h:eqT (.node (.call m b) z qs) u=true):∃ z' qs',u=.node (.call m b) z' qs':=by
 obtain ⟨l,z',qs'⟩:=u
 unfold eqT at h
 cases l with
 | call m' b' =>
  simp [tmd,tdl,PyData.eqv,PyData.eqvAll] at h
  exact ⟨z',qs',by rw [h.1,h.2]⟩
 | put n k a=>simp [tmd,tdl,PyData.eqv,PyData.eqvAll] at h
theorem LL {n:Str} {k:Bool} {a z:Int} {ps:List Tm} {u:Tm} (h:eqT (.node (.put n k a) z ps) u=true):∃ z' qs,u=.node (.put n k a) z' qs∧ps.length=qs.length∧∀ (i:Nat) (p q:Tm),ps[i]?=some p→qs[i]?=some q→eqT p q=true:=by
 obtain ⟨l,z',qs'⟩:=u
 unfold eqT at h
 cases l with
 | call m' b'=>simp [tmd,tdl,PyData.eqv,PyData.eqvAll] at h
 | put n' k' a' =>
  simp [tmd,tdl,PyData.eqv,PyData.eqvAll] at h
  obtain ⟨h1,h2,h3,h4⟩:=h
  obtain ⟨e1,e2⟩:=UX h4
  exact ⟨z',qs',by rw [h1,h2,h3],e1,e2⟩
theorem Mk.eq {rl:Int→Str→Option Tm} {t:Tm} {mark:Int} {bs:List (Tree Str)} {o:Tree Str} (h:Mk rl t mark bs o):∀ {u:Tm},eqT t u=true→Mk rl u mark bs o:=by
 induction h with
 | call e1 e2 h3 _ =>
  intro u hu
  obtain ⟨z',qs',rfl⟩:=VZ hu
  exact .call e1 e2 h3
 | @put n k a z ps mark bs os hl _ ih =>
  intro u hu
  obtain ⟨z',qs',rfl,l,e⟩:=LL hu
  refine .put (7:) fun i q o hq ho=>?_
  have hi:i < ps.length:=by rw [l];exact (List.getElem?_eq_some_iff.mp hq).1
  exact ih i _ o (List.getElem?_eq_getElem hi) ho (e i _ q (List.getElem?_eq_getElem hi) hq)
theorem J0:∀ {ps:List Tm} {i:Nat} {p:Tm} {c:Int × Int},ps[i]?=some p→c ∈ cls p→c ∈ Q4 ps
 | [],i,p,c,h,_=>by simp at h
 | q :: r,i,p,c,h,hc=>by
  simp only [Q4]
  cases i with
  | zero =>
   obtain rfl:q=p:=by simpa using h
   exact List.mem_append_left _ hc
  | succ i=>exact List.mem_append_right _ (J0 (i:=i) (by simpa using h) hc)
mutual
theorem VJ {rl:Int→Str→Option Tm} {f:Int→Tm} {n:Str} {mm mark b:Int} {cs bs:List (Tree Str)} (hb:bs[b.toNat]?=some (.node n mm cs)):∀ {t:Tm},kp t=false→(∀ c ∈ cls t,rl c.1 n=some (f c.1))→∀ {o:Tree Str},Mk rl (TT.sub (fun m _=>f m) t) mm cs o→Mk rl (onB b t) mark bs o
 | .node (.call m b') z qs,_,hc,o,h=>by
  simp only [TT.sub,hdF] at h
  show Mk rl (TT.sub _ _) mark bs o
  simp only [TT.sub,hdF,Qt]
  exact .call hb (hc (m,b') (by simp [cls,lcl])) h
 | .node (.put n' k a) z ps,hk,hc,o,h=>by
  simp only [kp,kpl,Bool.or_eq_false_iff] at hk
  obtain ⟨hk1,hk2⟩:=hk
  subst hk1
  simp only [TT.sub,hdF] at h
  show Mk rl (TT.sub _ _) mark bs o
  simp only [TT.sub,hdF]
  cases h with
  | @put _ _ _ _ _ _ _ os hl h2 =>
   have e:∀ (g:Int→Int→Tm),(TT.subs g ps).length=ps.length:=fun g=>by rw [Q7,List.length_map]
   rw [e] at hl
   refine .put (k:=false) (by rw [e];exact hl) fun i q o hq ho=>?_
   rw [Q7,List.getElem?_map] at hq
   cases hp:ps[i]? with
   | none=>rw [hp] at hq;cases hq
   | some p =>
    rw [hp] at hq
    rw [← Option.some.inj hq]
    exact X8 hb hk2 (fun c hc'=>hc c (by simp only [cls,lcl,List.nil_append];exact hc')) hp (h2 i _ o (by rw [Q7,List.getElem?_map,hp];rfl) ho)
theorem X8 {rl:Int→Str→Option Tm} {f:Int→Tm} {n:Str} {mm mark b:Int} {cs bs:List (Tree Str)} (hb:bs[b.toNat]?=some (.node n mm cs)):∀ {ps:List Tm},kps ps=false→(∀ c ∈ Q4 ps,rl c.1 n=some (f c.1))→∀ {i:Nat} {p:Tm} {o:Tree Str},ps[i]?=some p→Mk rl (TT.sub (fun m _=>f m) p) mm cs o→Mk rl (onB b p) mark bs o
 | [],_,_,i,p,o,hp,_=>by simp at hp
 | q :: r,hk,hc,i,p,o,hp,h=>by
  simp only [kps,Bool.or_eq_false_iff] at hk
  cases i with
  | zero =>
   obtain rfl:q=p:=by simpa using hp
   exact VJ hb hk.1 (fun c hc'=>hc c (by simp only [Q4];exact List.mem_append_left _ hc')) h
  | succ i=>exact X8 hb hk.2 (fun c hc'=>hc c (by simp only [Q4];exact List.mem_append_right _ hc')) (i:=i) (by simpa using hp) h
end
def ZU (ks:List KdT) (ms:List MdT) (m:Int) (n:Str):Option Tm:=(ms[m.toNat]?).bind fun md=>((QT ks md.2.1).findIdx? fun r=>decide (r.2.1=n)).bind fun j=>md.2.2.2.2[j]?
theorem X0 {ks:List KdT} {st1 st2:Tm} {ms1 ms2:List MdT} {ts:List (36:)} (h:Paper st1 ms1 ts st2 ms2) (hk:∀ t,some t ∈ ts→kp t=false) (hl:∀ m ∈ ms2,m.2.2.2.2.length=(QT ks m.2.1).length) {t:Tm} {mark:Int} {bs:List (Tree Str)} {o:Tree Str} (ho:Mk (ZU ks ms1) t mark bs o):Zs ts t=true→Mk (ZU ks ms2) (tin ts t) mark bs o:=by
 induction ho with
 | @call m b z qs mark bs n mm cs r o e1 e2 _ ih =>
  intro hh
  have h1:Y7 ts (m,b)=true:=by
   unfold Zs at hh
   exact List.all_eq_true.mp hh (m,b) (by simp [cls,lcl])
  unfold Y7 at h1
  cases ht:ts[m.toNat]? with
  | none=>simp [ht] at h1
  | some o' =>
   cases o' with
   | none=>simp [ht] at h1
   | some t' =>
    unfold ZU at e2
    cases hm:ms1[m.toNat]? with
    | none=>rw [hm] at e2;cases e2
    | some md =>
     rw [hm] at e2
     cases hj:(QT ks md.2.1).findIdx? fun r=>decide (r.2.1=n) with
     | none=>simp only [Option.bind_some,hj] at e2;cases e2
     | some j =>
      simp only [Option.bind_some,hj] at e2
      have g:=ih (h.hr _ md t' hm ht r (List.mem_of_getElem? e2))
      have g2:=g.eq (h.er _ md t' hm ht j r e2)
      have etin:tin ts (.node (.call m b) z qs)=onB b t':=by
       unfold tin
       simp only [TT.sub,hdF,tf,ht]
      rw [etin]
      refine VJ e1 (hk t' (List.mem_of_getElem? ht)) (fun c hc=>?_) g2
      have hf:=List.all_eq_true.mp (h.fit _ md t' hm ht) c hc
      unfold Yw at hf
      simp only [Bool.and_eq_true,decide_eq_true_eq] at hf
      obtain ⟨⟨⟨⟨f1,f2⟩,f3⟩,f4⟩,f5⟩:=hf
      have f6:c.2.toNat=0:=by simp at f4;lia
      rw [f6] at f5
      simp only [List.getElem?_map] at f5
      cases hm2:ms2[c.1.toNat]? with
      | none=>rw [hm2] at f5;simp at f5
      | some md2 =>
       rw [hm2] at f5
       have ek:md2.2.1=md.2.1:=by simpa [MdT.md] using f5
       unfold ZU QD
       rw [hm2]
       simp only [Option.bind_some,ek,hj]
       have hj2:j < md2.2.2.2.2.length:=by
        rw [hl md2 (List.mem_of_getElem? hm2),ek]
        exact (List.findIdx?_eq_some_iff_getElem.mp hj).1
       rw [List.getElem?_eq_getElem hj2];rfl
 | @put n k a z ps mark bs os hl' _ ih =>
  intro hh
  have e:tin ts (.node (.put n k a) z ps)=.node (.put n k a) 0 (ps.map (tin ts)):=by
   show TT.sub _ _=_
   simp only [TT.sub,hdF,Q7];rfl
  rw [e]
  refine .put (by rw [List.length_map];exact hl') fun i q o hq ho=>?_
  rw [List.getElem?_map] at hq
  cases hp:ps[i]? with
  | none=>rw [hp] at hq;cases hq
  | some p =>
   rw [hp] at hq
   rw [← Option.some.inj hq]
   refine ih i p o hp ho ?_
   unfold Zs at hh ⊢
   rw [List.all_eq_true] at hh ⊢
   exact fun c hc=>hh c (by simp only [cls,lcl,List.nil_append];exact J0 hp hc)
theorem XR {ks:List KdT} {st1 st2:Tm} {ms1 ms2:List MdT} {ts:List (36:)} (h:Paper st1 ms1 ts st2 ms2) (hk:∀ t,some t ∈ ts→kp t=false) (hl:∀ m ∈ ms2,m.2.2.2.2.length=(QT ks m.2.1).length) {bs:List (Tree Str)} {o1 o2:Tree Str} (h1:Mk (ZU ks ms1) st1 0 bs o1) (h2:Mk (ZU ks ms2) st2 0 bs o2):o1=o2 :=
 ((X0 h hk hl h1 h.hs).eq h.es).det h2
end K51
namespace K51
open PySem TM TT L2 K9 K11 ST
mutual
theorem Wr (f g:Int→Int→Tm):∀ t:Tm,TT.sub f (TT.sub g t)=TT.sub (fun m b=>TT.sub f (g m b)) t
 | .node (.call m b) _ bs=>by simp only [TT.sub,hdF]
 | .node (.put n k a) _ bs=>by simp only [TT.sub,hdF,UT f g bs]
theorem UT (f g:Int→Int→Tm):∀ bs:List Tm,TT.subs f (TT.subs g bs)=TT.subs (fun m b=>TT.sub f (g m b)) bs
 | []=>by simp only [TT.subs]
 | b :: r=>by simp only [TT.subs,Wr f g b,UT f g r]
end
mutual
theorem Ju:∀ t:Tm,tmd (TT.sub Qt t)=tmd t
 | .node (.call m b) _ bs=>by simp only [TT.sub,hdF,Qt,tmd,tdl]
 | .node (.put n k a) _ bs=>by simp only [TT.sub,hdF,tmd,Wz bs]
theorem Wz:∀ bs:List Tm,tmds (TT.subs Qt bs)=tmds bs
 | []=>by simp only [TT.subs,tmds]
 | b :: r=>by simp only [TT.subs,tmds,Ju b,Wz r]
end
mutual
theorem Wg (f:Int→Int→Tm):∀ (t:Tm) (c:Int × Int),c ∈ cls (TT.sub f t)→∃ d ∈ cls t,c ∈ cls (f d.1 d.2)
 | .node (.call m b) _ bs,c,h=>⟨(m,b),by simp [cls,lcl],by simpa only [TT.sub,hdF] using h⟩
 | .node (.put n k a) _ bs,c,h=>by
  simp only [TT.sub,hdF,cls,lcl,List.nil_append] at h
  obtain ⟨d,h1,h2⟩:=JZ f bs c h
  exact ⟨d,by simpa only [cls,lcl,List.nil_append] using h1,h2⟩
theorem JZ (f:Int→Int→Tm):∀ (bs:List Tm) (c:Int × Int),c ∈ Q4 (TT.subs f bs)→∃ d ∈ Q4 bs,c ∈ cls (f d.1 d.2)
 | [],c,h=>by simp [TT.subs,Q4] at h
 | b :: r,c,h=>by
  simp only [TT.subs,Q4,List.mem_append] at h ⊢
  rcases h with h | h
  ·obtain ⟨d,h1,h2⟩:=Wg f b c h
   exact ⟨d,.inl h1,h2⟩
  ·obtain ⟨d,h1,h2⟩:=JZ f r c h
   exact ⟨d,.inr h1,h2⟩
end
def ren (ρ:Int→Int) (t:Tm):Tm:=TT.sub (fun m b=>Qt (ρ m) b) t
def UQ (ts:List (36:)) (ρ:Int→Int) (t:Tm):Prop:=∀ c ∈ cls t,ts[(ρ c.1).toNat]?=some (some (Qt c.1 0))
theorem Wu (m a b:Int):onB b (Qt m a)=Qt m b:=by simp only [onB,Qt,TT.sub,hdF]
theorem Us (m b:Int):cls (Qt m b)=[(m,b)]:=by simp [Qt,cls,lcl,Q4]
theorem Lg {ts:List (36:)} {ρ:Int→Int} {t:Tm} (h:UQ ts ρ t):tmd (tin ts (ren ρ t))=tmd t:=by
 unfold tin ren
 rw [Wr,ZT (g:=Qt),Ju]
 intro c hc
 have:=h c hc
 simp only [Qt,TT.sub,hdF,tf]
 rw [this]
 exact Wu _ _ _
theorem LQ {ts:List (36:)} {ρ:Int→Int} {t:Tm} (h:UQ ts ρ t):Zs ts (ren ρ t)=true:=by
 unfold Zs ren
 rw [List.all_eq_true]
 intro c hc
 obtain ⟨d,h1,h2⟩:=Wg _ t c hc
 rw [Us] at h2
 rw [List.mem_singleton.mp h2]
 unfold Y7
 rw [h d h1]
theorem JJ {a b:Tm} (e:tmd a=tmd b) (h:(tmd b).canLay0=true):eqT a b=true:=by
 unfold eqT
 rw [e]
 exact Z6 _ h
def Tn (ts:List (36:)) (r r0:Tm):Prop:=tmd (tin ts r)=tmd r0∧Zs ts r=true
theorem Tn.ren {ts:List (36:)} {ρ:Int→Int} {t:Tm} (h:UQ ts ρ t):Tn ts (ren ρ t) t:=⟨Lg h,LQ h⟩
theorem Tn.self {ts:List (36:)} {t:Tm} (h:UQ ts id t):Tn ts t t:=by
 refine ⟨?_,?_⟩
 ·unfold tin
  rw [ZT (g:=Qt),Ju]
  intro c hc
  have:=h c hc
  simp only [id] at this
  simp only [tf]
  rw [this]
  exact Wu _ _ _
 ·unfold Zs
  rw [List.all_eq_true]
  intro c hc
  have:=h c hc
  simp only [id] at this
  unfold Y7
  rw [this]
structure Std (ts:List (36:)) (ms2:List MdT) (md:MdT) (s:Nat):Prop where
 ex:∃ m2:MdT,ms2[s]?=some m2∧m2.2.1=md.2.1∧∀ (j:Nat) (r:Tm),md.2.2.2.2[j]?=some r→∃ r0,m2.2.2.2.2[j]?=some r0∧Tn ts r r0∧(tmd r0).canLay0=true
theorem Std.fit {ts:List (36:)} {ms2:List MdT} {md:MdT} {s:Nat} (h:Std ts ms2 md s):YK (mks (mds ms2)) [md.2.1] (Qt (s:Int) 0)=true:=by
 obtain ⟨m2,h1,h2,_⟩:=h.ex
 have hs:=(List.getElem?_eq_some_iff.mp h1).1
 unfold YK
 rw [Us,List.all_cons,List.all_nil,Bool.and_true]
 unfold Yw
 simp only [Bool.and_eq_true,decide_eq_true_eq,Int.toNat_natCast,List.length_map,List.length_singleton]
 refine ⟨⟨⟨⟨by lia,by lia⟩,by lia⟩,by decide⟩,?_⟩
 rw [List.getElem?_map,List.getElem?_map,h1]
 show some m2.2.1=some md.2.1
 rw [h2]
theorem Std.has {ts:List (36:)} {ms2:List MdT} {md:MdT} {s:Nat} (h:Std ts ms2 md s):∀ r ∈ md.2.2.2.2,Zs ts r=true:=fun r hr=>by
 obtain ⟨m2,_,_,h3⟩:=h.ex
 obtain ⟨j,hj,rfl⟩:=List.getElem_of_mem hr
 obtain ⟨r0,_,h5,_⟩:=h3 j _ (List.getElem?_eq_getElem hj)
 exact h5.2
theorem Std.er {ts:List (36:)} {ms2:List MdT} {md:MdT} {s:Nat} (h:Std ts ms2 md s) (j:Nat) (r:Tm) (hr:md.2.2.2.2[j]?=some r):eqT (tin ts r) (rin ms2 j (Qt (s:Int) 0))=true:=by
 obtain ⟨m2,h1,_,h3⟩:=h.ex
 obtain ⟨r0,h4,h5,h6⟩:=h3 j r hr
 have e:rin ms2 j (Qt (s:Int) 0)=r0:=by
  simp only [rin,Qt,TT.sub,hdF,QD,Int.toNat_natCast]
  rw [h1]
  show (m2.2.2.2.2[j]?).getD _=r0
  rw [h4]
  rfl
 rw [e]
 exact JJ h5.1 h6
theorem Z9 {st1 st2:Tm} {ms1 ms2:List MdT} {ts:List (36:)} (hs:Tn ts st1 st2) (hl:(tmd st2).canLay0=true) (hm:∀ (k:Nat) (md:MdT) (t:Tm),ms1[k]?=some md→ts[k]?=some (some t)→∃ s:Nat,t=Qt (s:Int) 0∧Std ts ms2 md s):Paper st1 ms1 ts st2 ms2 :=
 ⟨fun k md t a b=>by obtain ⟨s,rfl,h⟩:=hm k md t a b;exact h.fit,hs.2,fun k md t a b=>by obtain ⟨s,rfl,h⟩:=hm k md t a b;exact h.has,JJ hs.1 hl,fun k md t a b=>by obtain ⟨s,rfl,h⟩:=hm k md t a b;exact h.er⟩
theorem XZ {st2:Tm} {ms2:List MdT} {mh:MdT} {ts:List (36:)} (hn:ts[ms2.length]?=some (some st2)) (hf:YK (mks (mds ms2)) [mh.2.1] st2=true) (hl:(tmd st2).canLay0=true)
 (hm:∀ (k:Nat) (md:MdT) (t:Tm),ms2[k]?=some md→ts[k]?=some (some t)→∃ s:Nat,t=Qt (s:Int) 0∧Std ts ms2 md s) (hr:∀ (j:Nat) (r:Tm),mh.2.2.2.2[j]?=some r→r=rin ms2 j st2∧UQ ts id r∧(tmd r).canLay0=true):Paper (Qt (ms2.length:Int) 0) (ms2 ++ [mh]) ts st2 ms2:=by
 have two:∀ (k:Nat) (md:MdT) (t:Tm),(ms2 ++ [mh])[k]?=some md→ts[k]?=some (some t)→(∃ s:Nat,t=Qt (s:Int) 0∧Std ts ms2 md s)∨md=mh∧t=st2:=fun k md t a b=>by
  by_cases hk:k < ms2.length
  ·rw [List.getElem?_append_left hk] at a
   exact .inl (hm k md t a b)
  ·have hk2:k=ms2.length:=by
    have:=(List.getElem?_eq_some_iff.mp a).1
    rw [List.length_append] at this
    have h1:[mh].length=1:=rfl
    lia
   subst hk2
   rw [List.getElem?_append_right (9:),Nat.sub_self] at a
   rw [hn] at b
   cases a
   cases b
   exact .inr ⟨rfl,rfl⟩
 refine ⟨fun k md t a b=>?_,?_,fun k md t a b=>?_,?_,fun k md t a b=>?_⟩
 ·rcases two k md t a b with ⟨s,rfl,h⟩ | ⟨rfl,rfl⟩
  ·exact h.fit
  ·exact hf
 ·unfold Zs
  rw [Us,List.all_cons,List.all_nil,Bool.and_true]
  unfold Y7
  simp only [Int.toNat_natCast]
  rw [hn]
 ·rcases two k md t a b with ⟨s,rfl,h⟩ | ⟨rfl,rfl⟩
  ·exact h.has
  ·intro r hr'
   obtain ⟨j,hj,rfl⟩:=List.getElem_of_mem hr'
   exact (Tn.self (hr j _ (List.getElem?_eq_getElem hj)).2.1).2
 ·refine JJ ?_ hl
  have e:tin ts (Qt (ms2.length:Int) 0)=onB 0 st2:=by
   simp only [tin,Qt,TT.sub,hdF,tf,Int.toNat_natCast]
   rw [hn]
  rw [e]
  unfold onB
  rw [ZT (g:=Qt),Ju]
  intro c hc
  unfold YK at hf
  have:=List.all_eq_true.mp hf c hc
  unfold Yw at this
  simp only [Bool.and_eq_true,decide_eq_true_eq,List.length_singleton] at this
  have h0:c.2=0:=by have h1:=this.1.1.2;have h2:=this.1.2;lia
  rw [h0]
 ·rcases two k md t a b with ⟨s,rfl,h⟩ | ⟨rfl,rfl⟩
  ·exact h.er
  ·intro j r hj
   obtain ⟨e,hb,hl2⟩:=hr j r hj
   rw [← e]
   exact JJ (Tn.self hb).1 hl2
end K51
namespace K51
open PySem TM TT L2 K9 K11 ST
def GA (n:Nat) (t:Tm):Prop:=∀ c ∈ cls t,0≤c.1∧c.1 < (n:Int)
def Q1 (n:Nat):List (36:):=(List.range n).map fun k:Nat=>some (Qt (k:Int) 0)
theorem QP (n:Nat):(Q1 n).length=n:=by simp [Q1]
theorem Yi {n k:Nat} (h:k < n):(Q1 n)[k]?=some (some (Qt (k:Int) 0)):=by
 unfold Q1
 rw [List.getElem?_map,List.getElem?_range h]
 rfl
theorem JS {n:Nat} {rest:List (36:)} {m:Int} (h0:0≤m) (h1:m < (n:Int)):(Q1 n ++ rest)[m.toNat]?=some (some (Qt m 0)):=by
 have hk:m.toNat < n:=by lia
 rw [List.getElem?_append_left (by rw [QP];exact hk),Yi hk,Int.toNat_of_nonneg h0]
theorem ZW {n:Nat} {rest:List (36:)} {t:Tm} (h:GA n t):UQ (Q1 n ++ rest) id t:=fun c hc=>JS (h c hc).1 (h c hc).2
def RlB (n:Nat) (t:Tm):Prop:=GA n t∧(tmd t).canLay0=true
theorem GW {n:Nat} {rest:List (36:)} {ms:List MdT} {md:MdT} {k:Nat} (h:ms[k]?=some md) (hr:∀ r ∈ md.2.2.2.2,RlB n r):Std (Q1 n ++ rest) ms md k :=
 ⟨md,h,rfl,fun j r hj=>⟨r,hj,Tn.self (ZW (hr r (List.mem_of_getElem? hj)).1),(hr r (List.mem_of_getElem? hj)).2⟩⟩
theorem W1 {st1 st:Tm} {ms1 ms:List MdT} {mo:Nat} {m0:MdT} (hm0:ms[mo]?=some m0) (hst:RlB ms.length st) (hr:∀ m ∈ ms,∀ r ∈ m.2.2.2.2,RlB ms.length r)
 (h1:∃ ρ:Int→Int,st1=ren ρ st∧UQ (46:) ρ st)
 (hm:∀ (k:Nat) (md:MdT),ms1[k]?=some md→∃ m2:MdT,(ms ++ [m0])[k]?=some m2∧m2.2.1=md.2.1∧∃ ρ:Int→Int,md.2.2.2.2=m2.2.2.2.2.map (ren ρ)∧∀ r ∈ m2.2.2.2.2,UQ (46:) ρ r):Paper st1 ms1 (46:) st ms:=by
 obtain ⟨ρ,rfl,hb⟩:=h1
 refine Z9 (Tn.ren hb) hst.2 fun k md t a b=>?_
 obtain ⟨m2,c1,c2,ρ',c3,c4⟩:=hm k md a
 have std:∀ s:Nat,ms[s]?=some m2→Std (46:) ms md s:=fun s hs=>⟨m2,hs,c2,fun j r hj=>by
  rw [c3,List.getElem?_map] at hj
  cases e:m2.2.2.2.2[j]? with
  | none=>rw [e] at hj;cases hj
  | some r0 =>
   rw [e] at hj
   cases hj
   have hrm:=List.mem_of_getElem? e
   exact ⟨r0,rfl,Tn.ren (c4 r0 hrm),(hr m2 (List.mem_of_getElem? hs) r0 hrm).2⟩⟩
 by_cases hk:k < ms.length
 ·rw [List.getElem?_append_left (by rw [QP];exact hk),Yi hk] at b
  rw [List.getElem?_append_left hk] at c1
  cases b
  exact ⟨k,rfl,std k c1⟩
 ·have hk2:k=ms.length:=by
   have:=(List.getElem?_eq_some_iff.mp c1).1
   rw [List.length_append] at this
   have h1:[m0].length=1:=rfl
   lia
  subst hk2
  rw [List.getElem?_append_right (by rw [QP];exact Nat.le_refl _),QP,Nat.sub_self] at b
  rw [List.getElem?_append_right (9:),Nat.sub_self] at c1
  cases b
  cases c1
  exact ⟨mo,rfl,std mo hm0⟩
theorem XL {st:Tm} {ms:List MdT} {mo:Nat} {m0:MdT} (hm0:ms[mo]?=some m0) (hst:RlB ms.length st) (hr:∀ m ∈ ms,∀ r ∈ m.2.2.2.2,RlB ms.length r) {ms1:List MdT} (hm:∀ (k:Nat) (md:MdT),ms1[k]?=some md→∃ m2:MdT,(ms ++ [m0])[k]?=some m2∧m2.2.1=md.2.1∧md.2.2.2.2=m2.2.2.2.2):Paper st ms1 (46:) st ms:=by
 refine Z9 (Tn.self (ZW hst.1)) hst.2 fun k md t a b=>?_
 obtain ⟨m2,c1,c2,c3⟩:=hm k md a
 have std:∀ s:Nat,ms[s]?=some m2→Std (46:) ms md s:=fun s hs=>⟨m2,hs,c2,fun j r hj=>by
  rw [c3] at hj
  have hrm:=List.mem_of_getElem? hj
  exact ⟨r,hj,Tn.self (ZW (hr m2 (List.mem_of_getElem? hs) r hrm).1),(hr m2 (List.mem_of_getElem? hs) r hrm).2⟩⟩
 by_cases hk:k < ms.length
 ·rw [List.getElem?_append_left (by rw [QP];exact hk),Yi hk] at b
  rw [List.getElem?_append_left hk] at c1
  cases b
  exact ⟨k,rfl,std k c1⟩
 ·have hk2:k=ms.length:=by
   have:=(List.getElem?_eq_some_iff.mp c1).1
   rw [List.length_append] at this
   have h1:[m0].length=1:=rfl
   lia
  subst hk2
  rw [List.getElem?_append_right (by rw [QP];exact Nat.le_refl _),QP,Nat.sub_self] at b
  rw [List.getElem?_append_right (9:),Nat.sub_self] at c1
  cases b
  cases c1
  exact ⟨mo,rfl,std mo hm0⟩
def XV (n:Nat) (step:Int):List (36:):=(List.range n).map fun k:Nat=>some (Qt (((k:Int) - step) % (n:Int)) 0)
theorem J6 {n:Nat} {step m:Int} (h0:0≤m) (h1:m < (n:Int)):(((m + step) % (n:Int)) - step) % (n:Int)=m:=by
 rw [Int.sub_emod,Int.emod_emod,← Int.sub_emod,Int.add_sub_cancel,Int.emod_eq_of_lt h0 h1]
theorem LG {n:Nat} {step m:Int} (h0:0≤m) (h1:m < (n:Int)):(XV n step)[((m + step) % (n:Int)).toNat]?=some (some (Qt m 0)):=by
 have a0:0≤(m + step) % (n:Int):=Int.emod_nonneg _ (7:)
 have a1:(m + step) % (n:Int) < (n:Int):=Int.emod_lt_of_pos _ (7:)
 unfold XV
 rw [List.getElem?_map,List.getElem?_range (7:)]
 show some (some (Qt (((((m + step) % (n:Int)).toNat:Int) - step) % (n:Int)) 0))=_
 rw [Int.toNat_of_nonneg a0,J6 h0 h1]
theorem WW {st:Tm} {ms ms1:List MdT} {step:Int} (hst:RlB ms.length st) (hr:∀ m ∈ ms,∀ r ∈ m.2.2.2.2,RlB ms.length r)
 (hm:∀ (k:Nat) (md:MdT),ms1[k]?=some md→∃ m2:MdT,ms[(((k:Int) - step) % (11:)).toNat]?=some m2∧m2.2.1=md.2.1∧md.2.2.2.2=m2.2.2.2.2.map (ren fun m=>(m + step) % (11:))):Paper (ren (fun m=>(m + step) % (11:)) st) ms1 (XV ms.length step) st ms:=by
 have back:∀ {t:Tm},GA ms.length t→UQ (XV ms.length step) (fun m=>(m + step) % (11:)) t:=fun h c hc=>LG (h c hc).1 (h c hc).2
 refine Z9 (Tn.ren (back hst.1)) hst.2 fun k md t a b=>?_
 obtain ⟨m2,c1,c2,c3⟩:=hm k md a
 have hk:k < ms.length:=by
  have:=(List.getElem?_eq_some_iff.mp b).1
  simpa [XV] using this
 unfold XV at b
 rw [List.getElem?_map,List.getElem?_range hk] at b
 cases b
 have a0:0≤((k:Int) - step) % (11:):=Int.emod_nonneg _ (7:)
 refine ⟨(((k:Int) - step) % (11:)).toNat,by rw [Int.toNat_of_nonneg a0],m2,c1,c2,fun j r hj=>?_⟩
 rw [c3,List.getElem?_map] at hj
 cases e:m2.2.2.2.2[j]? with
 | none=>rw [e] at hj;cases hj
 | some r0 =>
  rw [e] at hj
  cases hj
  have hrm:=List.mem_of_getElem? e
  exact ⟨r0,rfl,Tn.ren (back (hr m2 (List.mem_of_getElem? c1) r0 hrm).1),(hr m2 (List.mem_of_getElem? c1) r0 hrm).2⟩
end K51
namespace K52
open K51
open PySem L2 TM TT K9 K11 ST
mutual
theorem TPr.lay {p:Int→Int→Prop}:∀ {t:Tm},TPr p t→(tmd t).canLay0=true
 | .node (.call m b) _ bs,_=>by simp only [tmd,tdl,PyData.canLay0,PyData.canLayAll0];decide +kernel
 | .node (.put n k a) _ bs,h=>by
  simp only [TPr] at h
  have h2:=TPrs.lay h.2.2
  have hP:PyData.strOk PUT=true:=by decide +kernel
  simp only [tmd,tdl,PyData.canLay0,PyData.canLayAll0,h2,h.1,hP,Bool.and_self,Bool.and_true]
theorem TPrs.lay {p:Int→Int→Prop}:∀ {bs:List Tm},TPrs p bs→PyData.canLayAll0 (tmds bs)=true
 | [],_=>by simp only [tmds,PyData.canLayAll0]
 | b :: r,h=>by
  simp only [TPrs] at h
  simp only [tmds,PyData.canLayAll0,TPr.lay h.1,TPrs.lay h.2,Bool.and_self]
end
theorem Ui {n:Nat} {t:Tm} (h:TPr (Pn n) t):RlB n t:=⟨fun c hc=>h.calls c hc,TPr.lay h⟩
theorem Xc {n mo:Nat} {ns:List Int} {t:Tm} (h:NsD n mo ns) (ht:GA n t):UQ (Q1 n ++ [some (Qt (mo:Int) 0)]) (rf ns) t:=fun c hc=>by
 obtain ⟨c0,c1⟩:=ht c hc
 have hm:c.1.toNat < n:=by lia
 unfold rf
 rcases h c.1.toNat hm with e | ⟨e1,e⟩
 ·rw [e]
  show (Q1 n ++ [some (Qt (mo:Int) 0)])[((c.1.toNat:Int)).toNat]?=_
  rw [Int.toNat_natCast]
  exact JS c0 c1
 ·rw [e]
  show (Q1 n ++ [some (Qt (mo:Int) 0)])[((n:Int)).toNat]?=_
  rw [Int.toNat_natCast,List.getElem?_append_right (by rw [QP];exact Nat.le_refl _),QP,Nat.sub_self]
  have:(mo:Int)=c.1:=by lia
  rw [this]
  rfl
section
variable {ks:List KdT} {st st1:Tm} {ms ms1:List MdT}
theorem ZO (hD:T51 ks st ms):∀ m ∈ ms,∀ r ∈ m.2.2.2.2,RlB ms.length r:=fun m hm r hr=>by
 obtain ⟨kd,_,_,_,h⟩:=hD.md m hm
 exact Ui (h r hr).1
theorem Vz {mo:Nat} (hW:WD ks) (hD:T51 ks st ms) (h:DOk st ms mo st1 ms1):Paper st1 ms1 (46:) st ms:=by
 obtain ⟨⟨ns,hn,rfl⟩,m0,hm0,hm⟩:=h
 have hst:=Ui (hD.s hW)
 refine W1 hm0 hst (ZO hD) ⟨rf ns,rfl,Xc hn hst.1⟩ fun k md hk=>?_
 obtain ⟨m2,a1,a2,ns',a3,a4⟩:=hm k md hk
 refine ⟨m2,a1,a2,rf ns',a4,fun r hr=>Xc a3 ?_⟩
 have hm2:m2 ∈ ms:=by
  rcases List.mem_append.mp (List.mem_of_getElem? a1) with z | z
  ·exact z
  ·rw [List.mem_singleton.mp z];exact List.mem_of_getElem? hm0
 exact (ZO hD m2 hm2 r hr).1
theorem GX {step:Int} (hW:WD ks) (hD:T51 ks st ms) (h:TAk st ms step st1 ms1):Paper st1 ms1 (XV ms.length step) st ms:=by
 obtain ⟨ns,hne,rfl,hm⟩:=h
 have e:∀ {t:Tm},GA ms.length t→TT.sub (fun m b=>Qt (rf ns m) b) t=ren (fun m=>(m + step) % (11:)) t:=fun {t} ht=>by
  unfold ren
  refine ZT fun c hc=>?_
  obtain ⟨c0,c1⟩:=ht c hc
  have:rf ns c.1=(c.1 + step) % (11:):=by
   unfold rf
   rw [hne,List.getElem?_map,List.getElem?_range (7:)]
   show ((c.1.toNat:Int)+step) % _=_
   rw [Int.toNat_of_nonneg c0]
  rw [this]
 have hst:=Ui (hD.s hW)
 rw [e hst.1]
 refine WW hst (ZO hD) fun k md hk=>?_
 obtain ⟨m2,a1,a2,a3⟩:=hm k md hk
 refine ⟨m2,a1,a2,a3.trans (List.map_congr_left fun r hr=>e (ZO hD m2 (List.mem_of_getElem? a1) r hr).1)⟩
theorem XF {mo:Nat} {m0:MdT} (hW:WD ks) (hD:T51 ks st ms) (hm0:ms[mo]?=some m0):Paper st (ms ++ [m0]) (46:) st ms :=
 XL hm0 (Ui (hD.s hW)) (ZO hD) fun k md hk=>⟨md,hk,rfl,rfl⟩
end
end K52
namespace K52
open K51
open PySem L2 TM TT K9 K11 ST
section
variable {ks:List KdT} {st st1:Tm} {ms ms1:List MdT}
theorem Vq (hD:T51 ks st ms) (j:Nat) (m:Int):TPr (Pn ms.length) (QD ms j m):=by
 have h0:TPr (Pn ms.length) (Qt 0 0):=by
  simp only [Qt,TPr,Pn]
  have:=hD.pos
  exact ⟨⟨by lia,by lia⟩,trivial⟩
 unfold QD
 cases e:ms[m.toNat]? with
 | none=>exact h0
 | some md =>
  show TPr _ ((md.2.2.2.2[j]?).getD _)
  cases e2:md.2.2.2.2[j]? with
  | none=>exact h0
  | some r =>
   obtain ⟨kd,_,_,_,h⟩:=hD.md md (List.mem_of_getElem? e)
   exact (h r (List.mem_of_getElem? e2)).1
theorem Vb (hD:T51 ks st ms) {k0:KdT} (hk:ks[0]?=some k0):YK (mks (mds ms)) [k0.2.1] st=true:=by
 unfold YK
 rw [List.all_eq_true]
 intro c hc
 obtain ⟨k,j,z,e1,e2,h1,h2⟩:=(hD.sf k0 hk).calls c hc
 have hk2:=(List.getElem?_eq_some_iff.mp h1).1
 have hj:=(List.getElem?_eq_some_iff.mp h2).1
 rw [List.length_map] at hk2
 unfold Yw
 rw [e1,e2]
 simp only [Bool.and_eq_true,decide_eq_true_eq,Int.toNat_natCast,List.length_map]
 refine ⟨⟨⟨⟨by lia,by lia⟩,by lia⟩,by lia⟩,?_⟩
 rw [h2,← h1]
 show (List.map _ (List.map _ ms))[k]?=_
 rw [List.map_map]
 rfl
theorem Vv (hW:WD ks) (hD:T51 ks st ms) (h:HBk ks st ms st1 ms1):Paper st1 ms1 (Q1 ms.length ++ [some st]) st ms:=by
 obtain ⟨rfl,mh,rfl,hk,hr⟩:=h
 obtain ⟨k0,hk0⟩ : ∃ k0,ks[0]?=some k0:=⟨_,List.getElem?_eq_getElem hW.pos⟩
 have hst:=Ui (hD.s hW)
 refine XZ ?_ (by rw [hk k0 hk0];exact Vb hD hk0) hst.2 (fun k md t a b=>?_) fun j r hj=>?_
 ·rw [List.getElem?_append_right (by rw [QP];exact Nat.le_refl _),QP,Nat.sub_self];rfl
 ·have hkl:=(List.getElem?_eq_some_iff.mp a).1
  rw [List.getElem?_append_left (by rw [QP];exact hkl),Yi hkl] at b
  cases b
  exact ⟨k,rfl,GW a (ZO hD md (List.mem_of_getElem? a))⟩
 ·have e:=hr j r hj
  have ht:TPr (Pn ms.length) r:=by
   rw [e]
   exact (hD.s hW).sub fun m b _=>Vq hD j m
  exact ⟨e,ZW (Ui ht).1,(Ui ht).2⟩
end
end K52
namespace ST
open PySem TM TT
mutual
def rsT (S:Int→Stp):Tm→Stp
 | .node (.call m _) _ _=>S m
 | .node (.put n k a) _ bs=>if k=true then .op else .put n a (N3 S bs)
def N3 (S:Int→Stp):List Tm→List Stp
 | []=>[]
 | b :: r=>rsT S b :: N3 S r
end
def N5:List Stp→Stp
 | []=>.op
 | x :: r=>r.foldl met x
abbrev Rls:=List (List (Bool × Tm))
def OE (S:List Stp):Int→Stp:=fun m=>(S[m.toNat]?).getD .op
def NZ (rs:List (Bool × Tm)):Stp:=N5 ((rs.filter fun r=>r.1).map fun r=>rsT (fun _=>.op) r.2)
def NH (S:List Stp) (rs:List (Bool × Tm)):Stp:=N5 (rs.map fun r=>rsT (OE S) r.2)
def D (ms:Rls):Nat→List Stp
 | 0=>ms.map NZ
 | n + 1=>ms.map (NH (D ms n))
end ST
namespace ST
open PySem TM TT L2 K9
mutual
def OfK (rw:Str→List PNx):Tree Str→Str→Prop
 | .node n _ bs,k=>∃ r ∈ rw k,r.2.1=n∧YC rw bs r.2.2.2
def YC (rw:Str→List PNx):List (Tree Str)→List Str→Prop
 | [],ks=>ks=[]
 | b :: r,ks=>∃ k ks',ks=k :: ks'∧OfK rw b k∧YC rw r ks'
end
end ST
namespace K51
open PySem TM TT L2 K9 K11 ST
def FcM (kn bs:List Str):Int→Int→Prop:=fun a b=>∃ (k j:Nat) (z:Str),a=(k:Int)∧b=(j:Int)∧kn[k]?=some z∧bs[j]?=some z
theorem Xq {rw:Str→List PNx}:∀ {bs:List (Tree Str)} {ks:List Str} {j:Nat} {z:Str},YC rw bs ks→ks[j]?=some z→∃ T,bs[j]?=some T∧OfK rw T z
 | [],ks,j,z,h,e=>by simp only [YC] at h;rw [h] at e;cases e
 | b :: r,ks,0,z,h,e=>by
  simp only [YC] at h
  obtain ⟨k,ks',rfl,h1,h2⟩:=h
  cases e
  exact ⟨b,rfl,h1⟩
 | b :: r,ks,j + 1,z,h,e=>by
  simp only [YC] at h
  obtain ⟨k,ks',rfl,h1,h2⟩:=h
  exact Xq (bs:=r) (j:=j) h2 e
mutual
theorem XH {rl:Int→Str→Option Tm} {kn ks:List Str} {mark:Int} {bs:List (Tree Str)} (hc:∀ a b,FcM kn ks a b→∃ (n:Str) (mm:Int) (cs:List (Tree Str)) (r:Tm) (o:Tree Str),bs[b.toNat]?=some (.node n mm cs)∧rl a n=some r∧Mk rl r mm cs o):∀ {t:Tm},TPr (FcM kn ks) t→∃ o,Mk rl t mark bs o
 | .node (.call m b) z qs,h=>by
  simp only [TPr] at h
  obtain ⟨n,mm,cs,r,o,h1,h2,h3⟩:=hc m b h.1
  exact ⟨o,.call h1 h2 h3⟩
 | .node (.put n k a) z ps,h=>by
  simp only [TPr] at h
  obtain ⟨os,h1,h2⟩:=Wv hc h.2.2
  exact ⟨_,.put h1 h2⟩
theorem Wv {rl:Int→Str→Option Tm} {kn ks:List Str} {mark:Int} {bs:List (Tree Str)} (hc:∀ a b,FcM kn ks a b→∃ (n:Str) (mm:Int) (cs:List (Tree Str)) (r:Tm) (o:Tree Str),bs[b.toNat]?=some (.node n mm cs)∧rl a n=some r∧Mk rl r mm cs o):∀ {ps:List Tm},TPrs (FcM kn ks) ps→∃ os:List (Tree Str),os.length=ps.length∧∀ (i:Nat) (p:Tm) (o:Tree Str),ps[i]?=some p→os[i]?=some o→Mk rl p mark bs o
 | [],_=>⟨[],rfl,fun i p o h=>(nomatch h)⟩
 | p :: r,h=>by
  simp only [TPrs] at h
  obtain ⟨o,h1⟩:=XH hc h.1
  obtain ⟨os,h2,h3⟩:=Wv hc h.2
  refine ⟨o :: os,by simp [h2],fun i q u a b=>?_⟩
  cases i with
  | zero=>cases a;cases b;exact h1
  | succ i=>exact h3 i q u a b
end
theorem Wd {ks:List KdT} {ms:List MdT} (hn:∀ kind,((QT ks kind).map fun r=>r.2.1).Nodup) (hl:∀ m ∈ ms,m.2.2.2.2.length=(QT ks m.2.1).length) (hf:∀ m ∈ ms,∀ (j:Nat) (r:PNx) (t:Tm),(QT ks m.2.1)[j]?=some r→m.2.2.2.2[j]?=some t→TPr (FcM (ms.map fun m=>m.2.1) r.2.2.2) t):∀ (l:Nat) (T:Tree Str) (kind:Str),lv T≤l→OfK (QT ks) T kind→∀ (k:Nat) (md:MdT),ms[k]?=some md→md.2.1=kind→∃ (r:Tm) (o:Tree Str),ZU ks ms (k:Int) (match T with | .node n _ _=>n)=some r∧Mk (ZU ks ms) r (match T with | .node _ m _=>m) T.bs o
 | 0,T,_,h,_,_,_,_,_=>by rw [Zg] at h;lia
 | l + 1,.node n mk bs,kind,h,hO,k,md,hk,ek=>by
  simp only [OfK] at hO
  obtain ⟨r,hr,rfl,hbs⟩:=hO
  subst ek
  obtain ⟨j,hj,ej⟩:=List.getElem_of_mem hr
  have hmm:=List.mem_of_getElem? hk
  have hjt:j < md.2.2.2.2.length:=by rw [hl md hmm];exact hj
  have hfi:(QT ks md.2.1).findIdx? (fun x=>decide (x.2.1=r.2.1))=some j:=by
   rw [List.findIdx?_eq_some_iff_getElem]
   refine ⟨hj,by rw [ej];exact decide_eq_true rfl,fun i hi=>?_⟩
   simp only [decide_eq_true_eq]
   intro e
   have h1:((QT ks md.2.1).map fun r=>r.2.1)[i]?=((QT ks md.2.1).map fun r=>r.2.1)[j]?:=by
    rw [List.getElem?_map,List.getElem?_map,List.getElem?_eq_getElem (show i < (QT ks md.2.1).length by lia),List.getElem?_eq_getElem hj,ej]
    exact congrArg some e
   have:=(List.getElem?_inj (34:) (hn md.2.1)).mp h1
   lia
  have hrl:ZU ks ms (k:Int) r.2.1=some md.2.2.2.2[j]:=by
   unfold ZU
   rw [Int.toNat_natCast,hk]
   show ((QT ks md.2.1).findIdx? _).bind _=_
   rw [hfi]
   exact List.getElem?_eq_getElem hjt
  have ht:=hf md hmm j r md.2.2.2.2[j] (by rw [List.getElem?_eq_getElem hj,ej]) (List.getElem?_eq_getElem hjt)
  obtain ⟨o,ho⟩:=XH (rl:=ZU ks ms) (mark:=mk) (bs:=bs) (fun a b hab=>by
   obtain ⟨k2,j2,z,rfl,rfl,e1,e2⟩:=hab
   obtain ⟨T2,f1,f2⟩:=Xq hbs e2
   rw [List.getElem?_map] at e1
   cases em:ms[k2]? with
   | none=>rw [em] at e1;cases e1
   | some md2 =>
    rw [em] at e1
    have e1:md2.2.1=z:=Option.some.inj e1
    rw [Zg] at h
    have hlT:=ZI (List.mem_of_getElem? f1)
    have hb:lvs (Tree.bs (.node r.2.1 mk bs))=lvs bs:=rfl
    obtain ⟨r2,o2,g1,g2⟩:=Wd hn hl hf l T2 z (7:) f2 k2 md2 em e1
    obtain ⟨n2,m2,b2⟩:=T2
    exact ⟨n2,m2,b2,r2,o2,by rw [Int.toNat_natCast];exact f1,g1,g2⟩) ht
  exact ⟨_,o,hrl,ho⟩
end K51
namespace K52
open K51
open PySem L2 TM TT ST K9 K11
theorem ZP {ks:List KdT} (h:(ks.map fun k=>k.2.1).Nodup) {kd:KdT} (hk:kd ∈ ks):QT ks kd.2.1=kd.2.2.2:=by
 unfold QT
 have e2:ks.find? (fun k=>decide (k.2.1=kd.2.1))=some kd:=by
  cases e3:ks.find? (fun k=>decide (k.2.1=kd.2.1)) with
  | none=>exact absurd (List.find?_eq_none.mp e3 kd hk) (by simp)
  | some k2 =>
   have h5:=List.mem_of_find?_eq_some e3
   have h6:=List.find?_some e3
   rw [ZS h h5 hk (of_decide_eq_true h6)]
 rw [e2];rfl
theorem Jw {d:Nat}:∀ {ts:List (Tree Str)},(∀ t ∈ ts,lv t≤d)→lvs ts≤d
 | [],_=>by simp [lvs]
 | t :: r,h=>by
  have h1:=h t List.mem_cons_self
  have h2:=Jw (ts:=r) fun u hu=>h u (List.mem_cons_of_mem _ hu)
  simp only [lvs];lia
abbrev kns (ms:List MdT):List Str:=ms.map fun m=>m.2.1
structure FtM (ks:List KdT) (kn:List Str) (m:MdT):Prop where
 l:m.2.2.2.2.length=(QT ks m.2.1).length
 k:∃ kd ∈ ks,kd.2.1=m.2.1
 r:∀ (j:Nat) (r:PNx) (t:Tm),(QT ks m.2.1)[j]?=some r→m.2.2.2.2[j]?=some t→TPr (Fc kn r.2.2.2) t
structure Fits (ks:List KdT) (st:Tm) (ms:List MdT):Prop where
 s:∀ k0,ks[0]?=some k0→TPr (Fc (kns ms) [k0.2.1]) st
 m:∀ m ∈ ms,FtM ks (kns ms) m
theorem T51.fits {ks:List KdT} {st:Tm} {ms:List MdT} (hW:WD ks) (h:T51 ks st ms):Fits ks st ms:=⟨h.sf,fun m hm=>by
 obtain ⟨kd,a,b,c⟩:=h.ft m hm
 obtain ⟨kd',a',b',c',_⟩:=h.md m hm
 have e:kd'=kd:=ZS hW.ok.nd a' a (by rw [b,b'])
 subst e
 have er:=ZP hW.ok.nd a
 rw [b] at er
 exact ⟨by rw [er];exact c',⟨kd',a,b⟩,fun j r t h1 h2=>c j r t (by rw [er] at h1;exact h1) h2⟩⟩
theorem Je {kn kn1 bs:List Str} {ρ:Int→Int} (h:∀ (k:Nat) (z:Str),kn[k]?=some z→∃ k':Nat,ρ (k:Int)=(k':Int)∧kn1[k']?=some z) {t:Tm} (ht:TPr (Fc kn bs) t):TPr (Fc kn1 bs) (TT.sub (fun m b=>Qt (ρ m) b) t) :=
 ht.sub fun m b hf=>by
  obtain ⟨k,j,z,rfl,rfl,h1,h2⟩:=hf
  obtain ⟨k',e,h3⟩:=h k z h1
  simp only [Qt,TPr]
  exact ⟨⟨k',j,z,e,rfl,h3,h2⟩,trivial⟩
theorem Ud {kn bs:List Str} {l:List Str} {t:Tm} (ht:TPr (Fc kn bs) t):TPr (Fc (kn ++ l) bs) t:=ht.mono fun a b hf=>by
 obtain ⟨k,j,z,rfl,rfl,h1,h2⟩:=hf
 exact ⟨k,j,z,rfl,rfl,by rw [List.getElem?_append_left (List.getElem?_eq_some_iff.mp h1).1];exact h1,h2⟩
theorem FtM.map {ks:List KdT} {kn kn1:List Str} {m m1:MdT} {g:Tm→Tm} (h:FtM ks kn m) (ek:m.2.1=m1.2.1) (er:m1.2.2.2.2=m.2.2.2.2.map g) (hg:∀ bs t,TPr (Fc kn bs) t→TPr (Fc kn1 bs) (g t)):FtM ks kn1 m1:=by
 refine ⟨by rw [er,List.length_map,← ek];exact h.l,by rw [← ek];exact h.k,fun j r t h1 h2=>?_⟩
 rw [er,List.getElem?_map] at h2
 cases e:m.2.2.2.2[j]? with
 | none=>rw [e] at h2;cases h2
 | some t0 =>
  rw [e] at h2
  cases h2
  exact hg _ _ (h.r j r t0 (by rw [ek];exact h1) e)
theorem Y9 {ms:List MdT} {k:Nat} {z:Str} (h:(kns ms)[k]?=some z):∃ m,ms[k]?=some m∧m.2.1=z:=by
 rw [List.getElem?_map] at h
 cases e:ms[k]? with
 | none=>rw [e] at h;cases h
 | some m=>rw [e] at h;exact ⟨m,rfl,Option.some.inj h⟩
section
variable {ks:List KdT} {st st1:Tm} {ms ms1:List MdT}
theorem G6 {mo:Nat} (hF:Fits ks st ms) (hl:ms1.length=ms.length + 1) (h:DOk st ms mo st1 ms1):Fits ks st1 ms1:=by
 obtain ⟨⟨ns,hn,rfl⟩,m0,hm0,hm⟩:=h
 have hmo:=(List.getElem?_eq_some_iff.mp hm0).1
 have kat:∀ (k:Nat) (m2:MdT),(ms ++ [m0])[k]?=some m2→(kns ms1)[k]?=some m2.2.1:=fun k m2 e=>by
  have hk:k < ms1.length:=by have:=(List.getElem?_eq_some_iff.mp e).1;rw [List.length_append] at this;simp at this;lia
  obtain ⟨m3,a1,a2,_⟩:=hm k _ (List.getElem?_eq_getElem hk)
  rw [e] at a1
  cases a1
  rw [List.getElem?_map,List.getElem?_eq_getElem hk,a2];rfl
 have key:∀ {ns:List Int},NsD ms.length mo ns→∀ (k:Nat) (z:Str),(kns ms)[k]?=some z→∃ k':Nat,rf ns (k:Int)=(k':Int)∧(kns ms1)[k']?=some z:=fun {ns} hn k z hz=>by
  obtain ⟨m,e1,e2⟩:=Y9 hz
  have hk:=(List.getElem?_eq_some_iff.mp e1).1
  rcases hn k hk with e | ⟨rfl,e⟩
  ·refine ⟨k,by unfold rf;rw [Int.toNat_natCast,e];rfl,?_⟩
   rw [kat k m (by rw [List.getElem?_append_left hk];exact e1),e2]
  ·refine ⟨ms.length,by unfold rf;rw [Int.toNat_natCast,e];rfl,?_⟩
   rw [hm0] at e1
   rw [kat ms.length m0 (by rw [List.getElem?_append_right (9:),Nat.sub_self];rfl),Option.some.inj e1,e2]
 refine ⟨fun k0 hk=>Je (key hn) (hF.s k0 hk),fun m1 hm1=>?_⟩
 obtain ⟨k,hk⟩:=List.mem_iff_getElem?.mp hm1
 obtain ⟨m2,a1,a2,ns',a3,a4⟩:=hm k m1 hk
 have hm2:m2 ∈ ms:=by
  rcases List.mem_append.mp (List.mem_of_getElem? a1) with z | z
  ·exact z
  ·rw [List.mem_singleton.mp z];exact List.mem_of_getElem? hm0
 exact (hF.m m2 hm2).map a2 a4 fun bs t ht=>Je (key a3) ht
theorem LY {step:Int} (hF:Fits ks st ms) (hl:ms1.length=ms.length) (h:TAk st ms step st1 ms1):Fits ks st1 ms1:=by
 obtain ⟨ns,hne,rfl,hm⟩:=h
 have key:∀ (k:Nat) (z:Str),(kns ms)[k]?=some z→∃ k':Nat,rf ns (k:Int)=(k':Int)∧(kns ms1)[k']?=some z:=fun k z hz=>by
  obtain ⟨m,e1,e2⟩:=Y9 hz
  have hk:=(List.getElem?_eq_some_iff.mp e1).1
  have n0:0≤((k:Int)+step) % (11:):=Int.emod_nonneg _ (7:)
  have n1:((k:Int)+step) % (11:) < (11:):=Int.emod_lt_of_pos _ (7:)
  have hk':(((k:Int)+step) % (11:)).toNat < ms1.length:=by lia
  refine ⟨(((k:Int)+step) % (11:)).toNat,?_,?_⟩
  ·unfold rf
   rw [hne,List.getElem?_map,Int.toNat_natCast,List.getElem?_range hk,Int.toNat_of_nonneg n0];rfl
  ·obtain ⟨m2,a1,a2,_⟩:=hm _ _ (List.getElem?_eq_getElem hk')
   rw [Int.toNat_of_nonneg n0,J6 (7:) (7:),Int.toNat_natCast,e1] at a1
   cases a1
   rw [List.getElem?_map,List.getElem?_eq_getElem hk',← e2,a2];rfl
 refine ⟨fun k0 hk=>Je key (hF.s k0 hk),fun m1 hm1=>?_⟩
 obtain ⟨k,hk⟩:=List.mem_iff_getElem?.mp hm1
 obtain ⟨m2,a1,a2,a4⟩:=hm k m1 hk
 exact (hF.m m2 (List.mem_of_getElem? a1)).map a2 a4 fun bs t ht=>Je key ht
theorem W5 {mo:Nat} {m0:MdT} (hF:Fits ks st ms) (hm0:ms[mo]?=some m0):Fits ks st (ms ++ [m0]):=by
 have e:kns (ms ++ [m0])=kns ms ++ [m0.2.1]:=List.map_append ..
 have up:∀ m ∈ ms,FtM ks (kns (ms ++ [m0])) m:=fun m hm=>by
  obtain ⟨a,b,c⟩:=hF.m m hm
  exact ⟨a,b,fun j r t h1 h2=>by rw [e];exact Ud (c j r t h1 h2)⟩
 refine ⟨fun k0 hk=>by rw [e];exact Ud (hF.s k0 hk),fun m hm=>?_⟩
 rcases List.mem_append.mp hm with z | z
 ·exact up m z
 ·rw [List.mem_singleton.mp z];exact up m0 (List.mem_of_getElem? hm0)
theorem L1 (hW:WD ks) (hF:Fits ks st ms) (hO:OneT ks st1 ms1) (h:HBk ks st ms st1 ms1):Fits ks st1 ms1:=by
 obtain ⟨rfl,mh,rfl,hk,hr⟩:=h
 obtain ⟨k0,hk0⟩ : ∃ k0,ks[0]?=some k0:=⟨_,List.getElem?_eq_getElem hW.pos⟩
 have ek:=hk k0 hk0
 have e:kns (ms ++ [mh])=kns ms ++ [k0.2.1]:=by rw [← ek];exact List.map_append ..
 refine ⟨fun k1 hk1=>?_,fun m hm=>?_⟩
 ·rw [hk0] at hk1
  cases hk1
  simp only [Qt,TPr]
  refine ⟨⟨ms.length,0,k0.2.1,rfl,rfl,?_,rfl⟩,trivial⟩
  rw [e,List.getElem?_append_right (by rw [List.length_map];exact Nat.le_refl _),List.length_map,Nat.sub_self];rfl
 rcases List.mem_append.mp hm with z | z
 ·obtain ⟨a,b,c⟩:=hF.m m z
  exact ⟨a,b,fun j r t h1 h2=>by rw [e];exact Ud (c j r t h1 h2)⟩
 rw [List.mem_singleton.mp z]
 obtain ⟨kd,q1,q2,q3,_⟩:=hO.r1 mh (List.mem_append_right _ (List.mem_singleton.mpr rfl))
 have er:=ZP hW.ok.nd q1
 rw [q2] at er
 refine ⟨by rw [er];exact q3,⟨kd,q1,q2⟩,fun j r t h1 h2=>?_⟩
 rw [hr j t h2,e]
 refine Ud ((hF.s k0 hk0).sub fun m b hf=>?_)
 obtain ⟨k,j',z,rfl,rfl,f1,f2⟩:=hf
 obtain ⟨md,g1,g2⟩:=Y9 f1
 have hz:z=k0.2.1:=by
  match j',f2 with
  | 0,f2=>exact (Option.some.inj f2).symm
  | n + 1,f2=>simp at f2
 have hkk:md.2.1=mh.2.1:=by rw [g2,hz,ek]
 obtain ⟨a,b,c⟩:=hF.m md (List.mem_of_getElem? g1)
 have hj:j < md.2.2.2.2.length:=by
  rw [a,hkk];exact (List.getElem?_eq_some_iff.mp h1).1
 have:=c j r md.2.2.2.2[j] (by rw [hkk];exact h1) (List.getElem?_eq_getElem hj)
 unfold QD
 rw [Int.toNat_natCast,g1]
 show TPr _ ((md.2.2.2.2[j]?).getD _)
 rw [List.getElem?_eq_getElem hj]
 exact this
theorem JU {mo j:Nat} {t:Tm} {m0:MdT} {r:PNx} (hF:Fits ks st ms) (hl:ms1.length=ms.length) (h:∀ (i:Nat) (m1:MdT),ms1[i]?=some m1→∃ m:MdT,ms[i]?=some m∧m1.2.1=m.2.1∧(m1.2.2.2.2=m.2.2.2.2∨i=mo∧m1.2.2.2.2=m.2.2.2.2.set j t)) (hm0:ms[mo]?=some m0) (hr:(QT ks m0.2.1)[j]?=some r) (ht:TPr (Fc (kns ms) r.2.2.2) t):Fits ks st ms1:=by
 have e:kns ms1=kns ms:=by
  apply List.ext_getElem?
  intro i
  rw [List.getElem?_map,List.getElem?_map]
  cases e1:ms1[i]? with
  | none =>
   have:ms[i]?=none:=List.getElem?_eq_none (by have:=List.getElem?_eq_none_iff.mp e1;lia)
   rw [this]
  | some m1 =>
   obtain ⟨m,a1,a2,_⟩:=h i m1 e1
   rw [a1]
   exact congrArg some a2
 refine ⟨fun k0 hk=>by rw [e];exact hF.s k0 hk,fun m1 hm1=>?_⟩
 obtain ⟨i,hi⟩:=List.mem_iff_getElem?.mp hm1
 obtain ⟨m,a1,a2,a3⟩:=h i m1 hi
 obtain ⟨b1,b2,b3⟩:=hF.m m (List.mem_of_getElem? a1)
 rcases a3 with a3 | ⟨rfl,a3⟩
 ·exact ⟨by rw [a3,a2];exact b1,by rw [a2];exact b2,fun j r t h1 h2=>by rw [e];exact b3 j r t (by rw [a2] at h1;exact h1) (by rw [a3] at h2;exact h2)⟩
 ·rw [hm0] at a1
  cases a1
  refine ⟨by rw [a3,List.length_set,a2];exact b1,by rw [a2];exact b2,fun j' r' t' h1 h2=>?_⟩
  rw [e]
  rw [a2] at h1
  rw [a3] at h2
  by_cases hj:j'=j
  ·subst hj
   rw [hr] at h1
   cases h1
   have:=(List.getElem?_eq_some_iff.mp h2).1
   rw [List.length_set] at this
   rw [List.getElem?_set_self this] at h2
   cases h2
   exact ht
  ·rw [List.getElem?_set_ne (Ne.symm hj)] at h2
   exact b3 j' r' t' h1 h2
mutual
def NmT (N:Nat):Tree Str→Prop
 | .node n _ bs=>PyData.strOk n=true∧bs.length≤N∧XT N bs
def XT (N:Nat):List (Tree Str)→Prop
 | []=>True
 | b :: r=>NmT N b∧XT N r
end
theorem JT {N:Nat}:∀ {bs:List (Tree Str)},XT N bs ↔ ∀ b ∈ bs,NmT N b
 | []=>by simp [XT]
 | b :: r=>by simp only [XT,JT (bs:=r),List.mem_cons,forall_eq_or_imp]
theorem OA {rl:Int→Str→Option Tm} {L:Nat} {p:Int→Int→Prop} (hr:∀ m n r,rl m n=some r→TPr p r∧lv r≤L) {t:Tm} {mark:Int} {bs:List (Tree Str)} {o:Tree Str} (h:Mk rl t mark bs o):TPr p t→NmT 3 o∧lv o≤lv t + L * lvs bs:=by
 induction h with
 | @call m b z qs mark bs n mm cs r o e1 e2 _ ih =>
  intro ht
  obtain ⟨h1,h2⟩:=hr _ _ _ e2
  obtain ⟨i1,i2⟩:=ih h1
  refine ⟨i1,?_⟩
  have h3:=ZI (List.mem_of_getElem? e1)
  have h4:lv (Tree.node n mm cs)=1 + lvs cs:=by simp only [lv]
  have h5:L * (1 + lvs cs)≤L * lvs bs:=Nat.mul_le_mul_left _ (7:)
  rw [Nat.mul_add] at h5
  lia
 | @put n k a z ps mark bs os hl _ ih =>
  intro ht
  simp only [TPr] at ht
  obtain ⟨h1,h2,h3⟩:=ht
  have h4:=(Ye p ps).mp h3
  have key:∀ o ∈ os,NmT 3 o∧lv o≤lvs ps + L * lvs bs:=fun o ho=>by
   obtain ⟨i,hi,rfl⟩:=List.getElem_of_mem ho
   have hp:i < ps.length:=by lia
   obtain ⟨q1,q2⟩:=ih i _ _ (List.getElem?_eq_getElem hp) (List.getElem?_eq_getElem hi) (h4 _ (List.getElem_mem hp))
   have:=ZI (List.getElem_mem hp)
   exact ⟨q1,by lia⟩
  refine ⟨?_,?_⟩
  ·simp only [NmT]
   exact ⟨h1,by lia,JT.mpr fun o ho=>(key o ho).1⟩
  ·simp only [lv]
   have:lvs os≤lvs ps + L * lvs bs:=Jw fun o ho=>(key o ho).2
   lia
end
theorem Vt {ks:List KdT} {st:Tm} {ms:List MdT} (hW:WD ks) (hF:Fits ks st ms) {k0:KdT} (hk:ks[0]?=some k0) {T:Tree Str} (hT:OfK (QT ks) T k0.2.1):∃ o,Mk (ZU ks ms) st 0 [T] o:=by
 refine XH (kn:=kns ms) (ks:=[k0.2.1]) (fun a b hab=>?_) (hF.s k0 hk)
 obtain ⟨k,j,z,rfl,rfl,e1,e2⟩:=hab
 obtain ⟨md,f1,f2⟩:=Y9 e1
 match j,e2 with
 | 0,e2 =>
  have hz:k0.2.1=z:=Option.some.inj e2
  obtain ⟨r,o,g1,g2⟩:=Wd (fun kind=>(V1 hW.ok kind).nd) (fun m hm=>(hF.m m hm).l) (fun m hm j r t h1 h2=>(hF.m m hm).r j r t h1 h2) (lv T) T k0.2.1 (9:) hT k md f1 (by rw [f2,hz])
  obtain ⟨n,m,b⟩:=T
  exact ⟨n,m,b,r,o,rfl,g1,g2⟩
 | n + 1,e2=>simp at e2
end K52
namespace K52
open K51
open PySem L2 TM TT ST K9 K11
structure OneP (ks:List KdT) (st1:Tm) (ms1:List MdT) (ts:List (36:)):Prop where
 one:OneT ks st1 ms1
 l:ts.length=ms1.length
 t:TsOk ts
 some:∀ o ∈ ts,∃ t,o=some t
def Gy (K:PySem.W.Frag):Sp:=fun vs H Q _=>∃ (tu wd lm:Addr) (sv:V) (ks:List KdT) (st:Tm) (ms:List MdT) (x:Int),vs=[.ref tu,.int x]∧TurnD K H tu wd lm sv ks st ms∧WD ks∧T51 ks st ms ∧
 ∀ (p tu1 lm1 lt:Addr) (sv1:V) (st1:Tm) (ms1:List MdT) (us:List V) (ts:List (36:)) (H2 H':Hp),Same H H2→Same H2 H'→SqT K H' p [.ref tu1,.ref lt]→TurnD K H2 tu1 wd lm1 sv1 ks st1 ms1→H2 lt=none→H' lt=some (.lst us)→OAll K H' us ts→OneP ks st1 ms1 ts→Paper st1 ms1 ts st ms→Fits ks st1 ms1→Q (.ref p) H'
theorem Gz (n:Nat) (t:Tm):(((List.range n).map fun (k:Nat)=>Qt (k:Int) 0) ++ [t]).map some=Q1 n ++ [some t]:=by
 rw [List.map_append,List.map_map];rfl
theorem YJ {K:PySem.W.Frag} {H:Hp}:∀ {vs:List V} {ts:List Tm},TmAll K H vs ts→OAll K H vs (ts.map some)
 | _,_,.nil=>.nil
 | _,_,.cons h r=>.cons h (YJ r)
def J3 (t:Tm):Prop:=TPr (fun a _=>0≤a) t∧kp t=false∧lv t≤4
theorem Yg (k:Nat) (b:Int):J3 (Qt (k:Int) b):=⟨by simp only [Qt,TPr];exact ⟨by lia,trivial⟩,by simp [Qt,kp,kpl,kps],by simp [Qt,lv,lvs]⟩
theorem Ub {ks:List KdT} {st1:Tm} {ms1:List MdT} {ts:List Tm} (h:OneT ks st1 ms1) (hl:ts.length=ms1.length) (hg:∀ t ∈ ts,J3 t):OneP ks st1 ms1 (ts.map some):=by
 have f:=h.few
 refine ⟨h,by rw [List.length_map];exact hl,⟨by rw [List.length_map];lia,fun t ht=>?_⟩,fun o ho=>?_⟩
 ·obtain ⟨u,hu,e⟩:=List.mem_map.mp ht
  obtain rfl:=Option.some.inj e
  exact hg u hu
 ·obtain ⟨u,_,rfl⟩:=List.mem_map.mp ho
  exact ⟨u,rfl⟩
section
variable {P:Program} {w:World} {K:PySem.W.Frag} {mg:Str→Option Value} {base:Heap} {f:Addr} {fd:FuncData}
theorem Y8:FnScope ["_law_turning_here", "_law_x", "_law_count", "_law_calls_here", "_law_mode"] ["_law_turning_here", "_law_x"] (defScope XW):=(1:)
theorem NA (F:Fun K "_law_with_paper" "_law_with_paper" XW f fd) (G:Gm mg) (RDo:Fn P w K mg base 6 "_law_doubled" ["_law_turning_here", "_law_mode", "_law_bits"] (M1 K)) (RHB:Fn P w K mg base 6 "_law_held_back" ["_law_turning_here"] (Mv K)) (RMa:Fn P w K mg base 10 "_law_many" ["_law_turning_here"] (Xy K)) (RTA:Fn P w K mg base 6 "_law_turned_about" ["_law_turning_here", "_law_step"] (Ms K)):FnOk P w K mg base CX0 11 f fd ["_law_turning_here", "_law_x"] (Gy K):=by
 refine F.ok Y8 (10:) (4:)
 ·obtain ⟨tu,wd,lm,sv,ks,st,ms,x,rfl,_⟩:=h
  rfl
 obtain ⟨tu,wd,lm,sv,ks,st,ms,x,rfl,hT,hW,hD,q⟩:=h
 refine ⟨_,(Qf (Qr (i:=2) Y8.nd rfl (Or.inr rfl) (Qq Qm rfl G.len PySem.boot_len (Qa (3:) Qc)))
  (Qf (Qr (i:=3) Y8.nd rfl (Or.inr rfl) (Qw (CompG.many (xs:=["_law_k"]) (caps:=[]) (cap:=[]) (cs:=[]) rfl rfl (0:) (0:) (0:) (0:) (0:) (0:) rfl rfl rfl) rfl (QI rfl G.rng (Qa (pv 2) Qc)) (Zb (CompG.many (xs:=["_law_k"]) (caps:=[]) (cap:=[]) (cs:=[]) rfl rfl (0:) (0:) (0:) (0:) (0:) (0:) rfl rfl rfl)) (18:) (fun _ _ _ _=>(Qy (Qa (QX) (Qa (pv 0) (Qa (Qd) Qc)))))))
  (Qf (Qr (i:=4) Y8.nd rfl (Or.inr rfl) (Ql Qv (Ql QY (pv 1) Qd) (pv 2)))
  (Qf (QN (Qx Q2 (Ql Qv (pv 1) Qd) Qd (QA _)) (Qj (Qs (Qy (Qa (Qn RDo hr (Qa (pv 0) (Qa (pv 4) (Qa (Ql QY (pv 1) Qd) Qc)))) (Qa (Ql ZX (pv 3) (QM (Qa (Qh Qo (pv 3) (pv 4) (26:)) Qc))) Qc))))) QB)
  (Qf (QN (JE (PW.pt (pw_and (Qx Q2 (Ql Qv (pv 1) Qd) Qd (QA _)) (pw_and1 (Qx WC (Qn RMa hr (Qa (Qn RHB hr (Qa (pv 0) Qc)) Qc)) Qd (QA _)))))) (Qj (Qs (Qy (Qa (Qn RHB hr (Qa (pv 0) Qc)) (Qa (Ql ZX (pv 3) (QM (Qa (3:) Qc))) Qc))))) QB)
  (Qf (QN (Qx Q2 (Ql Qv (pv 1) Qd) Qd (QA _)) (Qj (Qs (Qy (Qa ((Qy (Qa (3:) (Qa (3:) (Qa (Ql ZX (3:) (QM (Qa (Qh Qo (3:) (pv 4) (26:)) Qc))) Qc))))) (Qa (Ql ZX (pv 3) (QM (Qa (Qh Qo (pv 3) (pv 4) (26:)) Qc))) Qc))))) QB)
  (Qj (Qs (Qy (Qa (Qn RTA hr (Qa (pv 0) (Qa (Ql QR Qd (pv 4)) Qc))) (Qa (Qw (CompG.many (xs:=["_law_k"]) (caps:=["_law_calls_here", "_law_count", "_law_mode"]) (cap:=[3,2,4]) (cs:=[_,_,_]) rfl rfl (0:) (0:) (0:) (0:) (0:) (0:) rfl rfl rfl) rfl (QI rfl G.rng (Qa (pv 2) Qc)) (Zb (CompG.many (xs:=["_law_k"]) (caps:=["_law_calls_here", "_law_count", "_law_mode"]) (cap:=[3,2,4]) (cs:=[_,_,_]) rfl rfl (0:) (0:) (0:) (0:) (0:) (0:) rfl rfl rfl)) (18:) (fun _ _ _ _=>Qh (r:=WN K) Qo (pv 1) (Ql Qv (Ql Zt (Ql Zt (pv 0) Qd) (pv 3)) (pv 2)) (26:))) Qc))))))))))),?_⟩
 have m3:=hD.three
 have m1:=hD.pos
 have elm:(23:).length=ms.length:=List.length_map ..
 refine ⟨_,rfl,tu,_,2,_,rfl,rfl,hT.tu,rfl,lm,_,rfl,.inl hT.m.1,?_⟩
 rw [elm]
 refine ⟨_,rfl,_,rfl,(by show -(2 ^ 62:Int)≤(11:);lia),(by show (11:) < 2 ^ 62;lia),fun lc hlc=>?_⟩
 refine ZE (lo:=0) (n:=(11:).toNat) (cs:=[]) (tt:=fun _ H Q=>Q true H) (fun i ys H'=>H' lc=some (.lst ys)∧Same H H'∧TmAll K H' ys ((List.range i).map fun (k:Nat)=>Qt (k:Int) 0))
  ⟨Qb,Qe hlc _,.nil⟩ ?_ ?_
 ·rintro i ys H' hi ⟨hya,g,hys⟩
  rw [Int.toNat_natCast] at hi
  have hlen:=hys.length
  rw [List.length_map,List.length_range] at hlen
  refine QH ⟨_,rfl,(30:),fun p hp=>?_⟩
  have gp:=Qe hp (.tup [.str ZQ,.int (0 + (i:Int)),.int 0])
  have hya2:=gp _ _ hya
  refine Qp (ys:=ys) (by rw [Int.toNat_natCast];exact hi) hya2 (7:) ⟨Qb,fun b u e=>?_,?_⟩
  ·rw [Qi (Qg e hlc)];exact gp _ _ (g _ _ e)
  ·rw [List.range_succ,List.map_append]
   refine TmAll.append (hys.mono fun _ _ h=>(gp.seqT h).put hya2) (.cons (.call (SqT.put ?_ hya2)) .nil)
   have e0:(0:Int)+(i:Int)=(i:Int):=Int.zero_add _
   rw [e0];exact SqT.of Qb
 rintro ws H1 ⟨hlc1,g1,hws⟩
 rw [Int.toNat_natCast] at hws
 have hwl:=hws.length
 rw [List.length_map,List.length_range] at hwl
 have hT1:=hT.same g1
 have hpos:(0:Int) < (11:):=by lia
 refine ⟨_,rfl,_,_,rfl,rfl,(22:),_,rfl,_,_,rfl,rfl,hpos,?_⟩
 show QV 4 (V.int (x / 4 % (11:))) _ _ _
 have z0:0≤x / 4 % (11:):=Int.emod_nonneg _ (7:)
 have z1:x / 4 % (11:) < (11:):=Int.emod_lt_of_pos _ hpos
 obtain ⟨mo,hmo,mo1⟩ : ∃ mo:Nat,x / 4 % (ms.length:Int)=(mo:Int)∧mo < ms.length:=⟨(x / 4 % (11:)).toNat,by lia,by lia⟩
 rw [hmo]
 have goodC:∀ t ∈ (List.range ms.length).map fun (k:Nat)=>Qt (k:Int) 0,J3 t:=fun t ht=>by
  obtain ⟨k,_,rfl⟩:=List.mem_map.mp ht
  exact Yg k 0
 have hmw:mo < ws.length:=by lia
 obtain ⟨cm,hcm,hcmt⟩:=hws.get (i:=mo) (t:=Qt (mo:Int) 0) (by rw [List.getElem?_map,List.getElem?_range mo1];rfl)
 have hatc:atI ws (mo:Int)=some cm:=Qu hcm
 have hlcN:H lc=none:=hlc
 /- the calls with one more behind them -/
 have plus:∀ (Hx:Hp) (v:V) (t:Tm) (l1 l2:Addr),Same H1 Hx→TmV K Hx v t→Hx l1=none→upd Hx l1 (.lst [v]) l2=none→TmAll K (upd (upd Hx l1 (.lst [v])) l2 (.lst (ws ++ [v]))) (ws ++ [v]) (((List.range ms.length).map fun (k:Nat)=>Qt (k:Int) 0) ++ [t]):=fun Hx v t l1 l2 g hv h1 h2=>by
  have a:=Qe h1 (.lst [v])
  have b:=Qe h2 (.lst (ws ++ [v]))
  have ab:=a.trans b
  exact TmAll.append (hws.mono fun _ _=>(g.trans ab).seqT) (.cons (hv.mono fun _ _=>ab.seqT) .nil)
 refine ⟨_,rfl,_,_,rfl,rfl,(by show (0:Int) < 4;decide),rfl,_,rfl,ZZ (fun _=>?_) (fun _=>?_)⟩
 ·refine ⟨_,rfl,_,rfl,_,rfl,_,_,rfl,rfl,(22:),tu,wd,lm,sv,ks,st,ms,mo,_,rfl,hT1,hW,hD,mo1,fun tu1 lm1 sv1 st1 ms1 H2 g2 hT2 hO hl2 hx2=>?_⟩
  have hlc2:=g2 _ _ hlc1
  refine ⟨_,rfl,_,rfl,_,rfl,lc,_,_,_,rfl,rfl,SqL.of hlc2,hatc,(50:),fun l1 hl1=>?_⟩
  have a:=Qe hl1 (.lst [cm])
  refine ⟨lc,l1,ws,[cm],rfl,rfl,SqL.of (a _ _ hlc2),SqL.of Qb,by rw [List.length_singleton];exact Zk (7:),fun lt hlt=>⟨(19:),fun p hp=>?_⟩⟩
  have b:=Qe hlt (.lst (ws ++ [cm]))
  have c:=Qe hp (.tup [.ref tu1,.ref lt])
  have abc:=a.trans (b.trans c)
  have hlt0:H2 lt=none:=a.free hlt
  refine q p tu1 lm1 lt sv1 st1 ms1 (ws ++ [cm]) _ H2 _ (g1.trans g2) abc (42:) hT2 hlt0 (c _ _ Qb) (YJ ((plus H2 cm _ l1 lt g2 (hcmt.mono fun _ _=>g2.seqT) hl1 hlt).mono fun _ _=>c.seqT)) (Ub hO ?_ ?_) (by rw [Gz];exact Vz hW hD hx2) (G6 (T51.fits hW hD) hl2 hx2)
  ·rw [List.length_append,List.length_map,List.length_range,hl2];rfl
  ·intro t ht
   rcases List.mem_append.mp ht with h | h
   ·exact goodC t h
   ·rw [List.mem_singleton.mp h];exact Yg mo 0
 refine ⟨fun b Hx=>Same H1 Hx,?_,?_⟩
 ·refine ⟨_,rfl,_,_,rfl,rfl,(by show (0:Int) < 4;decide),rfl,_,rfl,ZZ (fun _=>?_) (fun _=>Same.refl _)⟩
  refine ⟨_,rfl,tu,wd,lm,sv,ks,st,ms,rfl,hT1,hW,hD,fun tu1 lm1 sv1 st1 ms1 H2 g2 hT2 hO hl2 hx2=>?_⟩
  have f4:=hO.few
  refine ⟨tu1,lm1,.ref wd,sv1,st1,ms1,rfl,hT2.tu,hT2.s,by have:=hO.s1.2;lia,hT2.m,by lia,fun m hm=>?_,fun z H3 g3=>⟨_,_,rfl,rfl,_,rfl,g2.trans g3⟩⟩
  obtain ⟨kd,hkd,_,e2,e3⟩:=hO.r1 m hm
  have:=(hW.rws kd hkd).2
  exact ⟨by lia,fun t ht=>by have:=(e3 t ht).2;lia⟩
 rintro b Hx gx
 have hTx:=hT1.same gx
 have hlcx:=gx _ _ hlc1
 refine MC (fun _=>?_) (fun _=>?_)
 ·refine ⟨_,rfl,tu,wd,lm,sv,ks,st,ms,rfl,hTx,hW,hD,fun tu1 lm1 sv1 st1 ms1 H2 g2 hT2 hO hl2 hx2=>?_⟩
  have hlc2:=g2 _ _ hlcx
  refine ⟨_,rfl,_,rfl,tu,_,1,_,rfl,rfl,(hTx.same g2).tu,rfl,(50:),fun l1 hl1=>?_⟩
  have a:=Qe hl1 (.lst [sv])
  refine ⟨lc,l1,ws,[sv],rfl,rfl,SqL.of (a _ _ hlc2),SqL.of Qb,by rw [List.length_singleton];exact Zk (7:),fun lt hlt=>⟨(19:),fun p hp=>?_⟩⟩
  have b:=Qe hlt (.lst (ws ++ [sv]))
  have c:=Qe hp (.tup [.ref tu1,.ref lt])
  have abc:=a.trans (b.trans c)
  have gx2:=gx.trans g2
  have hlt0:H2 lt=none:=a.free hlt
  refine q p tu1 lm1 lt sv1 st1 ms1 (ws ++ [sv]) _ H2 _ (g1.trans gx2) abc (42:) hT2 hlt0 (c _ _ Qb) (YJ ((plus H2 sv st l1 lt gx2 (hTx.same g2).s hl1 hlt).mono fun _ _=>c.seqT)) (Ub hO ?_ ?_) (by rw [Gz];exact Vv hW hD hx2) (L1 hW (T51.fits hW hD) hO hx2)
  ·rw [List.length_append,List.length_map,List.length_range,hl2];rfl
  ·intro t ht
   rcases List.mem_append.mp ht with h | h
   ·exact goodC t h
   ·rw [List.mem_singleton.mp h]
    exact ⟨(hD.s hW).mono fun a _ h=>h.1,hD.sl.2,by have:=hD.sl.1;lia⟩
 have hatm:atI (23:) (mo:Int)=some (.ref ms[mo].1):=Qu (by rw [List.getElem?_map,List.getElem?_eq_getElem mo1];rfl)
 refine ⟨_,rfl,_,_,rfl,rfl,(by show (0:Int) < 4;decide),rfl,_,rfl,ZZ (fun _=>?_) (fun _=>?_)⟩
 ·refine ⟨_,rfl,tu,_,0,_,rfl,rfl,hTx.tu,rfl,_,rfl,tu,_,1,_,rfl,rfl,hTx.tu,rfl,_,rfl,tu,_,2,_,rfl,rfl,hTx.tu,rfl,_,rfl,tu,_,2,_,rfl,rfl,hTx.tu,rfl,_,rfl,lm,_,_,_,rfl,rfl,hTx.m.1,hatm,(50:),fun l0 hl0=>?_⟩
  have a0:=Qe hl0 (.lst [.ref ms[mo].1])
  refine ⟨lm,l0,_,_,rfl,rfl,a0.seq hTx.m.1,SqL.of Qb,by rw [elm,List.length_singleton];exact Zk (7:),fun lm1 hlm1=>⟨(30:),fun tu1 htu1=>?_⟩⟩
  have a1:=Qe hlm1 (.lst ((23:) ++ [.ref ms[mo].1]))
  have a2:=Qe htu1 (.tup [.ref wd,sv,.ref lm1])
  have a012:=a0.trans (a1.trans a2)
  have hlmv:=a2 _ _ (show (upd (upd Hx l0 (.lst [.ref ms[mo].1])) lm1 (.lst ((23:) ++ [.ref ms[mo].1]))) lm1=_ from Qb)
  have htuv:SqT K (upd (upd (upd Hx l0 (.lst [.ref ms[mo].1])) lm1 (.lst ((23:) ++ [.ref ms[mo].1]))) tu1 (.tup [.ref wd,sv,.ref lm1])) tu1 [.ref wd,sv,.ref lm1]:=SqT.of Qb
  generalize upd (upd (upd Hx l0 (.lst [.ref ms[mo].1])) lm1 (.lst ((23:) ++ [.ref ms[mo].1]))) tu1 (.tup [.ref wd,sv,.ref lm1])=H2 at a012 hlmv htuv ⊢
  have hlc2:=a012 _ _ hlcx
  refine ⟨_,rfl,_,rfl,_,rfl,lc,_,_,_,rfl,rfl,SqL.of hlc2,hatc,(50:),fun l1 hl1=>?_⟩
  have a:=Qe hl1 (.lst [cm])
  refine ⟨lc,l1,ws,[cm],rfl,rfl,SqL.of (a _ _ hlc2),SqL.of Qb,by rw [List.length_singleton];exact Zk (7:),fun lt hlt=>⟨(19:),fun p hp=>?_⟩⟩
  have b:=Qe hlt (.lst (ws ++ [cm]))
  have c:=Qe hp (.tup [.ref tu1,.ref lt])
  have abc:=a.trans (b.trans c)
  have gx2:=gx.trans a012
  have hlt0:H2 lt=none:=a.free hlt
  have hTA:=hTx.same a012
  refine q p tu1 lm1 lt sv st (ms ++ [ms[mo]]) (ws ++ [cm]) _ H2 _ (g1.trans gx2) abc (42:) ⟨htuv,hTA.w,hTA.s,SqL.of (by rw [List.map_append];exact hlmv),fun m hm=>?_⟩ hlt0 (c _ _ Qb) (YJ ((plus H2 cm _ l1 lt gx2 (hcmt.mono fun _ _=>gx2.seqT) hl1 hlt).mono fun _ _=>c.seqT)) (Ub ⟨by rw [List.length_append,List.length_singleton];lia,by rw [List.length_append,List.length_singleton];lia,⟨(hD.s hW).mono fun a b h=>⟨h.1,by have:=h.2;rw [List.length_append,List.length_singleton];lia⟩,hD.sl.1⟩,fun m hm=>?_⟩ ?_ ?_) (by rw [Gz];exact XF hW hD (List.getElem?_eq_getElem mo1)) (W5 (T51.fits hW hD) (List.getElem?_eq_getElem mo1))
  ·rcases List.mem_append.mp hm with h | h
   ·exact hTA.m.2 m h
   ·rw [List.mem_singleton.mp h];exact hTA.m.2 _ (List.getElem_mem mo1)
  ·have hm':m ∈ ms:=by
    rcases List.mem_append.mp hm with h | h
    ·exact h
    ·rw [List.mem_singleton.mp h];exact List.getElem_mem mo1
   obtain ⟨kd,hkd,q1,q2,q3⟩:=hD.md m hm'
   exact ⟨kd,hkd,q1,q2,fun t ht=>⟨(q3 t ht).1.mono fun a b h=>⟨h.1,by have:=h.2;rw [List.length_append,List.length_singleton];lia⟩,by have:=(q3 t ht).2;lia⟩⟩
  ·rw [List.length_append,List.length_map,List.length_range,List.length_append];rfl
  ·intro t ht
   rcases List.mem_append.mp ht with h | h
   ·exact goodC t h
   ·rw [List.mem_singleton.mp h];exact Yg mo 0
 refine ⟨_,rfl,_,rfl,_,_,rfl,rfl,tu,wd,lm,sv,ks,st,ms,_,rfl,hTx,hW,hD,fun tu1 lm1 sv1 st1 ms1 H2 g2 hT2 hO hl2 hx2=>?_⟩
 have hlc2:=g2 _ _ hlcx
 refine ⟨_,rfl,_,rfl,(by show -(2 ^ 62:Int)≤(11:);lia),(by show (11:) < 2 ^ 62;lia),fun lt hlt=>?_⟩
 have gx2:=gx.trans g2
 have hws2:=hws.mono fun a xs=>gx2.seqT (a:=a) (xs:=xs)
 refine ZE (lo:=0) (n:=(11:).toNat) (cs:=[some (.ref lc),some (.int (11:)),some (.int (mo:Int))]) (tt:=fun _ H Q=>Q true H) (fun i ys H'=>∃ ts:List Tm,H' lt=some (.lst ys)∧Same H2 H'∧TmAll K H' ys ts∧ts.length=i∧ts=(List.range i).map (fun (k:Nat)=>Qt (((k:Int) - (1 + (mo:Int))) % (11:)) 0)∧∀ t ∈ ts,J3 t)
  ⟨[],Qb,Qe hlt _,.nil,rfl,rfl,fun t ht=>(nomatch ht)⟩ ?_ ?_
 ·rintro i ys H' hi ⟨ts,hya,g,hts,htl,hte,hok⟩
  rw [Int.toNat_natCast] at hi
  have hlen:=hts.length
  have i0:0≤(0 + (i:Int) - 1 - (mo:Int)) % (11:):=Int.emod_nonneg _ (7:)
  have i1:(0 + (i:Int) - 1 - (mo:Int)) % (11:) < (11:):=Int.emod_lt_of_pos _ (7:)
  obtain ⟨j,ej⟩ : ∃ j:Nat,(0 + (i:Int) - 1 - (mo:Int)) % (ms.length:Int)=(j:Int):=⟨_,(Int.toNat_of_nonneg i0).symm⟩
  have hjm:j < ms.length:=by lia
  obtain ⟨y,hcv,hct⟩:=hws2.get (i:=j) (t:=Qt (j:Int) 0) (by rw [List.getElem?_map,List.getElem?_range hjm];rfl)
  have hyat:atI ws ((0 + (i:Int) - 1 - (mo:Int)) % (11:))=some y:=by rw [ej];exact Qu hcv
  refine QH ⟨_,rfl,_,rfl,_,_,rfl,rfl,_,rfl,_,_,rfl,rfl,_,rfl,_,_,rfl,rfl,hpos,lc,ws,_,y,rfl,rfl,SqL.of (g _ _ hlc2),hyat,?_⟩
  refine Qp (ys:=ys) (by rw [Int.toNat_natCast];exact hi) hya (7:) ⟨ts ++ [Qt (j:Int) 0],Qb,fun b u e=>?_,?_,by simp [htl],?_,fun t ht=>?_⟩
  ·rw [Qi (Qg e hlt)];exact g _ _ e
  ·exact TmAll.append (hts.mono fun _ _ h=>h.put hya) (.cons (hct.mono fun _ _ h=>(g.seqT h).put hya) .nil)
  ·rw [List.range_succ,List.map_append,← hte,← ej]
   have:(0 + (i:Int) - 1 - (mo:Int))=(i:Int) - (1 + (mo:Int)):=by lia
   rw [this]
   rfl
  ·rcases List.mem_append.mp ht with h | h
   ·exact hok t h
   ·rw [List.mem_singleton.mp h];exact Yg j 0
 rintro ys H3 ⟨ts,hlt3,g3,hts,htl,hte,hok⟩
 rw [Int.toNat_natCast] at htl hte
 refine ⟨(19:),fun p hp=>?_⟩
 have c:=Qe hp (.tup [.ref tu1,.ref lt])
 have g3c:=g3.trans c
 exact q p tu1 lm1 lt sv1 st1 ms1 ys _ H2 _ (g1.trans gx2) g3c (42:) hT2 hlt (c _ _ hlt3) (YJ (hts.mono fun _ _=>c.seqT)) (Ub hO (by rw [htl,hl2]) hok) (by rw [hte,List.map_map];exact GX hW hD hx2) (LY (T51.fits hW hD) hl2 hx2)
end
end K52
namespace L2
open PySem PySem.Spec PyProof.Rows HT
section
variable {prog:Program} {w:World} {A:Around} {E:Value→Shared→Prop} {s:Shared}
end
section
variable {X:Cx}
end
end L2
namespace K52
open K51
open PySem L2 TM TT ST K9 K11
def Lv (ms ms1:List MdT) (mo j:Nat) (t:Tm):Prop:=ms1.length=ms.length∧∀ (i:Nat) (m1:MdT),ms1[i]?=some m1→∃ m:MdT,ms[i]?=some m∧m1.2.1=m.2.1∧(m1.2.2.2.2=m.2.2.2.2∨i=mo∧m1.2.2.2.2=m.2.2.2.2.set j t)
def X2 (K:PySem.W.Frag):Sp:=fun vs H Q _=>∃ (tu wd lm:Addr) (sv:V) (ks:List KdT) (st:Tm) (ms:List MdT) (mo j:Nat) (v:V) (t:Tm),vs=[.ref tu,.int (mo:Int),.int (j:Int),v]∧TurnD K H tu wd lm sv ks st ms∧TmV K H v t∧ms.length≤10∧mo < ms.length∧(∀ m,ms[mo]?=some m→j < m.2.2.2.2.length) ∧
 ∀ (tu1 lm1:Addr) (ms1:List MdT) (H':Hp),Same H H'→TurnD K H' tu1 wd lm1 sv ks st ms1→Lv ms ms1 mo j t→Q (.ref tu1) H'
section
variable {P:Program} {w:World} {K:PySem.W.Frag} {mg:Str→Option Value} {base:Heap} {f:Addr} {fd:FuncData}
theorem TmAll.set' {K:PySem.W.Frag} {H:Hp} {v:V} {t:Tm} (h:TmV K H v t):∀ {vs:List V} {ts:List Tm} (j:Nat),TmAll K H vs ts→TmAll K H (vs.set j v) (ts.set j t)
 | _,_,_,.nil=>.nil
 | _,_,0,.cons _ r=>.cons h r
 | _,_,j + 1,.cons k r=>.cons k (TmAll.set' h j r)
theorem VW:FnScope ["_law_turning_here", "_law_mode", "_law_row", "_law_rule", "_law_modes"] ["_law_turning_here", "_law_mode", "_law_row", "_law_rule"] (defScope VN):=(1:)
theorem LH (F:Fun K "_law_other_rule" "_law_other_rule" VN f fd) (G:Gm mg):FnOk P w K mg base CX0 1 f fd ["_law_turning_here", "_law_mode", "_law_row", "_law_rule"] (X2 K):=by
 refine F.ok VW (10:) (4:)
 ·obtain ⟨tu,wd,lm,sv,ks,st,ms,mo,j,v,t,rfl,_⟩:=h
  rfl
 obtain ⟨tu,wd,lm,sv,ks,st,ms,mo,j,v,t,rfl,hT,hv,hm10,hmo,hj,q⟩:=h
 refine ⟨_,(Qf (Zw (i:=4) (25:) rfl (QJ (3:)) (ZB (25:) rfl) (18:) (fun _ _ _ _=>(Qy (Qa (pv 0) (Qa (QO (r:=YN K) Zx rfl G.lst PyProof.Rows.boot_list (47:)) Qc)))) VW.nd rfl rfl)
  (Qf (ZL (pv 3) (Jy (Qh Qk (Qh Qo (pv 4) (pv 1) (26:)) Qd (26:)) (pv 2) YH))
  (Qj (Qs (Qy (Qa (3:) (Qa (3:) (Qa (pv 4) Qc)))))))),?_⟩
 refine ⟨_,rfl,tu,_,2,_,rfl,rfl,hT.tu,rfl,lm,rfl,⟨_,hT.m.1⟩,fun ly hly=>?_⟩
 refine Zc (K:=K) (xs:=ms.map fun k=>V.ref k.1) (cs:=[]) (tt:=fun _ H Q=>Q true H) (te:=Lc (QL (Q6 0) (QL (tCB (YN K) (QL (Q6 1) ZR)) ZR))) (fun i ys H'=>∃ ns:List MdT,ys=ns.map (fun k=>V.ref k.1)∧ns.map MdT.md=(ms.take i).map MdT.md∧(∀ m ∈ ns,SqT K H' m.1 [.str m.2.1,.ref m.2.2.1]∧(H' m.2.2.1=some (.lst m.2.2.2.1)∧m.2.2.1≠ly∧H m.2.2.1=none)∧TmAll K H' m.2.2.2.1 m.2.2.2.2)∧(ns.map fun m=>m.2.2.1).Nodup∧H' ly=some (.lst ys)∧Same H H')
  ⟨[],rfl,rfl,fun k hk=>(nomatch hk),List.nodup_nil,Qb,Qe hly _⟩ ?_ ?_ ?_
 ·rintro i ys H' _ ⟨_,_,_,_,_,_,g⟩
  exact (hT.m.same g).1
 ·rintro i x ys H' hi hx ⟨ns,rfl,hkm,hat,hnd,hyb,g⟩
  have hjk:i < ms.length:=by simpa using hi
  obtain rfl:x=.ref ms[i].1:=by
   rw [List.getElem?_map,List.getElem?_eq_getElem hjk] at hx
   exact (54:).symm
  obtain ⟨hk1,hk2,hk3⟩:=(hT.m.same g).2 _ (List.getElem_mem hjk)
  have hhl:ns.length=i:=by
   have:=congrArg List.length hkm
   rw [List.length_map,List.length_map,List.length_take] at this
   lia
  refine ⟨ms[i].1,_,_,rfl,hk1,QH ⟨_,rfl,_,rfl,ms[i].2.2.1,_,rfl,.inl hk2,fun l2 hl2=>⟨(19:),fun p2 hp2=>?_⟩⟩⟩
  have e1:=Qe hl2 (.lst ms[i].2.2.2.1)
  have e2:=Qe hp2 (.tup [.str ms[i].2.1,.ref l2])
  have e12:=e1.trans e2
  have hya2:=e12 _ _ hyb
  have hl2x:l2≠ly:=fun z=>by rw [z,hyb] at hl2;cases hl2
  refine Qp (ys:=ns.map fun k=>V.ref k.1) hi hya2 (34:) ⟨ns ++ [(p2,ms[i].2.1,l2,ms[i].2.2.2.1,ms[i].2.2.2.2)],by simp,?_,fun m hm=>?_,?_,Qb,fun x u e=>by rw [Qi (Qg e hly)];exact e12 _ _ (g _ _ e)⟩
  ·rw [List.map_append,hkm,List.take_add_one,List.getElem?_eq_getElem hjk,List.map_append]
   rfl
  ·rcases List.mem_append.mp hm with z | z
   ·obtain ⟨a1,⟨a2,a3,a3'⟩,a4⟩:=hat m z
    exact ⟨(e12.seqT a1).put hya2,⟨by rw [Qi a3];exact e12 _ _ a2,a3,a3'⟩,a4.mono fun _ _ h=>(e12.seqT h).put hya2⟩
   ·obtain rfl:m=(p2,ms[i].2.1,l2,ms[i].2.2.2.1,ms[i].2.2.2.2):=by simpa using z
    refine ⟨SqT.put (42:) hya2,⟨?_,hl2x,g.free hl2⟩,hk3.mono fun _ _ h=>(e12.seqT h).put hya2⟩
    show (upd _ ly _) l2=_
    rw [Qi hl2x];exact e2 _ _ Qb
  ·rw [List.map_append,List.nodup_append]
   refine ⟨hnd,by simp,fun a ha b hb=>?_⟩
   obtain ⟨m,hm,rfl⟩:=List.mem_map.mp ha
   obtain rfl:b=l2:=by simpa using hb
   intro z
   have:=(hat m hm).2.1.1
   rw [z,hl2] at this;cases this
 rintro ys H1 ⟨ns,rfl,hkm,hat,hnd,hly1,g1⟩
 rw [List.length_map,List.take_length] at hkm
 have hnl:ns.length=ms.length:=by have:=congrArg List.length hkm;rw [List.length_map,List.length_map] at this;exact this
 have hmn:mo < ns.length:=by lia
 have hmm:=List.getElem_mem hmn
 have same_md:∀ i (h:i < ns.length),∃ m,ms[i]?=some m∧ns[i].2.1=m.2.1∧ns[i].2.2.2.2=m.2.2.2.2:=fun i h=>by
  have hi:i < ms.length:=by lia
  have e:=congrArg (fun l=>l[i]?) hkm
  simp only [List.getElem?_map,List.getElem?_eq_getElem h,List.getElem?_eq_getElem hi,Option.map_some,Option.some.injEq] at e
  have f1:=congrArg Prod.fst e
  have f2:=congrArg Prod.snd e
  exact ⟨ms[i],List.getElem?_eq_getElem hi,f1,f2⟩
 obtain ⟨m0,hm0,ek0,er0⟩:=same_md mo hmn
 have hj0:=hj m0 hm0
 obtain ⟨a1,⟨a2,a3,a3'⟩,a4⟩:=hat _ hmm
 have hlen:=a4.length
 have hjl:j < ns[mo].2.2.2.1.length:=by rw [hlen,er0];exact hj0
 have hatn:atI (ns.map fun k=>V.ref k.1) (mo:Int)=some (.ref ns[mo].1):=Qu (by rw [List.getElem?_map,List.getElem?_eq_getElem hmn];rfl)
 refine ⟨_,rfl,_,rfl,_,rfl,ly,_,_,_,rfl,rfl,SqL.of hly1,hatn,ns[mo].1,_,1,_,rfl,rfl,a1,rfl,_,rfl,ns[mo].2.2.1,_,_,j,rfl,rfl,a2,Uf hjl,?_⟩
 have kT:∀ a xs,SqT K H1 a xs→SqT K (upd H1 ns[mo].2.2.1 (.lst (ns[mo].2.2.2.1.set j v))) a xs:=fun _ _ h=>h.put a2
 have g2:Same H (upd H1 ns[mo].2.2.1 (.lst (ns[mo].2.2.2.1.set j v))):=fun b u e=>by rw [Qi (Qg e a3')];exact g1 _ _ e
 have hly2:(upd H1 ns[mo].2.2.1 (.lst (ns[mo].2.2.2.1.set j v))) ly=some (.lst (ns.map fun k=>V.ref k.1)):=by rw [Qi (Ne.symm a3)];exact hly1
 have hlr2:(upd H1 ns[mo].2.2.1 (.lst (ns[mo].2.2.2.1.set j v))) ns[mo].2.2.1=some (.lst (ns[mo].2.2.2.1.set j v)):=Qb
 have keep:∀ b u,b≠ns[mo].2.2.1→H1 b=some u→(upd H1 ns[mo].2.2.1 (.lst (ns[mo].2.2.2.1.set j v))) b=some u:=fun b u hb e=>by rw [Qi hb];exact e
 generalize upd H1 ns[mo].2.2.1 (.lst (ns[mo].2.2.2.1.set j v))=H2 at kT g2 hly2 hlr2 keep ⊢
 have hT2:=hT.same g2
 refine ⟨_,rfl,tu,_,0,_,rfl,rfl,hT2.tu,rfl,_,rfl,tu,_,1,_,rfl,rfl,hT2.tu,rfl,_,rfl,(30:),fun tu1 htu1=>?_⟩
 have e9:=Qe htu1 (.tup [.ref wd,sv,.ref ly])
 obtain ⟨mN,emN⟩ : ∃ mN:MdT,mN=(ns[mo].1,ns[mo].2.1,ns[mo].2.2.1,ns[mo].2.2.2.1.set j v,ns[mo].2.2.2.2.set j t):=⟨_,rfl⟩
 have emap:(ns.set mo mN).map (fun k=>V.ref k.1)=ns.map fun k=>V.ref k.1:=by
  rw [List.map_set,emN]
  have h5:mo < (ns.map fun k=>V.ref k.1).length:=by rw [List.length_map];exact hmn
  have h6:(ns.map fun k=>V.ref k.1)[mo]=V.ref ns[mo].1:=List.getElem_map ..
  show (ns.map fun k=>V.ref k.1).set mo (V.ref ns[mo].1)=_
  rw [← h6,List.set_getElem_self]
 have hTA:=hT.same (g2.trans e9)
 have hndp:=List.pairwise_iff_getElem.mp (List.nodup_iff_pairwise_ne.mp hnd)
 have ndif:∀ i (h:i < ns.length),i≠mo→ns[i].2.2.1≠ns[mo].2.2.1:=fun i h hne=>by
  have e1:(ns.map fun m=>m.2.2.1)[i]'(by rw [List.length_map];exact h)=ns[i].2.2.1:=List.getElem_map ..
  have e2:(ns.map fun m=>m.2.2.1)[mo]'(by rw [List.length_map];exact hmn)=ns[mo].2.2.1:=List.getElem_map ..
  rcases Nat.lt_or_gt_of_ne hne with z | z
  ·have:=hndp i mo (by rw [List.length_map];exact h) (by rw [List.length_map];exact hmn) z
   rw [e1,e2] at this;exact this
  ·have:=hndp mo i (by rw [List.length_map];exact hmn) (by rw [List.length_map];exact h) z
   rw [e1,e2] at this;exact fun q=>this q.symm
 refine q tu1 ly (ns.set mo mN) _ (g2.trans e9) ⟨SqT.of Qb,hTA.w,hTA.s,SqL.of (by rw [emap];exact e9 _ _ hly2),fun m hm=>?_⟩ ⟨by rw [List.length_set];exact hnl,fun i m1 hm1=>?_⟩
 ·obtain ⟨i,hi,em⟩:=List.getElem_of_mem hm
  have hi':i < ns.length:=by rw [List.length_set] at hi;exact hi
  by_cases him:i=mo
  ·subst him
   rw [List.getElem_set_self] at em
   rw [← em,emN]
   exact ⟨e9.seqT (kT _ _ a1),SqL.of (e9 _ _ hlr2),TmAll.set' (hv.mono fun _ _=>(g2.trans e9).seqT) j (a4.mono fun _ _ h=>e9.seqT (kT _ _ h))⟩
  ·rw [List.getElem_set_ne (Ne.symm him)] at em
   obtain ⟨b1,⟨b2,_,_⟩,b4⟩:=hat _ (List.getElem_mem hi')
   rw [← em]
   exact ⟨e9.seqT (kT _ _ b1),SqL.of (e9 _ _ (keep _ _ (ndif i hi' him) b2)),b4.mono fun _ _ h=>e9.seqT (kT _ _ h)⟩
 ·have hi:=(List.getElem?_eq_some_iff.mp hm1).1
  have hi':i < ns.length:=by rw [List.length_set] at hi;exact hi
  obtain ⟨m,hm,ek,er⟩:=same_md i hi'
  refine ⟨m,hm,?_⟩
  have em:=(List.getElem?_eq_some_iff.mp hm1).2
  by_cases him:i=mo
  ·subst him
   rw [List.getElem_set_self] at em
   rw [← em,emN]
   exact ⟨ek,.inr ⟨rfl,by show ns[i].2.2.2.2.set j t=_;rw [er]⟩⟩
  ·rw [List.getElem_set_ne (Ne.symm him)] at em
   rw [← em]
   exact ⟨ek,.inl er⟩
end
end K52
namespace K52
open K51
open PySem L2 TM TT ST K9 K11
abbrev U5:Stmt:=top 42
abbrev VL:Stmt:=top 43
abbrev sBy:Stmt:=top 44
abbrev MI:Stmt:=top 45
abbrev Vu:Stmt:=top 46
def X4 (K:PySem.W.Frag):Sp:=fun vs H Q _=>∃ (a:Addr) (ns:List Int) (tu wd lm:Addr) (sv:V) (ks:List KdT) (st:Tm) (ms:List MdT) (mo j:Nat) (m0:MdT) (kd:KdT) (r:PNx),vs=[.ref a,.ref tu,.int (mo:Int),.int (j:Int)]∧SqL K H a (ns.map V.int)∧TurnD K H tu wd lm sv ks st ms∧WD ks∧ms.length≤4∧ms[mo]?=some m0∧kd ∈ ks∧kd.2.1=m0.2.1∧kd.2.2.2[j]?=some r ∧
 ∀ (v:V) (t:Tm) (H':Hp),Same H H'→TmV K H' v t→TPr (Fc (kns ms) r.2.2.2) t→lv t≤2→Q v H'
def KnL (ms:List MdT) (lk:Addr) (H:Hp) (i:Nat) (ys:List V) (H':Hp):Prop:=ys=((kns ms).take i).map V.str∧H' lk=some (.lst ys)∧Same H H'
section
variable {P:Program} {w:World} {K:PySem.W.Frag} {mg:Str→Option Value} {base:Heap} {f:Addr} {fd:FuncData}
theorem Um:FnScope ["_law_script", "_law_turning_here", "_law_mode", "_law_row", "_law_names_here", "_law_kinds", "_law_branches", "_law_ys"] ["_law_script", "_law_turning_here", "_law_mode", "_law_row"] (defScope Vu):=(1:)
theorem Lx (F:Fun K "_law_some_rule" "_law_some_rule" Vu f fd) (G:Gm mg) (RC:Fn P w K mg base 1 "_law_cell_at" ["_law_script", "_law_k"] (YO K)) (RS:Fn P w K mg base 1 "_law_stream" ["_law_cell", "_law_count"] ZV) (RN:Fn P w K mg base 1 "_law_names" ["_law_cell", "_law_count"] YG)
 (RR:Fn P w K mg base 1 "_law_rows" ["_law_wood_here", "_law_kind"] (Ya K)) (RL:Fn P w K mg base 1 "_law_calls" ["_law_branches", "_law_kinds"] (Uc K)) (RT:Fn P w K mg base 4 "_law_term" ["_law_xs", "_law_calls_here", "_law_names_here", "_law_far", "_law_deep"] (Z8 K 3)):FnOk P w K mg base CX0 5 f fd ["_law_script", "_law_turning_here", "_law_mode", "_law_row"] (X4 K):=by
 refine F.ok Um (10:) (4:)
 ·obtain ⟨a,ns,tu,wd,lm,sv,ks,st,ms,mo,j,m0,kd,r,rfl,_⟩:=h
  rfl
 obtain ⟨a,ns,tu,wd,lm,sv,ks,st,ms,mo,j,m0,kd,r,rfl,hS,hT,hW,h4,hm0,hkd,ek,hr0,q⟩:=h
 refine ⟨_,(Qf (Qz (Qr (i:=4) Um.nd rfl (13:) (Qn RN hr (31:))))
  (Qf (Zw (i:=5) (25:) rfl (QJ (Qh Qk (pv 1) Qd (26:))) (ZB (25:) rfl) (18:) (fun _ _ _ _=>pv 0) Um.nd rfl rfl)
  (Qf (Qr (i:=6) Um.nd rfl (13:) (Qh Qk (Qh Qo (Qn RR hr (Qa (Qh Qk (pv 1) Qd (26:)) (Qa (Qh Qo (pv 5) (pv 2) (26:)) Qc))) (pv 3) (26:)) Qd (26:)))
  (Qf (Qz (Qr (i:=7) Um.nd rfl (13:) (Qn RS hr (31:))))
  (Qj (Qs (Qn RT hr (Qa (pv 7) (Qa (Qn RL hr (Qa (pv 6) (Qa (pv 5) Qc))) (Qa (pv 4) (Qa (Ql Qv (Qn RC hr (Qa (pv 0) (Qa (Qd) Qc))) (Ql JA Qd Qd)) (Qa (Qd) Qc)))))))))))),?_⟩
 refine Za fun KK hKK=>?_
 refine ⟨_,rfl,a,ns,0,rfl,hS,_,9,rfl,by decide,fun ln H1 g1 hln0 hln=>?_⟩
 generalize (ns[0]?).getD 0=c at hln ⊢
 refine hKK _ _ ?_
 clear hKK KK
 have hT1:=hT.same g1
 refine ⟨_,rfl,tu,_,2,_,rfl,rfl,hT1.tu,rfl,lm,rfl,⟨_,hT1.m.1⟩,fun lk hlk=>?_⟩
 refine Zc (K:=K) (xs:=ms.map fun k=>V.ref k.1) (cs:=[]) (tt:=fun _ H Q=>Q true H) (te:=Q6 0) (KnL ms lk H1) ⟨rfl,Qb,Qe hlk _⟩ ?_ ?_ ?_
 ·rintro i ys H' _ ⟨_,_,g⟩
  exact (hT1.m.same g).1
 ·rintro i x ys H' hi hx ⟨rfl,hyb,g⟩
  have hjk:i < ms.length:=by simpa using hi
  obtain rfl:x=.ref ms[i].1:=by
   rw [List.getElem?_map,List.getElem?_eq_getElem hjk] at hx
   exact (54:).symm
  obtain ⟨hk1,hk2,hk3⟩:=(hT1.m.same g).2 _ (List.getElem_mem hjk)
  refine ⟨ms[i].1,_,_,rfl,hk1,QH ⟨_,rfl,?_⟩⟩
  refine Qp hi hyb (by rw [List.length_map,List.length_take,List.length_map];lia) ⟨?_,Qb,fun b u e=>by rw [Qi (Qg e hlk)];exact g _ _ e⟩
  rw [List.take_add_one,List.getElem?_map,List.getElem?_eq_getElem hjk,List.map_append];rfl
 rintro ys H2 ⟨rfl,hlk2,g2⟩
 have ekn:(kns ms).take (ms.map fun k=>V.ref k.1).length=kns ms:=List.take_of_length_le (by rw [List.length_map,List.length_map];exact Nat.le_refl _)
 rw [ekn] at hlk2
 have g12:=g1.trans g2
 have hT2:=hT.same g12
 have hmo:=(List.getElem?_eq_some_iff.mp hm0).1
 have hatk:atI ((kns ms).map V.str) (mo:Int)=some (.str kd.2.1):=Qu (by rw [List.getElem?_map,List.getElem?_map,hm0,ek];rfl)
 obtain ⟨w1,w2⟩:=hT2.w.2 kd hkd
 have hatr:atI (kd.2.2.2.map fun t=>V.ref t.1) (j:Int)=some (.ref r.1):=Qu (by rw [List.getElem?_map,hr0];rfl)
 have hrm:=List.mem_of_getElem? hr0
 obtain ⟨r1,r2⟩:=w2.2 r hrm
 refine ⟨_,rfl,tu,_,0,_,rfl,rfl,hT2.tu,rfl,_,rfl,_,rfl,lk,_,_,_,rfl,rfl,SqL.of hlk2,hatk,wd,ks,kd,rfl,hT2.w,hW.ok.nd,hkd,_,rfl,kd.2.2.1,_,_,_,rfl,rfl,w2.1,hatr,r.1,_,1,_,rfl,rfl,r1,rfl,?_⟩
 refine Za fun KK hKK=>?_
 refine ⟨_,rfl,a,ns,16,rfl,g12.seq hS,_,8,rfl,by decide,fun ly ysl Hy gy hly0 hly hyl hy0=>?_⟩
 refine hKK _ _ ?_
 clear hKK KK
 have hbl:=(hW.ok.rows kd hkd).kl r hrm
 refine ⟨_,rfl,_,rfl,_,rfl,r.2.2.1,lk,r.2.2.2,kns ms,rfl,gy.seqT r2,SqL.of (gy _ _ hlk2),hbl,by rw [List.length_map];lia,fun lc ws tc Hc gc hlc0 hlc htc hcl hc16=>?_⟩
 have hlcy:lc≠ly:=fun z=>by rw [z,hly] at hlc0;cases hlc0
 have hlnc:=gc _ _ (gy _ _ (g2 _ _ hln))
 have hlny:ln≠ly:=fun z=>by rw [← z,g2 _ _ hln] at hly0;cases hly0
 refine ⟨_,rfl,_,rfl,a,ns,3,rfl,(g12.trans (gy.trans gc)).seq hS,_,_,rfl,rfl,⟨by decide,by decide,by decide⟩,_,_,rfl,rfl,(by show (0:Int) < 10 ^ 59;decide),?_⟩
 refine ⟨ly,lc,ln,_,1,ysl,ws,tc,pns c 9,Fc (kns ms) r.2.2.2,rfl,gc _ _ hly,by rw [hyl];decide,SqL.of hlc,htc,fun t ht=>(by
  obtain ⟨k2,j2,e,z,e1,e2⟩:=hcl t ht
  exact ⟨_,_,e,k2,j2,z,rfl,rfl,e1,e2⟩),hc16,hlcy,SqL.of hlnc,by simp,JK c 9,hlny,by decide,by decide,fun v5 H5 t5 xs5 g5 hd5 _ hv5 ht5 hl5=>?_⟩
 exact q v5 t5 H5 (g12.trans (Zh (gy.trans gc) hly0 g5)) hv5 ht5 hl5
end
end K52
namespace K52
open K51
open PySem L2 TM TT ST K9 K11
theorem U9 {rw:Str→List PNx} {t:Tree Str} {k:Str} (h2:OfK rw t k):∀ {bs:List (Tree Str)} {ks:List Str},YC rw bs ks→YC rw (bs ++ [t]) (ks ++ [k])
 | [],ks,h=>by
  simp only [YC] at h
  rw [h]
  simp only [List.nil_append,YC]
  exact ⟨k,[],rfl,h2,rfl⟩
 | b :: r,ks,h=>by
  simp only [YC] at h
  obtain ⟨k',ks',rfl,h3,h4⟩:=h
  simp only [List.cons_append,YC]
  exact ⟨k',ks' ++ [k],rfl,h3,U9 h2 h4⟩
theorem rdI {K:PySem.W.Frag} {H:Hp}:∀ ns:List Int,RdAll K H (NI ns) (ns.map PyData.int)
 | []=>.nil
 | _ :: r=>.cons (.int _) (rdI r)
theorem Ox:∀ ns:List Int,PyData.canLayAll0 (ns.map PyData.int)=true
 | []=>by simp [PyData.canLayAll0]
 | _ :: r=>by simp [PyData.canLayAll0,PyData.canLay0,Ox r]
theorem rdS {K:PySem.W.Frag} {H:Hp}:∀ ns:List Str,RdAll K H (ns.map V.str) (ns.map PyData.str)
 | []=>.nil
 | _ :: r=>.cons (.str _) (rdS r)
theorem NR:∀ ns:List Str,(∀ x ∈ ns,PyData.strOk x=true)→PyData.canLayAll0 (ns.map PyData.str)=true
 | [],_=>by simp [PyData.canLayAll0]
 | x :: r,h=>by
  have h1:=h x List.mem_cons_self
  have h2:=NR r fun y hy=>h y (List.mem_cons_of_mem _ hy)
  simp only [List.map_cons,PyData.canLayAll0,PyData.canLay0,h1,h2,Bool.and_self]
theorem O6 (ns:List Str):PyData.eqv (.tuple (ns.map PyData.str)) (.tuple [])=ns.isEmpty:=by
 cases ns <;> simp [PyData.eqv,PyData.eqvAll]
def UH (K:PySem.W.Frag) (n:Nat):Sp:=fun vs H Q _=>∃ (H0:Hp) (wd d:Addr) (ks:List KdT) (kd:KdT) (dp:Nat) (xs:List Int),vs=[.ref wd,.str kd.2.1,.ref d,.int (dp:Int)]∧WoodAt K H0 wd ks∧WD ks∧kd ∈ ks∧H0 d=none∧Same H0 H∧H d=some (.lst (NI xs))∧dp < n∧dp≤3 ∧
 ∀ (v:V) (T:Tree Str) (xs':List Int) (H':Hp),SameD d H H'→H' d=some (.lst (NI xs'))→TrV K H' v T→OfK (QT ks) T kd.2.1→lv T≤dp + 1→Q v H'
def OW (kd:KdT) (i:Nat) (rs:List PNx):Prop:=(∀ r ∈ rs,r ∈ kd.2.2.2∧r.2.2.2=[])∧((∃ r ∈ kd.2.2.2.take i,r.2.2.2=[])→rs≠[])∧rs.length≤i
section
variable {P:Program} {w:World} {K:PySem.W.Frag} {mg:Str→Option Value} {base:Heap} {f:Addr} {fd:FuncData}
theorem Yv:FnScope ["_law_wood_here", "_law_kind", "_law_cells", "_law_deep", "_law_rows_here", "_law_x", "_law_name", "_law_branches", "_law_mark"] ["_law_wood_here", "_law_kind", "_law_cells", "_law_deep"] (defScope U5):=(1:)
theorem Lr {n:Nat} (F:Fun K "_law_tree" "_law_tree" U5 f fd) (G:Gm mg) (RR:Fn P w K mg base 1 "_law_rows" ["_law_wood_here", "_law_kind"] (Ya K)) (R:Fn P w K mg base (n + 1) "_law_tree" ["_law_wood_here", "_law_kind", "_law_cells", "_law_deep"] (UH K n)):FnOk P w K mg base CX0 (n + 2) f fd ["_law_wood_here", "_law_kind", "_law_cells", "_law_deep"] (UH K (n + 1)):=by
 refine F.ok Yv (10:) (4:)
 ·obtain ⟨H0,wd,d,ks,kd,dp,xs,rfl,_⟩:=h
  rfl
 obtain ⟨H0,wd,d,ks,kd,dp,xs,rfl,hw0,hW,hkd,hd0,g0,hd,hdn,hd3,q⟩:=h
 refine ⟨_,(Qf (Qr (i:=4) Yv.nd rfl (13:) (Qn RR hr (Qa (pv 0) (47:)) (7:)))
  (Qf (QN (JE (PW.pt (pw_or (Qx Q2 (pv 3) Qd (QA _)) (pw_or1 (Qx Jj (pv 2) (QM Qc) (QA _)))))) (Qj (Qs (Qy (Qa (Qh Qo (Qw (27:) rfl (QJ (pv 4)) (ZB (27:) rfl) (fun _ _ _ _=>Jv (Qx (r:=Ld K (A.deeper (PyProof.Rows.envOfC "_law_tree" (defScope U5) s.heap.objs.size f cdv)) false) Jj (pv 1) (Qy Qc) (QA _))) (fun _ _ _ _=>pv 0)) Qd (26:)) (Qa (Qd) (Qa (Qy Qc) Qc)))))) QB)
  (Qf (Qr (i:=5) Yv.nd rfl (13:) (35:))
  (Qf (ZL (Qh Qo (pv 4) (Ql Qv (pv 5) (Qq Qm rfl G.len PySem.boot_len (Qa (pv 4) Qc))) (26:)) (ZM rfl (QK (QC (i:=6) Yv.nd rfl (13:)) (QK (QC (i:=7) Yv.nd rfl (13:)) Zv))))
  (Qf (Qr (i:=8) Yv.nd rfl (13:) (Ql Zt (Ql Qv (Ql QY (pv 5) Qd) Qd) Qd))
  (Qf (Qz (QN (Qx Q2 (Ql Qv (Ql QY (pv 5) Qd) Qd) Qd (QA _)) (Qj (Qr (i:=8) Yv.nd rfl (13:) (Ql Zt (Ql Qv (Ql QY (pv 5) Qd) (Ql Yd Qd (Ql JA Qd Qd))) (Ql JA Qd Qd)))) QB))
  (Qj (Qs (Qy (Qa (pv 6) (Qa (pv 8) (Qa (QO QS rfl G.tup PyProof.Rows.boot_tuple (Qa (Qw (CompG.many (xs:=["_law_other"]) (caps:=["_law_cells", "_law_deep", "_law_wood_here"]) (cap:=[2,3,0]) (cs:=[_,_,_]) rfl rfl (0:) (0:) (0:) (0:) (0:) (0:) rfl rfl rfl) rfl (Zu (pv 7)) (Zb (CompG.many (xs:=["_law_other"]) (caps:=["_law_cells", "_law_deep", "_law_wood_here"]) (cap:=[2,3,0]) (cs:=[_,_,_]) rfl rfl (0:) (0:) (0:) (0:) (0:) (0:) rfl rfl rfl)) (18:) (fun _ _ _ _=>Qn R hr (Qa (pv 3) (Qa (pv 0) (Qa (pv 1) (Qa (Ql Zt (pv 2) Qd) Qc)))) (9:))) Qc)) Qc)))))))))))),?_⟩
 have hw:=hw0.same g0
 have er:=ZP hW.ok.nd hkd
 have ro:=hW.ok.rows kd hkd
 refine ⟨_,rfl,_,rfl,wd,ks,kd,rfl,hw,hW.ok.nd,hkd,?_⟩
 obtain ⟨w1,w2⟩:=hw.2 kd hkd
 refine ⟨fun b H'=>Same H H'∧(b=false→dp≠0∧xs≠[]),?_,?_⟩
 ·refine ⟨_,rfl,rfl,_,rfl,ZZ (fun hc=>?_) (fun hc=>?_)⟩
  ·exact ⟨Same.refl _,fun z=>by cases z⟩
  have hdp:dp≠0:=fun z=>by
   subst z
   exact absurd hc (28:)
  refine ⟨_,rfl,(20:),fun p hp=>?_⟩
  have ge:=Qe hp (.lst [])
  refine ⟨.list (xs.map PyData.int),.list [],.lst (SqL.of (ge _ _ hd)) (rdI xs),.lst (SqL.of Qb) .nil,by simp only [PyData.canLay0];exact Ox xs,by decide,hr.fit (Nat.le_trans (Nat.min_le_right _ _) (by simp [PyData.depth,PyData.depthAll])),_,rfl,ge,fun z=>⟨hdp,fun e=>?_⟩⟩
  rw [e] at z
  exact absurd z (28:)
 rintro b H1 ⟨g1,hb⟩
 cases b with
 | true =>
  refine QH ?_
  have hw1:=w2.1
  refine ⟨_,rfl,kd.2.2.1,rfl,⟨_,g1.seq w2.1⟩,fun acc hacc=>?_⟩
  refine Zc (K:=K) (xs:=kd.2.2.2.map fun t=>V.ref t.1) (cs:=[]) (fun i ys H'=>∃ rs:List PNx,ys=rs.map (fun r=>V.str r.2.1)∧OW kd i rs∧H' acc=some (.lst ys)∧Same H1 H')
   ⟨[],rfl,⟨fun r hr=>(nomatch hr),fun ⟨r,h,_⟩=>by simp at h,Nat.le_refl _⟩,Qb,Qe hacc _⟩ ?_ ?_ ?_
  ·rintro i ys H' _ ⟨_,_,_,_,g⟩
   exact (g1.trans g).seq w2.1
  ·rintro i x ys H' hi hx ⟨rs,rfl,hB,hya,g⟩
   have hjk:i < kd.2.2.2.length:=by simpa using hi
   obtain rfl:x=.ref kd.2.2.2[i].1:=by
    rw [List.getElem?_map,List.getElem?_eq_getElem hjk] at hx
    exact (54:).symm
   have hrm:=List.getElem_mem hjk
   obtain ⟨r1,r2⟩:=(w2.2 _ hrm).same (g1.trans g)
   refine ⟨kd.2.2.2[i].1,_,_,rfl,r1,?_⟩
   refine ⟨_,rfl,(20:),fun pe hpe=>?_⟩
   have ge:=Qe hpe (.tup [])
   have hya2:=ge _ _ hya
   have hten:rs.length≤10:=by have:=hB.2.2;have:=ro.len;lia
   refine ⟨.tuple (kd.2.2.2[i].2.2.2.map PyData.str),.tuple [],.tup (ge.seqT r2) (rdS _),.tup (42:) .nil,by simp only [PyData.canLay0];exact NR _ (ro.kn _ hrm),by decide,hr.fit (Nat.le_trans (Nat.min_le_right _ _) (by simp [PyData.depth,PyData.depthAll])),_,rfl,?_⟩
   rw [if_neg (28:),O6]
   have etk:kd.2.2.2.take (i + 1)=kd.2.2.2.take i ++ [kd.2.2.2[i]]:=by rw [List.take_add_one,List.getElem?_eq_getElem hjk];rfl
   by_cases hem:kd.2.2.2[i].2.2.2=[]
   ·rw [hem]
    refine QH ⟨_,rfl,?_⟩
    refine Qp hi hya2 (34:) ⟨rs ++ [kd.2.2.2[i]],by simp,⟨fun r hr'=>?_,fun _ z=>by simp at z,by have:=hB.2.2;simp;lia⟩,Qb,fun b u e=>by rw [Qi (Qg e hacc)];exact ge _ _ (g _ _ e)⟩
    rcases List.mem_append.mp hr' with z | z
    ·exact hB.1 r z
    ·rw [List.mem_singleton.mp z];exact ⟨hrm,hem⟩
   ·have:(kd.2.2.2[i].2.2.2).isEmpty=false:=by
     cases e:kd.2.2.2[i].2.2.2 with
     | nil=>exact absurd e hem
     | cons _ _=>rfl
    rw [this]
    refine Zj (Yh hi ⟨rs,rfl,⟨hB.1,fun ⟨r,h1,h2⟩=>?_,by have:=hB.2.2;lia⟩,hya2,g.trans ge⟩)
    rw [etk] at h1
    rcases List.mem_append.mp h1 with z | z
    ·exact hB.2.1 ⟨r,z,h2⟩
    ·rw [List.mem_singleton.mp z] at h2;exact absurd h2 hem
  rintro ys H2 ⟨rs,rfl,hB,hya,g2⟩
  rw [List.length_map,] at hB
  obtain ⟨rl,hl1,hl2⟩:=(hW.kx kd hkd).2
  obtain ⟨r0,rr,ers⟩ : ∃ r0 rr,rs=r0 :: rr:=by
   cases rs with
   | nil=>exact absurd rfl (hB.2.1 ⟨rl,by rw [List.take_length];exact hl1,hl2⟩)
   | cons a b=>exact ⟨a,b,rfl⟩
  obtain ⟨hr1,hr2⟩:=hB.1 r0 (by rw [ers];exact List.mem_cons_self)
  refine ⟨acc,_,0,.str r0.2.1,rfl,rfl,SqL.of hya,(by rw [ers];exact Qu (j:=0) rfl),(20:),fun pe hpe=>⟨(30:),fun pr hpr=>?_⟩⟩
  have e1:=Qe hpe (.tup [])
  have e2:=Qe hpr (.tup [.str r0.2.1,.int 0,.ref pe])
  have g3:=(g1.trans g2).trans (e1.trans e2)
  refine q _ (.node r0.2.1 0 []) xs _ (SameD.of g3) (g3 _ _ hd) (.mk (42:) (e2.seqT (42:)) .nil (by simp)) ?_ (by simp [lv,lvs])
  simp only [OfK]
  refine ⟨r0,by rw [er];exact hr1,rfl,?_⟩
  rw [hr2]
  simp only [YC]
 | false =>
  obtain ⟨hdp,hxs⟩:=hb rfl
  refine Zj ?_
  have hd1:=g1 _ _ hd
  obtain ⟨x,hx⟩:=ZN (xs:=xs) (by cases xs with | nil=>exact absurd rfl hxs | cons _ _=>simp)
  refine ⟨_,rfl,.inl ⟨rfl,_,SqL.of hd1⟩,d,_,_,rfl,rfl,hd1,hx,?_⟩
  rw [Xk]
  have hdk:Dk H d:=⟨xs,hd⟩
  have g2:SameD d H (upd H1 d (.lst (NI xs.dropLast))):=fun b u hb e=>by rw [Qi hb];exact g1 _ _ e
  have hd2:(upd H1 d (.lst (NI xs.dropLast))) d=some (.lst (NI xs.dropLast)):=Qb
  generalize upd H1 d (.lst (NI xs.dropLast))=H2 at g2 hd2 ⊢
  generalize xs.dropLast=xs1 at hd2
  have g02:=Zh g0 hd0 g2
  obtain ⟨w1,w2⟩:=(hw0.same g02).2 kd hkd
  have hrp:=(hW.rws kd hkd).1
  have elen:(kd.2.2.2.map fun t=>V.ref t.1).length=kd.2.2.2.length:=List.length_map ..
  obtain ⟨y,hy,hyat⟩:=Yj (xs:=kd.2.2.2.map fun t=>V.ref t.1) (k:=((kd.2.2.2.map fun t=>V.ref t.1).length:Int)) rfl (7:) x
  obtain ⟨r,hrm,rfl⟩:=List.mem_map.mp hy
  obtain ⟨r1,r2⟩:=w2.2 r hrm
  refine ⟨_,rfl,_,rfl,_,rfl,kd.2.2.1,_,rfl,.inl w2.1,_,_,rfl,rfl,(by rw [elen];lia),kd.2.2.1,_,_,_,rfl,rfl,w2.1,hyat,r.1,_,rfl,r1,rfl,_,_,rfl,_,_,rfl,rfl,?_⟩
  refine ⟨_,rfl,_,_,rfl,rfl,(22:),_,_,rfl,rfl,(by show (0:Int) < 7;decide),_,_,rfl,rfl,?_⟩
  refine WY (fun σ' H'=>∃ mk:Int,σ'=[some (.ref wd),some (.str kd.2.1),some (.ref d),some (.int (dp:Int)),some (.ref kd.2.2.1),some (.int x),some (.str r.2.1),some (.ref r.2.2.1),some (.int mk)]∧H'=H2) ?_ ?_
  ·refine ⟨_,rfl,_,_,rfl,rfl,(22:),_,_,rfl,rfl,(by show (0:Int) < 2;decide),rfl,_,rfl,ZZ (fun hc=>?_) (fun hc=>?_)⟩
   ·exact ⟨_,rfl,_,_,rfl,rfl,(22:),_,_,rfl,rfl,⟨by decide,by decide,by decide⟩,_,_,rfl,rfl,.inl (22:),_,_,rfl,rfl,(by show (0:Int) < 2 * 10 ^ 58;decide),_,_,rfl,rfl,⟨by decide,by decide,by decide⟩,_,_,rfl,rfl,_,rfl,rfl⟩
   ·exact ⟨_,rfl,rfl⟩
  rintro σ' H' ⟨mk,rfl,rfl⟩
  refine ⟨_,rfl,_,rfl,_,rfl,r.2.2.1,rfl,⟨_,r2⟩,fun acc hacc=>?_⟩
  have hdk2:Dk H' d:=⟨xs1,hd2⟩
  have had:=hdk2.ne hacc
  obtain ⟨e,he⟩ : ∃ e,dp=e + 1:=⟨dp - 1,by lia⟩
  have hbl:=ro.kl r hrm
  refine ZJ (K:=K) (xs:=r.2.2.2.map V.str) (cs:=[some (.ref d),some (.int (dp:Int)),some (.ref wd)]) (tt:=fun _ H Q=>Q true H) (fun i ys H3=>∃ (ts:List (Tree Str)) (xs':List Int),H3 acc=some (.lst ys)∧SameD d H' H3∧H3 d=some (.lst (NI xs'))∧TrAll K H3 ys ts∧YC (QT ks) ts (r.2.2.2.take i)∧ys.length=i∧∀ t ∈ ts,lv t≤dp)
   ⟨[],xs1,Qb,SameD.new hacc,by rw [Qi (Ne.symm had)];exact hd2,.nil,by simp [YC],rfl,fun t ht=>(nomatch ht)⟩ ?_ ?_ ?_
  ·rintro i ys H3 _ ⟨ts,xs',_,g,_⟩
   exact g.seqT hdk2 r2
  ·rintro i y ys H3 hi hy' ⟨ts,xs',hya,g,hd',hts,hof,hyl,hlv⟩
   have hi':i < r.2.2.2.length:=by simpa using hi
   obtain rfl:y=.str r.2.2.2[i]:=by
    rw [List.getElem?_map,List.getElem?_eq_getElem hi'] at hy'
    exact (Option.some.inj hy').symm
   obtain ⟨kb,hkb,ekb⟩ : ∃ kb ∈ ks,kb.2.1=r.2.2.2[i]:=List.mem_map.mp ((hW.kx kd hkd).1 r hrm _ (List.getElem_mem hi'))
   refine QH ⟨_,rfl,_,rfl,_,rfl,_,rfl,_,_,rfl,rfl,H0,wd,d,ks,kb,e,xs',?_,hw0,hW,hkb,hd0,Zh g02 hd0 g,hd',by lia,by lia,fun v5 T5 xs5 H5 g5 hd5 hv5 ho5 hl5=>?_⟩
   ·have e1:(dp:Int) - 1=(e:Int):=by lia
    show _=[V.ref wd,.str kb.2.1,.ref d,.int (e:Int)]
    rw [← e1,ekb];rfl
   have hya5:=g5 _ _ had hya
   have hdk':Dk H3 d:=⟨xs',hd'⟩
   refine Qp (ys:=ys) hi hya5 (7:) ⟨ts ++ [T5],xs5,Qb,(g.trans g5).put hacc,by rw [Qi (Ne.symm had)];exact hd5,?_,?_,by simp [hyl],fun t ht=>?_⟩
   ·exact TrAll.append (hts.mono fun _ _ h=>(g5.seqT hdk' h).put hya5) (.cons (hv5.mono fun _ _ h=>h.put hya5) .nil)
   ·rw [List.take_add_one,List.getElem?_eq_getElem hi']
    exact U9 (by rw [← ekb];exact ho5) hof
   ·rcases List.mem_append.mp ht with z | z
    ·exact hlv t z
    ·rw [List.mem_singleton.mp z];lia
  rintro ys H3 ⟨ts,xs',hya,g,hd',hts,hof,hyl,hlv⟩
  rw [List.length_map] at hof hyl
  rw [List.take_length] at hof
  refine ⟨acc,_,rfl,.inl ⟨SqL.of hya,fun pt hpt=>⟨(30:),fun pr hpr=>?_⟩⟩⟩
  have e1:=Qe hpt (.tup ys)
  have e2:=Qe hpr (.tup [.str r.2.1,.int mk,.ref pt])
  have e12:=e1.trans e2
  refine q _ (.node r.2.1 mk ts) xs' _ (g2.trans (g.trans (SameD.of e12))) (e12 _ _ hd') (.mk (42:) (e2.seqT (42:)) (hts.mono fun _ _=>e12.seqT) (7:)) ?_ ?_
  ·simp only [OfK]
   exact ⟨r,by rw [er];exact hrm,rfl,hof⟩
  ·have:=Jw hlv
   simp only [lv];lia
theorem Xe (F:Fun K "_law_tree" "_law_tree" U5 f fd) (G:Gm mg) (RR:Fn P w K mg base 1 "_law_rows" ["_law_wood_here", "_law_kind"] (Ya K)) (b:Binds K fd ["_law_wood_here", "_law_kind", "_law_cells", "_law_deep"] []) (hm:mg "_law_tree" = some (.ref f)):∀ n:Nat,FnOk P w K mg base CX0 (n + 1) f fd ["_law_wood_here", "_law_kind", "_law_cells", "_law_deep"] (UH K n)
 | 0=>⟨fun vs H Q E h=>by obtain ⟨H0,wd,d,ks,kd,dp,xs,rfl,_⟩:=h;rfl,fun A outer s H args us vs Q E _ _ _ _ h=>by obtain ⟨H0,wd,d,ks,kd,dp,xs,_,_,_,_,_,_,_,h,_⟩:=h;lia⟩
 | n + 1=>Lr F G RR ⟨f,fd,Xe F G RR b hm n,b,F.kp,hm⟩
end
end K52
namespace L2
open PySem PySem.Spec PyProof.Rows
section
variable {X:Cx}
end
end L2
namespace L2
open PySem PySem.Spec PyProof.Rows
section
variable {X:Cx}
def eqS (k:Str):Value→Bool
 | .str a _=>(a.cps.toList == k.cps.toList)
 | _=>false
theorem GG {ns:List Str}:∀ {its:List Value},Vals (ns.map V.str) its→∀ (i:Nat) (v:Value),its[i]?=some v→∃ (a:Str) (t:Tok),ns[i]?=some a∧v=.str a t:=by
 induction ns with
 | nil=>intro its h i v e;cases h;simp at e
 | cons a r ih =>
  intro its h i v e
  cases h with
  | @cons _ u _ us h1 h2 =>
   obtain ⟨t,rfl⟩:=(show ∃ t,u=Value.str a t from h1)
   cases i with
   | zero =>
    have:Value.str a t=v:=by simpa using e
    exact ⟨a,t,rfl,this.symm⟩
   | succ i =>
    obtain ⟨a',t',h3,h4⟩:=ih h2 i v (by simpa using e)
    exact ⟨a',t',by simpa using h3,h4⟩
theorem W9:MtM X "list.index" (fun x vs H Q=>∃ (l:Addr) (ns:List Str) (k:Str) (j:Nat),x=.ref l∧vs=[.str k]∧H l=some (.lst (ns.map V.str))∧ns.length≤1000∧ns[j]?=some k∧(∀ i,i < j→ns[i]?≠some k)∧Q (.int (j:Int)) H):=by
 intro pins s σ H x vs v us Q I rx rv h
 obtain ⟨l,ns,k,j,rfl,rfl,hH,hz,hj,hno,q⟩:=h
 cases rx
 obtain ⟨u,rfl,ru⟩:=rv.one
 obtain ⟨t,rfl⟩:=(show ∃ t,u=Value.str k t from ru)
 obtain ⟨z,its,n,r,hl,e⟩:=I.lstM hH
 rw [List.length_map] at hl
 have hjl:j < its.length:=by have:=(List.getElem?_eq_some_iff.mp hj).1;lia
 have get:∀ (i:Nat) (h:i < its.length),∃ (a:Str) (t:Tok),ns[i]?=some a∧its[i]=.str a t:=fun i h=>GG r i its[i] (List.getElem?_eq_getElem h)
 refine call_meets F.slot_list_index ⟨_,e,rfl⟩ F.entry_list_index (F.args_list_index_2 _ _) (MeetsSeq.list_index l its.toArray n (.str k t) (eqS k) (fun y hy=>?_) j (by simpa using hjl) (7:) ?_ (fun i hi hlt=>?_)) ⟨e,?_⟩
 ·have hy':y ∈ its:=by simpa using hy
  obtain ⟨i,hi,rfl⟩:=List.mem_iff_getElem.mp hy'
  obtain ⟨a,t',_,ea⟩:=get i hi
  rw [ea]
  exact SeqRoads2.EqGives.str a k t' t
 ·obtain ⟨a,t',h1,ea⟩:=get j hjl
  have:a=k:=Option.some.inj (h1.symm.trans hj)
  simp [List.getElem_toArray,ea,eqS,this]
 ·have hi':i < its.length:=by simpa using hi
  obtain ⟨a,t',h1,ea⟩:=get i hi'
  have:a≠k:=fun z=>hno i hlt (by rw [h1,z])
  have h5:(a.cps.toList == k.cps.toList)=false:=by
   rw [beq_eq_false_iff_ne]
   intro z
   apply this
   obtain ⟨a⟩:=a
   obtain ⟨k⟩:=k
   exact congrArg Str.mk (Array.toList_inj.mp z)
  simp only [List.getElem_toArray,ea,eqS,h5]
 ·exact ⟨.int j,H,I.tok _,⟨_,rfl⟩,q⟩
end
end L2
namespace G3
open PySem L2
inductive C where
 | v (i:Nat) | k (x:V) | bin (op:Operator) (a b:C) | cmp (op:CmpOp) (a b:C) | ix (a b:C)
 | tup (as:List C) | lst (as:List C) | call (i:Nat) (as:List C)
 | meth (i:Nat) (o:C) (as:List C) | no (a:C) | an (a b:C) | oo (a b:C)
 | nd (i:Nat) (as:List C) | iff (c a b:C)
 | comp (kd:Nat) (it:C) (cap:List Nat) (elt:C) | compI (kd:Nat) (it:C) (cap:List Nat) (cnd elt:C)
abbrev Rel:=St→List V→Hp→VK→Prop
structure Mr where
 ty:V→Hp→Prop
 r:V→List V→Hp→VK→Prop
structure En where
 K:PySem.W.Frag
 fs:List Rel
 ms:List Mr
 nr:List (51:)
 sr:List (St→List V→Hp→(St→Hp→Prop)→Prop)
def OV (a:Option V) (k:V→Prop):Prop:=match a with
 | none=>False
 | some x=>k x
def M3:St→Nat→(V→Prop)→Prop
 | [],_,_=>False
 | a :: _,0,k=>OV a k
 | _ :: r,n + 1,k=>M3 r n k
def Jk:St→Nat→V→(St→Prop)→Prop
 | [],_,_,_=>False
 | _ :: r,0,x,k=>k (some x :: r)
 | a :: r,n + 1,x,k=>Jk r n x fun r'=>k (a :: r')
def WK:List V→Nat→Bool
 | [],_=>true
 | _ :: _,0=>false
 | _ :: r,n + 1=>WK r n
structure Cnd (p q:Prop):Prop where
 c :: (h:p) (k:q)
structure NewT (K:PySem.W.Frag) (xs:List V) (H:Hp) (Q:VK):Prop where
 t :: (h:∀ p H',Same H H'→SqT K H' p xs→H' p=some (.tup xs)→Q (.ref p) H')
structure NewL (xs:List V) (H:Hp) (Q:VK):Prop where
 l :: (h:∀ p H',Same H H'→H' p=some (.lst xs)→H p=none→Q (.ref p) H')
inductive Ix (K:PySem.W.Frag) (a:Addr) (i:Int) (H:Hp) (Q:VK):Prop where
 | t (xs:List V) (v:V) (h:SqT K H a xs) (e:atI xs i=some v) (k:Q v H):Ix K a i H Q
 | l (xs:List V) (v:V) (h:SqL K H a xs) (e:atI xs i=some v) (k:Q v H):Ix K a i H Q
inductive Cat (K:PySem.W.Frag) (a b:Addr) (H:Hp) (Q:VK):Prop where
 | a (xs ys:List V) (h1:SqT K H a xs) (h2:SqT K H b ys) (hz:xs.length + ys.length≤sizeLine) (k:∀ p H',Same H H'→SqT K H' p (xs ++ ys)→Q (.ref p) H'):Cat K a b H Q
def Nk (i j:Int) (H:Hp) (Q:VK):Prop:=match j with
 | .ofNat (_ + 1)=>Q (.int (i % j)) H
 | _=>False
def Ni (i j:Int) (H:Hp) (Q:VK):Prop:=match j with
 | .ofNat (n + 1)=>cond (Nat.ble (n + 2) 1073741824) (Q (.int (i / j)) H) False
 | _=>False
def i2 (x y:V) (ki:Int→Int→Prop) (ks:Str→Str→Prop):Prop:=match x with
 | .int i=>match y with
  | .int j=>ki i j
  | _=>False
 | .str i=>match y with
  | .str j=>ks i j
  | _=>False
 | _=>False
def a2 (x y:V) (k:Addr→Addr→Prop):Prop:=match x with
 | .ref a=>match y with
  | .ref b=>k a b
  | _=>False
 | _=>False
def NJ:V→Bool
 | .ref _=>true
 | _=>false
def rB (K:PySem.W.Frag) (op:Operator) (x y:V) (H:Hp) (Q:VK):Prop:=match op with
 | .Add=>cond (NJ x) (a2 x y fun a b=>Cat K a b H Q) (i2 x y (fun i j=>Q (.int (i + j)) H) fun _ _=>False)
 | .Sub=>i2 x y (fun i j=>Q (.int (i - j)) H) fun _ _=>False
 | .Mult=>i2 x y (fun i j=>Cnd (CMul i j) (Q (.int (i * j)) H)) fun _ _=>False
 | .Mod=>i2 x y (fun i j=>Nk i j H Q) fun _ _=>False
 | .FloorDiv=>i2 x y (fun i j=>Ni i j H Q) fun _ _=>False
 | _=>False
def VM:V→Bool
 | .non=>true
 | _=>false
def iN (y:V) (k:Prop):Prop:=cond (VM y) k False
def rC (op:CmpOp) (x y:V) (H:Hp) (Q:VK):Prop:=match op with
 | .Eq=>i2 x y (fun i j=>Q (.bl (decide (i=j))) H) fun i j=>Q (.bl (decide (i=j))) H
 | .NotEq=>i2 x y (fun i j=>Q (.bl (!decide (i=j))) H) fun i j=>Q (.bl (!decide (i=j))) H
 | .Lt=>i2 x y (fun i j=>Q (.bl (decide (i < j))) H) fun i j=>Q (.bl (decide (i.cps.toList < j.cps.toList))) H
 | .LtE=>i2 x y (fun i j=>Q (.bl (decide (i≤j))) H) fun _ _=>False
 | .Gt=>i2 x y (fun i j=>Q (.bl (decide (j < i))) H) fun _ _=>False
 | .GtE=>i2 x y (fun i j=>Q (.bl (decide (j≤i))) H) fun _ _=>False
 | .Is=>iN y (Q (.bl (VM x)) H)
 | .IsNot=>iN y (Q (.bl (!VM x)) H)
 | _=>False
def rX (K:PySem.W.Frag) (x y:V) (H:Hp) (Q:VK):Prop:=match x,y with
 | .ref a,.int i=>Ix K a i H Q
 | _,_=>False
def asB (x:V) (H:Hp) (Q:Bool→Hp→Prop):Prop:=match x with
 | .bl b=>Q b H
 | _=>False
def N8 (j:Int):Prop:=-(2 ^ 62)≤j∧j < 2 ^ 62
inductive Cmp (K:PySem.W.Frag) (it:Hp→Prop) (itm:Nat→V) (m:Nat) (cs:St) (tt:TT) (te:TE) (H:Hp) (Q:VK):Prop where
 | s (R:Nat→List V→Hp→Prop) (h0:∀ H1,Same H H1→R 0 [] H1)
  (hm:∀ acc i ys l H1 H2,R i ys H1→H1 acc=some (.lst l)→H acc=none→(∀ a o,a≠acc→H1 a=some o→H2 a=some o)→(∀ a xs,SqT K H1 a xs→SqT K H2 a xs)→R i ys H2) (hz:m≤4000)
  (hs:∀ i ys H1,i < m→ys.length≤i→Same H H1→R i ys H1→tt (some (itm i) :: cs) H1 fun b H2=>cond b (te (some (itm i) :: cs) H2 fun y H3=>Same H1 H3∧R (i + 1) (ys ++ [y]) H3) (Same H1 H2∧R (i + 1) ys H2))
  (hd:∀ p ys H1,Same H H1→H1 p=some (.lst ys)→R m ys H1→Q (.ref p) H1):Cmp K it itm m cs tt te H Q
 | m (R:Addr→Nat→List V→Hp→Prop) (hz:m≤4000) (h0:∀ acc H1,H acc=none→Same H H1→H1 acc=some (.lst [])→R acc 0 [] H1) (hx:∀ acc i ys H1,R acc i ys H1→it H1)
  (hs:∀ acc i ys H1,i < m→ys.length≤i→H acc=none→R acc i ys H1→tt (some (itm i) :: cs) H1 fun b H2=>cond b (te (some (itm i) :: cs) H2 fun y H3=>H3 acc=some (.lst ys)∧R acc (i + 1) (ys ++ [y]) (upd H3 acc (.lst (ys ++ [y])))) (R acc (i + 1) ys H2))
  (hd:∀ acc ys H1,H acc=none→R acc m ys H1→Q (.ref acc) H1):Cmp K it itm m cs tt te H Q
inductive CmpL (K:PySem.W.Frag) (a:Addr) (cs:St) (tt:TT) (te:TE) (H:Hp) (Q:VK):Prop where
 | l (xs:List V) (h:SqL K H a xs) (k:Cmp K (fun H=>SqL K H a xs) (fun i=>(xs[i]?).getD .non) xs.length cs tt te H Q):CmpL K a cs tt te H Q
inductive CmpT (K:PySem.W.Frag) (a:Addr) (cs:St) (tt:TT) (te:TE) (H:Hp) (Q:VK):Prop where
 | t (xs:List V) (h:SqT K H a xs) (k:Cmp K (fun H=>SqT K H a xs) (fun i=>(xs[i]?).getD .non) xs.length cs tt te H Q):CmpT K a cs tt te H Q
def V6 (K:PySem.W.Frag) (kd:Nat) (x:V) (cs:St) (tt:TT) (te:TE) (H:Hp) (Q:VK):Prop:=match kd,x with
 | 0,.int j=>Cnd (N8 j) (Cmp K (fun _=>True) (fun i=>.int (i:Int)) j.toNat cs tt te H Q)
 | 1,.ref a=>CmpL K a cs tt te H Q
 | 2,.ref a=>CmpT K a cs tt te H Q
 | _,_=>False
def Xj:List Nat→St→St
 | [],_=>[]
 | j :: r,σ=>(σ[j]?).getD none :: Xj r σ
mutual
def E (n:En):C→TE
 | .v i=>fun σ H Q=>M3 σ i fun x=>Q x H
 | .k x=>fun _ H Q=>Q x H
 | .bin op a b=>fun σ H Q=>E n a σ H fun x H1=>E n b σ H1 fun y H2=>rB n.K op x y H2 Q
 | .cmp op a b=>fun σ H Q=>E n a σ H fun x H1=>E n b σ H1 fun y H2=>rC op x y H2 Q
 | .ix a b=>fun σ H Q=>E n a σ H fun x H1=>E n b σ H1 fun y H2=>rX n.K x y H2 Q
 | .tup as=>fun σ H Q=>Es n as σ H fun xs H1=>cond (WK xs 1000) (NewT n.K xs H1 Q) False
 | .lst as=>fun σ H Q=>Es n as σ H fun xs H1=>cond (WK xs 1000) (NewL xs H1 Q) False
 | .call i as=>fun σ H Q=>Es n as σ H fun xs H1=>match n.fs[i]? with | some r=>r σ xs H1 Q | none=>False
 | .no a=>fun σ H Q=>E n a σ H fun x H1=>asB x H1 fun b H2=>Q (.bl (!b)) H2
 | .an a b=>fun σ H Q=>E n a σ H fun x H1=>asB x H1 fun c H2=>cond c (E n b σ H2 Q) (Q (.bl false) H2)
 | .oo a b=>fun σ H Q=>E n a σ H fun x H1=>asB x H1 fun c H2=>cond c (Q (.bl true) H2) (E n b σ H2 Q)
 | .meth i o as=>fun σ H Q=>E n o σ H fun x H1=>match n.ms[i]? with | some m=>Cnd (m.ty x H1) (Es n as σ H1 fun xs H2=>m.r x xs H2 Q) | none=>False
 | .nd i as=>fun σ H Q=>Es n as σ H fun xs H1=>match n.nr[i]? with | some r=>r xs H1 Q | none=>False
 | .iff c a b=>fun σ H Q=>E n c σ H fun x H1=>asB x H1 fun t H2=>cond t (E n a σ H2 Q) (E n b σ H2 Q)
 | .comp kd it cap elt=>fun σ H Q=>E n it σ H fun x H1=>V6 n.K kd x (Xj cap σ) (fun _ H Q=>Q true H) (E n elt) H1 Q
 | .compI kd it cap cnd elt=>fun σ H Q=>E n it σ H fun x H1=>V6 n.K kd x (Xj cap σ) (fun σ H Q=>E n cnd σ H fun x H1=>asB x H1 Q) (E n elt) H1 Q
termination_by structural c=>c
def Es (n:En):List C→TA
 | []=>fun _ H Q=>Q [] H
 | a :: r=>fun σ H Q=>E n a σ H fun x H1=>Es n r σ H1 fun xs H2=>Q (x :: xs) H2
termination_by structural c=>c
end
end G3
namespace G3
open PySem L2
theorem VB {i j:Int} {H:Hp} {Q:VK} (h:Nk i j H Q):0 < j∧Q (.int (i % j)) H:=by
 unfold Nk at h
 split at h
 ·exact ⟨by simp,h⟩
 ·exact h.elim
theorem Vi {i j:Int} {H:Hp} {Q:VK} (h:Ni i j H Q):Od i j∧Q (.int (i / j)) H:=by
 unfold Ni at h
 split at h
 ·rename_i n
  cases hb:Nat.ble (n + 2) 1073741824 with
  | false=>rw [hb] at h;exact h.elim
  | true =>
   rw [hb] at h
   have:=Nat.ble_eq.mp hb
   refine ⟨⟨by simp,?_⟩,h⟩
   show ((n + 1:Nat):Int) < _
   lia
 ·exact h.elim
theorem i2_of {x y:V} {ki:Int→Int→Prop} {ks:Str→Str→Prop} (h:i2 x y ki ks):(∃ i j,x=.int i∧y=.int j∧ki i j)∨∃ i j,x=.str i∧y=.str j∧ks i j:=by
 cases x with
 | int i=>cases y with
  | int j=>exact .inl ⟨i,j,rfl,rfl,h⟩
  | _=>exact False.elim h
 | str i=>cases y with
  | str j=>exact .inr ⟨i,j,rfl,rfl,h⟩
  | _=>exact False.elim h
 | _=>exact False.elim h
theorem UK {x y:V} {ki:Int→Int→Prop} (h:i2 x y ki fun _ _=>False):∃ i j,x=.int i∧y=.int j∧ki i j:=by
 rcases i2_of h with h | ⟨_,_,_,_,h⟩
 ·exact h
 ·exact h.elim
theorem Ml {y:V} {k:Prop} (h:iN y k):y=.non∧k:=by
 cases y with
 | non=>exact ⟨rfl,h⟩
 | _=>exact False.elim h
theorem dI {i j:Int}:decide (V.int i=V.int j)=decide (i=j):=by simp
theorem dS {i j:Str}:decide (V.str i=V.str j)=decide (i=j):=by simp
section
variable {X:Cx}
theorem ON (op:Operator):OpR X (binaryOp op) (rB X.K op):=by
 intro pins s σ H x y v u Q I rx ry h
 cases op with
 | Add =>
  cases x with
  | ref a=>cases y with
   | ref b =>
    obtain ⟨xs,ys,h1,h2,hz,k⟩:=(show Cat X.K a b H Q from h)
    exact Ly pins s σ H _ _ v u Q I rx ry ⟨_,_,xs,ys,rfl,rfl,h1,h2,hz,k⟩
   | _=>exact False.elim h
  | int i=>cases y with
   | int j=>exact QR pins s σ H _ _ v u Q I rx ry ⟨_,_,rfl,rfl,h⟩
   | _=>exact False.elim h
  | str i=>cases y <;> exact False.elim h
  | _=>exact False.elim h
 | Sub =>
  obtain ⟨i,j,rfl,rfl,h⟩:=UK h
  exact Zt pins s σ H _ _ v u Q I rx ry ⟨_,_,rfl,rfl,h⟩
 | Mult =>
  obtain ⟨i,j,rfl,rfl,h⟩:=UK h
  exact Yd pins s σ H _ _ v u Q I rx ry ⟨_,_,rfl,rfl,h.h,h.k⟩
 | Mod =>
  obtain ⟨i,j,rfl,rfl,h⟩:=UK h
  exact Qv pins s σ H _ _ v u Q I rx ry ⟨_,_,rfl,rfl,(VB h).1,(VB h).2⟩
 | FloorDiv =>
  obtain ⟨i,j,rfl,rfl,h⟩:=UK h
  exact QY pins s σ H _ _ v u Q I rx ry ⟨_,_,rfl,rfl,(Vi h).1,(Vi h).2⟩
 | _=>exact False.elim h
theorem N1 (op:CmpOp):OpR X (compareOp op) (rC op):=by
 intro pins s σ H x y v u Q I rx ry h
 cases op with
 | Eq =>
  rcases i2_of h with ⟨i,j,rfl,rfl,h⟩ | ⟨i,j,rfl,rfl,h⟩
  ·exact Q2 pins s σ H _ _ v u Q I rx ry ⟨rfl,by rw [dI];exact h⟩
  ·exact Q2 pins s σ H _ _ v u Q I rx ry ⟨rfl,by rw [dS];exact h⟩
 | NotEq =>
  rcases i2_of h with ⟨i,j,rfl,rfl,h⟩ | ⟨i,j,rfl,rfl,h⟩
  ·exact Gx pins s σ H _ _ v u Q I rx ry ⟨rfl,by rw [dI];exact h⟩
  ·exact Gx pins s σ H _ _ v u Q I rx ry ⟨rfl,by rw [dS];exact h⟩
 | Lt =>
  rcases i2_of h with ⟨i,j,rfl,rfl,h⟩ | ⟨i,j,rfl,rfl,h⟩
  ·exact UU pins s σ H _ _ v u Q I rx ry ⟨_,_,rfl,rfl,h⟩
  ·exact WL pins s σ H _ _ v u Q I rx ry ⟨_,_,rfl,rfl,h⟩
 | LtE =>
  obtain ⟨i,j,rfl,rfl,h⟩:=UK h
  exact WC pins s σ H _ _ v u Q I rx ry ⟨_,_,rfl,rfl,h⟩
 | Gt =>
  obtain ⟨i,j,rfl,rfl,h⟩:=UK h
  exact GD pins s σ H _ _ v u Q I rx ry ⟨_,_,rfl,rfl,h⟩
 | GtE =>
  obtain ⟨i,j,rfl,rfl,h⟩:=UK h
  exact NY pins s σ H _ _ v u Q I rx ry ⟨_,_,rfl,rfl,h⟩
 | Is =>
  obtain ⟨rfl,h⟩:=Ml h
  refine Gh pins s σ H _ _ v u Q I rx ry ⟨rfl,?_⟩
  cases x <;> exact h
 | IsNot =>
  obtain ⟨rfl,h⟩:=Ml h
  refine JH pins s σ H _ _ v u Q I rx ry ⟨rfl,?_⟩
  cases x <;> exact h
 | _=>exact False.elim h
theorem Pc:IxR X (rX X.K):=by
 intro value slice pins s σ H x y v u Q I rx ry h hs
 unfold rX at h
 split at h
 ·cases h with
  | t xs w hq he k=>exact Qk value slice pins s σ H _ _ v u Q I rx ry ⟨_,xs,_,w,rfl,rfl,hq,he,k⟩ hs
  | l xs w hq he k=>exact Qo value slice pins s σ H _ _ v u Q I rx ry ⟨_,xs,_,w,rfl,rfl,hq,he,k⟩ hs
 ·exact h.elim
def ord:Expr→Bool
 | .Starred _ _=>false
 | .Slice _ _ _ _=>false
 | .Set _ _ _=>false
 | _=>true
def osw:Expr→Bool
 | .ListComp _ _ _ _=>false
 | .SetComp _ _ _ _=>false
 | .DictComp _ _ _ _ _=>false
 | _=>true
def tst:Expr→Bool
 | .UnaryOp .Not _ _=>false
 | .BoolOp _ _ _=>false
 | .IfExp _ _ _ _=>false
 | .Compare _ _ _ _=>false
 | _=>true
theorem ZA {e:Expr} {es:List Expr} {env:Env} (h:ord e=true):starEach (e :: es) env=(false,eval e env) :: starEach es env:=by
 cases e <;> first | rfl | exact absurd (show false=true from h) Bool.false_ne_true
theorem J4 {e:Expr} {t:Option Expr} {l:Nat} {env:Env} (h:osw e=true):swapsWith e t l env=pure false:=by
 cases e <;> first | rfl | exact absurd (show false=true from h) Bool.false_ne_true
theorem M4 {e:Expr} (h:ord e=true):WH e:=by
 cases e <;> first | exact fun _ _=>rfl | exact absurd (show false=true from h) Bool.false_ne_true
theorem Z4 {e:Expr} {env:Env} (h:ord e=true) (x:Value):foldedSetIterable e env x=pure x:=by
 cases e <;> first | rfl | exact absurd (show false=true from h) Bool.false_ne_true
theorem WT {e:Expr} {env:Env} (h:tst e=true) (wh:Sem Value):isTrue e env wh=(do let v ← wh;standAt e.pos;holding [v] (truthy v)):=by
 cases e <;> first | rfl | exact absurd (show false=true from h) Bool.false_ne_true | (rename_i op _ _;cases op <;> first | rfl | exact absurd (show false=true from h) Bool.false_ne_true)
theorem WX {es:List Expr} {pos:Pos} {env:Env} (h:es.all ord=true):(backTo pos (starEach es env)).any (·.1)=false:=by
 induction es with
 | nil=>rfl
 | cons e es ih =>
  rw [List.all_cons,Bool.and_eq_true] at h
  rw [ZA h.1]
  show (false || (backTo pos (starEach es env)).any (·.1))=false
  rw [ih h.2];rfl
structure CallOk (X:Cx) (x:Str) (r:Rel):Prop where
 ok:∀ (p pos:Pos) (e:Expr) (es:List Expr) (t:TA),PA X (e :: es) t→Gl X x→(52:)=false→starEach (e :: es) X.env=(false,eval e X.env) :: starEach es X.env→(backTo pos (starEach es X.env)).any (·.1)=false→PE X (.Call (.Name x p) (e :: es) [] pos) (fun σ H Q=>t σ H fun vs H1=>r σ vs H1 Q)
theorem CallOk.fn {k k':Nat} {x:Str} {ps:List Str} {sp:Sp} (F:Fn X.prog X.w X.K X.mg X.base k x ps sp) (hr:Room k' X.A) (hk:k≤k':=by decide):CallOk X x (fun _ vs H Q=>sp vs H Q E0) :=
 ⟨fun p pos e es t ha hg hd he hp=>by
  have:=Qn (p:=p) (pos:=pos) F hr ha hk hg hd he hp
  intro pins s σ H Q I h
  exact this pins s σ H Q I (by
   show t σ H fun vs H1=>sp (vs ++ []) H1 Q E0
   simpa only [List.append_nil] using h)⟩
structure MethOk (X:Cx) (m:Str) (q:Mr):Prop where
 ok:∀ (o e:Expr) (es:List Expr) (to:TE) (t:TA) (ap cp:Pos),PE X o to→PA X (e :: es) t→attributeBase o m X.env (eval o X.env)=eval o X.env→((e :: es).all ord)=true→(e :: es).length < 20→(ap.endLine == cp.line)=true→PE X (.Call (.Attribute o m ap) (e :: es) [] cp) (fun σ H Q=>to σ H fun x H1=>q.ty x H1∧t σ H1 fun vs H2=>q.r x vs H2 Q)
inductive PEs (X:Cx):List Expr→List TE→Prop where
 | nil:PEs X [] []
 | cons {e:Expr} {es:List Expr} {t:TE} {ts:List TE}:PE X e t→PEs X es ts→PEs X (e :: es) (t :: ts)
def W2:List TE→TA
 | []=>fun _ H Q=>Q [] H
 | t :: r=>fun σ H Q=>t σ H fun x H1=>W2 r σ H1 fun xs H2=>Q (x :: xs) H2
structure NodeOk (X:Cx) (sh:Expr→Option (List Expr)) (r:List V→Hp→VK→Prop):Prop where
 ok:∀ (e:Expr) (es:List Expr) (ts:List TE),sh e=some es→PEs X es ts→PE X e (fun σ H Q=>W2 ts σ H fun vs H1=>r vs H1 Q)
 okT:∀ (e:Expr) (es:List Expr) (ts:List TE),sh e=some es→PEs X es ts→PT X e (fun σ H Q=>W2 ts σ H fun vs H1=>r vs H1 fun x H2=>asB x H2 Q)
end
end G3
namespace G3
open PySem L2
def up (t:TE):TE:=fun σ H Q=>∃ Q0:VK,t σ H Q0∧∀ x H',Q0 x H'→Q x H'
def upA (t:TA):TA:=fun σ H Q=>∃ Q0:List V→Hp→Prop,t σ H Q0∧∀ x H',Q0 x H'→Q x H'
def upT (t:TT):TT:=fun σ H Q=>∃ Q0:Bool→Hp→Prop,t σ H Q0∧∀ x H',Q0 x H'→Q x H'
def upR (r:R2):R2:=fun x y H Q=>∃ Q0:VK,r x y H Q0∧∀ x H',Q0 x H'→Q x H'
theorem Zm {X:Cx} {e:Expr} {t:TE} (h:PE X e t):PE X e (up t):=fun pins s σ H Q I ⟨Q0,h0,k⟩=>thn (h pins s σ H Q0 I h0) fun v s1 ⟨x,H1,I1,r1,q1⟩=>⟨x,H1,I1,r1,k _ _ q1⟩
theorem L3 {X:Cx} {es:List Expr} {t:TA} (h:PA X es t):PA X es (upA t):=fun pos pins s σ H Q I ⟨Q0,h0,k⟩=>thn (h pos pins s σ H Q0 I h0) fun v s1 ⟨x,H1,I1,r1,q1⟩=>⟨x,H1,I1,r1,k _ _ q1⟩
theorem JW {X:Cx} {e:Expr} {t:TT} (h:PT X e t):PT X e (upT t):=fun pins s σ H Q I ⟨Q0,h0,k⟩=>thn (h pins s σ H Q0 I h0) fun v s1 ⟨H1,I1,q1⟩=>⟨H1,I1,k _ _ q1⟩
theorem Nr {X:Cx} {f:Value→Value→Sem Value} {r:R2} (h:OpR X f r):OpR X f (upR r):=fun pins s σ H x y v u Q I rx ry ⟨Q0,h0,k⟩=>thn (h pins s σ H x y v u Q0 I rx ry h0) fun v s1 ⟨x,H1,I1,r1,q1⟩=>⟨x,H1,I1,r1,k _ _ q1⟩
theorem Mf {X:Cx} {es:List Expr} {t:TT} (h:PF X es t):PF X es (upT t):=fun pins s σ H Q I ⟨Q0,h0,k⟩=>thn (h pins s σ H Q0 I h0) fun v s1 ⟨H1,I1,q1⟩=>⟨H1,I1,k _ _ q1⟩
theorem Zq {X:Cx} {e:Expr} {t u:TE} (h:PE X e t) (k:∀ σ H Q,u σ H Q→t σ H Q):PE X e u:=fun pins s σ H Q I q=>h pins s σ H Q I (k σ H Q q)
theorem YF {X:Cx} {e:Expr} {t u:TT} (h:PT X e t) (k:∀ σ H Q,u σ H Q→t σ H Q):PT X e u:=fun pins s σ H Q I q=>h pins s σ H Q I (k σ H Q q)
section
variable {K:PySem.W.Frag} {m:Nat} {cs:St} {tt:TT} {te:TE} {H:Hp} {Q:VK} {acc:Addr} {itm:Nat→V}
theorem UI {R:Nat→List V→Hp→Prop} {i n:Nat} {ys:List V} {H1:Hp} {x:V} (hn:i < n) (hz:n≤4000) (ha:H acc=none) (hm:∀ acc i ys l H1 H2,R i ys H1→H1 acc=some (.lst l)→H acc=none→(∀ a o,a≠acc→H1 a=some o→H2 a=some o)→(∀ a xs,SqT K H1 a xs→SqT K H2 a xs)→R i ys H2)
 (hy:H1 acc=some (.lst ys)) (hl:ys.length≤i) (g:Same H H1) (q:tt (some x :: cs) H1 fun b H2=>cond b (te (some x :: cs) H2 fun y H3=>Same H1 H3∧R (i + 1) (ys ++ [y]) H3) (Same H1 H2∧R (i + 1) ys H2)) :
 upT tt (some x :: cs) H1 (J9 n (57:) acc i (up te) (some x :: cs)):=by
 refine ⟨_,q,fun b H2 q=>?_⟩
 cases b with
 | true =>
  refine QH ⟨_,q,fun y H3 q=>?_⟩
  have hy3:=q.1 _ _ hy
  refine Qp (ys:=ys) hn hy3 (7:) ⟨Qb,fun z u e=>?_,hm acc _ _ ys H3 _ q.2 hy3 ha (fun a o na e=>by rw [Qi na];exact e) (fun a xs h=>SqT.put h hy3),by rw [List.length_append];show ys.length + 1≤_;lia⟩
  rw [Qi (Qg e ha)]
  exact q.1 _ _ (g _ _ e)
 | false=>exact Zj (Yh hn ⟨q.1 _ _ hy,g.trans q.1,q.2,by lia⟩)
theorem YU {R:Addr→Nat→List V→Hp→Prop} {i n:Nat} {ys:List V} {H1:Hp} {x:V} (hn:i < n) (hz:n≤4000) (hl:ys.length≤i) (q:tt (some x :: cs) H1 fun b H2=>cond b (te (some x :: cs) H2 fun y H3=>H3 acc=some (.lst ys)∧R acc (i + 1) (ys ++ [y]) (upd H3 acc (.lst (ys ++ [y])))) (R acc (i + 1) ys H2)) :
 upT tt (some x :: cs) H1 (J9 n (fun i ys H'=>R acc i ys H'∧ys.length≤i) acc i (up te) (some x :: cs)):=by
 refine ⟨_,q,fun b H2 q=>?_⟩
 cases b with
 | true=>exact QH ⟨_,q,fun y H3 q=>Qp (ys:=ys) hn q.1 (7:) ⟨q.2,by rw [List.length_append];show ys.length + 1≤_;lia⟩⟩
 | false=>exact Zj (Yh hn ⟨q,by lia⟩)
theorem W6 (h:Cmp K (fun _=>True) (fun i=>.int (i:Int)) m cs tt te H Q) (ha:H acc=none):YI (Itr 0 m) 1 cs (QV 0) (upT tt) (up te) H acc (fun H'=>Q (.ref acc) H'):=by
 cases h with
 | s R h0 hm hz hs hd =>
  refine ZE (57:) ⟨Qb,Qe ha _,h0 _ (Qe ha _),Nat.zero_le _⟩ (fun i ys H1 hi p=>?_) fun ys H1 p=>hd acc ys H1 p.2.1 p.1 p.2.2.1
  rw [Int.zero_add]
  exact UI hi hz ha hm p.1 p.2.2.2 p.2.1 (hs i ys H1 hi p.2.2.2 p.2.1 p.2.2.1)
 | m R hz h0 hx hs hd =>
  refine ZE (fun i ys H'=>R acc i ys H'∧ys.length≤i) ⟨h0 acc _ ha (Qe ha _) Qb,Nat.zero_le _⟩ (fun i ys H1 hi p=>?_) fun ys H1 p=>hd acc ys H1 ha p.1
  rw [Int.zero_add]
  exact YU hi hz p.2 (hs acc i ys H1 hi p.2 ha p.1)
theorem V7 {a:Addr} {xs:List V} (hx:SqL K H a xs) (h:Cmp K (fun H=>SqL K H a xs) (fun i=>(xs[i]?).getD .non) xs.length cs tt te H Q) (ha:H acc=none):YI (Itl K a) 1 cs (QV 0) (upT tt) (up te) H acc (fun H'=>Q (.ref acc) H'):=by
 cases h with
 | s R h0 hm hz hs hd =>
  refine ZF (xs:=xs) (57:) ⟨Qb,Qe ha _,h0 _ (Qe ha _),Nat.zero_le _⟩ (fun i ys H1 _ p=>p.2.1.seq hx) (fun i x ys H1 hi e p=>?_) fun ys H1 p=>hd acc ys H1 p.2.1 p.1 p.2.2.1
  have q:=hs i ys H1 hi p.2.2.2 p.2.1 p.2.2.1
  rw [e] at q
  exact UI hi hz ha hm p.1 p.2.2.2 p.2.1 q
 | m R hz h0 hx' hs hd =>
  refine ZF (xs:=xs) (fun i ys H'=>R acc i ys H'∧ys.length≤i) ⟨h0 acc _ ha (Qe ha _) Qb,Nat.zero_le _⟩ (fun i ys H1 _ p=>hx' acc i ys H1 p.1) (fun i x ys H1 hi e p=>?_) fun ys H1 p=>hd acc ys H1 ha p.1
  have q:=hs acc i ys H1 hi p.2 ha p.1
  rw [e] at q
  exact YU hi hz p.2 q
theorem LR {a:Addr} {xs:List V} (hx:SqT K H a xs) (h:Cmp K (fun H=>SqT K H a xs) (fun i=>(xs[i]?).getD .non) xs.length cs tt te H Q) (ha:H acc=none):YI (Itt K a) 1 cs (QV 0) (upT tt) (up te) H acc (fun H'=>Q (.ref acc) H'):=by
 cases h with
 | s R h0 hm hz hs hd =>
  refine ZJ (xs:=xs) (57:) ⟨Qb,Qe ha _,h0 _ (Qe ha _),Nat.zero_le _⟩ (fun i ys H1 _ p=>p.2.1.seqT hx) (fun i x ys H1 hi e p=>?_) fun ys H1 p=>hd acc ys H1 p.2.1 p.1 p.2.2.1
  have q:=hs i ys H1 hi p.2.2.2 p.2.1 p.2.2.1
  rw [e] at q
  exact UI hi hz ha hm p.1 p.2.2.2 p.2.1 q
 | m R hz h0 hx' hs hd =>
  refine ZJ (xs:=xs) (fun i ys H'=>R acc i ys H'∧ys.length≤i) ⟨h0 acc _ ha (Qe ha _) Qb,Nat.zero_le _⟩ (fun i ys H1 _ p=>hx' acc i ys H1 p.1) (fun i x ys H1 hi e p=>?_) fun ys H1 p=>hd acc ys H1 ha p.1
  have q:=hs acc i ys H1 hi p.2 ha p.1
  rw [e] at q
  exact YU hi hz p.2 q
end
end G3
namespace G3
open PySem L2
structure Tb where
 N:List Str
 sc:Scope
 fn:List Str
 mt:List Str
 nk:List (Expr→Option (List Expr))
 sk:List (Stmt→Option (List Expr))
def No (sc:Scope) (x:Str):Bool:=match sc.names.lookup x with
 | some .local=>true
 | some .cell=>true
 | some .free=>true
 | _=>false
def Mz (sc:Scope) (x:Str):Bool:=match sc.names.lookup x with
 | some .local=>true
 | some .cell=>true
 | _=>false
def glB (sc:Scope) (x:Str):Bool:=match sc.names.lookup x with
 | some .globalImplicit=>true
 | _=>false
def ndB (x:Str):Bool:=!(52:) && !(x == ("__classdict__" : Str))
def MD:Const→V→Bool
 | .int i,.int j=>decide (i=j)
 | .str i,.str j=>decide (i=j)
 | .bool i,.bl j=>decide (i=j)
 | .none,.non=>true
 | _,_=>false
def L7 (scope sc:Scope):Scope:={ scope with names:=scope.names.map fun (n,k)=>if (k == NameKind.free && sc.kind == .function && sc.names.lookup n == some .cell) then (n,NameKind.cell) else (n,k) }
def inn (T:Tb) (x:Str) (scope:Scope):Tb:=⟨x :: Zi scope.names,L7 scope T.sc,T.fn,T.mt,T.nk,T.sk⟩
def Y1 (T:Tb) (cap:List Nat) (x:Str) (scope:Scope):Bool :=
 decide (scope.kind=.function) && decide (T.sc.kind=.function) && decide (cap.map (fun j=>T.N[j]?)=(Zi scope.names).map some) && decide (∀ z ∈ scope.names,z.2≠.cell) && decide (∀ y ∈ scope.names,y.2=.local→scope.names.lookup y.1=some .local)
  && decide (scope.names.lookup x=some .local) && decide ((x :: Zi scope.names).Nodup) && decide (∀ y ∈ Zi scope.names,scope.names.lookup y=some .free) && decide (∀ y ∈ Zi scope.names,T.sc.names.lookup y=some .cell)
def Mm:Expr→Bool
 | .Call _ _ _ _=>false
 | _=>true
structure Vw where
 t:Nat
 x:Str
 a:Expr
 b:Expr
 c:Expr
 l:List Expr
 p:Pos
 o:Operator
 q:CmpOp
 n:Const
 k:Nat
 s:Scope
noncomputable def Vw.z:Vw:=⟨0,Str.empty,.Name Str.empty default,.Name Str.empty default,.Name Str.empty default,[],default,.Add,.Eq,.none,0,default⟩
noncomputable def OL (a:Expr):List CmpOp→List Expr→Vw
 | [q],[b]=>{ Vw.z with t:=4,a:=a,q:=q,b:=b }
 | _,_=>Vw.z
noncomputable def NX (f:Expr):List Expr→List Keyword→Vw
 | a :: l,[]=>match f with
  | .Name x p=>{ Vw.z with t:=8,x:=x,p:=p,a:=a,l:=l }
  | .Attribute b x p=>{ Vw.z with t:=15,b:=b,x:=x,p:=p,a:=a,l:=l }
  | _=>Vw.z
 | _,_=>Vw.z
noncomputable def Pp (a:Expr):UnaryOp→Vw
 | .Not=>{ Vw.z with t:=9,a:=a }
 | _=>Vw.z
noncomputable def N2:BoolOp→List Expr→Vw
 | .And,a :: b :: l=>{ Vw.z with t:=10,a:=a,b:=b,l:=l }
 | .Or,a :: b :: l=>{ Vw.z with t:=11,a:=a,b:=b,l:=l }
 | _,_=>Vw.z
noncomputable def vLc (a b:Expr) (s:Scope) (x:Str) (p:Pos):List Expr→Vw
 | []=>{ Vw.z with t:=13,a:=a,x:=x,p:=p,b:=b,s:=s }
 | [c]=>{ Vw.z with t:=14,a:=a,x:=x,p:=p,b:=b,c:=c,s:=s }
 | _=>Vw.z
noncomputable def O9 (a:Expr) (s:Scope) (b:Expr) (ifs:List Expr) (g:Expr):Int→Vw
 | .ofNat 0=>match g with
  | .Name x p=>vLc a b s x p ifs
  | _=>Vw.z
 | _=>Vw.z
noncomputable def vLs (a:Expr) (s:Scope):List Comprehension→Vw
 | [g]=>O9 a s g.iter g.ifs g.target g.is_async
 | _=>Vw.z
noncomputable def vw:Expr→Vw
 | .Name x _=>{ Vw.z with t:=1,x:=x }
 | .Constant n k _=>{ Vw.z with t:=2,n:=n,k:=k }
 | .BinOp a o b _=>{ Vw.z with t:=3,a:=a,o:=o,b:=b }
 | .Compare a q b _=>OL a q b
 | .Subscript a b _=>{ Vw.z with t:=5,a:=a,b:=b }
 | .Tuple l k _=>{ Vw.z with t:=6,l:=l,k:=k }
 | .List l _=>{ Vw.z with t:=7,l:=l }
 | .Call f l k _=>NX f l k
 | .UnaryOp o a _=>Pp a o
 | .BoolOp o l _=>N2 o l
 | .IfExp a b c _=>{ Vw.z with t:=12,a:=a,b:=b,c:=c }
 | .ListComp a g s _=>vLs a s g
 | _=>Vw.z
noncomputable def reb (v:Vw) (p:Pos):Nat→Expr
 | 1=>.Name v.x p
 | 2=>.Constant v.n v.k p
 | 3=>.BinOp v.a v.o v.b p
 | 4=>.Compare v.a [v.q] [v.b] p
 | 5=>.Subscript v.a v.b p
 | 6=>.Tuple v.l v.k p
 | 7=>.List v.l p
 | 8=>.Call (.Name v.x v.p) (v.a :: v.l) [] p
 | 9=>.UnaryOp .Not v.a p
 | 10=>.BoolOp .And (v.a :: v.b :: v.l) p
 | 11=>.BoolOp .Or (v.a :: v.b :: v.l) p
 | 12=>.IfExp v.a v.b v.c p
 | 13=>.ListComp v.a [⟨.Name v.x v.p,v.b,[],0⟩] v.s p
 | 14=>.ListComp v.a [⟨.Name v.x v.p,v.b,[v.c],0⟩] v.s p
 | 15=>.Call (.Attribute v.b v.x v.p) (v.a :: v.l) [] p
 | _=>.Name v.x p
def Vok (v:Vw) (e:Expr):Prop:=v.t=0∨reb v e.pos v.t=e
theorem vw_eq (e:Expr):Vok (vw e) e:=by
 cases e with
 | Compare a q b p =>
  rcases q with _ | ⟨_,_ | ⟨_,_⟩⟩
  ·exact .inl rfl
  ·rcases b with _ | ⟨_,_ | ⟨_,_⟩⟩ <;> first | exact .inr rfl | exact .inl rfl
  ·exact .inl rfl
 | Call f l k p =>
  cases l with
  | nil=>exact .inl rfl
  | cons a l=>cases k with
   | nil=>cases f <;> first | exact .inr rfl | exact .inl rfl
   | cons _ _=>exact .inl rfl
 | UnaryOp o a p=>cases o <;> first | exact .inr rfl | exact .inl rfl
 | BoolOp o l p=>cases o <;> rcases l with _ | ⟨_,_ | ⟨_,_⟩⟩ <;> first | exact .inr rfl | exact .inl rfl
 | ListComp a g s p =>
  rcases g with _ | ⟨⟨g,b,l,i⟩,_ | ⟨_,_⟩⟩
  ·exact .inl rfl
  ·rcases i with (_ | i) | i
   ·cases g with
    | Name x q=>rcases l with _ | ⟨_,_ | ⟨_,_⟩⟩ <;> first | exact .inr rfl | exact .inl rfl
    | _=>exact .inl rfl
   ·exact .inl rfl
   ·exact .inl rfl
  ·exact .inl rfl
 | _=>first | exact .inr rfl | exact .inl rfl
noncomputable def is (e:Expr) (n:Nat):Bool:=Nat.beq (vw e).t n
theorem rb {P:Expr→Prop} {e:Expr} {n:Nat} (h:is e (n + 1)=true) (k:P (reb (vw e) e.pos (n + 1))):P e:=by
 have ht:(vw e).t=n + 1:=Nat.eq_of_beq_eq_true h
 rcases vw_eq e with h0 | h0
 ·rw [h0] at ht;cases ht
 ·rw [ht] at h0;exact Eq.subst (motive:=P) h0 k
noncomputable def W3 (kd:Nat) (f:Expr→Bool) (T:Tb) (b:Expr):Bool:=match kd with
 | 0=>is b 8 && (decide ((vw b).x = "range") && glB T.sc (vw b).x && (vw b).l.isEmpty && f (vw b).a && ord (vw b).a)
 | 1=>f b && ord b
 | 2=>f b && ord b
 | _=>false
noncomputable def rest (op:BoolOp) (v:Vw) (p:Pos):Expr:=match v.l with
 | []=>v.b
 | _ :: _=>.BoolOp op (v.b :: v.l) p
mutual
noncomputable def chk:C→Tb→Expr→Bool
 | .v i,T,e=>is e 1 && (decide (T.N[i]?=some (vw e).x) && No T.sc (vw e).x && ndB (vw e).x)
 | .k x,_,e=>is e 2 && MD (vw e).n x
 | .bin op a b,T,e=>is e 3 && (decide (op=(vw e).o) && chk a T (vw e).a && chk b T (vw e).b)
 | .cmp op a b,T,e=>is e 4 && (decide (op=(vw e).q) && chk a T (vw e).a && chk b T (vw e).b && !(behindInMarks op (vw e).b))
 | .ix a b,T,e=>is e 5 && (chk a T (vw e).a && chk b T (vw e).b && ord (vw e).b)
 | .tup as,T,e=>is e 6 && Yr as T (vw e).l
 | .lst as,T,e=>is e 7 && Yr as T (vw e).l
 | .call i as,T,e=>is e 8 && (decide (T.fn[i]?=some (vw e).x) && glB T.sc (vw e).x && ndB (vw e).x && Yr as T ((vw e).a :: (vw e).l))
 | .no a,T,e=>is e 9 && chk a T (vw e).a
 | .an a b,T,e=>is e 10 && (chk a T (vw e).a && chk b T (rest .And (vw e) e.pos))
 | .oo a b,T,e=>is e 11 && (chk a T (vw e).a && chk b T (rest .Or (vw e) e.pos))
 | .meth i o as,T,e=>is e 15 && (decide (T.mt[i]?=some (vw e).x) && chk o T (vw e).b && Mm (vw e).b && Yr as T ((vw e).a :: (vw e).l) && Nat.ble ((vw e).a :: (vw e).l).length 19 && ((vw e).p.endLine == e.pos.line))
 | .nd i as,T,e=>match T.nk[i]? with
  | some sh=>match sh e with
   | some es=>Yr as T es
   | none=>false
  | none=>false
 | .iff c a b,T,e=>is e 12 && (chk c T (vw e).a && chk a T (vw e).b && chk b T (vw e).c)
 | .comp kd it cap elt,T,e=>is e 13 && (Y1 T cap (vw e).x (vw e).s && chk elt (inn T (vw e).x (vw e).s) (vw e).a && W3 kd (chk it T) T (vw e).b)
 | .compI kd it cap cnd elt,T,e=>is e 14 && (Y1 T cap (vw e).x (vw e).s && chk elt (inn T (vw e).x (vw e).s) (vw e).a && chk cnd (inn T (vw e).x (vw e).s) (vw e).c && W3 kd (chk it T) T (vw e).b)
termination_by structural c=>c
noncomputable def Yr:List C→Tb→List Expr→Bool
 | [],_,es=>es.isEmpty
 | a :: r,T,es=>match es with
  | e :: es=>ord e && chk a T e && Yr r T es
  | []=>false
termination_by structural c=>c
end
end G3
namespace G3
open PySem L2
theorem MP {sc:Scope} {x:Str} (h:No sc x=true):Vis sc x:=by
 unfold No at h
 split at h
 ·exact .inl (by assumption)
 ·exact .inr (.inl (by assumption))
 ·exact .inr (.inr (by assumption))
 ·cases h
theorem VD {sc:Scope} {x:Str} (h:Mz sc x=true):Loc sc x:=by
 unfold Mz at h
 split at h
 ·exact .inl (by assumption)
 ·exact .inr (by assumption)
 ·cases h
theorem Vo {X:Cx} {x:Str} (h:glB X.env.scope x=true):Gl X x:=by
 unfold glB at h
 split at h
 ·assumption
 ·cases h
theorem Gn {x:Str} (h:ndB x=true):(52:)=false∧(x == ("__classdict__" : Str))=false:=by
 unfold ndB at h
 rw [Bool.and_eq_true] at h
 exact ⟨by simpa using h.1,by simpa using h.2⟩
theorem JG {k:V→Prop}:∀ {σ:St} {i:Nat},M3 σ i k→∃ v,σ[i]?=some (some v)∧k v
 | [],_,h=>h.elim
 | none :: _,0,h=>h.elim
 | some x :: _,0,h=>⟨x,rfl,h⟩
 | none :: r,n + 1,h=>by rw [List.getElem?_cons_succ];exact JG (σ:=r) (i:=n) h
 | some _ :: r,n + 1,h=>by rw [List.getElem?_cons_succ];exact JG (σ:=r) (i:=n) h
theorem ZG {x:V}:∀ {σ:St} {i:Nat} {k:St→Prop},Jk σ i x k→k (σ.set i (some x))
 | [],_,_,h=>h.elim
 | _ :: _,0,_,h=>h
 | a :: r,n + 1,k,h=>ZG (σ:=r) (i:=n) (k:=fun r'=>k (a :: r')) h
theorem UC {x:V} {H:Hp} {Q:Bool→Hp→Prop} (h:asB x H Q):∃ b,x=.bl b∧Q b H:=by
 unfold asB at h
 split at h
 ·exact ⟨_,rfl,h⟩
 ·exact h.elim
theorem W7 {c:Bool} {A B:Prop} (h:cond c A B):if c=true then A else B:=by
 cases c with
 | true=>exact h
 | false=>exact h
theorem JM:∀ {xs:List V} {n:Nat},WK xs n=true→xs.length≤n
 | [],_,_=>Nat.zero_le _
 | _ :: _,0,h=>nomatch h
 | _ :: r,n + 1,h=>Nat.succ_le_succ (JM (xs:=r) h)
theorem Go {xs:List V} {n:Nat} {A:Prop} (h:cond (WK xs n) A False):xs.length≤n∧A:=by
 cases hb:WK xs n with
 | false=>rw [hb] at h;exact h.elim
 | true=>rw [hb] at h;exact ⟨JM hb,h⟩
theorem Jc {T:Tb}:∀ (as:List C) (es:List Expr),Yr as T es=true→es.all ord=true
 | [],[],_=>rfl
 | [],_ :: _,h=>nomatch h
 | _ :: _,[],h=>nomatch h
 | a :: r,e :: es,h=>by
  have h:(ord e && chk a T e && Yr r T es)=true:=h
  rw [Bool.and_eq_true,Bool.and_eq_true] at h
  rw [List.all_cons,Bool.and_eq_true]
  exact ⟨h.1.1,Jc r _ h.2⟩
theorem NO {X:Cx} {op:BoolOp} {es:List Expr} {pos:Pos} {t:TT} (h:PT X (.BoolOp op es pos) t):PW X (.BoolOp op es pos) t:=fun _ pins s σ H Q I q=>h pins s σ H Q I q
def ET (n:En) (c:C):TT:=fun σ H Q=>E n c σ H fun x H1=>asB x H1 Q
theorem JC:∀ {cap:List Nat} {σ:St},Xj cap σ=UR cap σ
 | [],_=>rfl
 | j :: r,σ=>by rw [Xj,JC (cap:=r)];rfl
structure Fam (X X':Cx):Prop where
 p:X'.prog=X.prog
 w:X'.w=X.w
 K:X'.K=X.K
 m:X'.mg=X.mg
 b:X'.base=X.base
 A:X'.A=X.A
 c:X'.calm=X.calm
structure Fit (X:Cx) (T:Tb) (fs:List Rel) (ms:List Mr) (nr:List (51:)):Prop where
 hN:T.N=X.N
 hs:T.sc=X.env.scope
 hf:∀ X':Cx,Fam X X'→∀ (i:Nat) x,T.fn[i]?=some x→∃ r,fs[i]?=some r∧CallOk X' x r
 hm:∀ X':Cx,Fam X X'→∀ (i:Nat) x,T.mt[i]?=some x→∃ r,ms[i]?=some r∧MethOk X' x r
 hn:∀ X':Cx,Fam X X'→∀ (i:Nat) sh,T.nk[i]?=some sh→∃ r,nr[i]?=some r∧NodeOk X' sh r
 ca:X.calm=true
 rg:X.mg "range" = none
theorem Fit.inn {X:Cx} {T:Tb} {fs:List Rel} {ms:List Mr} {nr:List (51:)} (F:Fit X T fs ms nr) (x:Str) (scope:Scope) (cl:List (Str × Addr)) (C:Addr) (fp:List Addr) (s₀:Shared) (H₀:Hp):Fit (QE X ([x] ++ Zi scope.names) scope cl C fp s₀ H₀) (inn T x scope) fs ms nr :=
 ⟨rfl,by
  show L7 scope T.sc=relabel scope X.env
  rw [F.hs];rfl,fun X' f=>F.hf X' ⟨f.p,f.w,f.K,f.m,f.b,f.A,f.c⟩,fun X' f=>F.hm X' ⟨f.p,f.w,f.K,f.m,f.b,f.A,f.c⟩,fun X' f=>F.hn X' ⟨f.p,f.w,f.K,f.m,f.b,f.A,f.c⟩,F.ca,F.rg⟩
theorem Wa {X:Cx} {T:Tb} {fs:List Rel} {ms:List Mr} {nr:List (51:)} (F:Fit X T fs ms nr) {cap:List Nat} {x:Str} {scope:Scope} (h:Y1 T cap x scope=true) (has:∀ y,X.env.scope.names.lookup y=some .cell→∃ c,X.env.cells.lookup y=some c):∃ cl,CompG X [x] (Zi scope.names) cap scope cl:=by
 unfold Y1 at h
 simp only [Bool.and_eq_true,decide_eq_true_eq] at h
 obtain ⟨⟨⟨⟨⟨⟨⟨⟨h1,h2⟩,h3⟩,h4⟩,h5⟩,h6⟩,h7⟩,h8⟩,h9⟩:=h
 rw [F.hs] at h2 h9
 rw [F.hN] at h3
 obtain ⟨cs,hcs⟩ : ∃ cs:List Addr,(Zi scope.names).map (fun y=>X.env.cells.lookup y)=cs.map some:=by
  have:∀ l:List Str,(∀ y ∈ l,X.env.scope.names.lookup y=some .cell)→∃ cs:List Addr,l.map (fun y=>X.env.cells.lookup y)=cs.map some:=by
   intro l
   induction l with
   | nil=>exact fun _=>⟨[],rfl⟩
   | cons y r ih =>
    intro h
    obtain ⟨cs,e⟩:=ih fun z hz=>h z (List.mem_cons_of_mem _ hz)
    obtain ⟨c,ec⟩:=has y (h y List.mem_cons_self)
    exact ⟨c :: cs,by rw [List.map_cons,e,ec];rfl⟩
  exact this _ h9
 exact ⟨_,CompG.many (xs:=[x]) (caps:=Zi scope.names) (cap:=cap) (cs:=cs) h1 h2 rfl h4 h5 (fun z hz=>by rw [List.mem_singleton.mp hz];exact h6) h7 h8 (List.map_congr_left fun y hy=>h9 y hy) hcs h3⟩
theorem pvT {X:Cx} {e:Expr} {t:TE} (h:PE X e t) (ht:tst e=true):PE X e t∧PT X e (fun σ H Q=>t σ H fun x H1=>asB x H1 Q):=⟨h,YF (ZK (Zm h) (WT ht)) fun σ H Q q=>⟨_,q,fun x H1 q=>UC q⟩⟩
theorem Jz {n:En}:∀ (as:List C) {σ:St} {H:Hp} {Q:List V→Hp→Prop},Es n as σ H Q ↔ W2 (as.map (E n)) σ H Q
 | [],σ,H,Q=>Iff.rfl
 | a :: r,σ,H,Q=>by
  have:(fun x H1=>Es n r σ H1 fun xs H2=>Q (x :: xs) H2)=fun x H1=>W2 (r.map (E n)) σ H1 fun xs H2=>Q (x :: xs) H2:=by
   funext x H1
   exact propext (Jz r)
  show (E n a σ H fun x H1=>Es n r σ H1 fun xs H2=>Q (x :: xs) H2) ↔ _
  rw [this]
  exact Iff.rfl
theorem Vy {α:Type} {l:List α} (h:l.isEmpty=true):l=[]:=by
 cases l with
 | nil=>rfl
 | cons _ _=>cases h
theorem VT {X:Cx} {op:BoolOp} {v:Vw} {p:Pos} {t:TE} (h:PE X (rest op v p) t):PE X (.BoolOp op (v.b :: v.l) p) t:=by
 obtain ⟨_,_,_,b,_,l,_,_,_,_,_,_⟩:=v
 cases l with
 | nil=>exact Uy h
 | cons _ _=>exact h
theorem MG {X:Cx} {v:Vw} {p:Pos} {t:TT} (h:PT X (rest .And v p) t):PW X (.BoolOp .And (v.b :: v.l) p) t:=by
 obtain ⟨_,_,_,b,_,l,_,_,_,_,_,_⟩:=v
 cases l with
 | nil=>exact pw_and1 h
 | cons _ _=>exact NO h
theorem MA {X:Cx} {v:Vw} {p:Pos} {t:TT} (h:PT X (rest .Or v p) t):PW X (.BoolOp .Or (v.b :: v.l) p) t:=by
 obtain ⟨_,_,_,b,_,l,_,_,_,_,_,_⟩:=v
 cases l with
 | nil=>exact pw_or1 h
 | cons _ _=>exact NO h
theorem b2 {a b:Bool} (h:(a && b)=true):a=true∧b=true:=by rwa [Bool.and_eq_true] at h
theorem Ux {K:PySem.W.Frag} {m:Nat} {cs:St} {tt:TT} {te:TE} {H:Hp} {Q Q':VK} {it:Hp→Prop} {itm:Nat→V} (h:Cmp K it itm m cs tt te H Q) (k:∀ x H,Q x H→Q' x H):Cmp K it itm m cs tt te H Q':=by
 cases h with
 | s R h0 hm hz hs hd=>exact .s R h0 hm hz hs fun p ys H1 g e r=>k _ _ (hd p ys H1 g e r)
 | m R hz h0 hx hs hd=>exact .m R hz h0 hx hs fun p ys H1 g r=>k _ _ (hd p ys H1 g r)
def ItR (X:Cx) (kd:Nat) (tit:TE) (tg b:Expr):Prop:=∃ wi:TI,PI X tg b wi∧(∀ x,foldedSetIterable b X.env x=pure x)∧∀ cap tt te σ H (Q Q':VK),(∀ x H,Q x H→Q' x H)→(tit σ H fun x H1=>V6 X.K kd x (Xj cap σ) tt te H1 Q)→UD 1 wi cap (QV 0) (upT tt) (up te) σ H Q'
theorem L8 {X:Cx} {T:Tb} {fs:List Rel} {ms:List Mr} {nr:List (51:)} (F:Fit X T fs ms nr) {kd:Nat} {f:Expr→Bool} {b tg:Expr} {tit:TE} (h:W3 kd f T b=true) (hf:∀ e,f e=true→PE X e tit):ItR X kd tit tg b:=by
 match kd,h with
 | 0,h =>
  obtain ⟨h0,h⟩:=b2 (show (is b 8 && _)=true from h)
  obtain ⟨h,z4⟩:=b2 h
  obtain ⟨h,z3⟩:=b2 h
  obtain ⟨h,z5⟩:=b2 h
  obtain ⟨z1,z2⟩:=b2 h
  rw [F.hs,of_decide_eq_true z1] at z2
  refine rb (P:=ItR X 0 tit tg) h0 ?_
  show ItR X 0 tit tg (.Call (.Name (vw b).x (vw b).p) ((vw b).a :: (vw b).l) [] b.pos)
  rw [of_decide_eq_true z1,Vy z5]
  refine ⟨_,QI (Vo z2) F.rg (Qa (Zm (hf _ z3)) Qc (ZA z4)) (ZA z4),fun _=>rfl,fun cap tt te σ H Q Q' k q=>⟨_,q,fun x H1 q=>?_⟩⟩
  cases x with
  | int j =>
   obtain ⟨hr,q⟩:=q
   rw [JC] at q
   exact ⟨j,rfl,hr.1,hr.2,fun acc ha=>W6 (Ux q k) ha⟩
  | _=>exact False.elim q
 | 1,h =>
  obtain ⟨z3,z4⟩:=b2 h
  refine ⟨_,QJ (Zm (hf _ z3)),Z4 z4,fun cap tt te σ H Q Q' k q=>⟨_,q,fun x H1 q=>?_⟩⟩
  cases x with
  | ref a =>
   cases q with
   | l xs hx q =>
    rw [JC] at q
    exact ⟨a,rfl,⟨xs,hx⟩,fun acc ha=>V7 hx (Ux q k) ha⟩
  | _=>exact False.elim q
 | 2,h =>
  obtain ⟨z3,z4⟩:=b2 h
  refine ⟨_,Zu (Zm (hf _ z3)),Z4 z4,fun cap tt te σ H Q Q' k q=>⟨_,q,fun x H1 q=>?_⟩⟩
  cases x with
  | ref a =>
   cases q with
   | t xs hx q =>
    rw [JC] at q
    exact ⟨a,rfl,⟨xs,hx⟩,fun acc ha=>LR hx (Ux q k) ha⟩
  | _=>exact False.elim q
 | _ + 3,h=>exact nomatch h
theorem Mj {X:Cx} {T:Tb} {fs:List Rel} {ms:List Mr} {nr:List (51:)} (F:Fit X T fs ms nr) {kd:Nat} {f:Expr→Bool} {el b:Expr} {ifs:List Expr} {x:Str} {p pos:Pos} {scope:Scope} {cap:List Nat} {tit te:TE} {tt:TT} (h1:Y1 T cap x scope=true) (h:W3 kd f T b=true) (hf:∀ e,f e=true→PE X e tit)
 (hel:∀ cl C fp s₀ H₀,PE (QE X ([x] ++ Zi scope.names) scope cl C fp s₀ H₀) el te) (hc:∀ cl C fp s₀ H₀,PF (QE X ([x] ++ Zi scope.names) scope cl C fp s₀ H₀) ifs tt):PE X (.ListComp el [⟨.Name x p,b,ifs,0⟩] scope pos) (fun σ H Q=>tit σ H fun v H1=>V6 X.K kd v (Xj cap σ) tt te H1 Q):=fun pins s σ H Q I q=>by
 obtain ⟨cl,O⟩:=Wa F h1 fun y hy=>I.ok.has y (.inl hy)
 obtain ⟨wi,w1,w2,w3⟩:=L8 F (tg:=.Name x p) h hf
 exact Qw O F.ca w1 (Zb O) (fun C fp s₀ H₀=>Mf (hc cl C fp s₀ H₀)) (fun C fp s₀ H₀=>Zm (hel cl C fp s₀ H₀)) w2 pins s σ H Q I (w3 _ _ _ _ _ _ _ (fun _ _ q=>q) q)
theorem M0 {X:Cx} {c:Const} {x:V} {k:Nat} {p:Pos} (h:MD c x=true):PE X (.Constant c k p) (fun _ H Q=>Q x H):=by
 unfold MD at h
 split at h
 ·rw [of_decide_eq_true h];exact Qd
 ·rw [of_decide_eq_true h];exact QX
 ·rw [of_decide_eq_true h];exact Z3
 ·exact YW
 ·cases h
theorem rbE {X:Cx} {e:Expr} {n:Nat} {t:TE} {u:TT} (h:is e (n + 1)=true) (k:PE X (reb (vw e) e.pos (n + 1)) t∧PT X (reb (vw e) e.pos (n + 1)) u):PE X e t∧PT X e u:=rb (P:=fun e=>PE X e t∧PT X e u) h k
theorem ME {e:Expr} {m:Str} {env:Env} (h:Mm e=true):attributeBase e m env (eval e env)=eval e env:=by
 cases e <;> first | rfl | exact absurd (show false=true from h) Bool.false_ne_true
section
variable {fs:List Rel} {ms:List Mr} {nr:List (51:)} {sr:List (St→List V→Hp→(St→Hp→Prop)→Prop)}
mutual
theorem snb:∀ (c:C) {X:Cx} {T:Tb} (F:Fit X T fs ms nr) (e:Expr),chk c T e=true→PE X e (E (40:) c)∧PT X e (ET (40:) c)
 | .v i,X,T,F,e,h=>by
  obtain ⟨h0,h⟩:=b2 h
  obtain ⟨h,h3⟩:=b2 h
  obtain ⟨h1,h2⟩:=b2 h
  have h1:=of_decide_eq_true h1
  rw [F.hN] at h1
  rw [F.hs] at h2
  exact rbE h0 (pvT (Zq (VP h1 (MP h2) (Gn h3).1 (Gn h3).2) fun σ H Q q=>JG q) rfl)
 | .k x,X,T,F,e,h=>by
  obtain ⟨h0,h⟩:=b2 h
  exact rbE h0 (pvT (M0 h) rfl)
 | .bin op a b,X,T,F,e,h=>by
  obtain ⟨h0,h⟩:=b2 h
  obtain ⟨h,h3⟩:=b2 h
  obtain ⟨h1,h2⟩:=b2 h
  refine rbE h0 ?_
  show PE X (.BinOp (vw e).a (vw e).o (vw e).b e.pos) _∧PT X (.BinOp (vw e).a (vw e).o (vw e).b e.pos) _
  rw [← of_decide_eq_true h1]
  exact pvT (Ql (ON op) (snb a F _ h2).1 (snb b F _ h3).1) rfl
 | .cmp op a b,X,T,F,e,h=>by
  obtain ⟨h0,h⟩:=b2 h
  obtain ⟨h,h4⟩:=b2 h
  obtain ⟨h,h3⟩:=b2 h
  obtain ⟨h1,h2⟩:=b2 h
  have h4:behindInMarks op (vw e).b=false:=by simpa using h4
  refine rbE h0 ?_
  show PE X (.Compare (vw e).a [(vw e).q] [(vw e).b] e.pos) _∧PT X (.Compare (vw e).a [(vw e).q] [(vw e).b] e.pos) _
  rw [← of_decide_eq_true h1]
  exact ⟨ZH (N1 op) (snb a F _ h2).1 (snb b F _ h3).1 h4,YF (Qx (Nr (N1 op)) (Zm (snb a F _ h2).1) (Zm (snb b F _ h3).1) h4) fun σ H Q q=>⟨_,q,fun x H1 q=>⟨_,q,fun y H2 q=>⟨_,q,fun z H3 q=>UC q⟩⟩⟩⟩
 | .ix a b,X,T,F,e,h=>by
  obtain ⟨h0,h⟩:=b2 h
  obtain ⟨h,h3⟩:=b2 h
  obtain ⟨h1,h2⟩:=b2 h
  exact rbE h0 (pvT (Qh Pc (snb a F _ h1).1 (snb b F _ h2).1 (M4 h3)) rfl)
 | .tup as,X,T,F,e,h=>by
  obtain ⟨h0,h⟩:=b2 h
  exact rbE h0 (pvT (Zq (Qy (L3 (GF as F _ h))) fun σ H Q q=>⟨_,q,fun vs H1 q=>by
   obtain ⟨hl,q⟩:=Go q
   exact ⟨Nat.le_trans hl (28:),fun p hp=>q.h p _ (Qe hp _) (42:) Qb⟩⟩) rfl)
 | .lst as,X,T,F,e,h=>by
  obtain ⟨h0,h⟩:=b2 h
  exact rbE h0 (pvT (Zq (QM (L3 (GF as F _ h))) fun σ H Q q=>⟨_,q,fun vs H1 q=>by
   obtain ⟨hl,q⟩:=Go q
   exact ⟨Nat.le_trans hl (28:),fun p hp=>q.h p _ (Qe hp _) Qb hp⟩⟩) rfl)
 | .call i as,X,T,F,e,h=>by
  obtain ⟨h0,h⟩:=b2 h
  obtain ⟨h,h4⟩:=b2 h
  obtain ⟨h,h3⟩:=b2 h
  obtain ⟨h1,h2⟩:=b2 h
  obtain ⟨r,e1,e2⟩:=F.hf X ⟨rfl,rfl,rfl,rfl,rfl,rfl,rfl⟩ _ _ (of_decide_eq_true h1)
  rw [F.hs] at h2
  have h5:=Jc as _ h4
  rw [List.all_cons,Bool.and_eq_true] at h5
  refine rbE h0 (pvT (Zq (e2.ok (vw e).p e.pos _ _ _ (GF as F _ h4) (Vo h2) (Gn h3).1 (ZA h5.1) (WX h5.2)) fun σ H Q q=>?_) rfl)
  have q:Es (40:) as σ H fun vs H1=>match fs[i]? with | some r=>r σ vs H1 Q | none=>False:=q
  rw [e1] at q
  exact q
 | .no a,X,T,F,e,h=>by
  obtain ⟨h0,h⟩:=b2 h
  exact rbE h0 ⟨Zq (XI (Zm (snb a F _ h).1)) fun σ H Q q=>⟨_,q,fun x H1 q=>UC q⟩,Yz (snb a F _ h).2⟩
 | .an a b,X,T,F,e,h=>by
  obtain ⟨h0,h⟩:=b2 h
  obtain ⟨h1,h2⟩:=b2 h
  exact rbE h0 ⟨Zq (Vr (Zm (snb a F _ h1).1) (VT (snb b F _ h2).1)) fun σ H Q q=>⟨_,q,fun x H1 q=>by
   obtain ⟨c,e,q⟩:=UC q
   exact ⟨c,e,W7 q⟩⟩,YF (PW.pt (pw_and (JW (snb a F _ h1).2) (MG (snb b F _ h2).2))) fun σ H Q q=>⟨_,q,fun x H1 q=>W7 q⟩⟩
 | .oo a b,X,T,F,e,h=>by
  obtain ⟨h0,h⟩:=b2 h
  obtain ⟨h1,h2⟩:=b2 h
  exact rbE h0 ⟨Zq (Ww (Zm (snb a F _ h1).1) (VT (snb b F _ h2).1)) fun σ H Q q=>⟨_,q,fun x H1 q=>by
   obtain ⟨c,e,q⟩:=UC q
   exact ⟨c,e,W7 q⟩⟩,YF (PW.pt (pw_or (JW (snb a F _ h1).2) (MA (snb b F _ h2).2))) fun σ H Q q=>⟨_,q,fun x H1 q=>W7 q⟩⟩
 | .meth i o as,X,T,F,e,h=>by
  obtain ⟨h0,h⟩:=b2 h
  obtain ⟨h,h6⟩:=b2 h
  obtain ⟨h,h5⟩:=b2 h
  obtain ⟨h,h4⟩:=b2 h
  obtain ⟨h,h3⟩:=b2 h
  obtain ⟨h1,h2⟩:=b2 h
  obtain ⟨r,e1,e2⟩:=F.hm X ⟨rfl,rfl,rfl,rfl,rfl,rfl,rfl⟩ _ _ (of_decide_eq_true h1)
  refine rbE h0 (pvT (Zq (e2.ok (vw e).b _ _ _ _ (vw e).p e.pos (Zm (snb o F _ h2).1) (GF as F _ h4) (ME h3) (Jc as _ h4) (Nat.lt_succ_of_le (Nat.ble_eq.mp h5)) h6) fun σ H Q q=>⟨_,q,fun x H1 q=>?_⟩) rfl)
  have q:(match ms[i]? with | some m=>Cnd (m.ty x H1) (Es (40:) as σ H1 fun xs H2=>m.r x xs H2 Q) | none=>False):=q
  rw [e1] at q
  exact ⟨q.h,q.k⟩
 | .nd i as,X,T,F,e,h=>by
  have h:(match T.nk[i]? with
   | some sh=>match sh e with
    | some es=>Yr as T es
    | none=>false
   | none=>false)=true:=h
  split at h
  ·rename_i sh hsh
   obtain ⟨r,e1,e2⟩:=F.hn X ⟨rfl,rfl,rfl,rfl,rfl,rfl,rfl⟩ _ _ hsh
   split at h
   ·rename_i es hes
    refine ⟨Zq (e2.ok e es _ hes (G4 as F _ h)) fun σ H Q q=>?_,YF (e2.okT e es _ hes (G4 as F _ h)) fun σ H Q q=>?_⟩
    ·have q:Es (40:) as σ H fun vs H1=>match nr[i]? with | some r=>r vs H1 Q | none=>False:=q
     rw [e1] at q
     exact (Jz as).mp q
    ·have q:Es (40:) as σ H fun vs H1=>match nr[i]? with | some r=>r vs H1 (fun x H2=>asB x H2 Q) | none=>False:=q
     rw [e1] at q
     exact (Jz as).mp q
   ·cases h
  ·cases h
 | .iff c a b,X,T,F,e,h=>by
  obtain ⟨h0,h⟩:=b2 h
  obtain ⟨h,h3⟩:=b2 h
  obtain ⟨h1,h2⟩:=b2 h
  refine rbE h0 ⟨Zq (Xb (JW (snb c F _ h1).2) (snb a F _ h2).1 (snb b F _ h3).1) fun σ H Q q=>⟨_,q,fun x H1 q=>W7 q⟩,fun pins s σ H Q I q=>?_⟩
  refine PyProof.Rows.isTrue_IfExp (thn ((snb c F _ h1).2 pins s σ H _ I q) fun d s1 ⟨H1,I1,q1⟩=>?_)
  cases d with
  | true=>exact (snb a F _ h2).2 pins s1 σ H1 _ I1 q1
  | false=>exact (snb b F _ h3).2 pins s1 σ H1 _ I1 q1
 | .comp kd it cap elt,X,T,F,e,h=>by
  obtain ⟨h0,h⟩:=b2 h
  obtain ⟨h,h3⟩:=b2 h
  obtain ⟨h1,h2⟩:=b2 h
  exact rbE h0 (pvT (Mj F h1 h3 (fun e h=>(snb it F e h).1) (fun cl C fp s₀ H₀=>(snb elt (F.inn _ _ cl C fp s₀ H₀) _ h2).1) fun _ _ _ _ _=>QF) rfl)
 | .compI kd it cap cnd elt,X,T,F,e,h=>by
  obtain ⟨h0,h⟩:=b2 h
  obtain ⟨h,h3⟩:=b2 h
  obtain ⟨h,hc⟩:=b2 h
  obtain ⟨h1,h2⟩:=b2 h
  exact rbE h0 (pvT (Mj F h1 h3 (fun e h=>(snb it F e h).1) (fun cl C fp s₀ H₀=>(snb elt (F.inn _ _ cl C fp s₀ H₀) _ h2).1) fun cl C fp s₀ H₀=>Jv (snb cnd (F.inn _ _ cl C fp s₀ H₀) _ hc).2) rfl)
theorem GF:∀ (as:List C) {X:Cx} {T:Tb} (F:Fit X T fs ms nr) (es:List Expr),Yr as T es=true→PA X es (Es (40:) as)
 | [],X,T,F,[],h=>Qc
 | [],_,_,_,_ :: _,h=>nomatch h
 | _ :: _,_,_,_,[],h=>nomatch h
 | a :: r,X,T,F,e :: es,h=>by
  obtain ⟨h,h3⟩:=b2 (show (ord e && chk a T e && Yr r T es)=true from h)
  obtain ⟨h1,h2⟩:=b2 h
  exact Qa (snb a F _ h2).1 (GF r F _ h3) (ZA h1)
theorem G4:∀ (as:List C) {X:Cx} {T:Tb} (F:Fit X T fs ms nr) (es:List Expr),Yr as T es=true→PEs X es (as.map (E (40:)))
 | [],X,T,F,[],h=>.nil
 | [],_,_,_,_ :: _,h=>nomatch h
 | _ :: _,_,_,_,[],h=>nomatch h
 | a :: r,X,T,F,e :: es,h=>by
  obtain ⟨h,h3⟩:=b2 (show (ord e && chk a T e && Yr r T es)=true from h)
  exact .cons (snb a F _ (b2 h).2).1 (G4 r F _ h3)
end
theorem snd (c:C) {X:Cx} {T:Tb} (F:Fit X T fs ms nr) (e:Expr) (h:chk c T e=true):PE X e (E (40:) c):=(snb c F e h).1
theorem snt (c:C) {X:Cx} {T:Tb} (F:Fit X T fs ms nr) (e:Expr) (h:chk c T e=true):PT X e (ET (40:) c):=(snb c F e h).2
end
end G3
namespace G3
open PySem L2
inductive S where
 | set (i:Nat) (c:C) | ret (c:C) | ex (c:C) | ite (c:C) (a b:List S)
 | forR (i:Nat) (c:C) (b:List S) | forL (i:Nat) (c:C) (b:List S) | forT (i:Nat) (c:C) (b:List S)
 | setC (i:Nat) (c:C) | cut (s:S) | unp (is:List Nat) (c:C)
 | wh (c:C) (b:List S) | forU (is:List Nat) (c:C) (b:List S) | sx (i:Nat) (as:List C)
inductive ForR (i m:Nat) (tb:TS) (D:Ends) (σ:St) (H:Hp):Prop where
 | f (Pv:Nat→St→Hp→Prop) (h0:Pv 0 σ H) (hs:∀ j σ H,j < m→Pv j σ H→Jk σ i (.int (j:Int)) fun σ2=>tb { D with nx:=Pv (j + 1),ct:=Pv (j + 1),bk:=D.nx } σ2 H) (hd:∀ σ H,Pv m σ H→D.nx σ H):ForR i m tb D σ H
inductive ForL (K:PySem.W.Frag) (i:Nat) (a:Addr) (tb:TS) (D:Ends) (σ:St) (H:Hp):Prop where
 | f (xs:List V) (Pv:Nat→St→Hp→Prop) (h0:Pv 0 σ H) (hl:∀ j σ H,j≤xs.length→Pv j σ H→SqL K H a xs) (hs:∀ j x σ H,xs[j]?=some x→Pv j σ H→Jk σ i x fun σ2=>tb { D with nx:=Pv (j + 1),ct:=Pv (j + 1),bk:=D.nx } σ2 H) (hd:∀ σ H,Pv xs.length σ H→D.nx σ H):ForL K i a tb D σ H
inductive ForT (K:PySem.W.Frag) (i:Nat) (a:Addr) (tb:TS) (D:Ends) (σ:St) (H:Hp):Prop where
 | f (xs:List V) (Pv:Nat→St→Hp→Prop) (h0:Pv 0 σ H) (hl:∀ j σ H,j≤xs.length→Pv j σ H→SqT K H a xs) (hs:∀ j x σ H,xs[j]?=some x→Pv j σ H→Jk σ i x fun σ2=>tb { D with nx:=Pv (j + 1),ct:=Pv (j + 1),bk:=D.nx } σ2 H) (hd:∀ σ H,Pv xs.length σ H→D.nx σ H):ForT K i a tb D σ H
inductive Cut (t:TS) (D:Ends) (σ:St) (H:Hp):Prop where
 | c (R:St→Hp→Prop) (h:t { D with nx:=R } σ H) (k:∀ σ' H',R σ' H'→D.nx σ' H'):Cut t D σ H
def JV:St→List Nat→List V→(St→Prop)→Prop
 | σ,[],[],k=>k σ
 | σ,i :: is,x :: xs,k=>Jk σ i x fun σ'=>JV σ' is xs k
 | _,_,_,_=>False
inductive Unp (K:PySem.W.Frag) (a:Addr) (is:List Nat) (σ:St) (H:Hp) (k:St→Hp→Prop):Prop where
 | u (xs:List V) (h:SqT K H a xs) (q:JV σ is xs fun σ'=>k σ' H):Unp K a is σ H k
inductive Wh (c:TT) (tb:TS) (D:Ends) (σ:St) (H:Hp):Prop where
 | w (J:Nat→St→Hp→Prop) (m:Nat) (h0:J m σ H) (hs:∀ m σ H,J m σ H→c σ H fun b H1=>cond b (tb { D with nx:=fun σ' H'=>∃ m' < m,J m' σ' H',ct:=fun σ' H'=>∃ m' < m,J m' σ' H',bk:=D.nx } σ H1) (D.nx σ H1)):Wh c tb D σ H
inductive ForU (K:PySem.W.Frag) (is:List Nat) (a:Addr) (tb:TS) (D:Ends) (σ:St) (H:Hp):Prop where
 | f (xs:List V) (Pv:Nat→St→Hp→Prop) (h0:Pv 0 σ H) (hl:∀ j σ H,j≤xs.length→Pv j σ H→SqL K H a xs) (hs:∀ j x σ H,xs[j]?=some x→Pv j σ H→∃ b ys,x=.ref b∧SqT K H b ys∧JV σ is ys fun σ2=>tb { D with nx:=Pv (j + 1),ct:=Pv (j + 1),bk:=D.nx } σ2 H) (hd:∀ σ H,Pv xs.length σ H→D.nx σ H):ForU K is a tb D σ H
mutual
def E1 (n:En):S→TS
 | .set i c=>fun D σ H=>E n c σ H fun x H1=>Jk σ i x fun σ'=>D.nx σ' H1
 | .ret c=>fun D σ H=>E n c σ H D.rt
 | .ex c=>fun D σ H=>E n c σ H fun _ H1=>D.nx σ H1
 | .ite c a b=>fun D σ H=>ET n c σ H fun t H1=>cond t (ES n a D σ H1) (ES n b D σ H1)
 | .forR i c b=>fun D σ H=>E n c σ H fun x H1=>match x with | .int j=>Cnd (N8 j) (ForR i j.toNat (ES n b) D σ H1) | _=>False
 | .forL i c b=>fun D σ H=>E n c σ H fun x H1=>match x with | .ref a=>ForL n.K i a (ES n b) D σ H1 | _=>False
 | .forT i c b=>fun D σ H=>E n c σ H fun x H1=>match x with | .ref a=>ForT n.K i a (ES n b) D σ H1 | _=>False
 | .cut s=>fun D σ H=>Cut (E1 n s) D σ H
 | .unp is c=>fun D σ H=>E n c σ H fun x H1=>match x with | .ref a=>Unp n.K a is σ H1 D.nx | _=>False
 | .wh c b=>fun D σ H=>Wh (ET n c) (ES n b) D σ H
 | .forU is c b=>fun D σ H=>E n c σ H fun x H1=>match x with | .ref a=>ForU n.K is a (ES n b) D σ H1 | _=>False
 | .sx i as=>fun D σ H=>Es n as σ H fun vs H1=>match n.sr[i]? with | some r=>r σ vs H1 D.nx | none=>False
 | .setC i c=>fun D σ H=>E n c σ H fun x H1=>Jk σ i x fun σ'=>D.nx σ' H1
termination_by structural c=>c
def ES (n:En):List S→TS
 | []=>fun D σ H=>D.nx σ H
 | s :: r=>fun D σ H=>E1 n s { D with nx:=ES n r D } σ H
termination_by structural c=>c
end
structure Vs where
 t:Nat
 x:Str
 p:Pos
 a:Expr
 l:List Expr
 k:Nat
 b:List Stmt
 c:List Stmt
noncomputable def Vs.z:Vs:=⟨0,Str.empty,default,.Name Str.empty default,[],0,[],[]⟩
noncomputable def O3 (a:Expr):List Expr→Vs
 | [g]=>match g with
  | .Name x p=>{ Vs.z with t:=1,x:=x,p:=p,a:=a }
  | .Tuple l k p=>{ Vs.z with t:=6,l:=l,k:=k,p:=p,a:=a }
  | _=>Vs.z
 | _=>Vs.z
noncomputable def Pt:Option Expr→Vs
 | some a=>{ Vs.z with t:=2,a:=a }
 | none=>Vs.z
noncomputable def OM (g a:Expr) (b:List Stmt):List Stmt→Vs
 | []=>match g with
  | .Name x p=>{ Vs.z with t:=5,x:=x,p:=p,a:=a,b:=b }
  | .Tuple l k p=>{ Vs.z with t:=8,l:=l,k:=k,p:=p,a:=a,b:=b }
  | _=>Vs.z
 | _=>Vs.z
noncomputable def sWh (a:Expr) (b:List Stmt):List Stmt→Vs
 | []=>{ Vs.z with t:=7,a:=a,b:=b }
 | _=>Vs.z
noncomputable def vs:Stmt→Vs
 | .Assign g a _=>O3 a g
 | .Return a _=>Pt a
 | .Expr a _=>{ Vs.z with t:=3,a:=a }
 | .If a b c _=>{ Vs.z with t:=4,a:=a,b:=b,c:=c }
 | .For g a b c _=>OM g a b c
 | .While a b c _=>sWh a b c
 | _=>Vs.z
noncomputable def OJ (v:Vs) (p:Pos):Nat→Stmt
 | 1=>.Assign [.Name v.x v.p] v.a p
 | 2=>.Return (some v.a) p
 | 3=>.Expr v.a p
 | 4=>.If v.a v.b v.c p
 | 5=>.For (.Name v.x v.p) v.a v.b [] p
 | 6=>.Assign [.Tuple v.l v.k v.p] v.a p
 | 7=>.While v.a v.b [] p
 | 8=>.For (.Tuple v.l v.k v.p) v.a v.b [] p
 | _=>.Pass p
theorem vs_eq (s:Stmt):(vs s).t=0∨∃ p,OJ (vs s) p (vs s).t=s:=by
 cases s with
 | Assign g a p =>
  rcases g with _ | ⟨g,_ | ⟨_,_⟩⟩
  ·exact .inl rfl
  ·cases g <;> first | exact .inr ⟨_,rfl⟩ | exact .inl rfl
  ·exact .inl rfl
 | Return a p=>cases a <;> first | exact .inr ⟨_,rfl⟩ | exact .inl rfl
 | For g a b c p =>
  cases c with
  | nil=>cases g <;> first | exact .inr ⟨_,rfl⟩ | exact .inl rfl
  | cons _ _=>exact .inl rfl
 | While a b c p=>cases c <;> first | exact .inr ⟨_,rfl⟩ | exact .inl rfl
 | _=>first | exact .inr ⟨_,rfl⟩ | exact .inl rfl
noncomputable def isS (s:Stmt) (n:Nat):Bool:=Nat.beq (vs s).t n
theorem rbS {X:Cx} {t:TS} {s:Stmt} {n:Nat} (h:isS s (n + 1)=true) (k:∀ p,PS X (OJ (vs s) p (n + 1)) t):PS X s t:=by
 have ht:(vs s).t=n + 1:=Nat.eq_of_beq_eq_true h
 rcases vs_eq s with h0 | ⟨p,h0⟩
 ·rw [h0] at ht;cases ht
 ·rw [ht] at h0;exact Eq.subst (motive:=fun s=>PS X s t) h0 (k p)
noncomputable def tgB (T:Tb) (i:Nat) (x:Str):Bool:=decide (T.N[i]?=some x) && Mz T.sc x
noncomputable def chN (T:Tb):List Nat→List Expr→Bool
 | [],es=>es.isEmpty
 | i :: is,es=>match es with
  | e :: es=>G3.is e 1 && tgB T i (vw e).x && chN T is es
  | []=>false
def L6:Expr→Bool
 | .Tuple _ _ _=>false
 | _=>true
def XC:C→Bool
 | .comp _ _ _ _=>true
 | .compI _ _ _ _ _=>true
 | _=>false
mutual
noncomputable def ch1 (T:Tb):S→Stmt→Bool
 | .set i c,s=>isS s 1 && (tgB T i (vs s).x && chk c T (vs s).a && osw (vs s).a)
 | .ret c,s=>isS s 2 && chk c T (vs s).a
 | .ex c,s=>isS s 3 && (chk c T (vs s).a && osw (vs s).a)
 | .ite c a b,s=>isS s 4 && (chk c T (vs s).a && chS T a (vs s).b && chS T b (vs s).c)
 | .forR i c b,s=>isS s 5 && (tgB T i (vs s).x && W3 0 (chk c T) T (vs s).a && chS T b (vs s).b)
 | .forL i c b,s=>isS s 5 && (tgB T i (vs s).x && (chk c T (vs s).a && ord (vs s).a) && chS T b (vs s).b)
 | .forT i c b,s=>isS s 5 && (tgB T i (vs s).x && (chk c T (vs s).a && ord (vs s).a) && chS T b (vs s).b)
 | .cut a,s=>ch1 T a s
 | .unp is c,s=>isS s 6 && (chN T is (vs s).l && chk c T (vs s).a && L6 (vs s).a)
 | .wh c b,s=>isS s 7 && (chk c T (vs s).a && chS T b (vs s).b)
 | .forU is c b,s=>isS s 8 && (chN T is (vs s).l && (chk c T (vs s).a && ord (vs s).a) && chS T b (vs s).b)
 | .sx i as,s=>match T.sk[i]? with
  | some sh=>match sh s with
   | some es=>Yr as T es
   | none=>false
  | none=>false
 | .setC i c,s=>isS s 1 && (XC c && (decide (T.N[i]?=some (vs s).x) && decide (T.sc.names.lookup (vs s).x=some .local) && chk c T (vs s).a && ((vs s).p.line == (vs s).a.pos.line) && !((vw (vs s).a).s.names.any fun z=>z.1 == (vs s).x && (z.2 == .local || z.2 == .cell))))
termination_by structural c=>c
noncomputable def chS (T:Tb):List S→List Stmt→Bool
 | [],ss=>ss.isEmpty
 | a :: r,ss=>match ss with
  | s :: ss=>ch1 T a s && chS T r ss
  | []=>false
termination_by structural c=>c
end
theorem Zp {X:Cx} {s:Stmt} {t u:TS} (h:PS X s t) (k:∀ D σ H,u D σ H→t D σ H):PS X s u:=fun pins s σ H D I q=>h pins s σ H D I (k D σ H q)
structure SNodeOk (X:Cx) (sh:Stmt→Option (List Expr)) (r:St→List V→Hp→(St→Hp→Prop)→Prop):Prop where
 ok:∀ (s:Stmt) (es:List Expr) (ts:List TE),sh s=some es→PEs X es ts→PS X s (fun D σ H=>W2 ts σ H fun vs H1=>r σ vs H1 D.nx)
structure FitS (X:Cx) (T:Tb) (fs:List Rel) (ms:List Mr) (nr:List (51:)) (sr:List (St→List V→Hp→(St→Hp→Prop)→Prop)):Prop where
 f:Fit X T fs ms nr
 nd:X.N.Nodup
 fn:∀ x,X.fn x=true
 po:PassesOwn (8:) X.A X.env X.xe
 hx:∀ (i:Nat) sh,T.sk[i]?=some sh→∃ r,sr[i]?=some r∧SNodeOk X sh r
theorem Ow {X:Cx} {T:Tb} {fs:List Rel} {ms:List Mr} {nr:List (51:)} (F:Fit X T fs ms nr) {cap:List Nat} {x y:Str} {scope:Scope} {el:Expr} {gs:List Comprehension} {pos py sp:Pos} (h:Y1 T cap x scope=true) (h2:T.sc.names.lookup y=some .local) (h3:(py.line == pos.line)=true) (h4:(!(scope.names.any fun z=>z.1 == y && (z.2 == .local || z.2 == .cell)))=true) :
 swapsWith (.ListComp el gs scope pos) (some (.Name y py)) sp.line X.env=pure true:=by
 unfold Y1 at h
 simp only [Bool.and_eq_true,decide_eq_true_eq] at h
 have hk:T.sc.kind=.function:=h.1.1.1.1.1.1.1.2
 rw [F.hs] at hk h2
 have e1:X.env.blockKind=.function:=by unfold Env.blockKind;rw [hk];rfl
 show (pure (X.env.blockKind == .function && X.env.kindOf y == some .local && py.line == pos.line && !(scope.names.any fun z=>z.1 == y && (z.2 == .local || z.2 == .cell))):Sem Bool)=pure true
 rw [e1,h3,h4,show X.env.kindOf y=some .local from h2]
 rfl
def gsN:List Nat→TGs
 | []=>Vc
 | i :: is=>Yn (QV i) (gsN is)
theorem Jr {H:Hp} {k:St→Hp→Prop}:∀ {is:List Nat} {xs:List V} {σ:St},(JV σ is xs fun σ'=>k σ' H)→gsN is xs σ H k
 | [],[],σ,h=>⟨rfl,h⟩
 | i :: is,x :: xs,σ,h=>⟨x,xs,rfl,Jr (is:=is) (xs:=xs) (ZG h)⟩
 | [],_ :: _,_,h=>h.elim
 | _ :: _,[],_,h=>h.elim
theorem Uv {k:St→Prop}:∀ {is:List Nat} {xs:List V} {σ:St},JV σ is xs k→xs.length=is.length
 | [],[],σ,h=>rfl
 | i :: is,x :: xs,σ,h=>congrArg (· + 1) (Uv (is:=is) (xs:=xs) (ZG h))
 | [],_ :: _,_,h=>h.elim
 | _ :: _,[],_,h=>h.elim
theorem VO {l:List Expr} {k n:Nat} {p:Pos} {e:Expr} {env:Env} (h:L6 e=true):swapsWithSole [.Tuple l k p] e n env=pure false∧swappedStores [.Tuple l k p] e env=pure none:=by
 cases e <;> first | exact ⟨rfl,rfl⟩ | exact absurd (show false=true from h) Bool.false_ne_true
theorem MT:∀ {c:C},XC c=true→(∃ kd it cap elt,c=.comp kd it cap elt)∨∃ kd it cap cnd elt,c=.compI kd it cap cnd elt:=fun {c} h=>by
 cases c <;> first | exact .inl ⟨_,_,_,_,rfl⟩ | exact .inr ⟨_,_,_,_,_,rfl⟩ | exact nomatch h
section
variable {X:Cx} {T:Tb} {fs:List Rel} {ms:List Mr} {nr:List (51:)} {sr:List (St→List V→Hp→(St→Hp→Prop)→Prop)} (F:FitS X T fs ms nr sr)
include F
theorem Wy {i:Nat} {x:Str} {pos:Pos} (h:tgB T i x=true):PG X (.Name x pos) (QV i):=by
 obtain ⟨h1,h2⟩:=b2 h
 have h1:=of_decide_eq_true h1
 rw [F.f.hN] at h1
 rw [F.f.hs] at h2
 exact QC F.nd h1 (VD h2) (.inl (F.fn x))
theorem UO:∀ (is:List Nat) (es:List Expr),chN T is es=true→PGs X es (gsN is)∧(assignEach es X.env).length=is.length∧(assignEach es X.env).findIdx? (·.1)=none
 | [],[],_=>⟨Zv,rfl,rfl⟩
 | i :: is,e :: es,h=>by
  obtain ⟨h,h3⟩:=b2 (show (G3.is e 1 && tgB T i (vw e).x && chN T is es)=true from h)
  obtain ⟨h1,h2⟩:=b2 h
  obtain ⟨n1,n2,n3⟩:=UO is es h3
  refine rb (P:=fun e=>PGs X (e :: es) (gsN (i :: is))∧(assignEach (e :: es) X.env).length=(i :: is).length∧(assignEach (e :: es) X.env).findIdx? (·.1)=none) h1 ⟨QK (Wy F h2) n1 rfl,?_,?_⟩
  ·show (assignEach es X.env).length + 1=is.length + 1
   rw [n2]
  ·show ((false,assign (.Name (vw e).x e.pos) X.env) :: assignEach es X.env).findIdx? (·.1)=none
   rw [List.findIdx?_cons]
   simp [n3]
 | [],_ :: _,h=>nomatch h
 | _ :: _,[],h=>nomatch h
theorem Wt {i kd:Nat} {f:Expr→Bool} {el b:Expr} {ifs:List Expr} {x y:Str} {p pos py sp:Pos} {scope:Scope} {cap:List Nat} {tit te:TE} {tt:TT} (y1:decide (T.N[i]?=some y)=true) (y2:decide (T.sc.names.lookup y=some .local)=true) (y3:(py.line == pos.line)=true) (y4:(!(scope.names.any fun z=>z.1 == y && (z.2 == .local || z.2 == .cell)))=true) (h1:Y1 T cap x scope=true) (h:W3 kd f T b=true) (hf:∀ e,f e=true→PE X e tit)
 (hel:∀ cl C fp s₀ H₀,PE (QE X ([x] ++ Zi scope.names) scope cl C fp s₀ H₀) el te) (hc:∀ cl C fp s₀ H₀,PF (QE X ([x] ++ Zi scope.names) scope cl C fp s₀ H₀) ifs tt):PS X (.Assign [.Name y py] (.ListComp el [⟨.Name x p,b,ifs,0⟩] scope pos) sp) (fun D σ H=>tit σ H fun v H1=>V6 X.K kd v (Xj cap σ) tt te H1 fun x H1=>Jk σ i x fun σ'=>D.nx σ' H1):=fun pins s σ H D I q=>by
 have y1:=of_decide_eq_true y1
 have y2:=of_decide_eq_true y2
 have y6:=y2
 rw [F.f.hN] at y1
 rw [F.f.hs] at y6
 obtain ⟨cl,O⟩:=Wa F.f h1 fun y hy=>I.ok.has y (.inl hy)
 obtain ⟨wi,w1,w2,w3⟩:=L8 F.f (tg:=.Name x p) h hf
 exact Zw O F.f.ca w1 (Zb O) (fun C fp s₀ H₀=>Mf (hc cl C fp s₀ H₀)) (fun C fp s₀ H₀=>Zm (hel cl C fp s₀ H₀)) F.nd y1 y6 (Ow F.f h1 y2 y3 y4) w2 pins s σ H D I (w3 _ _ _ _ _ _ _ (fun _ _ q=>ZG q) q)
theorem G8 {i:Nat} {c:C} {y:Str} {e:Expr} {py sp:Pos} (hk:XC c=true) (y1:decide (T.N[i]?=some y)=true) (y2:decide (T.sc.names.lookup y=some .local)=true) (h:chk c T e=true) (y3:(py.line == e.pos.line)=true) (y4:(!((vw e).s.names.any fun z=>z.1 == y && (z.2 == .local || z.2 == .cell)))=true):PS X (.Assign [.Name y py] e sp) (E1 (40:) (.setC i c)):=by
 rcases MT hk with ⟨kd,it,cap,elt,rfl⟩ | ⟨kd,it,cap,cnd,elt,rfl⟩
 ·obtain ⟨h0,h⟩:=b2 h
  obtain ⟨h,h3⟩:=b2 h
  obtain ⟨h1,h2⟩:=b2 h
  exact rb (P:=fun e=>PS X (.Assign [.Name y py] e sp) (E1 (40:) (.setC i (.comp kd it cap elt)))) h0 (Wt F y1 y2 y3 y4 h1 h3 (fun e h=>snd (sr:=sr) it F.f e h) (fun cl C fp s₀ H₀=>snd (sr:=sr) elt (F.f.inn _ _ cl C fp s₀ H₀) _ h2) fun _ _ _ _ _=>QF)
 ·obtain ⟨h0,h⟩:=b2 h
  obtain ⟨h,h3⟩:=b2 h
  obtain ⟨h,hc⟩:=b2 h
  obtain ⟨h1,h2⟩:=b2 h
  exact rb (P:=fun e=>PS X (.Assign [.Name y py] e sp) (E1 (40:) (.setC i (.compI kd it cap cnd elt)))) h0 (Wt F y1 y2 y3 y4 h1 h3 (fun e h=>snd (sr:=sr) it F.f e h) (fun cl C fp s₀ H₀=>snd (sr:=sr) elt (F.f.inn _ _ cl C fp s₀ H₀) _ h2) fun cl C fp s₀ H₀=>Jv (snt (sr:=sr) cnd (F.f.inn _ _ cl C fp s₀ H₀) _ hc))
mutual
theorem sn1:∀ (c:S) (s:Stmt),ch1 T c s=true→PS X s (E1 (40:) c)
 | .set i c,s,h=>by
  obtain ⟨h0,h⟩:=b2 h
  obtain ⟨h,h3⟩:=b2 h
  obtain ⟨h,h2⟩:=b2 h
  obtain ⟨h1,h4⟩:=b2 h
  have h1:=of_decide_eq_true h1
  rw [F.f.hN] at h1
  rw [F.f.hs] at h4
  exact rbS h0 fun p=>Zp (Qr F.nd h1 (VD h4) (Zm (snd (sr:=sr) c F.f _ h2)) (J4 h3) (.inl (F.fn _))) fun D σ H q=>⟨_,q,fun x H1 q=>ZG q⟩
 | .ret c,s,h=>by
  obtain ⟨h0,h⟩:=b2 h
  exact rbS h0 fun p=>Qs (snd (sr:=sr) c F.f _ h)
 | .ex c,s,h=>by
  obtain ⟨h0,h⟩:=b2 h
  obtain ⟨h1,h2⟩:=b2 h
  exact rbS h0 fun p=>Q8 (snd (sr:=sr) c F.f _ h1) (J4 h2)
 | .ite c a b,s,h=>by
  obtain ⟨h0,h⟩:=b2 h
  obtain ⟨h,h3⟩:=b2 h
  obtain ⟨h1,h2⟩:=b2 h
  exact rbS h0 fun p=>Zp (QN (JW (snt (sr:=sr) c F.f _ h1)) (snS a _ h2) (snS b _ h3)) fun D σ H q=>⟨_,q,fun x H1 q=>W7 q⟩
 | .forR i c b,s,h=>by
  obtain ⟨h0,h⟩:=b2 h
  obtain ⟨h,h7⟩:=b2 h
  obtain ⟨h1,h⟩:=b2 h
  obtain ⟨h2,h⟩:=b2 (show (is (vs s).a 8 && _)=true from h)
  obtain ⟨h,h6⟩:=b2 h
  obtain ⟨h,h5⟩:=b2 h
  obtain ⟨h,h4⟩:=b2 h
  obtain ⟨h3,h8⟩:=b2 h
  have h3:=of_decide_eq_true h3
  rw [F.f.hs,h3] at h8
  refine rbS h0 fun p=>rb (P:=fun e=>PS X (.For (.Name (vs s).x (vs s).p) e (vs s).b [] p) (E1 (40:) (.forR i c b))) h2 ?_
  show PS X (.For _ (.Call (.Name (vw (vs s).a).x (vw (vs s).a).p) ((vw (vs s).a).a :: (vw (vs s).a).l) [] (vs s).a.pos) _ [] p) _
  rw [h3,Vy h4]
  refine Zp (Q5 F.po F.f.ca (QI (Vo h8) F.f.rg (Qa (Zm (snd (sr:=sr) c F.f _ h5)) Qc (ZA h6)) (ZA h6)) (Wy F h1) (snS b _ h7)) fun D σ H q=>⟨_,q,fun x H1 q=>?_⟩
  cases x with
  | int j =>
   obtain ⟨hr,q⟩:=q
   refine ⟨j,rfl,hr.1,hr.2,?_⟩
   cases q with
   | f Pv h0 hs hd=>exact Q3 (lo:=0) Pv h0 (fun j σ H hj hp=>by rw [Int.zero_add];exact ZG (hs j σ H hj hp)) hd
  | _=>exact False.elim q
 | .forL i c b,s,h=>by
  obtain ⟨h0,h⟩:=b2 h
  obtain ⟨h,h7⟩:=b2 h
  obtain ⟨h1,h⟩:=b2 h
  obtain ⟨h5,h6⟩:=b2 h
  refine rbS h0 fun p=>Zp (Q5 F.po F.f.ca (QJ (Zm (snd (sr:=sr) c F.f _ h5))) (Wy F h1) (snS b _ h7) (Z4 h6)) fun D σ H q=>⟨_,q,fun x H1 q=>?_⟩
  cases x with
  | ref a =>
   cases q with
   | f ys Pv h0 hl hs hd=>exact ⟨a,rfl,⟨ys,hl 0 _ _ (Nat.zero_le _) h0⟩,Yb Pv h0 hl (fun j x σ H hj hp=>ZG (hs j x σ H hj hp)) hd⟩
  | _=>exact False.elim q
 | .forT i c b,s,h=>by
  obtain ⟨h0,h⟩:=b2 h
  obtain ⟨h,h7⟩:=b2 h
  obtain ⟨h1,h⟩:=b2 h
  obtain ⟨h5,h6⟩:=b2 h
  refine rbS h0 fun p=>Zp (Q5 F.po F.f.ca (Zu (Zm (snd (sr:=sr) c F.f _ h5))) (Wy F h1) (snS b _ h7) (Z4 h6)) fun D σ H q=>⟨_,q,fun x H1 q=>?_⟩
  cases x with
  | ref a =>
   cases q with
   | f ys Pv h0 hl hs hd=>exact ⟨a,rfl,⟨ys,hl 0 _ _ (Nat.zero_le _) h0⟩,WF Pv h0 hl (fun j x σ H hj hp=>ZG (hs j x σ H hj hp)) hd⟩
  | _=>exact False.elim q
 | .cut a,s,h=>Zp (Qz (sn1 a s h)) fun D σ H q=>by
  cases q with
  | c R h k=>exact ⟨R,h,k⟩
 | .unp is c,s,h=>by
  obtain ⟨h0,h⟩:=b2 h
  obtain ⟨h,h6⟩:=b2 h
  obtain ⟨h,h5⟩:=b2 h
  obtain ⟨h1,h2,h3⟩:=UO F is _ h
  refine rbS h0 fun p=>Zp (ZL (Zm (snd (sr:=sr) c F.f _ h5)) (ZM (X:=X) F.f.ca h1 h2 h3) (VO h6).1 (VO (n:=0) h6).2 rfl) fun D σ H q=>⟨_,q,fun x H1 q=>?_⟩
  cases x with
  | ref a =>
   cases q with
   | u xs hx k=>exact ⟨a,xs,rfl,hx,Uv k,Jr k⟩
  | _=>exact False.elim q
 | .wh c b,s,h=>by
  obtain ⟨h0,h⟩:=b2 h
  obtain ⟨h1,h2⟩:=b2 h
  refine rbS h0 fun p=>Zp (GJ F.po (JW (snt (sr:=sr) c F.f _ h1)) (snS b _ h2)) fun D σ H q=>?_
  cases q with
  | w J m h0 hs=>exact ⟨J,⟨m,h0⟩,fun m σ H p=>⟨_,hs m σ H p,fun b H1 q=>by
   cases b with
   | true=>exact QH ⟨_,fun σ' H' h=>h,q⟩
   | false=>exact Zj q⟩⟩
 | .forU is c b,s,h=>by
  obtain ⟨h0,h⟩:=b2 h
  obtain ⟨h,h7⟩:=b2 h
  obtain ⟨h1,h⟩:=b2 h
  obtain ⟨h5,h6⟩:=b2 h
  obtain ⟨n1,n2,n3⟩:=UO F is _ h1
  refine rbS h0 fun p=>Zp (Q5 F.po F.f.ca (QJ (Zm (snd (sr:=sr) c F.f _ h5))) (ZM (X:=X) F.f.ca n1 n2 n3) (snS b _ h7) (Z4 h6)) fun D σ H q=>⟨_,q,fun x H1 q=>?_⟩
  cases x with
  | ref a =>
   cases q with
   | f ys Pv h0 hl hs hd=>exact ⟨a,rfl,⟨ys,hl 0 _ _ (Nat.zero_le _) h0⟩,Yb Pv h0 hl (fun j x σ H hj hp=>by
    obtain ⟨b',zs,e,hz,k⟩:=hs j x σ H hj hp
    exact ⟨b',zs,e,hz,Uv k,Jr (k:=fun σ2 H2=>ES (40:) b { D with nx:=Pv (j + 1),ct:=Pv (j + 1),bk:=D.nx } σ2 H2) k⟩) hd⟩
  | _=>exact False.elim q
 | .sx i as,s,h=>by
  have h:(match T.sk[i]? with
   | some sh=>match sh s with
    | some es=>Yr as T es
    | none=>false
   | none=>false)=true:=h
  split at h
  ·rename_i sh hsh
   obtain ⟨r,e1,e2⟩:=F.hx _ _ hsh
   split at h
   ·rename_i es hes
    refine Zp (e2.ok s es _ hes (G4 (sr:=sr) as F.f _ h)) fun D σ H q=>?_
    have q:Es (40:) as σ H fun vs H1=>match sr[i]? with | some r=>r σ vs H1 D.nx | none=>False:=q
    rw [e1] at q
    exact (Jz as).mp q
   ·cases h
  ·cases h
 | .setC i c,s,h=>by
  obtain ⟨h0,h⟩:=b2 h
  obtain ⟨hk,h⟩:=b2 h
  obtain ⟨h,y4⟩:=b2 h
  obtain ⟨h,y3⟩:=b2 h
  obtain ⟨h,h1⟩:=b2 h
  exact rbS h0 fun p=>G8 F hk (b2 h).1 (b2 h).2 h1 y3 y4
theorem snS:∀ (as:List S) (ss:List Stmt),chS T as ss=true→PSs X ss (ES (40:) as)
 | [],[],h=>QB
 | [],_ :: _,h=>nomatch h
 | _ :: _,[],h=>nomatch h
 | a :: r,s :: ss,h=>by
  obtain ⟨h1,h2⟩:=b2 (show (ch1 T a s && chS T r ss)=true from h)
  exact Qf (sn1 a _ h1) (snS r _ h2)
end
end
end G3
namespace L2
open PySem
end L2
namespace L2
open PySem PySem.Spec PyProof.Rows
section
variable {X:Cx}
end
end L2
namespace L2
open PySem PySem.Spec PyProof.Rows
section
variable {X:Cx}
end
section
variable {P:Program} {w:World} {K:PySem.W.Frag} {mg:Str→Option Value} {base:Heap}
theorem LX {x:Str} {f c T:Addr} {oc:Value} {od:Option Addr} {fd:FuncData} {sl:Array (Option Value)} (hn:PySem.W.nsIn K mainGlobals x=some (some (.ref f))) (lk:K.lookup f=some ⟨oc,od,.func fd,sl⟩) (h:PySem.W.tabIn K x=some (c,T)):fd.code=.ref c:=by
 unfold PySem.W.tabIn at h
 rw [hn] at h
 simp only [lk] at h
 split at h
 ·rename_i c2 hc
  split at h
  ·split at h
   ·cases h;exact hc
   ·cases h
  ·cases h
 ·cases h
theorem Fun.okC {x qual:Str} {st:Stmt} {f c T:Addr} {fd:FuncData} {N ps:List Str} {k:Nat} {sp:Sp} (F:Fun K x qual st f fd) (hn:PySem.W.nsIn K mainGlobals x=some (some (.ref f))) (hT:PySem.W.tabIn K x=some (c,T)) (S:FnScope N ps (defScope st)) (len:∀ vs H Q E,sp vs H Q E→vs.length=ps.length)
 (hbody:∀ (A:Around) (outer:List Env) (s:Shared) (H:Hp) (vs:List V) (Q:VK) (E:XK),Room k (A.deeper (envOfC qual (defScope st) s.heap.objs.size f (.ref c)))→sp vs H Q E →
  ∃ t,PSs (Xs CX0 P w K mg base N qual (defScope st) f (.ref c) A outer s H E).nox (defBody st) t∧t { nx:=fun _ H'=>Q .non H',rt:=Q } (Yo N vs) H):FnOk P w K mg base CX0 (k + 1) f fd ps sp:=by
 obtain ⟨oc,od,kV,doc,pm,an,cdv,ct,osl,rfl,lk,hcd⟩:=F.ex
 have e:cdv=.ref c:=LX hn lk hT
 subst e
 refine L9 lk hcd S len fun A outer s H vs Q E hr hsp=>?_
 obtain ⟨t,h,q⟩:=hbody A outer s H vs Q E hr hsp
 exact ⟨t,h.nox,q⟩
end
end L2
namespace L2
open PySem PySem.Spec PyProof.Rows
end L2
namespace L2
open PySem PySem.Spec PyProof.Rows
section
variable {X:Cx} {pins:List (12:)} {σ:St} {H H':Hp} {s s':Shared}
end
section
variable {P:Program} {w:World} {K:PySem.W.Frag} {mg:Str→Option Value} {base:Heap} {N:List Str} {qual:Str} {scope:Scope} {f:Addr} {cd:Value} {A:Around} {outer:List Env} {s:Shared} {H:Hp} {E:XK}
end
end L2
namespace L2
open PySem PySem.Spec PyProof.Rows
section
variable {P:Program} {w:World} {K:PySem.W.Frag} {mg:Str→Option Value} {base:Heap} {N:List Str} {qual:Str} {scope:Scope} {f:Addr} {cd:Value} {A:Around} {outer:List Env} {s:Shared} {H:Hp} {E:XK}
end
end L2
namespace L2
open PySem PySem.Spec PyProof.Rows
section
variable {X:Cx}
end
section
variable {P:Program} {w:World} {K:PySem.W.Frag} {mg:Str→Option Value} {base:Heap} {N:List Str} {qual:Str} {scope:Scope} {f:Addr} {cd:Value} {A:Around} {outer:List Env} {s:Shared} {H:Hp} {E:XK}
end
section
variable {X:Cx} {pins:List (12:)} {σ:St} {H:Hp} {s:Shared} {EE:St→XK} {a:Addr}
end
end L2
namespace G3
open PySem L2
inductive TupOf (K:PySem.W.Frag) (p:Addr) (H:Hp) (Q:VK):Prop where
 | l (ys:List V) (h:SqL K H p ys) (k:∀ l H',Same H H'→SqT K H' l ys→Q (.ref l) H'):TupOf K p H Q
def rTupOf (K:PySem.W.Frag) (vs:List V) (H:Hp) (Q:VK):Prop:=match vs with
 | [.ref p]=>TupOf K p H Q
 | _=>False
section
variable {X:Cx}
theorem call_tupOf:ZC X (.type "tuple") (rTupOf X.K):=by
 intro pins s σ H xs us Q I r h
 unfold rTupOf at h
 split at h
 ·cases h with
  | l ys hy k=>exact QS pins s σ H _ us Q I r ⟨_,ys,rfl,.inl ⟨hy,fun l hl=>k l _ (Qe hl _) (42:)⟩⟩
 ·exact h.elim
theorem CallOk.ty {x:Str} {T:String} {r:List V→Hp→VK→Prop} (hc:ZC X (.type T) r) (hm:X.mg x=none) (hv:bootBuiltins x=some (.type T)) (hn:x ≠ "__name__" := by decide):CallOk X x (fun _ vs H Q=>r vs H Q) :=
 ⟨fun p pos e es t ha hg hd he hp=>QO hc hg hm hv ha hn hd he hp⟩
end
end G3
namespace G3
open PySem L2
section
variable {X:Cx}
end
end G3
namespace G3
open PySem L2
structure Cxt (X:Cx) (P:Program) (w:World) (K:PySem.W.Frag) (mg:Str→Option Value) (base:Heap) (k:Nat):Prop where
 p:X.prog=P
 w:X.w=w
 K:X.K=K
 m:X.mg=mg
 b:X.base=base
 r:Room k X.A
 c:X.calm=true
inductive Calls (X:Cx):List Str→List Rel→Prop where
 | nil:Calls X [] []
 | cons {x:Str} {r:Rel} {xs:List Str} {rs:List Rel}:CallOk X x r→Calls X xs rs→Calls X (x :: xs) (r :: rs)
inductive Meths (X:Cx):List Str→List Mr→Prop where
 | nil:Meths X [] []
 | cons {x:Str} {r:Mr} {xs:List Str} {rs:List Mr}:MethOk X x r→Meths X xs rs→Meths X (x :: xs) (r :: rs)
inductive Nodes (X:Cx):List (Expr→Option (List Expr))→List (51:)→Prop where
 | nil:Nodes X [] []
 | cons {x:Expr→Option (List Expr)} {r:List V→Hp→VK→Prop} {xs:List (Expr→Option (List Expr))} {rs:List (51:)}:NodeOk X x r→Nodes X xs rs→Nodes X (x :: xs) (r :: rs)
theorem Calls.at {X:Cx}:∀ {xs:List Str} {rs:List Rel},Calls X xs rs→∀ (i:Nat) y,xs[i]?=some y→∃ r,rs[i]?=some r∧CallOk X y r
 | _,_,.nil,i,y,e=>by simp at e
 | _,_,.cons h _,0,y,e=>by cases e;exact ⟨_,rfl,h⟩
 | _,_,.cons _ h,i + 1,y,e=>h.at i y e
theorem Meths.at {X:Cx}:∀ {xs:List Str} {rs:List Mr},Meths X xs rs→∀ (i:Nat) y,xs[i]?=some y→∃ r,rs[i]?=some r∧MethOk X y r
 | _,_,.nil,i,y,e=>by simp at e
 | _,_,.cons h _,0,y,e=>by cases e;exact ⟨_,rfl,h⟩
 | _,_,.cons _ h,i + 1,y,e=>h.at i y e
theorem Nodes.at {X:Cx}:∀ {xs:List (Expr→Option (List Expr))} {rs:List (51:)},Nodes X xs rs→∀ (i:Nat) y,xs[i]?=some y→∃ r,rs[i]?=some r∧NodeOk X y r
 | _,_,.nil,i,y,e=>by simp at e
 | _,_,.cons h _,0,y,e=>by cases e;exact ⟨_,rfl,h⟩
 | _,_,.cons _ h,i + 1,y,e=>h.at i y e
section
variable {X:Cx} {P:Program} {w:World} {K:PySem.W.Frag} {mg:Str→Option Value} {base:Heap} {k:Nat}
theorem Cxt.fn (c:Cxt X P w K mg base k) {j:Nat} {x:Str} {ps:List Str} {sp:Sp} (F:Fn P w K mg base j x ps sp) (hk:j≤k:=by decide):CallOk X x (fun _ vs H Q=>sp vs H Q E0):=by
 obtain ⟨rfl,rfl,rfl,rfl,rfl,hr,hcm⟩:=c
 exact .fn F hr hk
theorem Cxt.ty (c:Cxt X P w K mg base k) {x:Str} {T:String} {r:PySem.W.Frag→List V→Hp→VK→Prop} (hc:∀ X:Cx,ZC X (.type T) (r X.K)) (hm:mg x=none) (hv:bootBuiltins x=some (.type T)) (hn:x ≠ "__name__" := by decide):CallOk X x (fun _ vs H Q=>r K vs H Q):=by
 obtain ⟨rfl,rfl,rfl,rfl,rfl,hr,hcm⟩:=c
 exact .ty (hc X) hm hv hn
end
section
variable {X:Cx} {P:Program} {w:World} {K:PySem.W.Frag} {mg:Str→Option Value} {base:Heap} {k:Nat}
end
theorem Fun.okC {P:Program} {w:World} {K:PySem.W.Frag} {mg:Str→Option Value} {base:Heap} {x qual:Str} {st:Stmt} {f:Addr} {fd:FuncData} {N ps fn mt:List Str} {nk:List (Expr→Option (List Expr))} {k:Nat} {sp:Sp} (F:Fun K x qual st f fd) (S:FnScope N ps (defScope st)) (n:En) (c:List G3.S)
 (hcx:∀ X:Cx,Cxt X P w K mg base k→Calls X fn n.fs∧Meths X mt n.ms∧Nodes X nk n.nr)
 (len:∀ vs H Q E,sp vs H Q E→vs.length=ps.length)
 (hb:∀ (H:Hp) (vs:List V) (Q:VK) (E:XK),sp vs H Q E→ES n c { nx:=fun _ H'=>Q .non H',rt:=Q } (Yo N vs) H)
 (hm:mg "range" = none) (hc:chS ⟨N,defScope st,fn,mt,nk,[]⟩ c (defBody st)=true:=by decide +kernel) (hn:n.K=K:=by rfl):FnOk P w K mg base CX0 (k + 1) f fd ps sp:=by
 obtain ⟨K',fs,ms,nr,sr⟩:=n
 have hn:K'=K:=hn
 subst hn
 exact F.ok S len fun cdv A outer s H vs Q E hr h=>⟨_,snS (X:=(Xs CX0 P w K' mg base N qual (defScope st) f cdv A outer s H E).nox) (fs:=fs) (ms:=ms) (nr:=nr) (sr:=sr) ⟨⟨rfl,rfl,fun X f i y e=>(hcx X ⟨f.p,f.w,f.K,f.m,f.b,by rw [f.A];exact hr,f.c⟩).1.at i y e,fun X f i y e=>(hcx X ⟨f.p,f.w,f.K,f.m,f.b,by rw [f.A];exact hr,f.c⟩).2.1.at i y e,fun X f i y e=>(hcx X ⟨f.p,f.w,f.K,f.m,f.b,by rw [f.A];exact hr,f.c⟩).2.2.at i y e,rfl,hm⟩,S.nd,fun _=>rfl,PassesOwn.never,fun i y e=>by simp at e⟩ c _ hc,hb H vs Q E h⟩
end G3
namespace G3
open PySem L2
end G3
namespace K52
open K51
open PySem L2 TM TT ST K9 K11
def nam:Tree Str→Str
 | .node n _ _=>n
def mrk:Tree Str→Int
 | .node _ m _=>m
def NN (m b:Int):Prop:=0≤m∧0≤b
def Rn (ks:List KdT) (ms:List MdT):Prop:=∀ m n r,ZU ks ms m n=some r→TPr NN r∧lv r≤6
def YX (K:PySem.W.Frag) (n:Nat):Sp:=fun vs H Q _=>∃ (tu wd lm bv:Addr) (sv tv:V) (ks:List KdT) (st t:Tm) (ms:List MdT) (mark:Int) (bvs:List V) (bs:List (Tree Str)) (o:Tree Str),vs=[.ref tu,tv,.int mark,.ref bv]∧TurnD K H tu wd lm sv ks st ms∧WoodOk ks∧TmV K H tv t∧SqT K H bv bvs∧TrAll K H bvs bs∧K51.Mk (ZU ks ms) t mark bs o∧TPr NN t∧Rn ks ms∧lv t + 8 * lvs bs≤n ∧
 ∀ (v:V) (H':Hp),Same H H'→TrV K H' v o→Q v H'
def LF (K:PySem.W.Frag) (n:Nat):Sp:=fun vs H Q _=>∃ (tu wd lm:Addr) (sv v:V) (ks:List KdT) (st r:Tm) (ms:List MdT) (m:Int) (T o:Tree Str),vs=[.ref tu,.int m,v]∧TurnD K H tu wd lm sv ks st ms∧WoodOk ks∧TrV K H v T∧0≤m∧ZU ks ms m (nam T)=some r∧K51.Mk (ZU ks ms) r (mrk T) T.bs o∧Rn ks ms∧7 + 8 * lvs T.bs≤n ∧
 ∀ (v:V) (H':Hp),Same H H'→TrV K H' v o→Q v H'
def Pk:List G3.S:=[.ite (.cmp .Eq (.ix (.v 1) (.k (.int 0))) (.k (.str "call"))) [.ret (.call 0 [.v 0,.ix (.v 1) (.k (.int 1)),.ix (.v 3) (.ix (.v 1) (.k (.int 2)))])] [],.set 4 (.ix (.v 1) (.k (.int 3))),.cut (.ite (.ix (.v 1) (.k (.int 2))) [.set 4 (.bin .Add (.v 4) (.v 2))] []),.ret (.tup [.ix (.v 1) (.k (.int 1)),.v 4,.call 1 [.comp 2 (.ix (.v 1) (.k (.int 4))) [3,2,0] (.call 2 [.v 3,.v 0,.v 2,.v 1])]])]
def OS (K:PySem.W.Frag) (n:Nat):G3.En:=⟨K,[fun _ vs H Q=>LF K n vs H Q E0,fun _ vs H Q=>G3.rTupOf K vs H Q,fun _ vs H Q=>YX K n vs H Q E0],[],[],[]⟩
theorem trO {K:PySem.W.Frag} {H:Hp} {v:V} {T:Tree Str} (h:TrV K H v T):∃ a b vs,v=.ref a∧SqT K H a [.str (nam T),.int (mrk T),.ref b]∧SqT K H b vs∧TrAll K H vs T.bs∧vs.length≤1000:=by
 cases h with
 | mk h1 h2 h3 h4=>exact ⟨_,_,_,rfl,h1,h2,h3,h4⟩
section
variable {P:Program} {w:World} {K:PySem.W.Frag} {mg:Str→Option Value} {base:Heap} {f:Addr} {fd:FuncData}
theorem NC:FnScope ["_law_turning_here", "_law_term_here", "_law_mark", "_law_branches", "_law_add"] ["_law_turning_here", "_law_term_here", "_law_mark", "_law_branches"] (defScope VL):=(1:)
theorem Nv {n:Nat} (F:Fun K "_law_put" "_law_put" VL f fd) (G:Gm mg) (RB:Fn P w K mg base (n + 3) "_law_by" ["_law_turning_here", "_law_mode", "_law_tree_here"] (LF K n)) (RP:Fn P w K mg base (n + 3) "_law_put" ["_law_turning_here", "_law_term_here", "_law_mark", "_law_branches"] (YX K n)):FnOk P w K mg base CX0 (n + 4) f fd ["_law_turning_here", "_law_term_here", "_law_mark", "_law_branches"] (YX K (n + 1)):=by
 refine G3.Fun.okC F NC (OS K n) Pk (fun X c=>⟨.cons (c.fn RB (9:)) (.cons (c.ty (fun _=>G3.call_tupOf) G.tup PyProof.Rows.boot_tuple) (.cons (c.fn RP (9:)) .nil)),.nil,.nil⟩) (10:) (fun H vs Q E h=>?_) G.rng
 ·obtain ⟨tu,wd,lm,bv,sv,tv,ks,st,t,ms,mark,bvs,bs,o,rfl,_⟩:=h
  rfl
 obtain ⟨tu,wd,lm,bv,sv,tv,ks,st,t,ms,mark,bvs,bs,o,rfl,hT,hO,htv,hbv,hbs,hM,hN,hR,hn,q⟩:=h
 rcases Zr htv with ⟨ta,m,br,rfl,rfl,h1⟩ | ⟨ta,tb,tbs,tn,tk,tad,rfl,ett,h1,h2,h3,h4⟩
 ·cases hM with
  | @call _ _ _ _ _ _ nm mm cs r _ e1 e2 h3 =>
   simp only [Qt,TPr] at hN
   obtain ⟨cv,hcv,hct⟩:=hbs.get e1
   have hlv:=ZI (List.mem_of_getElem? e1)
   have h4:lv (Tree.node nm mm cs)=1 + lvs cs:=by simp only [lv]
   exact .t _ _ h1 rfl <| .t _ _ h1 rfl <| .t _ _ h1 rfl <| .t _ cv hbv (by rw [← Int.toNat_of_nonneg hN.1.2];exact Qu hcv) ⟨tu,wd,lm,sv,cv,ks,st,r,ms,m,.node nm mm cs,o,rfl,hT,hO,hct,hN.1.1,e2,h3,hR,(by show 7 + 8 * lvs cs≤n;lia),q⟩
 rw [ett] at hM hN hn
 cases hM with
 | @put _ _ _ _ _ _ _ us hul hM =>
  simp only [TPr] at hN
  have hN3:=(Ye NN _).mp hN.2.2
  have hlen:=h3.length
  refine .t _ _ h1 rfl <| .t _ _ h1 rfl <| .c (fun σ' H'=>σ'=[some (.ref tu),some (.ref ta),some (.int mark),some (.ref bv),some (.int (if tk=true then tad + mark else tad))]∧H'=H) ?_ ?_
  ·refine .t _ _ h1 rfl ?_
   cases tk with
   | true=>exact ⟨rfl,rfl⟩
   | false=>exact ⟨rfl,rfl⟩
  rintro σ' H' ⟨rfl,rfl⟩
  refine .t _ _ h1 rfl <| .t _ _ h1 rfl <| .t tbs h2 <| .s (fun i ys H1=>ys.length=i∧TrAll K H1 ys (us.take i)) (fun H1 g=>⟨rfl,.nil⟩) (fun acc i ys l H1 H2 h _ _ _ k=>⟨h.1,h.2.mono k⟩) (7:) (fun i ys H1 hi _ g h=>?_) fun p ys H1 g hp h=>?_
  ·have hc:=List.getElem?_eq_getElem (show i < t.bs.length by lia)
   have ho:=List.getElem?_eq_getElem (show i < us.length by lia)
   obtain ⟨cv,hcv,hct⟩:=h3.get hc
   have ex:(tbs[i]?).getD .non=cv:=by rw [hcv];rfl
   rw [ex]
   have hlv:=ZI (List.mem_of_getElem? hc)
   refine ⟨tu,wd,lm,bv,sv,cv,ks,st,_,ms,mark,bvs,bs,us[i],rfl,hT.same g,hO,hct.mono fun _ _=>g.seqT,g.seqT hbv,hbs.mono fun _ _=>g.seqT,hM i _ _ hc ho,hN3 _ (List.mem_of_getElem? hc),hR,?_,fun v' H4 g4 hv4=>⟨g4,by simp [h.1],?_⟩⟩
   ·simp only [lv] at hn;lia
   rw [List.take_add_one,ho]
   exact TrAll.append (h.2.mono fun _ _=>g4.seqT) (.cons hv4 .nil)
  obtain ⟨hl,hys⟩:=h
  rw [List.take_of_length_le (7:)] at hys
  exact .l ys (SqL.of hp) fun pt H2 g2 d2=>⟨fun pr H3 g3 d3 _=>q _ H3 (g.trans (g2.trans g3)) (.mk d3 (g3.seqT d2) (hys.mono fun _ _=>(g2.trans g3).seqT) (7:))⟩
theorem LW:FnScope ["_law_turning_here", "_law_mode", "_law_tree_here", "_law_kind", "_law_rules", "_law_names_here"] ["_law_turning_here", "_law_mode", "_law_tree_here"] (defScope sBy):=(1:)
theorem N0 {n:Nat} (F:Fun K "_law_by" "_law_by" sBy f fd) (G:Gm mg) (RR:Fn P w K mg base 1 "_law_rows" ["_law_wood_here", "_law_kind"] (Ya K)) (RP:Fn P w K mg base (n + 3) "_law_put" ["_law_turning_here", "_law_term_here", "_law_mark", "_law_branches"] (YX K n)):FnOk P w K mg base CX0 (n + 4) f fd ["_law_turning_here", "_law_mode", "_law_tree_here"] (LF K (n + 1)):=by
 refine F.ok LW (10:) (4:)
 ·obtain ⟨tu,wd,lm,sv,v,ks,st,r,ms,m,T,o,rfl,_⟩:=h
  rfl
 obtain ⟨tu,wd,lm,sv,v,ks,st,r,ms,m,T,o,rfl,hT,hO,hv,hm0,hrl,hM,hR,hn,q⟩:=h
 obtain ⟨a,b,vs,rfl,h1,h2,h3,h4⟩:=trO hv
 obtain ⟨hr1,hr2⟩:=hR _ _ _ hrl
 unfold ZU at hrl
 cases hm:ms[m.toNat]? with
 | none=>rw [hm] at hrl;cases hrl
 | some md =>
 rw [hm] at hrl
 cases hj:(QT ks md.2.1).findIdx? fun r=>decide (r.2.1=nam T) with
 | none=>simp only [Option.bind_some,hj] at hrl;cases hrl
 | some j =>
 simp only [Option.bind_some,hj] at hrl
 obtain ⟨hjl,hj1,hj2⟩:=List.findIdx?_eq_some_iff_getElem.mp hj
 obtain ⟨kd,hkd,ek⟩ : ∃ kd ∈ ks,kd.2.1=md.2.1:=by
  unfold QT at hjl
  cases e:ks.find? fun k=>decide (k.2.1=md.2.1) with
  | none=>rw [e] at hjl;simp at hjl
  | some kd=>exact ⟨kd,List.mem_of_find?_eq_some e,by have:=List.find?_some e;exact of_decide_eq_true this⟩
 have er:=ZP hO.nd hkd
 rw [ek] at er
 refine ⟨_,(Qf (ZL (Qh Qo (3:) (pv 1) (26:)) (ZM rfl (QK (QC (i:=3) LW.nd rfl (13:)) (QK (QC (i:=4) LW.nd rfl (13:)) Zv))))
  (Qf (Zw (i:=5) (27:) rfl (QJ (Qn RR hr (Qa (3:) (Qa (pv 3) Qc)) (7:))) (ZB (27:) rfl) (18:) (fun _ _ _ _=>pv 0) LW.nd rfl rfl)
  (Qj (Qs (Qn RP hr (Qa (pv 0) (Qa (Qh Qo (pv 4) (Z1 PySem.F.plainAttrs_list PySem.F.slot_list_index PySem.F.type_list_index W9 (pv 5) (Qa (Qh Qk (pv 2) Qd (26:)) Qc)) (26:)) (Qa (Qh Qk (pv 2) Qd (26:)) (Qa (Qh Qk (pv 2) Qd (26:)) Qc)))) (9:)))))),?_⟩
 have hmem:=List.mem_of_getElem? hm
 obtain ⟨d1,d2,d3⟩:=hT.m.2 md hmem
 have hatm:atI (23:) m=some (.ref md.1):=by
  rw [← Int.toNat_of_nonneg hm0]
  exact Qu (by rw [List.getElem?_map,hm];rfl)
 refine ⟨_,rfl,tu,_,2,_,rfl,rfl,hT.tu,rfl,_,rfl,lm,_,_,_,rfl,rfl,hT.m.1,hatm,md.1,_,rfl,d1,rfl,_,_,rfl,_,_,rfl,rfl,?_⟩
 obtain ⟨w1,w2⟩:=hT.w.2 kd hkd
 refine ⟨_,rfl,tu,_,0,_,rfl,rfl,hT.tu,rfl,_,rfl,wd,ks,kd,by rw [ek];rfl,hT.w,hO.nd,hkd,kd.2.2.1,rfl,⟨_,w2.1⟩,fun acc hacc=>?_⟩
 have ro:=hO.rows kd hkd
 refine Zc (K:=K) (xs:=kd.2.2.2.map fun t=>V.ref t.1) (cs:=[]) (tt:=fun _ H Q=>Q true H) (te:=Q6 0) (fun i ys H'=>ys=((kd.2.2.2.map fun r=>r.2.1).take i).map V.str∧H' acc=some (.lst ys)∧Same H H') ⟨rfl,Qb,Qe hacc _⟩ ?_ ?_ ?_
 ·rintro i ys H' _ ⟨_,_,g⟩
  exact g.seq w2.1
 ·rintro i x ys H' hi hx ⟨rfl,hyb,g⟩
  have hjk:i < kd.2.2.2.length:=by simpa using hi
  obtain rfl:x=.ref kd.2.2.2[i].1:=by
   rw [List.getElem?_map,List.getElem?_eq_getElem hjk] at hx
   exact (54:).symm
  obtain ⟨r1,r2⟩:=(w2.2 _ (List.getElem_mem hjk)).same g
  have:=ro.len
  refine ⟨kd.2.2.2[i].1,_,_,rfl,r1,QH ⟨_,rfl,?_⟩⟩
  refine Qp hi hyb (by rw [List.length_map,List.length_take,List.length_map];lia) ⟨?_,Qb,fun b u e=>by rw [Qi (Qg e hacc)];exact g _ _ e⟩
  rw [List.take_add_one,List.getElem?_map,List.getElem?_eq_getElem hjk,List.map_append];rfl
 rintro ys H2 ⟨rfl,hacc2,g2⟩
 have etk:(kd.2.2.2.map fun r=>r.2.1).take (kd.2.2.2.map fun t=>V.ref t.1).length=kd.2.2.2.map fun r=>r.2.1:=List.take_of_length_le (by rw [List.length_map,List.length_map];exact Nat.le_refl _)
 rw [etk] at hacc2
 have hT2:=hT.same g2
 have h1':=g2.seqT h1
 have hj3:(kd.2.2.2.map fun r=>r.2.1)[j]?=some (nam T):=by
  rw [← er,List.getElem?_map,List.getElem?_eq_getElem hjl]
  exact congrArg some (of_decide_eq_true hj1)
 have hj4:∀ i,i < j→(kd.2.2.2.map fun r=>r.2.1)[i]?≠some (nam T):=fun i hi e=>by
  have h5:=hj2 i hi
  rw [← er,List.getElem?_map,List.getElem?_eq_getElem (show i < (QT ks md.2.1).length by lia)] at e
  exact h5 (decide_eq_true (Option.some.inj e))
 obtain ⟨rv,hrv,hrt⟩:=d3.get hrl
 have:=ro.len
 refine ⟨_,rfl,_,rfl,_,rfl,.inl ⟨rfl,_,SqL.of hacc2⟩,_,rfl,a,_,0,_,rfl,rfl,h1',rfl,acc,_,_,j,rfl,rfl,hacc2,by rw [List.length_map];lia,hj3,hj4,md.2.2.1,_,_,rv,rfl,rfl,g2.seq d2,Qu hrv,_,rfl,a,_,1,_,rfl,rfl,h1',rfl,_,rfl,a,_,2,_,rfl,rfl,h1',rfl,?_⟩
 exact ⟨tu,wd,lm,b,sv,rv,ks,st,r,ms,mrk T,vs,T.bs,o,rfl,hT2,hO,hrt.mono fun _ _=>g2.seqT,g2.seqT h2,h3.mono fun _ _=>g2.seqT,hM,hr1,hR,by lia,fun v' H' g hv'=>q v' H' (g2.trans g) hv'⟩
theorem Wq {fP fB:Addr} {fdP fdB:FuncData} (FP:Fun K "_law_put" "_law_put" VL fP fdP) (FB:Fun K "_law_by" "_law_by" sBy fB fdB) (G:Gm mg) (RR:Fn P w K mg base 1 "_law_rows" ["_law_wood_here", "_law_kind"] (Ya K)) (bP:Binds K fdP ["_law_turning_here", "_law_term_here", "_law_mark", "_law_branches"] []) (bB:Binds K fdB ["_law_turning_here", "_law_mode", "_law_tree_here"] []) (hP:mg "_law_put" = some (.ref fP)) (hB:mg "_law_by" = some (.ref fB)):∀ n:Nat,FnOk P w K mg base CX0 (n + 3) fP fdP ["_law_turning_here", "_law_term_here", "_law_mark", "_law_branches"] (YX K n)∧FnOk P w K mg base CX0 (n + 3) fB fdB ["_law_turning_here", "_law_mode", "_law_tree_here"] (LF K n)
 | 0=>⟨⟨fun vs H Q E h=>by obtain ⟨tu,wd,lm,bv,sv,tv,ks,st,t,ms,mark,bvs,bs,o,rfl,_⟩:=h;rfl,fun A outer s H args us vs Q E _ _ _ _ h=>by obtain ⟨tu,wd,lm,bv,sv,tv,ks,st,t,ms,mark,bvs,bs,o,_,_,_,_,_,_,_,_,_,h,_⟩:=h;rw [Zg] at h;lia⟩,⟨fun vs H Q E h=>by obtain ⟨tu,wd,lm,sv,v,ks,st,r,ms,m,T,o,rfl,_⟩:=h;rfl,fun A outer s H args us vs Q E _ _ _ _ h=>by obtain ⟨tu,wd,lm,sv,v,ks,st,r,ms,m,T,o,_,_,_,_,_,_,_,_,h,_⟩:=h;lia⟩⟩
 | n + 1=>by
  obtain ⟨h1,h2⟩:=Wq FP FB G RR bP bB hP hB n
  exact ⟨Nv FP G ⟨fB,fdB,h2,bB,FB.kp,hB⟩ ⟨fP,fdP,h1,bP,FP.kp,hP⟩,N0 FB G RR ⟨fP,fdP,h1,bP,FP.kp,hP⟩⟩
def VV (K:PySem.W.Frag):Sp:=fun vs H Q _=>∃ (tu wd lm:Addr) (sv v:V) (ks:List KdT) (st:Tm) (ms:List MdT) (T o:Tree Str),vs=[.ref tu,v]∧TurnD K H tu wd lm sv ks st ms∧WoodOk ks∧TrV K H v T∧lv T≤4∧lv st≤6∧TPr NN st∧K51.Mk (ZU ks ms) st 0 [T] o∧Rn ks ms ∧
 ∀ (v:V) (H':Hp),Same H H'→TrV K H' v o→Q v H'
def Pu:List G3.S:=[.ret (.call 0 [.v 0,.ix (.v 0) (.k (.int 1)),.k (.int 0),.tup [.v 1]])]
def Pf (K:PySem.W.Frag):G3.En:=⟨K,[fun _ vs H Q=>YX K 38 vs H Q E0],[],[],[]⟩
theorem Ov:FnScope ["_law_turning_here", "_law_tree_here"] ["_law_turning_here", "_law_tree_here"] (defScope MI):=(1:)
theorem Mw (F:Fun K "_law_outcome" "_law_outcome" MI f fd) (G:Gm mg) (RP:Fn P w K mg base 41 "_law_put" ["_law_turning_here", "_law_term_here", "_law_mark", "_law_branches"] (YX K 38)):FnOk P w K mg base CX0 42 f fd ["_law_turning_here", "_law_tree_here"] (VV K):=by
 refine G3.Fun.okC F Ov (Pf K) Pu (fun X c=>⟨.cons (c.fn RP (9:)) .nil,.nil,.nil⟩) (10:) (fun H vs Q E h=>?_) G.rng
 ·obtain ⟨tu,wd,lm,sv,v,ks,st,ms,T,o,rfl,_⟩:=h
  rfl
 obtain ⟨tu,wd,lm,sv,v,ks,st,ms,T,o,rfl,hT,hO,hv,hl,hs,hN,hM,hR,q⟩:=h
 refine .t _ _ hT.tu rfl ⟨fun p H1 g d _=>⟨tu,wd,lm,p,sv,sv,ks,st,st,ms,0,[v],[T],o,rfl,hT.same g,hO,hT.s.mono fun _ _=>g.seqT,d,.cons (hv.mono fun _ _=>g.seqT) .nil,hM,hN,hR,?_,fun v' H' g' hv'=>q v' H' (g.trans g') hv'⟩⟩
 simp only [lvs];lia
end
end K52
namespace K52
open K51
open PySem L2 TM TT ST K9 K11
def X5 (K:PySem.W.Frag):Sp:=fun vs H Q _=>∃ (a:Addr) (ns:List Int),vs=[.ref a]∧SqL K H a (ns.map V.int)∧ns.length≤63∧∀ H',Q (.bl true) H'
structure T2 (ks:List KdT) (st:Tm) (ms:List MdT):Prop where
 pos:0 < ms.length
 three:ms.length≤3
 s:TPr (fun _ _=>True) st∧lv st≤6
 md:∀ m ∈ ms,∃ kd ∈ ks,kd.2.1=m.2.1∧m.2.2.2.2.length=kd.2.2.2.length∧∀ t ∈ m.2.2.2.2,TPr (fun _ _=>True) t∧lv t≤4
theorem T51.t2 {ks:List KdT} {st:Tm} {ms:List MdT} (h:T51 ks st ms) (hW:WD ks):T2 ks st ms:=⟨h.pos,h.three,⟨(h.s hW).mono fun _ _ _=>trivial,by have:=h.sl.1;lia⟩,fun m hm=>by
 obtain ⟨kd,a,b,c,d⟩:=h.md m hm
 exact ⟨kd,a,b,c,fun t ht=>⟨(d t ht).1.mono fun _ _ _=>trivial,(d t ht).2⟩⟩⟩
theorem Ol {ks:List KdT} {st1 st2:Tm} {ms1 ms2:List MdT} {ts:List (36:)} (hW:WD ks) (o:OneT ks st1 ms1) (l:ts.length=ms1.length) (t:TsOk ts) (h2:T2 ks st2 ms2):PQ (fun k=>min 10 (QT ks k).length) st1 ms1 ts st2 ms2:=by
 have f:=o.few
 have g:=h2.three
 have nrk:∀ kd ∈ ks,min 10 (QT ks kd.2.1).length=kd.2.2.2.length:=fun kd hkd=>by
  have e:QT ks kd.2.1=kd.2.2.2:=by
   unfold QT
   have e2:ks.find? (fun k=>decide (k.2.1=kd.2.1))=some kd:=by
    cases e3:ks.find? (fun k=>decide (k.2.1=kd.2.1)) with
    | none=>exact absurd (List.find?_eq_none.mp e3 kd hkd) (by simp)
    | some k2 =>
     have h5:=List.mem_of_find?_eq_some e3
     have h6:=List.find?_some e3
     rw [ZS hW.ok.nd h5 hkd (of_decide_eq_true h6)]
   rw [e2];rfl
  have:=(hW.rws kd hkd).2
  rw [e];exact Nat.min_eq_right (7:)
 refine ⟨l,t,by lia,by lia,fun k=>Nat.min_le_left _ _,⟨o.s1.1,by have:=o.s1.2;lia⟩,fun m hm=>?_,h2.s,fun m hm=>?_⟩
 ·obtain ⟨kd,hkd,e1,e2,e3⟩:=o.r1 m hm
  exact ⟨by rw [e2,← e1];exact (nrk kd hkd).symm,e3⟩
 ·obtain ⟨kd,hkd,e1,e2,e3⟩:=h2.md m hm
  exact ⟨by rw [e2,← e1];exact (nrk kd hkd).symm,e3⟩
def Ym (ks:List KdT):PyData:=.list ((ks.map Js).map Yk)
theorem Wk {K:PySem.W.Frag} {H:Hp} {tu wd lm:Addr} {sv:V} {ks:List KdT} {st:Tm} {ms:List MdT} (h:TurnD K H tu wd lm sv ks st ms):TuAt K H tu wd sv lm st ms (Ym ks):=⟨h.tu,h.s,h.m,.lst h.w.1 (J8 h.w.2)⟩
theorem YM {ms ms':List MdT} (e:ms'.map MdT.md=ms.map MdT.md) {i:Nat} {m':MdT} (h:ms'[i]?=some m'):∃ m,ms[i]?=some m∧m.2.1=m'.2.1∧m.2.2.2.2=m'.2.2.2.2:=by
 have e1:=congrArg (fun l=>l[i]?) e
 simp only [List.getElem?_map,h,Option.map_some] at e1
 cases em:ms[i]? with
 | none=>rw [em] at e1;cases e1
 | some m =>
  rw [em] at e1
  have e2:m'.md=m.md:=Option.some.inj e1
  have f1:=congrArg Prod.fst e2
  have f2:=congrArg Prod.snd e2
  exact ⟨m,rfl,f1.symm,f2.symm⟩
theorem JL {ms ms':List MdT} (e:ms'.map MdT.md=ms.map MdT.md) (j:Nat):QD ms' j=QD ms j:=by
 funext m
 unfold QD
 cases em:ms'[m.toNat]? with
 | none =>
  have hl:=congrArg List.length e
  rw [List.length_map,List.length_map] at hl
  have:ms[m.toNat]?=none:=List.getElem?_eq_none (by have:=List.getElem?_eq_none_iff.mp em;lia)
  rw [this]
 | some m' =>
  obtain ⟨m0,e1,_,e3⟩:=YM e em
  rw [e1]
  show (m'.2.2.2.2[j]?).getD _=(m0.2.2.2.2[j]?).getD _
  rw [e3]
theorem Y2 {st1 st2:Tm} {ms1 ms1' ms2 ms2':List MdT} {ts:List (36:)} (e1:ms1'.map MdT.md=ms1.map MdT.md) (e2:ms2'.map MdT.md=ms2.map MdT.md) (h:Paper st1 ms1 ts st2 ms2):Paper st1 ms1' ts st2 ms2':=by
 have em:mks (mds ms2')=mks (mds ms2):=by show (ms2'.map MdT.md).map _=(ms2.map MdT.md).map _;rw [e2]
 refine ⟨fun k md t a b=>?_,h.hs,fun k md t a b r hr=>?_,h.es,fun k md t a b j r hj=>?_⟩
 ·obtain ⟨m,c1,c2,c3⟩:=YM e1 a
  rw [em,← c2];exact h.fit k m t c1 b
 ·obtain ⟨m,c1,c2,c3⟩:=YM e1 a
  exact h.hr k m t c1 b r (by rw [c3];exact hr)
 ·obtain ⟨m,c1,c2,c3⟩:=YM e1 a
  have:=h.er k m t c1 b j r (by rw [c3];exact hj)
  unfold rin at this ⊢
  rw [JL e2];exact this
theorem PQ.congr {nr:Str→Nat} {st1 st2:Tm} {ms1 ms1' ms2 ms2':List MdT} {ts:List (36:)} (e1:ms1'.map MdT.md=ms1.map MdT.md) (e2:ms2'.map MdT.md=ms2.map MdT.md) (h:PQ nr st1 ms1 ts st2 ms2):PQ nr st1 ms1' ts st2 ms2':=by
 have l1:ms1'.length=ms1.length:=by have:=congrArg List.length e1;rw [List.length_map,List.length_map] at this;exact this
 have l2:ms2'.length=ms2.length:=by have:=congrArg List.length e2;rw [List.length_map,List.length_map] at this;exact this
 refine ⟨by rw [l1];exact h.l,h.t,by rw [l1];exact h.few1,by rw [l2];exact h.few2,h.ten,by rw [l1];exact h.s1,fun m hm=>?_,h.s2,fun m hm=>?_⟩
 ·obtain ⟨i,hi⟩:=List.mem_iff_getElem?.mp hm
  obtain ⟨m0,c1,c2,c3⟩:=YM e1 hi
  rw [l1,← c2,← c3];exact h.r1 m0 (List.mem_of_getElem? c1)
 ·obtain ⟨i,hi⟩:=List.mem_iff_getElem?.mp hm
  obtain ⟨m0,c1,c2,c3⟩:=YM e2 hi
  rw [← c2,← c3];exact h.r2 m0 (List.mem_of_getElem? c1)
theorem We {ms ms1:List MdT} {mo j:Nat} {t:Tm} (h:Lv ms ms1 mo j t) {m1:MdT} (hm:m1 ∈ ms1):∃ m ∈ ms,m1.2.1=m.2.1∧m1.2.2.2.2.length=m.2.2.2.2.length∧∀ u ∈ m1.2.2.2.2,u=t∨u ∈ m.2.2.2.2:=by
 obtain ⟨i,hi⟩:=List.mem_iff_getElem?.mp hm
 obtain ⟨m,e1,e2,e3⟩:=h.2 i m1 hi
 refine ⟨m,List.mem_of_getElem? e1,e2,?_⟩
 rcases e3 with e3 | ⟨_,e3⟩
 ·rw [e3];exact ⟨rfl,fun u hu=>.inr hu⟩
 ·rw [e3]
  refine ⟨List.length_set ..,fun u hu=>?_⟩
  rcases List.mem_or_eq_of_mem_set hu with z | z
  ·exact .inr z
  ·exact .inl z
theorem L0 {ks:List KdT} {st1:Tm} {ms ms1:List MdT} {mo j:Nat} {t:Tm} (o:OneT ks st1 ms) (ht:TPr (Pn ms.length) t∧lv t≤6) (h:Lv ms ms1 mo j t):OneT ks st1 ms1:=by
 have hl:=h.1
 refine ⟨by rw [hl];exact o.few,by rw [hl];exact o.pos,by rw [hl];exact o.s1,fun m1 hm=>?_⟩
 obtain ⟨m,e1,e2,e3,e4⟩:=We h hm
 obtain ⟨kd,a,b,c,d⟩:=o.r1 m e1
 refine ⟨kd,a,by rw [e2];exact b,by rw [e3];exact c,fun u hu=>?_⟩
 rw [hl]
 rcases e4 u hu with z | z
 ·rw [z];exact ht
 ·exact d u z
theorem ML {ks:List KdT} {st2:Tm} {ms ms1:List MdT} {mo j:Nat} {t:Tm} (o:T2 ks st2 ms) (ht:TPr (fun _ _=>True) t∧lv t≤4) (h:Lv ms ms1 mo j t):T2 ks st2 ms1:=by
 have hl:=h.1
 refine ⟨by rw [hl];exact o.pos,by rw [hl];exact o.three,o.s,fun m1 hm=>?_⟩
 obtain ⟨m,e1,e2,e3,e4⟩:=We h hm
 obtain ⟨kd,a,b,c,d⟩:=o.md m e1
 refine ⟨kd,a,by rw [e2];exact b,by rw [e3];exact c,fun u hu=>?_⟩
 rcases e4 u hu with z | z
 ·rw [z];exact ht
 ·exact d u z
theorem Fc.nn {kn bs:List Str} {a b:Int} (h:Fc kn bs a b):NN a b:=by
 obtain ⟨k,j,z,rfl,rfl,_⟩:=h
 exact ⟨by lia,by lia⟩
theorem NK {ks:List KdT} {st:Tm} {ms:List MdT} (hF:Fits ks st ms) (hl:∀ m ∈ ms,∀ t ∈ m.2.2.2.2,lv t≤6):Rn ks ms:=fun m n r hr=>by
 unfold ZU at hr
 cases hm:ms[m.toNat]? with
 | none=>rw [hm] at hr;cases hr
 | some md =>
  rw [hm] at hr
  cases hj:(QT ks md.2.1).findIdx? fun r=>decide (r.2.1=n) with
  | none=>simp only [Option.bind_some,hj] at hr;cases hr
  | some j =>
   simp only [Option.bind_some,hj] at hr
   have hmm:=List.mem_of_getElem? hm
   obtain ⟨hjl,_,_⟩:=List.findIdx?_eq_some_iff_getElem.mp hj
   exact ⟨((hF.m md hmm).r j _ r (List.getElem?_eq_getElem hjl) hr).mono fun a b k=>k.nn,hl md hmm r (List.mem_of_getElem? hr)⟩
mutual
theorem GZ {N:Nat}:∀ {t:Tree Str},NmT N t→(td t).canLay0=true∧(td t).depth≤2 * lv t
 | .node n m bs,h=>by
  simp only [NmT] at h
  obtain ⟨h1,h2⟩:=X7 h.2.2
  constructor
  ·simp only [td,PyData.canLay0,PyData.canLayAll0,h.1,h1,Bool.and_self]
  ·simp only [td,PyData.depth,PyData.depthAll,lv];lia
theorem X7 {N:Nat}:∀ {bs:List (Tree Str)},XT N bs→PyData.canLayAll0 (tds bs)=true∧PyData.depthAll (tds bs)≤2 * lvs bs
 | [],_=>by simp [tds,PyData.canLayAll0,PyData.depthAll]
 | b :: r,h=>by
  simp only [XT] at h
  obtain ⟨h1,h2⟩:=GZ h.1
  obtain ⟨h3,h4⟩:=X7 h.2
  constructor
  ·simp only [tds,PyData.canLayAll0,h1,h3,Bool.and_self]
  ·simp only [tds,PyData.depthAll,lvs];lia
end
theorem Nd {X:Cx}:OpR X (compareOp .Is) (fun x y H Q=>∃ b c:Bool,x=.bl b∧y=.bl c∧Q (.bl (b == c)) H):=by
 intro pins s σ H x y v u Q I rx ry h
 obtain ⟨b,c,rfl,rfl,q⟩:=h
 cases rx
 cases ry
 refine wpAny_is_plain rfl (QG I q ?_)
 cases b <;> cases c <;> rfl
theorem VU {ks:List KdT} {st:Tm} {ms:List MdT} (hW:WD ks) (hF:Fits ks st ms) (hl:∀ m ∈ ms,∀ t ∈ m.2.2.2.2,lv t≤6) (hs:lv st≤6) {k0:KdT} (hk:ks[0]?=some k0) {T:Tree Str} (hT:OfK (QT ks) T k0.2.1) (hT4:lv T≤4):TPr NN st∧Rn ks ms∧∃ o,K51.Mk (ZU ks ms) st 0 [T] o∧(td o).canLay0=true∧(td o).depth≤60:=by
 have hR:=NK hF hl
 have hN:TPr NN st:=(hF.s k0 hk).mono fun a b k=>k.nn
 obtain ⟨o,ho⟩:=Vt hW hF hk hT
 obtain ⟨h1,h2⟩:=OA hR ho hN
 obtain ⟨h3,h4⟩:=GZ h1
 refine ⟨hN,hR,o,ho,h3,?_⟩
 simp only [lvs] at h2
 lia
structure S52 (K:PySem.W.Frag) (H:Hp) (a wd lt d:Addr) (ns:List Int) (ks:List KdT) (xs:List Int) (way:Int) (t1 lm1:Addr) (s1:V) (st1:Tm) (ms1:List MdT) (us:List V) (ts:List (36:)) (t2 lm2:Addr) (s2:V) (st2:Tm) (ms2:List MdT):Prop where
 fS:SqL K H a (ns.map V.int)
 fd:SqL K H d (xs.map V.int)
 fT1:TurnD K H t1 wd lm1 s1 ks st1 ms1
 fo:OneT ks st1 ms1
 f1:Fits ks st1 ms1
 flt:H lt=some (.lst us)
 fus:OAll K H us ts
 fok:TsOk ts
 fl:ts.length=ms1.length
 fT2:TurnD K H t2 wd lm2 s2 ks st2 ms2
 ft2:T2 ks st2 ms2
 f2:Fits ks st2 ms2
 pap:3 < way→Paper st1 ms1 ts st2 ms2
 safe:1 < way→∃ HH:Hp,HH lt=none∧Same HH H∧TurnD K HH t1 wd lm1 s1 ks st1 ms1∧TurnD K HH t2 wd lm2 s2 ks st2 ms2∧SqL K HH a (ns.map V.int)∧SqL K HH d (xs.map V.int)
section
variable {K:PySem.W.Frag} {H H':Hp} {a wd lt d:Addr} {ns:List Int} {ks:List KdT} {xs:List Int} {way:Int} {t1 lm1:Addr} {s1:V} {st1:Tm} {ms1:List MdT} {us:List V} {ts:List (36:)} {t2 lm2:Addr} {s2:V} {st2:Tm} {ms2:List MdT}
theorem S52.same (g:Same H H') (h:S52 K H a wd lt d ns ks xs way t1 lm1 s1 st1 ms1 us ts t2 lm2 s2 st2 ms2):S52 K H' a wd lt d ns ks xs way t1 lm1 s1 st1 ms1 us ts t2 lm2 s2 st2 ms2 :=
 ⟨g.seq h.fS,g.seq h.fd,h.fT1.same g,h.fo,h.f1,g _ _ h.flt,h.fus.mono fun _ _=>g.seqT,h.fok,h.fl,h.fT2.same g,h.ft2,h.f2,h.pap,fun z=>by
  obtain ⟨HH,h1,h2,h3⟩:=h.safe z
  exact ⟨HH,h1,h2.trans g,h3⟩⟩
theorem S52.set {mo:Nat} {v:V} {o:Option Tm} (h:S52 K H a wd lt d ns ks xs way t1 lm1 s1 st1 ms1 us ts t2 lm2 s2 st2 ms2) (w1:1 < way) (w3:way≤3) (hv:TmO K H v o) (ho:∀ t,o=some t→J3 t) :
 S52 K (upd H lt (.lst (us.set mo v))) a wd lt d ns ks xs way t1 lm1 s1 st1 ms1 (us.set mo v) (ts.set mo o) t2 lm2 s2 st2 ms2:=by
 obtain ⟨HH,h0,g,q1,q2,q3,q4⟩:=h.safe w1
 have kT:∀ a xs,SqT K H a xs→SqT K (upd H lt (.lst (us.set mo v))) a xs:=fun _ _ k=>k.put h.flt
 have g':Same HH (upd H lt (.lst (us.set mo v))):=fun b u e=>by rw [Qi (Qg e h0)];exact g b u e
 refine ⟨g'.seq q3,g'.seq q4,q1.same g',h.fo,h.f1,Qb,OAll.set (TmO.mono kT hv) mo (h.fus.mono kT),⟨by rw [List.length_set];exact h.fok.few,fun t ht=>?_⟩,by rw [List.length_set];exact h.fl,q2.same g',h.ft2,h.f2,fun z=>by lia,fun _=>⟨HH,h0,g',q1,q2,q3,q4⟩⟩
 rcases List.mem_or_eq_of_mem_set ht with z | z
 ·exact h.fok.tm t z
 ·exact ho t z.symm
end
inductive St52 (K:PySem.W.Frag) (a wd d lt:Addr) (ns:List Int) (ks:List KdT) (xs:List Int) (way:Int):L2.St→Hp→Prop where
 | mk (t1 lm1:Addr) (s1:V) (st1:Tm) (ms1:List MdT) (us:List V) (ts:List (36:)) (t2 lm2:Addr) (s2:V) (st2:Tm) (ms2:List MdT) (c7 c8:Option V) {H':Hp} (hs:S52 K H' a wd lt d ns ks xs way t1 lm1 s1 st1 ms1 us ts t2 lm2 s2 st2 ms2) :
  St52 K a wd d lt ns ks xs way [some (.ref a),some (.ref wd),some (.ref t2),some (.ref d),some (.ref t1),some (.ref lt),some (.int way),c7,c8,none,none] H'
theorem St52.all {K:PySem.W.Frag} {a wd d lt:Addr} {ns:List Int} {ks:List KdT} {xs:List Int} {way:Int} {G:L2.St→Hp→Prop} (k:∀ (H':Hp) (t1 lm1:Addr) (s1:V) (st1:Tm) (ms1:List MdT) (us:List V) (ts:List (36:)) (t2 lm2:Addr) (s2:V) (st2:Tm) (ms2:List MdT) (c7 c8:Option V),S52 K H' a wd lt d ns ks xs way t1 lm1 s1 st1 ms1 us ts t2 lm2 s2 st2 ms2→G [some (.ref a),some (.ref wd),some (.ref t2),some (.ref d),some (.ref t1),some (.ref lt),some (.int way),c7,c8,none,none] H'):∀ σ H',St52 K a wd d lt ns ks xs way σ H'→G σ H':=by
 intro σ H' h
 cases h with
 | mk t1 lm1 s1 st1 ms1 us ts t2 lm2 s2 st2 ms2 c7 c8 hs=>exact k _ _ _ _ _ _ _ _ _ _ _ _ _ _ _ hs
end K52
namespace K52
open K51
open PySem L2 TM TT ST K9 K11
section
variable {P:Program} {w:World} {K:PySem.W.Frag} {mg:Str→Option Value} {base:Heap} {f:Addr} {fd:FuncData}
theorem ZD:FnScope ["_law_script", "_law_wood_here", "_law_other", "_law_xs", "_law_one", "_law_terms", "_law_way", "_law_mode", "_law_row", "_law_tree_here", "_law_found"] ["_law_script"] (defScope XS):=(1:)
theorem Mp (F:Fun K "law" "law" XS f fd) (G:Gm mg) (RC:Fn P w K mg base 1 "_law_cell_at" ["_law_script", "_law_k"] (YO K)) (RS:Fn P w K mg base 1 "_law_stream" ["_law_cell", "_law_count"] ZV) (RW:Fn P w K mg base 2 "_law_wood" ["_law_script"] (XX K)) (RTu:Fn P w K mg base 5 "_law_turning" ["_law_script", "_law_wood_here"] (Xz K)) (RWP:Fn P w K mg base 11 "_law_with_paper" ["_law_turning_here", "_law_x"] (Gy K))
 (RM:Fn P w K mg base 5 "_law_some_rule" ["_law_script", "_law_turning_here", "_law_mode", "_law_row"] (X4 K)) (RO:Fn P w K mg base 1 "_law_other_rule" ["_law_turning_here", "_law_mode", "_law_row", "_law_rule"] (X2 K)) (RT:Fn P w K mg base 5 "_law_tree" ["_law_wood_here", "_law_kind", "_law_cells", "_law_deep"] (UH K 4)) (RA:Fn P w K mg base 1 "_law_again" ["_law_turning_here"] (Jt K)) (RU:Fn P w K mg base 42 "_law_outcome" ["_law_turning_here", "_law_tree_here"] (VV K)) (RI:Fn P w K mg base 13 "is_paper" ["one", "terms", "other"] (GP K)):FnOk P w K mg base CX0 43 f fd ["_law_script"] (X5 K):=by
 refine F.ok ZD (10:) (4:)
 ·obtain ⟨a,ns,rfl,_⟩:=h
  rfl
 obtain ⟨a,ns,rfl,hS,h63,q⟩:=h
 refine ⟨_,(Qf (Qz (Qr (i:=1) ZD.nd rfl (13:) (Qn RW hr (Qa (pv 0) Qc))))
  (Qf (Qz (Qr (i:=2) ZD.nd rfl (13:) (Qn RTu hr (Qa (pv 0) (47:)))))
  (Qf (Qz (Qr (i:=3) ZD.nd rfl (13:) (Qn RS hr (31:))))
  (Qf (Qz (ZL (Qn RWP hr (Qa (pv 2) (Qa (Ql QR (Qh Qo (pv 3) Qd (26:)) (Ql Qv (Qn RC hr (Qa (pv 0) (Qa (Qd) Qc))) Qd)) Qc))) (ZM rfl (QK (QC (i:=4) ZD.nd rfl (13:)) (QK (QC (i:=5) ZD.nd rfl (13:)) Zv)))))
  (Qf (Qz (Qr (i:=6) ZD.nd rfl (13:) (Ql Qv (Qn RC hr (Qa (pv 0) (Qa (Qd) Qc))) Qd)))
  (Qf (Qz (QN (Qx Q2 (pv 6) Qd (QA _)) (Qf (Qz (Qr (i:=7) ZD.nd rfl (13:) (Ql Qv (Qh Qo (pv 3) Qd (26:)) (Qq Qm rfl G.len PySem.boot_len (Qa (Qh Qk (pv 4) Qd (26:)) Qc)))))
  (Qf (Qz (Qr (i:=8) ZD.nd rfl (13:) (Ql Qv (Qh Qo (pv 3) Qd (26:)) (Qq Qm rfl G.len PySem.boot_len (Qa (Qh Qk (Qh Qo (Qh Qk (pv 4) Qd (26:)) (pv 7) (26:)) Qd (26:)) Qc)))))
  (Qj (Qr (i:=4) ZD.nd rfl (13:) (Qn RO hr (Qa (pv 4) (Qa (pv 7) (Qa (pv 8) (Qa (Qn RM hr (Qa (pv 0) (Qa (pv 4) (Qa (pv 7) (Qa (pv 8) Qc))))) Qc))))))))) QB))
  (Qf (Qz (QN (Qx Q2 (pv 6) Qd (QA _)) (Qf (Qz (Qr (i:=7) ZD.nd rfl (13:) (Ql Qv (Qh Qo (pv 3) Qd (26:)) (Qq Qm rfl G.len PySem.boot_len (Qa (Qh Qk (pv 2) Qd (26:)) Qc)))))
  (Qf (Qz (Qr (i:=8) ZD.nd rfl (13:) (Ql Qv (Qh Qo (pv 3) Qd (26:)) (Qq Qm rfl G.len PySem.boot_len (Qa (Qh Qk (Qh Qo (Qh Qk (pv 2) Qd (26:)) (pv 7) (26:)) Qd (26:)) Qc)))))
  (Qj (Qr (i:=2) ZD.nd rfl (13:) (Qn RO hr (Qa (pv 2) (Qa (pv 7) (Qa (pv 8) (Qa (Qn RM hr (Qa (pv 0) (Qa (pv 2) (Qa (pv 7) (Qa (pv 8) Qc))))) Qc))))))))) QB))
  (Qf (Qz (QN (Qx Q2 (pv 6) Qd (QA _)) (Qj (ZL (Qy (Qa (QX) (Qa (Ql Qv (Qh Qo (pv 3) Qd (26:)) (Qq Qm rfl G.len PySem.boot_len (Qa (Qh Qk (pv 2) Qd (26:)) Qc))) (Qa (Qd) Qc)))) (Jy (pv 5) (Ql Qv (Qh Qo (pv 3) Qd (26:)) (Qq Qm rfl G.len PySem.boot_len (Qa (pv 5) Qc))) YH))) QB))
  (Qf (Qz (QN (Qx Q2 (pv 6) Qd (QA _)) (Qj (ZL YW (Jy (pv 5) (Ql Qv (Qh Qo (pv 3) Qd (26:)) (Qq Qm rfl G.len PySem.boot_len (Qa (pv 5) Qc))) YH))) QB))
  (Qf (Qz (Qr (i:=9) ZD.nd rfl (13:) (Qn RT hr (Qa (pv 1) (Qa (Qh Qk (Qh Qo (pv 1) Qd (26:)) Qd (26:)) (Qa (UN Jp (pv 0) (Jo Qd) Ji) (Qa (Qd) Qc)))))))
  (Qf (Qz (Qr (i:=10) ZD.nd rfl (13:) (Qn RI hr (Qa (Qn RA hr (Qa (pv 4) Qc)) (Qa (QO Zx rfl G.lst PyProof.Rows.boot_list (Qa (pv 5) Qc)) (Qa (Qn RA hr (Qa (pv 2) Qc)) Qc))))))
  (Qf (Qz (QN (PW.pt (pw_or (Yz (ZK (Qq Xm rfl G.isi PyProof.Rows.boot_isinstance (Qa (pv 10) (Qa (G5 (v:=.ty "bool") rfl G.boo PyProof.Rows.boot_bool rfl) Qc))))) (pw_or1 ((PW.pt (pw_and (Qx Nd (pv 10) Z3 (QA _)) (pw_and1 (Qx GD (pv 6) Qd (QA _))))))))) (Qj (Qs Z3)) QB))
  (Qj (Qs (Ww (XI (pv 10)) (Uy (ZH Jj (Qn RU hr (Qa (pv 4) (Qa (pv 9) Qc))) (Qn RU hr (Qa (pv 2) (Qa (pv 9) Qc))) (QA _)))))))))))))))))),?_⟩
 refine Za fun KK hKK=>?_
 refine ⟨_,rfl,a,ns,rfl,hS,fun wd ks H1 g1 hw hW=>?_⟩
 refine hKK _ _ ?_
 clear hKK KK
 refine Za fun KK hKK=>?_
 refine ⟨_,rfl,_,rfl,a,ns,wd,ks,rfl,g1.seq hS,hw,hW,fun t2 lm2 s2 st2 ms2 H2 g2 hT2 hD=>?_⟩
 refine hKK _ _ ?_
 clear hKK KK
 refine Za fun KK hKK=>?_
 have hS2:=(g1.trans g2).seq hS
 refine ⟨_,rfl,a,ns,14,rfl,hS2,_,6,rfl,by decide,fun d xs H3 g3 _ hd hxl hx0=>?_⟩
 refine hKK _ _ ?_
 clear hKK KK
 refine Za fun KK hKK=>?_
 have hT23:=hT2.same g3
 have xat:∀ i:Nat,i < 6→∃ z:Int,atI (xs.map V.int) (i:Int)=some (.int z):=fun i hi=>⟨xs[i],Qu (by rw [List.getElem?_map,List.getElem?_eq_getElem (7:)];rfl)⟩
 obtain ⟨x0,hx0'⟩:=xat 0 (28:)
 obtain ⟨x1,hx1'⟩:=xat 1 (28:)
 obtain ⟨x2,hx2'⟩:=xat 2 (28:)
 refine ⟨_,rfl,_,rfl,d,_,0,_,rfl,rfl,SqL.of hd,hx0',_,rfl,a,ns,14,rfl,g3.seq hS2,_,_,rfl,rfl,(by show (0:Int) < 4;decide),_,_,rfl,rfl,t2,wd,lm2,s2,ks,st2,ms2,_,rfl,hT23,hW,hD,fun p t1 lm1 lt s1 st1 ms1 us ts H4 H5 g4 g5 hp hT1 hlt0 hlt hus hO hP hF=>⟨p,_,rfl,hp,rfl,_,_,rfl,_,_,rfl,rfl,?_⟩⟩
 refine hKK _ _ ?_
 clear hKK KK
 refine Za fun KK hKK=>?_
 have g45:=g4.trans g5
 refine ⟨_,rfl,a,ns,15,rfl,(g3.trans g45).seq hS2,_,_,rfl,rfl,(by show (0:Int) < 8;decide),?_⟩
 show QV 6 (V.int (((ns[15]?).getD 0:Int) % (8:Int))) _ _ _
 generalize ((ns[15]?).getD 0:Int) % (8:Int)=way
 refine hKK _ _ ?_
 clear hKK KK
 have hs0:S52 K H5 a wd lt d ns ks xs way t1 lm1 s1 st1 ms1 us ts t2 lm2 s2 st2 ms2:=⟨(g3.trans g45).seq hS2,SqL.of (g45 _ _ hd),hT1.same g5,hO.one,hF,hlt,hus,hO.t,hO.l,hT23.same g45,hD.t2 hW,T51.fits hW hD,fun _=>hP,fun _=>⟨H4,hlt0,g5,hT1,hT23.same g4,(g3.trans g4).seq hS2,SqL.of (g4 _ _ hd)⟩⟩
 have wayE:∀ {i:Int},decide (V.int way=V.int i)=true→way=i:=fun h=>V.int.inj (of_decide_eq_true h)
 have k0:=List.getElem?_eq_getElem hW.pos
 clear hT1 hT23 hT2 hlt hus hp hd hx0 hD hF hP hO
 refine WY (St52 K a wd d lt ns ks xs way) ?_ ?_
 ·refine (49:)
  have hw':=wayE hc
  have f4:=hs0.fo.few
  have elm:(58:).length=ms1.length:=List.length_map ..
  have hpos0:(0:Int) < ((58:).length:Int):=by rw [elm];have:=hs0.fo.pos;lia
  refine Za fun KK hKK=>?_
  refine ⟨_,rfl,d,_,1,_,rfl,rfl,hs0.fd,hx1',_,rfl,t1,_,2,_,rfl,rfl,hs0.fT1.tu,rfl,lm1,_,rfl,.inl hs0.fT1.m.1,_,_,rfl,rfl,hpos0,?_⟩
  show QV 7 (V.int (x1 % ((58:).length:Int))) _ _ _
  have y0:0≤x1 % ((58:).length:Int):=Int.emod_nonneg _ (7:)
  have y1:x1 % ((58:).length:Int) < ((58:).length:Int):=Int.emod_lt_of_pos _ hpos0
  obtain ⟨mb,hmb,hmm⟩ : ∃ mb:Nat,x1 % ((ms1.map fun m=>V.ref m.1).length:Int)=(mb:Int)∧mb < ms1.length:=⟨(x1 % ((58:).length:Int)).toNat,by lia,by lia⟩
  rw [hmb]
  refine hKK _ _ ?_
  clear hKK KK
  have hme:=List.getElem_mem hmm
  obtain ⟨kd,hkd,b1,b2,b3⟩:=hs0.fo.r1 _ hme
  have hrp:=(hW.rws kd hkd).1
  have hatm:atI (58:) (mb:Int)=some (.ref ms1[mb].1):=Qu (by rw [List.getElem?_map,List.getElem?_eq_getElem hmm];rfl)
  obtain ⟨d1,d2,d3⟩:=hs0.fT1.m.2 _ hme
  have hlen:=d3.length
  have hpos:(0:Int) < (ms1[mb].2.2.2.1.length:Int):=by lia
  refine Za fun KK hKK=>?_
  refine ⟨_,rfl,d,_,2,_,rfl,rfl,hs0.fd,hx2',_,rfl,t1,_,2,_,rfl,rfl,hs0.fT1.tu,rfl,_,rfl,lm1,_,_,_,rfl,rfl,hs0.fT1.m.1,hatm,ms1[mb].1,_,1,_,rfl,rfl,d1,rfl,ms1[mb].2.2.1,_,rfl,.inl d2,_,_,rfl,rfl,hpos,?_⟩
  show QV 8 (V.int (x2 % (ms1[mb].2.2.2.1.length:Int))) _ _ _
  have w0:0≤x2 % (ms1[mb].2.2.2.1.length:Int):=Int.emod_nonneg _ (7:)
  have w1:x2 % (ms1[mb].2.2.2.1.length:Int) < (ms1[mb].2.2.2.1.length:Int):=Int.emod_lt_of_pos _ hpos
  obtain ⟨j,hj,j1⟩ : ∃ j:Nat,x2 % (ms1[mb].2.2.2.1.length:Int)=(j:Int)∧j < ms1[mb].2.2.2.2.length:=⟨(x2 % (ms1[mb].2.2.2.1.length:Int)).toNat,by lia,by lia⟩
  rw [hj]
  refine hKK _ _ ?_
  clear hKK KK
  have hjr:=List.getElem?_eq_getElem (show j < kd.2.2.2.length by lia)
  refine ⟨_,rfl,_,rfl,_,rfl,_,rfl,_,rfl,_,rfl,_,rfl,a,ns,t1,wd,lm1,s1,ks,st1,ms1,mb,j,_,kd,_,rfl,hs0.fS,hs0.fT1,hW,f4,List.getElem?_eq_getElem hmm,hkd,b1,hjr,fun v t Ha ga hv ht hl=>⟨t1,wd,lm1,s1,ks,st1,ms1,mb,j,v,t,rfl,hs0.fT1.same ga,hv,by lia,hmm,fun m hm=>(by rw [List.getElem?_eq_getElem hmm] at hm;rw [← Option.some.inj hm];exact j1),fun tu1 lmN msN Hb gb hTb hOt=>?_⟩⟩
  have hs2:=hs0.same (ga.trans gb)
  have er:=ZP hW.ok.nd hkd
  have htp:TPr (Pn ms1.length) t:=ht.mono fun a b k=>by have:=k.pn;rw [List.length_map] at this;exact this
  exact ⟨tu1,lmN,s1,st1,msN,us,ts,t2,lm2,s2,st2,ms2,_,_,hs2.fS,hs2.fd,hTb,L0 hs0.fo ⟨htp,by lia⟩ hOt,JU hs0.f1 hOt.1 hOt.2 (List.getElem?_eq_getElem hmm) (by rw [← b1,er];exact hjr) ht,hs2.flt,hs2.fus,hs2.fok,by rw [hOt.1];exact hs2.fl,hs2.fT2,hs2.ft2,hs2.f2,fun z=>by lia,fun z=>by lia⟩
 clear hs0
 refine St52.all fun H6 t1 lm1 s1 st1 ms1 us ts t2 lm2 s2 st2 ms2 c7 c8 hs0=>?_
 refine WY (St52 K a wd d lt ns ks xs way) ?_ ?_
 ·refine (49:)
  have hw':=wayE hc
  have f4:=hs0.ft2.three
  have elm:(ms2.map fun m=>V.ref m.1).length=ms2.length:=List.length_map ..
  have hpos0:(0:Int) < (29:):=by rw [elm];have:=hs0.ft2.pos;lia
  refine Za fun KK hKK=>?_
  refine ⟨_,rfl,d,_,1,_,rfl,rfl,hs0.fd,hx1',_,rfl,t2,_,2,_,rfl,rfl,hs0.fT2.tu,rfl,lm2,_,rfl,.inl hs0.fT2.m.1,_,_,rfl,rfl,hpos0,?_⟩
  show QV 7 (V.int (x1 % (29:))) _ _ _
  have y0:0≤x1 % (29:):=Int.emod_nonneg _ (7:)
  have y1:x1 % (29:) < (29:):=Int.emod_lt_of_pos _ hpos0
  obtain ⟨mb,hmb,hmm⟩ : ∃ mb:Nat,x1 % ((ms2.map fun m=>V.ref m.1).length:Int)=(mb:Int)∧mb < ms2.length:=⟨(x1 % (29:)).toNat,by lia,by lia⟩
  rw [hmb]
  refine hKK _ _ ?_
  clear hKK KK
  have hme:=List.getElem_mem hmm
  obtain ⟨kd,hkd,b1,b2,b3⟩:=hs0.ft2.md _ hme
  have hrp:=(hW.rws kd hkd).1
  have hatm:atI (ms2.map fun m=>V.ref m.1) (mb:Int)=some (.ref ms2[mb].1):=Qu (by rw [List.getElem?_map,List.getElem?_eq_getElem hmm];rfl)
  obtain ⟨d1,d2,d3⟩:=hs0.fT2.m.2 _ hme
  have hlen:=d3.length
  have hpos:(0:Int) < (ms2[mb].2.2.2.1.length:Int):=by lia
  refine Za fun KK hKK=>?_
  refine ⟨_,rfl,d,_,2,_,rfl,rfl,hs0.fd,hx2',_,rfl,t2,_,2,_,rfl,rfl,hs0.fT2.tu,rfl,_,rfl,lm2,_,_,_,rfl,rfl,hs0.fT2.m.1,hatm,ms2[mb].1,_,1,_,rfl,rfl,d1,rfl,ms2[mb].2.2.1,_,rfl,.inl d2,_,_,rfl,rfl,hpos,?_⟩
  show QV 8 (V.int (x2 % (ms2[mb].2.2.2.1.length:Int))) _ _ _
  have w0:0≤x2 % (ms2[mb].2.2.2.1.length:Int):=Int.emod_nonneg _ (7:)
  have w1:x2 % (ms2[mb].2.2.2.1.length:Int) < (ms2[mb].2.2.2.1.length:Int):=Int.emod_lt_of_pos _ hpos
  obtain ⟨j,hj,j1⟩ : ∃ j:Nat,x2 % (ms2[mb].2.2.2.1.length:Int)=(j:Int)∧j < ms2[mb].2.2.2.2.length:=⟨(x2 % (ms2[mb].2.2.2.1.length:Int)).toNat,by lia,by lia⟩
  rw [hj]
  refine hKK _ _ ?_
  clear hKK KK
  have hjr:=List.getElem?_eq_getElem (show j < kd.2.2.2.length by lia)
  refine ⟨_,rfl,_,rfl,_,rfl,_,rfl,_,rfl,_,rfl,_,rfl,a,ns,t2,wd,lm2,s2,ks,st2,ms2,mb,j,_,kd,_,rfl,hs0.fS,hs0.fT2,hW,by lia,List.getElem?_eq_getElem hmm,hkd,b1,hjr,fun v t Ha ga hv ht hl=>⟨t2,wd,lm2,s2,ks,st2,ms2,mb,j,v,t,rfl,hs0.fT2.same ga,hv,by lia,hmm,fun m hm=>(by rw [List.getElem?_eq_getElem hmm] at hm;rw [← Option.some.inj hm];exact j1),fun tu1 lmN msN Hb gb hTb hOt=>?_⟩⟩
  have hs2:=hs0.same (ga.trans gb)
  have er:=ZP hW.ok.nd hkd
  exact ⟨t1,lm1,s1,st1,ms1,us,ts,tu1,lmN,s2,st2,msN,_,_,hs2.fS,hs2.fd,hs2.fT1,hs2.fo,hs2.f1,hs2.flt,hs2.fus,hs2.fok,hs2.fl,hTb,ML hs0.ft2 ⟨ht.mono fun _ _ _=>trivial,by lia⟩ hOt,JU hs0.f2 hOt.1 hOt.2 (List.getElem?_eq_getElem hmm) (by rw [← b1,er];exact hjr) ht,fun z=>by lia,fun z=>by lia⟩
 clear hs0 t1 lm1 s1 st1 ms1 us ts t2 lm2 s2 st2 ms2 H6 c7 c8
 refine St52.all fun H6 t1 lm1 s1 st1 ms1 us ts t2 lm2 s2 st2 ms2 c7 c8 hs0=>?_
 refine WY (St52 K a wd d lt ns ks xs way) ?_ ?_
 ·refine (49:)
  have hw':=wayE hc
  have elm:(ms2.map fun m=>V.ref m.1).length=ms2.length:=List.length_map ..
  have hpos0:(0:Int) < (29:):=by rw [elm];have:=hs0.ft2.pos;lia
  refine ⟨_,rfl,d,_,2,_,rfl,rfl,hs0.fd,hx2',_,rfl,t2,_,2,_,rfl,rfl,hs0.fT2.tu,rfl,lm2,_,rfl,.inl hs0.fT2.m.1,_,_,rfl,rfl,hpos0,(30:),fun pp hpp=>?_⟩
  have y0:0≤x2 % (29:):=Int.emod_nonneg _ (7:)
  have e1:=Qe hpp (.tup [.str ZQ,.int (x2 % (29:)),.int 0])
  have hs2:=hs0.same e1
  have hul:=hs0.fus.length
  have hp1:=hs0.fo.pos
  have hfl:=hs0.fl
  have hup:(0:Int) < (us.length:Int):=by lia
  have z0:0≤x1 % (us.length:Int):=Int.emod_nonneg _ (7:)
  have z1:x1 % (us.length:Int) < (us.length:Int):=Int.emod_lt_of_pos _ hup
  obtain ⟨mo,hmo,mo1⟩ : ∃ mo:Nat,x1 % (us.length:Int)=(mo:Int)∧mo < us.length:=⟨(x1 % (us.length:Int)).toNat,by lia,by lia⟩
  refine ⟨_,rfl,_,rfl,d,_,1,_,rfl,rfl,hs2.fd,hx1',_,rfl,lt,_,rfl,.inl (SqL.of hs2.flt),_,_,rfl,rfl,hup,lt,us,_,mo,rfl,rfl,hs2.flt,by rw [hmo];exact Uf mo1,?_⟩
  refine ⟨t1,lm1,s1,st1,ms1,_,_,t2,lm2,s2,st2,ms2,c7,c8,hs2.set (o:=some (Qt (x2 % (29:)) 0)) (7:) (7:) (.call (42:)) fun t ht=>?_⟩
  rw [← Option.some.inj ht]
  exact ⟨by simp only [Qt,TPr];exact ⟨y0,trivial⟩,by simp [Qt,kp,kpl,kps],by simp [Qt,lv,lvs]⟩
 clear hs0 t1 lm1 s1 st1 ms1 us ts t2 lm2 s2 st2 ms2 H6 c7 c8
 refine St52.all fun H6 t1 lm1 s1 st1 ms1 us ts t2 lm2 s2 st2 ms2 c7 c8 hs0=>?_
 refine WY (St52 K a wd d lt ns ks xs way) ?_ ?_
 ·refine (49:)
  have hw':=wayE hc
  have hul:=hs0.fus.length
  have hp1:=hs0.fo.pos
  have hfl:=hs0.fl
  have hup:(0:Int) < (us.length:Int):=by lia
  have z0:0≤x1 % (us.length:Int):=Int.emod_nonneg _ (7:)
  have z1:x1 % (us.length:Int) < (us.length:Int):=Int.emod_lt_of_pos _ hup
  obtain ⟨mo,hmo,mo1⟩ : ∃ mo:Nat,x1 % (us.length:Int)=(mo:Int)∧mo < us.length:=⟨(x1 % (us.length:Int)).toNat,by lia,by lia⟩
  refine ⟨_,rfl,_,rfl,d,_,1,_,rfl,rfl,hs0.fd,hx1',_,rfl,lt,_,rfl,.inl (SqL.of hs0.flt),_,_,rfl,rfl,hup,lt,us,_,mo,rfl,rfl,hs0.flt,by rw [hmo];exact Uf mo1,?_⟩
  exact ⟨t1,lm1,s1,st1,ms1,_,_,t2,lm2,s2,st2,ms2,c7,c8,hs0.set (o:=none) (7:) (7:) rfl (fun t ht=>nomatch ht)⟩
 clear hs0 t1 lm1 s1 st1 ms1 us ts t2 lm2 s2 st2 ms2 H6 c7 c8
 refine St52.all fun H6 t1 lm1 s1 st1 ms1 us ts t2 lm2 s2 st2 ms2 c7 c8 hs0=>?_
 refine Za fun KK hKK=>?_
 have kpos:=hW.pos
 have hw6:=hs0.fT1.w
 have hk0:=List.getElem_mem hW.pos
 have hatw:atI (ks.map fun k=>V.ref k.1) 0=some (.ref ks[0].1):=Qu (j:=0) (by rw [List.getElem?_map,List.getElem?_eq_getElem hW.pos];rfl)
 refine ⟨_,rfl,_,rfl,wd,_,0,_,rfl,rfl,hw6.1,hatw,ks[0].1,_,0,_,rfl,rfl,(hw6.2 _ hk0).1,rfl,_,rfl,_,rfl,a,_,rfl,hs0.fS,fun ld hld=>?_⟩
 have ecut:cutV (ns.map V.int) (some 17) none=NI (ns.drop 17):=by rw [show (17:Int)=((17:Nat):Int) from rfl,Lj,← List.map_drop]
 rw [ecut]
 have gl:=Qe hld (.lst (NI (ns.drop 17)))
 refine ⟨H6,wd,ld,ks,ks[0],3,ns.drop 17,rfl,hw6,hW,hk0,hld,gl,Qb,by decide,by decide,fun tv T xs' H7 g7 _ htv hTo hTl=>?_⟩
 have g67:Same H6 H7:=Zh gl hld g7
 refine hKK _ _ ?_
 clear hKK KK
 have hs:=hs0.same g67
 clear hs0 g67 g7 gl ecut hld
 refine Za fun KK hKK=>?_
 have f4:=hs.fo.few
 have f3:=hs.ft2.three
 refine ⟨_,rfl,t1,wd,lm1,s1,ks,st1,ms1,rfl,hs.fT1,hW.ok,by lia,fun tA wA lA kA mA Ha ga hTA ekA emA=>?_⟩
 have hsa:=hs.same ga
 refine ⟨_,rfl,lt,us,rfl,.inl (SqL.of hsa.flt),fun lc hlc=>?_⟩
 have gb:=Qe hlc (.lst us)
 have hsb:=hsa.same gb
 refine ⟨_,rfl,t2,wd,lm2,s2,ks,st2,ms2,rfl,hsb.fT2,hW.ok,by lia,fun tB wB lB kB mB Hc gc hTB ekB emB=>?_⟩
 have hsc:=hsb.same gc
 have lay:(Ym ks).canLay0=true:=by show PyData.canLayAll0 _=true;exact U7 hW.nm hW.ok.rows
 have dep:(Ym ks).depth≤10:=by have:=Y3 (ks.map Js);show PyData.depthAll _ + 1≤10;lia
 have pq:=Ol hW hs.fo hs.fl hs.fok hs.ft2
 have eA:Ym kA=Ym ks:=by unfold Ym;rw [ekA]
 have eB:Ym kB=Ym ks:=by unfold Ym;rw [ekB]
 refine ⟨_,tA,wA,lA,lc,tB,wB,lB,s1,s2,us,ts,st1,st2,mA,mB,Ym ks,rfl,eA ▸ (Wk (hTA.same (gb.trans gc))),eB ▸ (Wk hTB),lay,dep,SqL.of (gc _ _ Qb),hsc.fus,pq.congr emA emB,fun b Hd gd hb=>?_⟩
 refine hKK _ _ ?_
 clear hKK KK
 have hsd:=hsc.same gd
 have htd:TrV K Hd tv T:=htv.mono fun _ _=>(ga.trans (gb.trans (gc.trans gd))).seqT
 have hb':b=true ↔ Paper st1 ms1 ts st2 ms2:=hb.trans ⟨fun z=>Y2 emA.symm emB.symm z,fun z=>Y2 emA emB z⟩
 clear hb hsc hsb hsa hTA hTB eA eB emA emB ekA ekB
 refine Za fun KK hKK=>?_
 refine ⟨_,rfl,_, "bool", _,true,rfl,.bl _,rfl,_,rfl,Zj ⟨_,rfl,_,_,rfl,rfl,_,rfl,?_⟩⟩
 have hne:b=false→¬ 3 < way:=fun z y=>by
  have:=hb'.mpr (hsd.pap y)
  rw [z] at this
  cases this
 have l1:∀ m ∈ ms1,∀ t ∈ m.2.2.2.2,lv t≤6:=fun m hm t ht=>by
  obtain ⟨kd,_,_,_,z⟩:=hs.fo.r1 m hm
  exact (z t ht).2
 have l2:∀ m ∈ ms2,∀ t ∈ m.2.2.2.2,lv t≤6:=fun m hm t ht=>by
  obtain ⟨kd,_,_,_,z⟩:=hs.ft2.md m hm
  have:=(z t ht).2
  lia
 obtain ⟨n1,r1,o1,m1,c1,p1⟩:=VU hW hs.f1 l1 (by have:=hs.fo.s1.2;lia) k0 hTo hTl
 obtain ⟨n2,r2,o2,m2,c2,p2⟩:=VU hW hs.f2 l2 hs.ft2.s.2 k0 hTo hTl
 cases b with
 | false =>
  refine QH ⟨_,rfl,_,_,rfl,rfl,_,rfl,JX (hne rfl) ?_⟩
  refine hKK _ _ ?_
  exact ⟨_,rfl,_,rfl,_,rfl,QH (q _)⟩
 | true =>
  refine Zj (Zj ?_)
  refine hKK _ _ ?_
  clear hKK KK
  have hP:=hb'.mp rfl
  have e:o1=o2:=XR hP (fun t ht=>(hs.fok.tm t ht).2.1) (fun m hm=>(hs.f2.m m hm).l) m1 m2
  refine ⟨_,rfl,_,rfl,_,rfl,Zj ⟨_,rfl,_,rfl,t1,wd,lm1,s1,tv,ks,st1,ms1,T,o1,rfl,hsd.fT1,hW.ok,htd,hTl,by have:=hs.fo.s1.2;lia,n1,m1,r1,fun v1 He ge hv1=>?_⟩⟩
  refine ⟨_,rfl,_,rfl,t2,wd,lm2,s2,tv,ks,st2,ms2,T,o2,rfl,hsd.fT2.same ge,hW.ok,htd.mono fun _ _=>ge.seqT,hTl,hs.ft2.s.2,n2,m2,r2,fun v2 Hf gf hv2=>?_⟩
  refine ⟨td o1,td o2,K9.TrV.rd (hv1.mono fun _ _=>gf.seqT),K9.TrV.rd hv2,c1,c2,hr.fit (7:),?_⟩
  rw [if_neg (28:),e,Z6 _ c2]
  exact q _
end
end K52
namespace L2
theorem ln1 {α:Type} {us:List α} (h:us.length=1):∃ a,us=[a]:=List.length_eq_one_iff.mp h
theorem ln2 {α:Type} {us:List α} (h:us.length=2):∃ a b,us=[a,b]:=by
 match us,h with
 | [a,b],_=>exact ⟨a,b,rfl⟩
theorem ln3 {α:Type} {us:List α} (h:us.length=3):∃ a b c,us=[a,b,c]:=by
 match us,h with
 | [a,b,c],_=>exact ⟨a,b,c,rfl⟩
theorem ln4 {α:Type} {us:List α} (h:us.length=4):∃ a b c d,us=[a,b,c,d]:=by
 match us,h with
 | [a,b,c,d],_=>exact ⟨a,b,c,d,rfl⟩
theorem ln5 {α:Type} {us:List α} (h:us.length=5):∃ a b c d e,us=[a,b,c,d,e]:=by
 match us,h with
 | [a,b,c,d,e],_=>exact ⟨a,b,c,d,e,rfl⟩
end L2
namespace K52
open PySem L2
theorem all_mk {l:PySem.W.OpenLaw} {w:World} {K:PySem.W.Frag} {h:Heap} {mg:Str→Option Value} {fa:Addr} (X:K.In h) (N:h.Ns mainGlobals mg) (hfa:mg "law" = some (.ref fa))
 (d1:DefAt K "is_call" M6) (d2:DefAt K "calls_of" sCO) (d3:DefAt K "keeps_mark" sKM) (d4:DefAt K "terms_in" sTI) (d5:DefAt K "rules_in" sRI) (d6:DefAt K "on_branch" sOB) (d7:DefAt K "with_parts" sWP) (d8:DefAt K "calls_fit" M5) (d9:DefAt K "call_fits" sCF) (d10:DefAt K "need_one_wood" Nb) (d11:DefAt K "is_paper" Ny) (d12:DefAt K "term_fits" sTF) (d13:DefAt K "has_terms" sHT) (d14:DefAt K "rules_have_terms" Mx) (d15:DefAt K "rules_agree" sRA) (d16:DefAt K "rules_for" MK) (d17:DefAt K "_law_cell_at" GL) (d18:DefAt K "_law_stream" Jf) (d19:DefAt K "_law_names" XU) (d20:DefAt K "_law_wood" V5) (d21:DefAt K "_law_rows" GU) (d22:DefAt K "_law_calls" XD) (d23:DefAt K "_law_term" J2) (d24:DefAt K "_law_unkept" GB) (d25:DefAt K "_law_turning" Gf) (d26:DefAt K "_law_again" XO) (d27:DefAt K "_law_renamed" Gb) (d28:DefAt K "_law_turned_about" Gv) (d29:DefAt K "_law_doubled" MW) (d30:DefAt K "_law_ruled" UM) (d31:DefAt K "_law_held_back" X1) (d32:DefAt K "_law_size" J1) (d33:DefAt K "_law_many" V2) (d34:DefAt K "_law_with_paper" XW) (d35:DefAt K "_law_other_rule" VN) (d36:DefAt K "_law_tree" U5) (d37:DefAt K "_law_put" VL) (d38:DefAt K "_law_by" sBy) (d39:DefAt K "_law_outcome" MI) (d40:DefAt K "_law_some_rule" Vu) (d41:DefAt K "law" XS)
 (z1:PySem.W.nsIn K mainGlobals "len" = some none) (z2:PySem.W.nsIn K mainGlobals "isinstance" = some none) (z3:PySem.W.nsIn K mainGlobals "bool" = some none) (z4:PySem.W.nsIn K mainGlobals "tuple" = some none) (z5:PySem.W.nsIn K mainGlobals "list" = some none) (z6:PySem.W.nsIn K mainGlobals "range" = some none) (z7:PySem.W.nsIn K mainGlobals "sum" = some none) (z8:PySem.W.nsIn K mainGlobals "sorted" = some none) (z9:PySem.W.nsIn K mainGlobals "zip" = some none) (z10:PySem.W.nsIn K mainGlobals "all" = some none) (z11:PySem.W.nsIn K mainGlobals "any" = some none) (z12:PySem.W.nsIn K mainGlobals "enumerate" = some none)  :
 ∃ fd:FuncData,(∀ (s:Shared) (v:Value),BindsTo s fd ⟨[v],[]⟩ [("_law_script", v)])∧∀ base:Heap,K.In base→base.Ns mainGlobals mg→FnOk l.prog w K mg base CX0 43 fa fd ["_law_script"] (X5 K):=by
 have G:Gm mg:=⟨PySem.W.mg_none_of X N z1,PySem.W.mg_none_of X N z2,PySem.W.mg_none_of X N z3,PySem.W.mg_none_of X N z4,PySem.W.mg_none_of X N z5,PySem.W.mg_none_of X N z6,PySem.W.mg_none_of X N z7,PySem.W.mg_none_of X N z8,PySem.W.mg_none_of X N z9,PySem.W.mg_none_of X N z10,PySem.W.mg_none_of X N z11,PySem.W.mg_none_of X N z12⟩
 obtain ⟨f,oc,od,kV,doc,pm,an,cdv,ct,osl,a,lk,c,kp⟩:=d41.ex
 have e:=hfa.symm.trans (PySem.W.mg_of X N a)
 cases e
 have F:=Ze (st:=XS) lk c kp
 refine ⟨PySem.W.fnOf "law" "law" (defArgs XS) (defBody XS) (defScope XS) .none kV doc pm an cdv ct,fun s v=>.of_eq rfl,fun base _ _=>?_⟩
 have rIC:Fn l.prog w K mg base 1 "is_call" ["term"] (Z0 K):=d1.fn X N (fun f fd F=>M8 F) fun _ _ _ _ _ _ us hl=>by obtain ⟨a1,rfl⟩:=ln1 hl;rfl
 have rWP:Fn l.prog w K mg base 1 "with_parts" ["term", "parts"] (Xp K):=d7.fn X N (fun f fd F=>N7 F G) fun _ _ _ _ _ _ us hl=>by obtain ⟨a1,a2,rfl⟩:=ln2 hl;rfl
 have rOB:Fn l.prog w K mg base 5 "on_branch" ["term", "branch"] (JI K 4):=by
  obtain ⟨f,oc,od,kV,doc,pm,an,cdv,ct,osl,a,lk,c,kp⟩:=d6.ex
  have F:=Ze (st:=sOB) lk c kp
  have hb:Binds K _ ["term", "branch"] []:=F.binds fun _ _ _ _ _ _ us hl=>by obtain ⟨a1,a2,rfl⟩:=ln2 hl;rfl
  exact ⟨f,_,VG F G rIC rWP hb (PySem.W.mg_of X N a) 4,hb,kp,PySem.W.mg_of X N a⟩
 have rCO:Fn l.prog w K mg base 9 "calls_of" ["term"] (Xf K 8):=by
  obtain ⟨f,oc,od,kV,doc,pm,an,cdv,ct,osl,a,lk,c,kp⟩:=d2.ex
  have F:=Ze (st:=sCO) lk c kp
  have hb:Binds K _ ["term"] []:=F.binds fun _ _ _ _ _ _ us hl=>by obtain ⟨a1,rfl⟩:=ln1 hl;rfl
  exact ⟨f,_,GV F G rIC hb (PySem.W.mg_of X N a) 8,hb,kp,PySem.W.mg_of X N a⟩
 have rRI:Fn l.prog w K mg base 7 "rules_in" ["term", "terms"] (JP K 6):=by
  obtain ⟨f,oc,od,kV,doc,pm,an,cdv,ct,osl,a,lk,c,kp⟩:=d5.ex
  have F:=Ze (st:=sRI) lk c kp
  have hb:Binds K _ ["term", "terms"] []:=F.binds fun _ _ _ _ _ _ us hl=>by obtain ⟨a1,a2,rfl⟩:=ln2 hl;rfl
  exact ⟨f,_,Vj F G rIC rWP hb (PySem.W.mg_of X N a) 6,hb,kp,PySem.W.mg_of X N a⟩
 have rTI:Fn l.prog w K mg base 11 "terms_in" ["term", "terms"] (JN K 6):=by
  obtain ⟨f,oc,od,kV,doc,pm,an,cdv,ct,osl,a,lk,c,kp⟩:=d4.ex
  have F:=Ze (st:=sTI) lk c kp
  have hb:Binds K _ ["term", "terms"] []:=F.binds fun _ _ _ _ _ _ us hl=>by obtain ⟨a1,a2,rfl⟩:=ln2 hl;rfl
  exact ⟨f,_,VY F G rIC rWP rOB hb (PySem.W.mg_of X N a) 6,hb,kp,PySem.W.mg_of X N a⟩
 have rKM:Fn l.prog w K mg base 9 "keeps_mark" ["term"] (Xo K 8):=by
  obtain ⟨f,oc,od,kV,doc,pm,an,cdv,ct,osl,a,lk,c,kp⟩:=d3.ex
  have F:=Ze (st:=sKM) lk c kp
  have hb:Binds K _ ["term"] []:=F.binds fun _ _ _ _ _ _ us hl=>by obtain ⟨a1,rfl⟩:=ln1 hl;rfl
  exact ⟨f,_,V4 F G rIC hb (PySem.W.mg_of X N a) 8,hb,kp,PySem.W.mg_of X N a⟩
 have rCF:Fn l.prog w K mg base 1 "call_fits" ["modes", "mode", "branch", "kinds"] (Lz K):=d9.fn X N (fun f fd F=>NT F G) fun _ _ _ _ _ _ us hl=>by obtain ⟨a1,a2,a3,a4,rfl⟩:=ln4 hl;rfl
 have rCsF:Fn l.prog w K mg base 10 "calls_fit" ["modes", "term", "kinds"] (VH K):=d8.fn X N (fun f fd F=>Nh F G rCO rCF) fun _ _ _ _ _ _ us hl=>by obtain ⟨a1,a2,a3,rfl⟩:=ln3 hl;rfl
 have rNOW:Fn l.prog w K mg base 1 "need_one_wood" ["one", "other"] (Vp K):=d10.fn X N (fun f fd F=>Mq F) fun _ _ _ _ _ _ us hl=>by obtain ⟨a1,a2,rfl⟩:=ln2 hl;rfl
 have rTF:Fn l.prog w K mg base 11 "term_fits" ["kind", "term", "other"] (Nx K):=d12.fn X N (fun f fd F=>NM F rKM rCsF) fun _ _ _ _ _ _ us hl=>by obtain ⟨a1,a2,a3,rfl⟩:=ln3 hl;rfl
 have rHT:Fn l.prog w K mg base 10 "has_terms" ["term", "terms"] (V0 K):=d13.fn X N (fun f fd F=>N9 F G rCO) fun _ _ _ _ _ _ us hl=>by obtain ⟨a1,a2,rfl⟩:=ln2 hl;rfl
 have rRHT:Fn l.prog w K mg base 11 "rules_have_terms" ["rules", "terms"] (G1 K):=d14.fn X N (fun f fd F=>MR F G rHT) fun _ _ _ _ _ _ us hl=>by obtain ⟨a1,a2,rfl⟩:=ln2 hl;rfl
 have rRFo:Fn l.prog w K mg base 1 "rules_for" ["turning", "kind", "number"] (Gi K):=d16.fn X N (fun f fd F=>MJ F) fun _ _ _ _ _ _ us hl=>by obtain ⟨a1,a2,a3,rfl⟩:=ln3 hl;rfl
 have rRA:Fn l.prog w K mg base 12 "rules_agree" ["mode", "term", "terms", "other"] (Nz K):=d15.fn X N (fun f fd F=>Og F G rTI rRI rRFo) fun _ _ _ _ _ _ us hl=>by obtain ⟨a1,a2,a3,a4,rfl⟩:=ln4 hl;rfl
 have rIP:Fn l.prog w K mg base 13 "is_paper" ["one", "terms", "other"] (GP K):=d11.fn X N (fun f fd F=>MM F G rNOW rTF rHT rRHT rTI rRA) fun _ _ _ _ _ _ us hl=>by obtain ⟨a1,a2,a3,rfl⟩:=ln3 hl;rfl
 have rC:Fn l.prog w K mg base 1 "_law_cell_at" ["_law_script", "_law_k"] (YO K):=d17.fn X N (fun f fd F=>Lq F G) fun _ _ _ _ _ _ us hl=>by obtain ⟨a1,a2,rfl⟩:=ln2 hl;rfl
 have rS:Fn l.prog w K mg base 1 "_law_stream" ["_law_cell", "_law_count"] ZV:=d18.fn X N (fun f fd F=>W8 F G) fun _ _ _ _ _ _ us hl=>by obtain ⟨a1,a2,rfl⟩:=ln2 hl;rfl
 have rN:Fn l.prog w K mg base 1 "_law_names" ["_law_cell", "_law_count"] YG:=d19.fn X N (fun f fd F=>GT F G) fun _ _ _ _ _ _ us hl=>by obtain ⟨a1,a2,rfl⟩:=ln2 hl;rfl
 have rW:Fn l.prog w K mg base 2 "_law_wood" ["_law_script"] (XX K):=d20.fn X N (fun f fd F=>LI F G rC rS rN) fun _ _ _ _ _ _ us hl=>by obtain ⟨a1,rfl⟩:=ln1 hl;rfl
 have rR:Fn l.prog w K mg base 1 "_law_rows" ["_law_wood_here", "_law_kind"] (Ya K):=d21.fn X N (fun f fd F=>Lb F) fun _ _ _ _ _ _ us hl=>by obtain ⟨a1,a2,rfl⟩:=ln2 hl;rfl
 have rL:Fn l.prog w K mg base 1 "_law_calls" ["_law_branches", "_law_kinds"] (Uc K):=d22.fn X N (fun f fd F=>GM F G) fun _ _ _ _ _ _ us hl=>by obtain ⟨a1,a2,rfl⟩:=ln2 hl;rfl
 have rT:Fn l.prog w K mg base 4 "_law_term" ["_law_xs", "_law_calls_here", "_law_names_here", "_law_far", "_law_deep"] (Z8 K 3):=by
  obtain ⟨f,oc,od,kV,doc,pm,an,cdv,ct,osl,a,lk,c,kp⟩:=d23.ex
  have F:=Ze (st:=J2) lk c kp
  have hb:Binds K _ ["_law_xs", "_law_calls_here", "_law_names_here", "_law_far", "_law_deep"] []:=F.binds fun _ _ _ _ _ _ us hl=>by obtain ⟨a1,a2,a3,a4,a5,rfl⟩:=ln5 hl;rfl
  exact ⟨f,_,Xi F G hb (PySem.W.mg_of X N a) 3,hb,kp,PySem.W.mg_of X N a⟩
 have rU:Fn l.prog w K mg base 4 "_law_unkept" ["_law_term_here"] (YY K 4):=by
  obtain ⟨f,oc,od,kV,doc,pm,an,cdv,ct,osl,a,lk,c,kp⟩:=d24.ex
  have F:=Ze (st:=GB) lk c kp
  have hb:Binds K _ ["_law_term_here"] []:=F.binds fun _ _ _ _ _ _ us hl=>by obtain ⟨a1,rfl⟩:=ln1 hl;rfl
  exact ⟨f,_,WE F G hb (PySem.W.mg_of X N a) 4,hb,kp,PySem.W.mg_of X N a⟩
 have rTu:Fn l.prog w K mg base 5 "_law_turning" ["_law_script", "_law_wood_here"] (Xz K):=d25.fn X N (fun f fd F=>LP F G rC rS rN rR rL rT rU) fun _ _ _ _ _ _ us hl=>by obtain ⟨a1,a2,rfl⟩:=ln2 hl;rfl
 have rA:Fn l.prog w K mg base 1 "_law_again" ["_law_turning_here"] (Jt K):=d26.fn X N (fun f fd F=>Gp F G) fun _ _ _ _ _ _ us hl=>by obtain ⟨a1,rfl⟩:=ln1 hl;rfl
 have rRe:Fn l.prog w K mg base 5 "_law_renamed" ["_law_term_here", "_law_names_here"] (Z5 K 4):=by
  obtain ⟨f,oc,od,kV,doc,pm,an,cdv,ct,osl,a,lk,c,kp⟩:=d27.ex
  have F:=Ze (st:=Gb) lk c kp
  have hb:Binds K _ ["_law_term_here", "_law_names_here"] []:=F.binds fun _ _ _ _ _ _ us hl=>by obtain ⟨a1,a2,rfl⟩:=ln2 hl;rfl
  exact ⟨f,_,Wn F G hb (PySem.W.mg_of X N a) 4,hb,kp,PySem.W.mg_of X N a⟩
 have rTA:Fn l.prog w K mg base 6 "_law_turned_about" ["_law_turning_here", "_law_step"] (Ms K):=d28.fn X N (fun f fd F=>Oh F G rRe) fun _ _ _ _ _ _ us hl=>by obtain ⟨a1,a2,rfl⟩:=ln2 hl;rfl
 have rDo:Fn l.prog w K mg base 6 "_law_doubled" ["_law_turning_here", "_law_mode", "_law_bits"] (M1 K):=d29.fn X N (fun f fd F=>MF F G rRe) fun _ _ _ _ _ _ us hl=>by obtain ⟨a1,a2,a3,rfl⟩:=ln3 hl;rfl
 have rRu:Fn l.prog w K mg base 5 "_law_ruled" ["_law_term_here", "_law_modes", "_law_row"] (Y0 K 4):=by
  obtain ⟨f,oc,od,kV,doc,pm,an,cdv,ct,osl,a,lk,c,kp⟩:=d30.ex
  have F:=Ze (st:=UM) lk c kp
  have hb:Binds K _ ["_law_term_here", "_law_modes", "_law_row"] []:=F.binds fun _ _ _ _ _ _ us hl=>by obtain ⟨a1,a2,a3,rfl⟩:=ln3 hl;rfl
  exact ⟨f,_,Wc F G hb (PySem.W.mg_of X N a) 4,hb,kp,PySem.W.mg_of X N a⟩
 have rHB:Fn l.prog w K mg base 6 "_law_held_back" ["_law_turning_here"] (Mv K):=d31.fn X N (fun f fd F=>NQ F G rRu) fun _ _ _ _ _ _ us hl=>by obtain ⟨a1,rfl⟩:=ln1 hl;rfl
 have rSz:Fn l.prog w K mg base 9 "_law_size" ["_law_term_here"] (ZY K 8):=by
  obtain ⟨f,oc,od,kV,doc,pm,an,cdv,ct,osl,a,lk,c,kp⟩:=d32.ex
  have F:=Ze (st:=J1) lk c kp
  have hb:Binds K _ ["_law_term_here"] []:=F.binds fun _ _ _ _ _ _ us hl=>by obtain ⟨a1,rfl⟩:=ln1 hl;rfl
  exact ⟨f,_,Xr F G hb (PySem.W.mg_of X N a) 8,hb,kp,PySem.W.mg_of X N a⟩
 have rMa:Fn l.prog w K mg base 10 "_law_many" ["_law_turning_here"] (Xy K):=d33.fn X N (fun f fd F=>G9 F G rSz) fun _ _ _ _ _ _ us hl=>by obtain ⟨a1,rfl⟩:=ln1 hl;rfl
 have rW2:Fn l.prog w K mg base 11 "_law_with_paper" ["_law_turning_here", "_law_x"] (Gy K):=d34.fn X N (fun f fd F=>NA F G rDo rHB rMa rTA) fun _ _ _ _ _ _ us hl=>by obtain ⟨a1,a2,rfl⟩:=ln2 hl;rfl
 have rOt:Fn l.prog w K mg base 1 "_law_other_rule" ["_law_turning_here", "_law_mode", "_law_row", "_law_rule"] (X2 K):=d35.fn X N (fun f fd F=>LH F G) fun _ _ _ _ _ _ us hl=>by obtain ⟨a1,a2,a3,a4,rfl⟩:=ln4 hl;rfl
 have rTr:Fn l.prog w K mg base 5 "_law_tree" ["_law_wood_here", "_law_kind", "_law_cells", "_law_deep"] (UH K 4):=by
  obtain ⟨f,oc,od,kV,doc,pm,an,cdv,ct,osl,a,lk,c,kp⟩:=d36.ex
  have F:=Ze (st:=U5) lk c kp
  have hb:Binds K _ ["_law_wood_here", "_law_kind", "_law_cells", "_law_deep"] []:=F.binds fun _ _ _ _ _ _ us hl=>by obtain ⟨a1,a2,a3,a4,rfl⟩:=ln4 hl;rfl
  exact ⟨f,_,Xe F G rR hb (PySem.W.mg_of X N a) 4,hb,kp,PySem.W.mg_of X N a⟩
 have rPu:Fn l.prog w K mg base 41 "_law_put" ["_law_turning_here", "_law_term_here", "_law_mark", "_law_branches"] (YX K 38):=by
  obtain ⟨f,oc,od,kV,doc,pm,an,cdv,ct,osl,a,lk,c,kp⟩:=d37.ex
  have F:=Ze (st:=VL) lk c kp
  have hb:Binds K _ ["_law_turning_here", "_law_term_here", "_law_mark", "_law_branches"] []:=F.binds fun _ _ _ _ _ _ us hl=>by obtain ⟨a1,a2,a3,a4,rfl⟩:=ln4 hl;rfl
  obtain ⟨f2,oc2,od2,kV2,doc2,pm2,an2,cdv2,ct2,osl2,a2,lk2,c2,kp2⟩:=d38.ex
  have F2:=Ze (st:=sBy) lk2 c2 kp2
  have hb2:Binds K _ ["_law_turning_here", "_law_mode", "_law_tree_here"] []:=F2.binds fun _ _ _ _ _ _ us hl=>by obtain ⟨a1,a2,a3,rfl⟩:=ln3 hl;rfl
  exact ⟨f,_,(Wq F F2 G rR hb hb2 (PySem.W.mg_of X N a) (PySem.W.mg_of X N a2) 38).1,hb,kp,PySem.W.mg_of X N a⟩
 have rOu:Fn l.prog w K mg base 42 "_law_outcome" ["_law_turning_here", "_law_tree_here"] (VV K):=d39.fn X N (fun f fd F=>Mw F G rPu) fun _ _ _ _ _ _ us hl=>by obtain ⟨a1,a2,rfl⟩:=ln2 hl;rfl
 have rSo:Fn l.prog w K mg base 5 "_law_some_rule" ["_law_script", "_law_turning_here", "_law_mode", "_law_row"] (X4 K):=d40.fn X N (fun f fd F=>Lx F G rC rS rN rR rL rT) fun _ _ _ _ _ _ us hl=>by obtain ⟨a1,a2,a3,a4,rfl⟩:=ln4 hl;rfl
 exact Mp F G rC rS rW rTu rW2 rSo rOt rTr rA rOu rIP
theorem walk {l:PySem.W.OpenLaw} {q:Program} {loose:List Str} {XP:(Str→Option Value)→Heap→Prop} {YP:World→Heap→Prop} {d:DefRec} {K:Params→PySem.W.Frag} (hn:l.most=some 63) (hdf:d.params.defaults=[])
 (hY:∀ (w:World) (h:Heap),YP w h→(K w.params).In h)
 (F:∀ (w:World) (mg:Str→Option Value) (fa:Addr) (h:Heap),(K w.params).In h→h.Ns mainGlobals mg→mg d.name=some (.ref fa) →
  ∃ fd:FuncData,(∀ (s:Shared) (u:Value),BindsTo s fd ⟨[u],[]⟩ [("_law_script", u)])∧∀ base:Heap,(K w.params).In base→base.Ns mainGlobals mg→FnOk l.prog w (K w.params) mg base CX0 43 fa fd ["_law_script"] (X5 (K w.params))) :
 PySem.W.WalkO q loose XP YP l.row.toRowW d [] (fun f vs=>PySem.call f vs) :=
 L2.walk_of (n:=63) (k:=43) (x:="_law_script") (CX:=fun _=>CX0) (sp:=fun w=>X5 (K w.params)) hn (28:) hdf ⟨rfl,by decide,by decide⟩ hY F (fun _ _ a ns hl hO hS=>⟨a,ns,rfl,hS,hl,fun _=>rfl⟩) fun _ _ _ _ _ z=>z
end K52
section
open PySem
noncomputable def K52.vS (x:String) (n:Nat):Value:=.str (Str.ofString x) n
noncomputable def K52.vR (a:Nat):Value:=.ref a
noncomputable def K52.vI (i:Int) (n:Nat):Value:=.int i n
noncomputable def K52.hE (P:Params) (x:String) (n:Nat) (v:Value):DictEntry:=⟨PyData.keyHash P (Str.ofString x),.str (Str.ofString x) n,v⟩
noncomputable def K52.vN:Value:=.none
noncomputable def K52.vF:Value:=.type "function"
noncomputable def K52.vT:Value:=.bool true
noncomputable def K52.i0:Value:=.int 0 0
noncomputable def K52.i3:Value:=.int 3 0
noncomputable def K52.i1:Value:=.int 181 0
noncomputable def K52.cP (k:Nat):Value:=.str (Str.ofString "/claim/cut.py") k
noncomputable def K52.oT (x:Array Value):Obj:=Obj.mk (Value.type "tuple") none (Data.seq x) #[]
noncomputable def K52.oC (x:Array Value):Obj:=Obj.mk (Value.type "code") none (Data.fields x) #[]
noncomputable def K52.oF (c:Value) (x y:String) (s:Stmt) (k:Nat) (pm cd:Value):Obj:=Obj.mk c none (Data.func (FuncData.mk (Str.ofString x) (Str.ofString y) (L2.defArgs s) (.stmts (L2.defBody s)) (L2.defScope s) k [] Value.none Value.none Value.none pm none cd Value.none 0)) #[]
open K52
noncomputable def K52.oE:Obj:={ cls:=vN,data:=Data.fields #[] }
noncomputable def K52.x3 (P:Params):Obj:=Obj.mk (Value.type "dict") none (Data.dict #[hE P "__name__" 165 (2:),hE P "__doc__" 166 vN,hE P "__package__" 167 vN,hE P "__loader__" 168 (Value.builtin "__main__.__loader__#opaque"),hE P "__spec__" 169 vN,hE P "__annotations__" 170 (vR 6),hE P "__builtins__" 171 (vR 4),hE P "__file__" 173 (cP 172),hE P "__cached__" 174 vN,hE P "is_call" 195 (vR 21),hE P "calls_of" 204 (vR 28),hE P "keeps_mark" 210 (vR 33),hE P "terms_in" 216 (vR 38),hE P "rules_in" 222 (vR 43),hE P "on_branch" 228 (vR 48),hE P "with_parts" 236 (vR 55),hE P "TurnError" 256 (vR 65),hE P "OtherWood" 272 (vR 78),hE P "calls_fit" 280 (vR 85),hE P "call_fits" 290 (vR 92),hE P "need_one_wood" 298 (vR 99),hE P "is_paper" 306 (vR 104),hE P "term_fits" 315 (vR 111),hE P "has_terms" 321 (vR 116),hE P "rules_have_terms" 327 (vR 121),hE P "rules_agree" 333 (vR 126),hE P "rules_for" 339 (vR 131),hE P "_law_cell_at" 349 (vR 138),hE P "_law_stream" 360 (vR 145),hE P "_law_names" 376 (vR 152),hE P "_law_wood" 393 (vR 159),hE P "_law_rows" 403 (vR 166),hE P "_law_calls" 414 (vR 173),hE P "_law_term" 420 (vR 178),hE P "_law_unkept" 426 (vR 183),hE P "_law_turning" 432 (vR 188),hE P "_law_again" 438 (vR 193),hE P "_law_renamed" 444 (vR 198),hE P "_law_turned_about" 450 (vR 203),hE P "_law_doubled" 456 (vR 208),hE P "_law_ruled" 462 (vR 213),hE P "_law_held_back" 468 (vR 218),hE P "_law_size" 474 (vR 223),hE P "_law_many" 480 (vR 228),hE P "_law_with_paper" 486 (vR 233),hE P "_law_other_rule" 492 (vR 238),hE P "_law_tree" 498 (vR 243),hE P "_law_put" 504 (vR 248),hE P "_law_by" 510 (vR 253),hE P "_law_outcome" 518 (vR 260),hE P "_law_some_rule" 524 (vR 265),hE P "law" 541 (vR 272)] 52) #[]
noncomputable def K52.x20 (P:Params):Obj:=oC #[vS "is_call" 189,vS "is_call" 190,cP 191,vI 2 0,vI 1 0,i0,i0,i3,vR 15,vT,i1,vR 16,vN,vR 17,vR 18,vR 19,vI 193 0,vI 2 0,cP 194]
noncomputable def K52.x21 (P:Params):Obj:=oF vF "is_call" "is_call" (top 1) 3 (45:) (vR 20)
noncomputable def K52.x24 (P:Params):Obj:=oT #[vS "term" 199,vS "told" 200,vS "part" 201]
noncomputable def K52.x27 (P:Params):Obj:=oC #[vS "calls_of" 196,vS "calls_of" 197,cP 198,vI 4 0,vI 1 0,i0,i0,i3,vR 22,vT,i1,vR 23,vN,vR 24,vR 25,vR 26,vI 202 0,vI 4 0,cP 203]
noncomputable def K52.x28 (P:Params):Obj:=oF vF "calls_of" "calls_of" (top 2) 3 (45:) (vR 27)
noncomputable def K52.x32 (P:Params):Obj:=oC #[vS "keeps_mark" 205,vS "keeps_mark" 206,cP 207,vI 11 0,vI 1 0,i0,i0,i3,vR 29,vT,i1,vR 30,vN,vN,vN,vR 31,vI 208 0,vI 11 0,cP 209]
noncomputable def K52.x33 (P:Params):Obj:=oF vF "keeps_mark" "keeps_mark" (top 3) 3 (45:) (vR 32)
noncomputable def K52.x37 (P:Params):Obj:=oC #[vS "terms_in" 211,vS "terms_in" 212,cP 213,vI 15 0,vI 2 0,i0,i0,i3,vR 34,vT,i1,vR 35,vN,vN,vN,vR 36,vI 214 0,vI 15 0,cP 215]
noncomputable def K52.x38 (P:Params):Obj:=oF vF "terms_in" "terms_in" (top 4) 3 (45:) (vR 37)
noncomputable def K52.x42 (P:Params):Obj:=oC #[vS "rules_in" 217,vS "rules_in" 218,cP 219,vI 19 0,vI 2 0,i0,i0,i3,vR 39,vT,i1,vR 40,vN,vN,vN,vR 41,vI 220 0,vI 19 0,cP 221]
noncomputable def K52.x43 (P:Params):Obj:=oF vF "rules_in" "rules_in" (top 5) 3 (45:) (vR 42)
noncomputable def K52.x47 (P:Params):Obj:=oC #[vS "on_branch" 223,vS "on_branch" 224,cP 225,vI 23 0,vI 2 0,i0,i0,i3,vR 44,vT,i1,vR 45,vN,vN,vN,vR 46,vI 226 0,vI 23 0,cP 227]
noncomputable def K52.x48 (P:Params):Obj:=oF vF "on_branch" "on_branch" (top 6) 3 (45:) (vR 47)
noncomputable def K52.x54 (P:Params):Obj:=oC #[vS "with_parts" 229,vS "with_parts" 230,cP 231,vI 27 0,vI 2 0,i0,i0,i3,vR 49,vT,i1,vR 50,vN,vR 51,vR 52,vR 53,vI 234 0,vI 27 0,cP 235]
noncomputable def K52.x55 (P:Params):Obj:=oF vF "with_parts" "with_parts" (top 7) 3 (45:) (vR 54)
noncomputable def K52.x64 (P:Params):Obj:=Obj.mk (Value.type "dict") none (Data.dict #[hE P "__module__" 246 (vS "turnery.errors" 237),hE P "__firstlineno__" 250 (vI 30 249),hE P "__static_attributes__" 251 (vR 63),hE P "__weakref__" 253 (vR 66),hE P "__doc__" 254 vN] 3) #[]
noncomputable def K52.x65 (P:Params):Obj:=Obj.mk (Value.type "type") none (Data.cls (ClassData.mk (Str.ofString "TurnError") [Value.type "ValueError"] [vR 65,Value.type "ValueError", Value.type "Exception", Value.type "BaseException", Value.type "object"] 64 (Str.ofString "TurnError") true [] [vR 78] false none false)) #[some (vR 56),none,some (vS "TurnError" 239),some (vS "TurnError" 247),some (Value.builtin "ValueError.__new__"),some (Value.bool true)]
noncomputable def K52.x66 (P:Params):Obj:=Obj.mk (Value.type "getset_descriptor") none (Data.fields #[vS "__weakref__" 252,vR 65,Value.builtin "ExceptionGroup.__weakref__", vN]) #[]
noncomputable def K52.x77 (P:Params):Obj:=Obj.mk (Value.type "dict") none (Data.dict #[hE P "__module__" 264 (vS "turnery.errors" 237),hE P "__firstlineno__" 268 (vI 32 267),hE P "__static_attributes__" 269 (vR 76),hE P "__doc__" 270 vN] 2) #[]
noncomputable def K52.x78 (P:Params):Obj:=Obj.mk (Value.type "type") none (Data.cls (ClassData.mk (Str.ofString "OtherWood") [vR 65] [vR 78,vR 65,Value.type "ValueError", Value.type "Exception", Value.type "BaseException", Value.type "object"] 77 (Str.ofString "OtherWood") true [] [] false none false)) #[some (vR 69),none,some (vS "OtherWood" 257),some (vS "OtherWood" 265),some (Value.builtin "ValueError.__new__"),some (Value.bool true)]
noncomputable def K52.x84 (P:Params):Obj:=oC #[vS "calls_fit" 275,vS "calls_fit" 276,cP 277,vI 35 0,vI 3 0,i0,i0,i3,vR 81,vT,i1,vR 82,vN,vN,vN,vR 83,vI 278 0,vI 35 0,cP 279]
noncomputable def K52.x85 (P:Params):Obj:=oF vF "calls_fit" "calls_fit" (top 12) 3 (vS "turnery.turnings" 273) (vR 84)
noncomputable def K52.x88 (P:Params):Obj:=oT #[vS "modes" 284,vS "mode" 285,vS "branch" 286,vS "kinds" 287]
noncomputable def K52.x91 (P:Params):Obj:=oC #[vS "call_fits" 281,vS "call_fits" 282,cP 283,vI 37 0,vI 4 0,i0,i0,i3,vR 86,vT,i1,vR 87,vN,vR 88,vR 89,vR 90,vI 288 0,vI 37 0,cP 289]
noncomputable def K52.x92 (P:Params):Obj:=oF vF "call_fits" "call_fits" (top 13) 3 (vS "turnery.turnings" 273) (vR 91)
noncomputable def K52.x98 (P:Params):Obj:=oC #[vS "need_one_wood" 291,vS "need_one_wood" 292,cP 293,vI 41 0,vI 2 0,i0,i0,i3,vR 93,vT,i1,vR 94,vN,vR 95,vR 96,vR 97,vI 296 0,vI 41 0,cP 297]
noncomputable def K52.x99 (P:Params):Obj:=oF vF "need_one_wood" "need_one_wood" (top 14) 3 (vS "turnery.turnings" 273) (vR 98)
noncomputable def K52.x103 (P:Params):Obj:=oC #[vS "is_paper" 301,vS "is_paper" 302,cP 303,vI 45 0,vI 3 0,i0,i0,i3,vR 100,vT,i1,vR 101,vN,vN,vN,vR 102,vI 304 0,vI 45 0,cP 305]
noncomputable def K52.x104 (P:Params):Obj:=oF vF "is_paper" "is_paper" (top 16) 3 (56:) (vR 103)
noncomputable def K52.x107 (P:Params):Obj:=oT #[vS "kind" 310,vS "term" 311,vS "other" 312]
noncomputable def K52.x110 (P:Params):Obj:=oC #[vS "term_fits" 307,vS "term_fits" 308,cP 309,vI 55 0,vI 3 0,i0,i0,i3,vR 105,vT,i1,vR 106,vN,vR 107,vR 108,vR 109,vI 313 0,vI 55 0,cP 314]
noncomputable def K52.x111 (P:Params):Obj:=oF vF "term_fits" "term_fits" (top 17) 3 (56:) (vR 110)
noncomputable def K52.x115 (P:Params):Obj:=oC #[vS "has_terms" 316,vS "has_terms" 317,cP 318,vI 57 0,vI 2 0,i0,i0,i3,vR 112,vT,i1,vR 113,vN,vN,vN,vR 114,vI 319 0,vI 57 0,cP 320]
noncomputable def K52.x116 (P:Params):Obj:=oF vF "has_terms" "has_terms" (top 18) 3 (56:) (vR 115)
noncomputable def K52.x120 (P:Params):Obj:=oC #[vS "rules_have_terms" 322,vS "rules_have_terms" 323,cP 324,vI 59 0,vI 2 0,i0,i0,i3,vR 117,vT,i1,vR 118,vN,vN,vN,vR 119,vI 325 0,vI 59 0,cP 326]
noncomputable def K52.x121 (P:Params):Obj:=oF vF "rules_have_terms" "rules_have_terms" (top 19) 3 (56:) (vR 120)
noncomputable def K52.x125 (P:Params):Obj:=oC #[vS "rules_agree" 328,vS "rules_agree" 329,cP 330,vI 61 0,vI 4 0,i0,i0,i3,vR 122,vT,i1,vR 123,vN,vN,vN,vR 124,vI 331 0,vI 61 0,cP 332]
noncomputable def K52.x126 (P:Params):Obj:=oF vF "rules_agree" "rules_agree" (top 20) 3 (56:) (vR 125)
noncomputable def K52.x130 (P:Params):Obj:=oC #[vS "rules_for" 334,vS "rules_for" 335,cP 336,vI 63 0,vI 3 0,i0,i0,i3,vR 127,vT,i1,vR 128,vN,vN,vN,vR 129,vI 337 0,vI 63 0,cP 338]
noncomputable def K52.x131 (P:Params):Obj:=oF vF "rules_for" "rules_for" (top 21) 3 (56:) (vR 130)
noncomputable def K52.x134 (P:Params):Obj:=oT #[vS "_law_script" 345,vS "_law_k" 346]
noncomputable def K52.x137 (P:Params):Obj:=oC #[vS "_law_cell_at" 342,vS "_law_cell_at" 343,cP 344,vI 66 0,vI 2 0,i0,i0,i3,vR 132,vT,i1,vR 133,vN,vR 134,vR 135,vR 136,vI 347 0,vI 66 0,cP 348]
noncomputable def K52.x138 (P:Params):Obj:=oF vF "_law_cell_at" "_law_cell_at" (top 23) 3 (2:) (vR 137)
noncomputable def K52.x141 (P:Params):Obj:=oT #[vS "_law_cell" 353,vS "_law_count" 354,vS "_law_found" 355,vS "_law_x" 356,vS "_law_k" 357]
noncomputable def K52.x144 (P:Params):Obj:=oC #[vS "_law_stream" 350,vS "_law_stream" 351,cP 352,vI 70 0,vI 2 0,i0,i0,i3,vR 139,vT,i1,vR 140,vN,vR 141,vR 142,vR 143,vI 358 0,vI 70 0,cP 359]
noncomputable def K52.x145 (P:Params):Obj:=oF vF "_law_stream" "_law_stream" (top 24) 3 (2:) (vR 144)
noncomputable def K52.x148 (P:Params):Obj:=oT #[vS "_law_cell" 364,vS "_law_count" 365,vS "_law_letters" 366,vS "_law_long" 367,vS "_law_spot" 368,vS "_law_found" 369,vS "_law_k" 370,vS "_law_name" 371,vS "_law_j" 372,vS "_law_step" 373]
noncomputable def K52.x151 (P:Params):Obj:=oC #[vS "_law_names" 361,vS "_law_names" 362,cP 363,vI 77 0,vI 2 0,i0,i0,i3,vR 146,vT,i1,vR 147,vN,vR 148,vR 149,vR 150,vI 374 0,vI 77 0,cP 375]
noncomputable def K52.x152 (P:Params):Obj:=oF vF "_law_names" "_law_names" (top 25) 3 (2:) (vR 151)
noncomputable def K52.x155 (P:Params):Obj:=oT #[vS "_law_script" 380,vS "_law_names_here" 381,vS "_law_xs" 382,vS "_law_kinds" 383,vS "_law_wood_here" 384,vS "_law_kind" 385,vS "_law_first" 386,vS "_law_rows_here" 387,vS "_law_k" 388,vS "_law_branches" 389,vS "_law_j" 390]
noncomputable def K52.x158 (P:Params):Obj:=oC #[vS "_law_wood" 377,vS "_law_wood" 378,cP 379,vI 91 0,vI 1 0,i0,i0,i3,vR 153,vT,i1,vR 154,vN,vR 155,vR 156,vR 157,vI 391 0,vI 91 0,cP 392]
noncomputable def K52.x159 (P:Params):Obj:=oF vF "_law_wood" "_law_wood" (top 26) 3 (2:) (vR 158)
noncomputable def K52.x162 (P:Params):Obj:=oT #[vS "_law_wood_here" 397,vS "_law_kind" 398,vS "_law_told" 399,vS "_law_rows_here" 400]
noncomputable def K52.x165 (P:Params):Obj:=oC #[vS "_law_rows" 394,vS "_law_rows" 395,cP 396,vI 106 0,vI 2 0,i0,i0,i3,vR 160,vT,i1,vR 161,vN,vR 162,vR 163,vR 164,vI 401 0,vI 106 0,cP 402]
noncomputable def K52.x166 (P:Params):Obj:=oF vF "_law_rows" "_law_rows" (top 27) 3 (2:) (vR 165)
noncomputable def K52.x169 (P:Params):Obj:=oT #[vS "_law_branches" 407,vS "_law_kinds" 408,vS "_law_found" 409,vS "_law_j" 410,vS "_law_k" 411]
noncomputable def K52.x172 (P:Params):Obj:=oC #[vS "_law_calls" 404,vS "_law_calls" 405,cP 406,vI 111 0,vI 2 0,i0,i0,i3,vR 167,vT,i1,vR 168,vN,vR 169,vR 170,vR 171,vI 412 0,vI 111 0,cP 413]
noncomputable def K52.x173 (P:Params):Obj:=oF vF "_law_calls" "_law_calls" (top 28) 3 (2:) (vR 172)
noncomputable def K52.x177 (P:Params):Obj:=oC #[vS "_law_term" 415,vS "_law_term" 416,cP 417,vI 118 0,vI 5 0,i0,i0,i3,vR 174,vT,i1,vR 175,vN,vN,vN,vR 176,vI 418 0,vI 118 0,cP 419]
noncomputable def K52.x178 (P:Params):Obj:=oF vF "_law_term" "_law_term" (top 29) 3 (2:) (vR 177)
noncomputable def K52.x182 (P:Params):Obj:=oC #[vS "_law_unkept" 421,vS "_law_unkept" 422,cP 423,vI 127 0,vI 1 0,i0,i0,i3,vR 179,vT,i1,vR 180,vN,vN,vN,vR 181,vI 424 0,vI 127 0,cP 425]
noncomputable def K52.x183 (P:Params):Obj:=oF vF "_law_unkept" "_law_unkept" (top 30) 3 (2:) (vR 182)
noncomputable def K52.x187 (P:Params):Obj:=oC #[vS "_law_turning" 427,vS "_law_turning" 428,cP 429,vI 131 0,vI 2 0,i0,i0,i3,vR 184,vT,i1,vR 185,vN,vN,vN,vR 186,vI 430 0,vI 131 0,cP 431]
noncomputable def K52.x188 (P:Params):Obj:=oF vF "_law_turning" "_law_turning" (top 31) 3 (2:) (vR 187)
noncomputable def K52.x192 (P:Params):Obj:=oC #[vS "_law_again" 433,vS "_law_again" 434,cP 435,vI 149 0,vI 1 0,i0,i0,i3,vR 189,vT,i1,vR 190,vN,vN,vN,vR 191,vI 436 0,vI 149 0,cP 437]
noncomputable def K52.x193 (P:Params):Obj:=oF vF "_law_again" "_law_again" (top 32) 3 (2:) (vR 192)
noncomputable def K52.x197 (P:Params):Obj:=oC #[vS "_law_renamed" 439,vS "_law_renamed" 440,cP 441,vI 152 0,vI 2 0,i0,i0,i3,vR 194,vT,i1,vR 195,vN,vN,vN,vR 196,vI 442 0,vI 152 0,cP 443]
noncomputable def K52.x198 (P:Params):Obj:=oF vF "_law_renamed" "_law_renamed" (top 33) 3 (2:) (vR 197)
noncomputable def K52.x202 (P:Params):Obj:=oC #[vS "_law_turned_about" 445,vS "_law_turned_about" 446,cP 447,vI 156 0,vI 2 0,i0,i0,i3,vR 199,vT,i1,vR 200,vN,vN,vN,vR 201,vI 448 0,vI 156 0,cP 449]
noncomputable def K52.x203 (P:Params):Obj:=oF vF "_law_turned_about" "_law_turned_about" (top 34) 3 (2:) (vR 202)
noncomputable def K52.x207 (P:Params):Obj:=oC #[vS "_law_doubled" 451,vS "_law_doubled" 452,cP 453,vI 164 0,vI 3 0,i0,i0,i3,vR 204,vT,i1,vR 205,vN,vN,vN,vR 206,vI 454 0,vI 164 0,cP 455]
noncomputable def K52.x208 (P:Params):Obj:=oF vF "_law_doubled" "_law_doubled" (top 35) 3 (2:) (vR 207)
noncomputable def K52.x212 (P:Params):Obj:=oC #[vS "_law_ruled" 457,vS "_law_ruled" 458,cP 459,vI 174 0,vI 3 0,i0,i0,i3,vR 209,vT,i1,vR 210,vN,vN,vN,vR 211,vI 460 0,vI 174 0,cP 461]
noncomputable def K52.x213 (P:Params):Obj:=oF vF "_law_ruled" "_law_ruled" (top 36) 3 (2:) (vR 212)
noncomputable def K52.x217 (P:Params):Obj:=oC #[vS "_law_held_back" 463,vS "_law_held_back" 464,cP 465,vI 178 0,vI 1 0,i0,i0,i3,vR 214,vT,i1,vR 215,vN,vN,vN,vR 216,vI 466 0,vI 178 0,cP 467]
noncomputable def K52.x218 (P:Params):Obj:=oF vF "_law_held_back" "_law_held_back" (top 37) 3 (2:) (vR 217)
noncomputable def K52.x222 (P:Params):Obj:=oC #[vS "_law_size" 469,vS "_law_size" 470,cP 471,vI 182 0,vI 1 0,i0,i0,i3,vR 219,vT,i1,vR 220,vN,vN,vN,vR 221,vI 472 0,vI 182 0,cP 473]
noncomputable def K52.x223 (P:Params):Obj:=oF vF "_law_size" "_law_size" (top 38) 3 (2:) (vR 222)
noncomputable def K52.x227 (P:Params):Obj:=oC #[vS "_law_many" 475,vS "_law_many" 476,cP 477,vI 186 0,vI 1 0,i0,i0,i3,vR 224,vT,i1,vR 225,vN,vN,vN,vR 226,vI 478 0,vI 186 0,cP 479]
noncomputable def K52.x228 (P:Params):Obj:=oF vF "_law_many" "_law_many" (top 39) 3 (2:) (vR 227)
noncomputable def K52.x232 (P:Params):Obj:=oC #[vS "_law_with_paper" 481,vS "_law_with_paper" 482,cP 483,vI 188 0,vI 2 0,i0,i0,i3,vR 229,vT,i1,vR 230,vN,vN,vN,vR 231,vI 484 0,vI 188 0,cP 485]
noncomputable def K52.x233 (P:Params):Obj:=oF vF "_law_with_paper" "_law_with_paper" (top 40) 3 (2:) (vR 232)
noncomputable def K52.x237 (P:Params):Obj:=oC #[vS "_law_other_rule" 487,vS "_law_other_rule" 488,cP 489,vI 199 0,vI 4 0,i0,i0,i3,vR 234,vT,i1,vR 235,vN,vN,vN,vR 236,vI 490 0,vI 199 0,cP 491]
noncomputable def K52.x238 (P:Params):Obj:=oF vF "_law_other_rule" "_law_other_rule" (top 41) 3 (2:) (vR 237)
noncomputable def K52.x242 (P:Params):Obj:=oC #[vS "_law_tree" 493,vS "_law_tree" 494,cP 495,vI 203 0,vI 4 0,i0,i0,i3,vR 239,vT,i1,vR 240,vN,vN,vN,vR 241,vI 496 0,vI 203 0,cP 497]
noncomputable def K52.x243 (P:Params):Obj:=oF vF "_law_tree" "_law_tree" (top 42) 3 (2:) (vR 242)
noncomputable def K52.x247 (P:Params):Obj:=oC #[vS "_law_put" 499,vS "_law_put" 500,cP 501,vI 213 0,vI 4 0,i0,i0,i3,vR 244,vT,i1,vR 245,vN,vN,vN,vR 246,vI 502 0,vI 213 0,cP 503]
noncomputable def K52.x248 (P:Params):Obj:=oF vF "_law_put" "_law_put" (top 43) 3 (2:) (vR 247)
noncomputable def K52.x252 (P:Params):Obj:=oC #[vS "_law_by" 505,vS "_law_by" 506,cP 507,vI 220 0,vI 3 0,i0,i0,i3,vR 249,vT,i1,vR 250,vN,vN,vN,vR 251,vI 508 0,vI 220 0,cP 509]
noncomputable def K52.x253 (P:Params):Obj:=oF vF "_law_by" "_law_by" (top 44) 3 (2:) (vR 252)
noncomputable def K52.x256 (P:Params):Obj:=oT #[vS "_law_turning_here" 514,vS "_law_tree_here" 515]
noncomputable def K52.x259 (P:Params):Obj:=oC #[vS "_law_outcome" 511,vS "_law_outcome" 512,cP 513,vI 224 0,vI 2 0,i0,i0,i3,vR 254,vT,i1,vR 255,vN,vR 256,vR 257,vR 258,vI 516 0,vI 224 0,cP 517]
noncomputable def K52.x260 (P:Params):Obj:=oF vF "_law_outcome" "_law_outcome" (top 45) 3 (2:) (vR 259)
noncomputable def K52.x264 (P:Params):Obj:=oC #[vS "_law_some_rule" 519,vS "_law_some_rule" 520,cP 521,vI 226 0,vI 4 0,i0,i0,i3,vR 261,vT,i1,vR 262,vN,vN,vN,vR 263,vI 522 0,vI 226 0,cP 523]
noncomputable def K52.x265 (P:Params):Obj:=oF vF "_law_some_rule" "_law_some_rule" (top 46) 3 (2:) (vR 264)
noncomputable def K52.x268 (P:Params):Obj:=oT #[vS "_law_script" 528,vS "_law_wood_here" 529,vS "_law_other" 530,vS "_law_xs" 531,vS "_law_one" 532,vS "_law_terms" 533,vS "_law_way" 534,vS "_law_mode" 535,vS "_law_row" 536,vS "_law_tree_here" 537,vS "_law_found" 538]
noncomputable def K52.x271 (P:Params):Obj:=oC #[vS "law" 525,vS "law" 526,cP 527,vI 232 0,vI 1 0,i0,i0,i3,vR 266,vT,i1,vR 267,vN,vR 268,vR 269,vR 270,vI 539 0,vI 232 0,cP 540]
noncomputable def K52.x272 (P:Params):Obj:=oF vF "law" "law" (top 47) 3 (2:) (vR 271)
noncomputable def K52.hp:Params→PySem.W.Frag:=fun P=>[(2,Obj.mk vN none (Data.dict #[]) #[]),(3,x3 P),(15,oT #[]),(17,oT #[vS "term" 192]),(18,oT #[]),(20,x20 P),(21,x21 P),(22,oT #[]),(24,x24 P),(25,oT #[]),(27,x27 P),(28,x28 P),(29,oT #[]),(32,x32 P),(33,x33 P),(34,oT #[]),(37,x37 P),(38,x38 P),(39,oT #[]),(42,x42 P),(43,x43 P),(44,oT #[]),(47,x47 P),(48,x48 P),(49,oT #[]),(51,oT #[vS "term" 232,vS "parts" 233]),(52,oT #[]),(54,x54 P),(55,x55 P),(56,oT #[Value.type "ValueError"]),(63,oT #[]),(64,x64 P),(65,x65 P),(66,x66 P),(69,oT #[vR 65]),(76,oT #[]),(77,x77 P),(78,x78 P),(81,oT #[]),(84,x84 P),(85,x85 P),(86,oT #[]),(88,x88 P),(89,oT #[]),(91,x91 P),(92,x92 P),(93,oT #[]),(95,oT #[vS "one" 294,vS "other" 295]),(96,oT #[]),(98,x98 P),(99,x99 P),(100,oT #[]),(103,x103 P),(104,x104 P),(105,oT #[]),(107,x107 P),(108,oT #[]),(110,x110 P),(111,x111 P),(112,oT #[]),(115,x115 P),(116,x116 P),(117,oT #[]),(120,x120 P),(121,x121 P),(122,oT #[]),(125,x125 P),(126,x126 P),(127,oT #[]),(130,x130 P),(131,x131 P),(132,oT #[]),(134,x134 P),(135,oT #[]),(137,x137 P),(138,x138 P),(139,oT #[]),(141,x141 P),(142,oT #[]),(144,x144 P),(145,x145 P),(146,oT #[]),(148,x148 P),(149,oT #[]),(151,x151 P),(152,x152 P),(153,oT #[]),(155,x155 P),(156,oT #[]),(158,x158 P),(159,x159 P),(160,oT #[]),(162,x162 P),(163,oT #[]),(165,x165 P),(166,x166 P),(167,oT #[]),(169,x169 P),(170,oT #[]),(172,x172 P),(173,x173 P),(174,oT #[]),(177,x177 P),(178,x178 P),(179,oT #[]),(182,x182 P),(183,x183 P),(184,oT #[]),(187,x187 P),(188,x188 P),(189,oT #[]),(192,x192 P),(193,x193 P),(194,oT #[]),(197,x197 P),(198,x198 P),(199,oT #[]),(202,x202 P),(203,x203 P),(204,oT #[]),(207,x207 P),(208,x208 P),(209,oT #[]),(212,x212 P),(213,x213 P),(214,oT #[]),(217,x217 P),(218,x218 P),(219,oT #[]),(222,x222 P),(223,x223 P),(224,oT #[]),(227,x227 P),(228,x228 P),(229,oT #[]),(232,x232 P),(233,x233 P),(234,oT #[]),(237,x237 P),(238,x238 P),(239,oT #[]),(242,x242 P),(243,x243 P),(244,oT #[]),(247,x247 P),(248,x248 P),(249,oT #[]),(252,x252 P),(253,x253 P),(254,oT #[]),(256,x256 P),(257,oT #[]),(259,x259 P),(260,x260 P),(261,oT #[]),(264,x264 P),(265,x265 P),(266,oT #[]),(268,x268 P),(269,oT #[]),(271,x271 P),(272,x272 P)]
end
noncomputable def PySem.W.Fast.tw1136049770892764873:PySem.Params→PySem.W.Frag:=K52.hp
theorem PySem.W.Fast.te1136049770892764873:K52.hp=PySem.W.Fast.tw1136049770892764873:=rfl
namespace PySem.W.Fast
open PySem K52
noncomputable def tw9113271615426680313:Params→Obj:=fun P=>oF vN "_law_cell_at" "_law_cell_at" (top 23) 0 vN vN
theorem te9113271615426680313:tw9113271615426680313=tw9113271615426680313:=rfl
noncomputable def tw6803987217306799025:Params→Obj:=fun P=>oF vF "on_branch" "on_branch" (top 6) 3 (45:) (vR 47)
theorem te6803987217306799025:tw6803987217306799025=tw6803987217306799025:=rfl
noncomputable def tw79250676773463118:Params→Obj:=fun P=>oF vF "is_paper" "is_paper" (top 16) 3 (56:) (vR 103)
theorem te79250676773463118:tw79250676773463118=tw79250676773463118:=rfl
noncomputable def tw9800080682749559639:Params→Obj:=fun P=>oF vF "keeps_mark" "keeps_mark" (top 3) 3 (45:) (vR 32)
theorem te9800080682749559639:tw9800080682749559639=tw9800080682749559639:=rfl
noncomputable def tw16548106731322986699:Params→Obj:=fun P=>oF vF "need_one_wood" "need_one_wood" (top 14) 3 (vS "turnery.turnings" 273) (vR 98)
theorem te16548106731322986699:tw16548106731322986699=tw16548106731322986699:=rfl
noncomputable def tw13276687102826864725:Params→Obj:=fun P=>oF vN "_law_turned_about" "_law_turned_about" (top 34) 0 vN vN
theorem te13276687102826864725:tw13276687102826864725=tw13276687102826864725:=rfl
noncomputable def tw7617600766365984583:Params→Obj:=fun P=>oF vF "rules_for" "rules_for" (top 21) 3 (56:) (vR 130)
theorem te7617600766365984583:tw7617600766365984583=tw7617600766365984583:=rfl
noncomputable def tw5058030168059152193:Params→Obj:=fun P=>oF vN "_law_some_rule" "_law_some_rule" (top 46) 0 vN vN
theorem te5058030168059152193:tw5058030168059152193=tw5058030168059152193:=rfl
noncomputable def tw13209630382613903021:Params→Obj:=fun P=>oF vN "_law_many" "_law_many" (top 39) 0 vN vN
theorem te13209630382613903021:tw13209630382613903021=tw13209630382613903021:=rfl
noncomputable def tw6984670769328586108:Params→Obj:=fun P=>oF vN "_law_unkept" "_law_unkept" (top 30) 0 vN vN
theorem te6984670769328586108:tw6984670769328586108=tw6984670769328586108:=rfl
noncomputable def tw2064312020839152642:Params→Obj:=fun P=>oF vN "_law_wood" "_law_wood" (top 26) 0 vN vN
theorem te2064312020839152642:tw2064312020839152642=tw2064312020839152642:=rfl
noncomputable def tw3187638982895347049:Params→Obj:=fun P=>oF vN "_law_put" "_law_put" (top 43) 0 vN vN
theorem te3187638982895347049:tw3187638982895347049=tw3187638982895347049:=rfl
noncomputable def tw6100975151215213908:Params→Obj:=fun P=>oF vN "_law_renamed" "_law_renamed" (top 33) 0 vN vN
theorem te6100975151215213908:tw6100975151215213908=tw6100975151215213908:=rfl
noncomputable def tw12927458701670250499:Params→Obj:=fun P=>oF vN "_law_size" "_law_size" (top 38) 0 vN vN
theorem te12927458701670250499:tw12927458701670250499=tw12927458701670250499:=rfl
noncomputable def tw3825436978359056061:Params→Obj:=fun P=>oF vF "_law_turned_about" "_law_turned_about" (top 34) 3 (2:) (vR 202)
theorem te3825436978359056061:tw3825436978359056061=tw3825436978359056061:=rfl
noncomputable def tw17370927145568081535:Params→Obj:=fun P=>oF vF "_law_rows" "_law_rows" (top 27) 3 (2:) (vR 165)
theorem te17370927145568081535:tw17370927145568081535=tw17370927145568081535:=rfl
noncomputable def tw6463292339889783061:Params→Obj:=fun P=>oF vF "_law_unkept" "_law_unkept" (top 30) 3 (2:) (vR 182)
theorem te6463292339889783061:tw6463292339889783061=tw6463292339889783061:=rfl
noncomputable def tw17487812260559406118:Params→Obj:=fun P=>oF vF "_law_with_paper" "_law_with_paper" (top 40) 3 (2:) (vR 232)
theorem te17487812260559406118:tw17487812260559406118=tw17487812260559406118:=rfl
noncomputable def tw15112025788184988889:Params→Obj:=fun P=>oF vF "_law_turning" "_law_turning" (top 31) 3 (2:) (vR 187)
theorem te15112025788184988889:tw15112025788184988889=tw15112025788184988889:=rfl
noncomputable def tw9193229083993264234:Params→Obj:=fun P=>oF vN "on_branch" "on_branch" (top 6) 0 vN vN
theorem te9193229083993264234:tw9193229083993264234=tw9193229083993264234:=rfl
noncomputable def tw3253606781669300440:Params→Obj:=fun P=>oF vN "law" "law" (top 47) 0 vN vN
theorem te3253606781669300440:tw3253606781669300440=tw3253606781669300440:=rfl
noncomputable def tw9718331115351293340:Params→Obj:=fun P=>oF vF "_law_some_rule" "_law_some_rule" (top 46) 3 (2:) (vR 264)
theorem te9718331115351293340:tw9718331115351293340=tw9718331115351293340:=rfl
noncomputable def tw5556460956032564889:Params→Obj:=fun P=>oF vF "_law_other_rule" "_law_other_rule" (top 41) 3 (2:) (vR 237)
theorem te5556460956032564889:tw5556460956032564889=tw5556460956032564889:=rfl
noncomputable def tw3138195056946562385:Params→Obj:=fun P=>oF vN "rules_have_terms" "rules_have_terms" (top 19) 0 vN vN
theorem te3138195056946562385:tw3138195056946562385=tw3138195056946562385:=rfl
noncomputable def tw10191802443335409951:Params→Obj:=fun P=>oF vN "has_terms" "has_terms" (top 18) 0 vN vN
theorem te10191802443335409951:tw10191802443335409951=tw10191802443335409951:=rfl
noncomputable def tw14956363560315456521:Params→Obj:=fun P=>oF vF "law" "law" (top 47) 3 (2:) (vR 271)
theorem te14956363560315456521:tw14956363560315456521=tw14956363560315456521:=rfl
noncomputable def tw3767191523992194176:Params→Obj:=fun P=>oF vF "_law_wood" "_law_wood" (top 26) 3 (2:) (vR 158)
theorem te3767191523992194176:tw3767191523992194176=tw3767191523992194176:=rfl
noncomputable def tw396528002542384134:Params→Obj:=fun P=>oF vF "_law_tree" "_law_tree" (top 42) 3 (2:) (vR 242)
theorem te396528002542384134:tw396528002542384134=tw396528002542384134:=rfl
noncomputable def tw13939875444547270484:Params→Obj:=fun P=>oF vN "_law_by" "_law_by" (top 44) 0 vN vN
theorem te13939875444547270484:tw13939875444547270484=tw13939875444547270484:=rfl
noncomputable def tw6597299526150635628:Params→Obj:=fun P=>oF vF "is_call" "is_call" (top 1) 3 (45:) (vR 20)
theorem te6597299526150635628:tw6597299526150635628=tw6597299526150635628:=rfl
noncomputable def tw11107199926922042964:Params→Obj:=fun P=>oF vN "need_one_wood" "need_one_wood" (top 14) 0 vN vN
theorem te11107199926922042964:tw11107199926922042964=tw11107199926922042964:=rfl
noncomputable def tw13019919710804300192:Params→Obj:=fun P=>oF vF "_law_outcome" "_law_outcome" (top 45) 3 (2:) (vR 259)
theorem te13019919710804300192:tw13019919710804300192=tw13019919710804300192:=rfl
noncomputable def tw9549568013391518746:Params→Obj:=fun P=>oF vF "rules_in" "rules_in" (top 5) 3 (45:) (vR 42)
theorem te9549568013391518746:tw9549568013391518746=tw9549568013391518746:=rfl
noncomputable def tw12545356231577685678:Params→Obj:=fun P=>oF vN "is_paper" "is_paper" (top 16) 0 vN vN
theorem te12545356231577685678:tw12545356231577685678=tw12545356231577685678:=rfl
noncomputable def tw5976376372292107623:Params→Obj:=fun P=>oF vN "_law_again" "_law_again" (top 32) 0 vN vN
theorem te5976376372292107623:tw5976376372292107623=tw5976376372292107623:=rfl
noncomputable def tw5295831125479926182:Params→Obj:=fun P=>oF vN "terms_in" "terms_in" (top 4) 0 vN vN
theorem te5295831125479926182:tw5295831125479926182=tw5295831125479926182:=rfl
noncomputable def tw4520970090524635874:Params→Obj:=fun P=>oF vF "_law_by" "_law_by" (top 44) 3 (2:) (vR 252)
theorem te4520970090524635874:tw4520970090524635874=tw4520970090524635874:=rfl
noncomputable def tw7599143003497573253:Params→Obj:=fun P=>oF vN "_law_tree" "_law_tree" (top 42) 0 vN vN
theorem te7599143003497573253:tw7599143003497573253=tw7599143003497573253:=rfl
noncomputable def tw13566170002366590651:Params→Obj:=fun P=>oF vN "calls_of" "calls_of" (top 2) 0 vN vN
theorem te13566170002366590651:tw13566170002366590651=tw13566170002366590651:=rfl
noncomputable def tw11522411331127766478:Params→Obj:=fun P=>oF vN "_law_outcome" "_law_outcome" (top 45) 0 vN vN
theorem te11522411331127766478:tw11522411331127766478=tw11522411331127766478:=rfl
noncomputable def tw2859121536976651615:Params→Obj:=fun P=>oF vN "_law_names" "_law_names" (top 25) 0 vN vN
theorem te2859121536976651615:tw2859121536976651615=tw2859121536976651615:=rfl
noncomputable def tw11565165676080350607:Params→Obj:=fun P=>oF vN "rules_in" "rules_in" (top 5) 0 vN vN
theorem te11565165676080350607:tw11565165676080350607=tw11565165676080350607:=rfl
noncomputable def tw4985196346383017966:Params→Obj:=fun P=>oF vN "_law_turning" "_law_turning" (top 31) 0 vN vN
theorem te4985196346383017966:tw4985196346383017966=tw4985196346383017966:=rfl
noncomputable def tw4652403358503279725:Params→Obj:=fun P=>oF vN "term_fits" "term_fits" (top 17) 0 vN vN
theorem te4652403358503279725:tw4652403358503279725=tw4652403358503279725:=rfl
noncomputable def tw11373977330912240818:Params→Obj:=fun P=>oF vN "_law_term" "_law_term" (top 29) 0 vN vN
theorem te11373977330912240818:tw11373977330912240818=tw11373977330912240818:=rfl
noncomputable def tw17150004979944335419:Params→Obj:=fun P=>oF vN "_law_held_back" "_law_held_back" (top 37) 0 vN vN
theorem te17150004979944335419:tw17150004979944335419=tw17150004979944335419:=rfl
noncomputable def tw8647764628312871538:Params→Obj:=fun P=>oF vF "rules_agree" "rules_agree" (top 20) 3 (56:) (vR 125)
theorem te8647764628312871538:tw8647764628312871538=tw8647764628312871538:=rfl
noncomputable def tw236146323467517780:Params→Obj:=fun P=>oF vF "term_fits" "term_fits" (top 17) 3 (56:) (vR 110)
theorem te236146323467517780:tw236146323467517780=tw236146323467517780:=rfl
noncomputable def tw11986166998899881066:Params→Obj:=fun P=>oF vF "rules_have_terms" "rules_have_terms" (top 19) 3 (56:) (vR 120)
theorem te11986166998899881066:tw11986166998899881066=tw11986166998899881066:=rfl
noncomputable def tw3946211271893076118:Params→Obj:=fun P=>oF vN "_law_with_paper" "_law_with_paper" (top 40) 0 vN vN
theorem te3946211271893076118:tw3946211271893076118=tw3946211271893076118:=rfl
noncomputable def tw10744317540235904648:Params→Obj:=fun P=>oF vF "has_terms" "has_terms" (top 18) 3 (56:) (vR 115)
theorem te10744317540235904648:tw10744317540235904648=tw10744317540235904648:=rfl
noncomputable def tw11261497155602254746:Params→Obj:=fun P=>oF vF "calls_of" "calls_of" (top 2) 3 (45:) (vR 27)
theorem te11261497155602254746:tw11261497155602254746=tw11261497155602254746:=rfl
noncomputable def tw17978733113890222495:Params→Obj:=fun P=>oF vF "_law_again" "_law_again" (top 32) 3 (2:) (vR 192)
theorem te17978733113890222495:tw17978733113890222495=tw17978733113890222495:=rfl
noncomputable def tw10661947394784415253:Params→Obj:=fun P=>oF vN "keeps_mark" "keeps_mark" (top 3) 0 vN vN
theorem te10661947394784415253:tw10661947394784415253=tw10661947394784415253:=rfl
noncomputable def tw12851346897826850938:Params→Obj:=fun P=>oF vN "_law_other_rule" "_law_other_rule" (top 41) 0 vN vN
theorem te12851346897826850938:tw12851346897826850938=tw12851346897826850938:=rfl
noncomputable def tw11815540404917795648:Params→Obj:=fun P=>oF vF "_law_cell_at" "_law_cell_at" (top 23) 3 (2:) (vR 137)
theorem te11815540404917795648:tw11815540404917795648=tw11815540404917795648:=rfl
noncomputable def tw9502153863679722147:Params→Obj:=fun P=>oF vN "rules_agree" "rules_agree" (top 20) 0 vN vN
theorem te9502153863679722147:tw9502153863679722147=tw9502153863679722147:=rfl
noncomputable def tw1958138621526918865:Params→Obj:=fun P=>oF vN "_law_ruled" "_law_ruled" (top 36) 0 vN vN
theorem te1958138621526918865:tw1958138621526918865=tw1958138621526918865:=rfl
noncomputable def tw16754712900393961129:Params→Obj:=fun P=>oF vF "_law_many" "_law_many" (top 39) 3 (2:) (vR 227)
theorem te16754712900393961129:tw16754712900393961129=tw16754712900393961129:=rfl
noncomputable def tw6891794085669744684:Params→Obj:=fun P=>oF vF "calls_fit" "calls_fit" (top 12) 3 (vS "turnery.turnings" 273) (vR 84)
theorem te6891794085669744684:tw6891794085669744684=tw6891794085669744684:=rfl
noncomputable def tw5956858798879850060:Params→Obj:=fun P=>oF vF "terms_in" "terms_in" (top 4) 3 (45:) (vR 37)
theorem te5956858798879850060:tw5956858798879850060=tw5956858798879850060:=rfl
noncomputable def tw17398269425126514214:Params→Obj:=fun P=>oF vF "call_fits" "call_fits" (top 13) 3 (vS "turnery.turnings" 273) (vR 91)
theorem te17398269425126514214:tw17398269425126514214=tw17398269425126514214:=rfl
noncomputable def tw15215432609777370701:Params→Obj:=fun P=>oF vF "_law_renamed" "_law_renamed" (top 33) 3 (2:) (vR 197)
theorem te15215432609777370701:tw15215432609777370701=tw15215432609777370701:=rfl
noncomputable def tw9668393437068181809:Params→Obj:=fun P=>oF vN "is_call" "is_call" (top 1) 0 vN vN
theorem te9668393437068181809:tw9668393437068181809=tw9668393437068181809:=rfl
noncomputable def tw16277041547233669213:Params→Obj:=fun P=>oF vF "with_parts" "with_parts" (top 7) 3 (45:) (vR 54)
theorem te16277041547233669213:tw16277041547233669213=tw16277041547233669213:=rfl
noncomputable def tw17971201332795645771:Params→Obj:=fun P=>oF vN "rules_for" "rules_for" (top 21) 0 vN vN
theorem te17971201332795645771:tw17971201332795645771=tw17971201332795645771:=rfl
noncomputable def tw9447536575079894535:Params→Obj:=fun P=>oF vF "_law_size" "_law_size" (top 38) 3 (2:) (vR 222)
theorem te9447536575079894535:tw9447536575079894535=tw9447536575079894535:=rfl
noncomputable def tw15450202495161846349:Params→Obj:=fun P=>oF vF "_law_doubled" "_law_doubled" (top 35) 3 (2:) (vR 207)
theorem te15450202495161846349:tw15450202495161846349=tw15450202495161846349:=rfl
noncomputable def tw411654105248887258:Params→Obj:=fun P=>oF vN "with_parts" "with_parts" (top 7) 0 vN vN
theorem te411654105248887258:tw411654105248887258=tw411654105248887258:=rfl
noncomputable def tw14974513018490871060:Params→Obj:=fun P=>oF vF "_law_held_back" "_law_held_back" (top 37) 3 (2:) (vR 217)
theorem te14974513018490871060:tw14974513018490871060=tw14974513018490871060:=rfl
noncomputable def tw1222219194138590602:Params→Obj:=fun P=>oF vF "_law_term" "_law_term" (top 29) 3 (2:) (vR 177)
theorem te1222219194138590602:tw1222219194138590602=tw1222219194138590602:=rfl
noncomputable def tw10307881079749198680:Params→Obj:=fun P=>oF vN "_law_calls" "_law_calls" (top 28) 0 vN vN
theorem te10307881079749198680:tw10307881079749198680=tw10307881079749198680:=rfl
noncomputable def tw16193876163742122175:Params→Obj:=fun P=>oF vN "_law_rows" "_law_rows" (top 27) 0 vN vN
theorem te16193876163742122175:tw16193876163742122175=tw16193876163742122175:=rfl
noncomputable def tw14861464582527878680:Params→Obj:=fun P=>oF vF "_law_put" "_law_put" (top 43) 3 (2:) (vR 247)
theorem te14861464582527878680:tw14861464582527878680=tw14861464582527878680:=rfl
noncomputable def tw11969803515169119090:Params→Obj:=fun P=>oF vF "_law_names" "_law_names" (top 25) 3 (2:) (vR 151)
theorem te11969803515169119090:tw11969803515169119090=tw11969803515169119090:=rfl
noncomputable def tw6749222574451575850:Params→Obj:=fun P=>oF vF "_law_calls" "_law_calls" (top 28) 3 (2:) (vR 172)
theorem te6749222574451575850:tw6749222574451575850=tw6749222574451575850:=rfl
noncomputable def tw2609221330456925667:Params→Obj:=fun P=>oF vN "_law_doubled" "_law_doubled" (top 35) 0 vN vN
theorem te2609221330456925667:tw2609221330456925667=tw2609221330456925667:=rfl
noncomputable def tw10480587384552255711:Params→Obj:=fun P=>oF vN "call_fits" "call_fits" (top 13) 0 vN vN
theorem te10480587384552255711:tw10480587384552255711=tw10480587384552255711:=rfl
noncomputable def tw17655722838942493900:Params→Obj:=fun P=>oF vN "calls_fit" "calls_fit" (top 12) 0 vN vN
theorem te17655722838942493900:tw17655722838942493900=tw17655722838942493900:=rfl
noncomputable def tw9147098903896877619:Params→Obj:=fun P=>oF vF "_law_stream" "_law_stream" (top 24) 3 (2:) (vR 144)
theorem te9147098903896877619:tw9147098903896877619=tw9147098903896877619:=rfl
noncomputable def tw18262959374662502394:Params→Obj:=fun P=>oF vF "_law_ruled" "_law_ruled" (top 36) 3 (2:) (vR 212)
theorem te18262959374662502394:tw18262959374662502394=tw18262959374662502394:=rfl
noncomputable def tw15693120578706960224:Params→Obj:=fun P=>oF vN "_law_stream" "_law_stream" (top 24) 0 vN vN
theorem te15693120578706960224:tw15693120578706960224=tw15693120578706960224:=rfl
end PySem.W.Fast
noncomputable def PySem.W.Fast.tw5500287806056837921:PySem.Program:=PySem.Challenge.pw_turnery_k52_whole_a_paper_tells_the_trut
theorem PySem.W.Fast.te5500287806056837921:(PySem.Challenge.pw_turnery_k52_whole_a_paper_tells_the_trut:PySem.Program)=PySem.W.Fast.tw5500287806056837921:=rfl
noncomputable def PySem.W.Fast.tw18251667537324562660:PySem.Program:={ PySem.Challenge.pw_turnery_k52_whole_a_paper_tells_the_trut with main:={ PySem.Challenge.pw_turnery_k52_whole_a_paper_tells_the_trut.main with body:=[K52.top 1,K52.top 2,K52.top 3,K52.top 4,K52.top 5,K52.top 6,K52.top 7,K52.top 9,K52.top 10,K52.top 12,K52.top 13,K52.top 14,K52.top 16,K52.top 17,K52.top 18,K52.top 19,K52.top 20,K52.top 21,K52.top 23,K52.top 24,K52.top 25,K52.top 26,K52.top 27,K52.top 28,K52.top 29,K52.top 30,K52.top 31,K52.top 32,K52.top 33,K52.top 34,K52.top 35,K52.top 36,K52.top 37,K52.top 38,K52.top 39,K52.top 40,K52.top 41,K52.top 42,K52.top 43,K52.top 44,K52.top 45,K52.top 46,K52.top 47] } }
theorem PySem.W.Fast.te18251667537324562660:({ PySem.Challenge.pw_turnery_k52_whole_a_paper_tells_the_trut with main:={ PySem.Challenge.pw_turnery_k52_whole_a_paper_tells_the_trut.main with body:=[K52.top 1,K52.top 2,K52.top 3,K52.top 4,K52.top 5,K52.top 6,K52.top 7,K52.top 9,K52.top 10,K52.top 12,K52.top 13,K52.top 14,K52.top 16,K52.top 17,K52.top 18,K52.top 19,K52.top 20,K52.top 21,K52.top 23,K52.top 24,K52.top 25,K52.top 26,K52.top 27,K52.top 28,K52.top 29,K52.top 30,K52.top 31,K52.top 32,K52.top 33,K52.top 34,K52.top 35,K52.top 36,K52.top 37,K52.top 38,K52.top 39,K52.top 40,K52.top 41,K52.top 42,K52.top 43,K52.top 44,K52.top 45,K52.top 46,K52.top 47] } }:PySem.Program)=PySem.W.Fast.tw18251667537324562660:=rfl
noncomputable def PySem.W.Fast.tw13637332098290990560:List PySem.Stmt:=(PySem.Challenge.pw_turnery_k52_whole_a_paper_tells_the_trut.main.body.drop 0).take 10
theorem PySem.W.Fast.te13637332098290990560:((PySem.Challenge.pw_turnery_k52_whole_a_paper_tells_the_trut.main.body.drop 0).take 10:List PySem.Stmt)=PySem.W.Fast.tw13637332098290990560:=rfl
noncomputable def PySem.W.Fast.tw4042327938763987496:List PySem.Stmt:=(PySem.Challenge.pw_turnery_k52_whole_a_paper_tells_the_trut.main.body.drop 10).take 8
theorem PySem.W.Fast.te4042327938763987496:((PySem.Challenge.pw_turnery_k52_whole_a_paper_tells_the_trut.main.body.drop 10).take 8:List PySem.Stmt)=PySem.W.Fast.tw4042327938763987496:=rfl
noncomputable def PySem.W.Fast.tw17932422963927752207:List PySem.Stmt:=(PySem.Challenge.pw_turnery_k52_whole_a_paper_tells_the_trut.main.body.drop 18).take 14
theorem PySem.W.Fast.te17932422963927752207:((PySem.Challenge.pw_turnery_k52_whole_a_paper_tells_the_trut.main.body.drop 18).take 14:List PySem.Stmt)=PySem.W.Fast.tw17932422963927752207:=rfl
noncomputable def PySem.W.Fast.tw7976826486758498206:List PySem.Stmt:=(PySem.Challenge.pw_turnery_k52_whole_a_paper_tells_the_trut.main.body.drop 32).take 15
theorem PySem.W.Fast.te7976826486758498206:((PySem.Challenge.pw_turnery_k52_whole_a_paper_tells_the_trut.main.body.drop 32).take 15:List PySem.Stmt)=PySem.W.Fast.tw7976826486758498206:=rfl
noncomputable def PySem.W.Fast.tw13634185945627848575:List PySem.Stmt:=(PySem.Challenge.pw_turnery_k52_whole_a_paper_tells_the_trut.main.body.drop 47).take 1
theorem PySem.W.Fast.te13634185945627848575:((PySem.Challenge.pw_turnery_k52_whole_a_paper_tells_the_trut.main.body.drop 47).take 1:List PySem.Stmt)=PySem.W.Fast.tw13634185945627848575:=rfl
section
open PySem
open K52
noncomputable def K52.x11 (P:Params):Obj:={ cls:=Value.type "tuple", data:=Data.seq #[] }
noncomputable def K52.x12 (P:Params):Obj:={ cls:=vN,data:=Data.fields #[vI 2 0,vI 0 0,vR 20,vI 4 0,vI 0 0,vR 27,vI 11 0,vI 0 0,vR 32,vI 15 0,vI 0 0,vR 37,vI 19 0,vI 0 0,vR 42,vI 23 0,vI 0 0,vR 47,vI 27 0,vI 0 0,vR 54,vI 30 0,vI 0 0,vR 61,vI 32 0,vI 0 0,vR 74,vI 35 0,vI 0 0,vR 84,vI 37 0,vI 0 0,vR 91,vI 41 0,vI 0 0,vR 98,vI 45 0,vI 0 0,vR 103,vI 55 0,vI 0 0,vR 110,vI 57 0,vI 0 0,vR 115,vI 59 0,vI 0 0,vR 120,vI 61 0,vI 0 0,vR 125,vI 63 0,vI 0 0,vR 130,vI 66 0,vI 0 0,vR 137,vI 70 0,vI 0 0,vR 144,vI 77 0,vI 0 0,vR 151,vI 91 0,vI 0 0,vR 158,vI 106 0,vI 0 0,vR 165,vI 111 0,vI 0 0,vR 172,vI 118 0,vI 0 0,vR 177,vI 127 0,vI 0 0,vR 182,vI 131 0,vI 0 0,vR 187,vI 149 0,vI 0 0,vR 192,vI 152 0,vI 0 0,vR 197,vI 156 0,vI 0 0,vR 202,vI 164 0,vI 0 0,vR 207,vI 174 0,vI 0 0,vR 212,vI 178 0,vI 0 0,vR 217,vI 182 0,vI 0 0,vR 222,vI 186 0,vI 0 0,vR 227,vI 188 0,vI 0 0,vR 232,vI 199 0,vI 0 0,vR 237,vI 203 0,vI 0 0,vR 242,vI 213 0,vI 0 0,vR 247,vI 220 0,vI 0 0,vR 252,vI 224 0,vI 0 0,vR 259,vI 226 0,vI 0 0,vR 264,vI 232 0,vI 0 0,vR 271] }
noncomputable def K52.x13 (P:Params):Obj:={ cls:=Value.type "code", data:=Data.fields #[vS "<module>" 182,vS "<module>" 183,vS "/claim/cut.py" 184,vI 1 0,vI 0 0,vI 0 0,vI 0 0,vI 0 0,vR 11,Value.bool false,vI 181 0,vR 12,vN,vN,vN,vN,vI 185 0,vI 1 0,vS "/claim/cut.py" 186] }
noncomputable def K52.x14 (P:Params):Obj:={ cls:=Value.type "frame", slots:=#[some (vR 13),some (vR 3),some (vR 3),none,some (vS "__main__" 164),none,some (vR 0)] }
noncomputable def K52.x19 (P:Params):Obj:=W.Fast.tw9668393437068181809 P
noncomputable def K52.x26 (P:Params):Obj:=W.Fast.tw13566170002366590651 P
noncomputable def K52.x31 (P:Params):Obj:=W.Fast.tw10661947394784415253 P
noncomputable def K52.x36 (P:Params):Obj:=W.Fast.tw5295831125479926182 P
noncomputable def K52.x41 (P:Params):Obj:=W.Fast.tw11565165676080350607 P
noncomputable def K52.x46 (P:Params):Obj:=W.Fast.tw9193229083993264234 P
noncomputable def K52.x53 (P:Params):Obj:=W.Fast.tw411654105248887258 P
noncomputable def K52.x57 (P:Params):Obj:={ cls:=Value.type "builtin_function_or_method", data:=Data.fields #[Value.builtin "type.__prepare__", Value.type "type"] }
noncomputable def K52.x58 (P:Params):Obj:={ cls:=Value.type "dict", data:=Data.dict #[hE P "__module__" 246 (vS "turnery.errors" 237),hE P "__qualname__" 248 (vS "TurnError" 247),hE P "__firstlineno__" 250 (vI 30 249),hE P "__static_attributes__" 251 (vR 63)] 4 }
noncomputable def K52.x59 (P:Params):Obj:={ cls:=Value.type "tuple", data:=Data.seq #[] }
noncomputable def K52.x61 (P:Params):Obj:={ cls:=Value.type "code", data:=Data.fields #[vS "TurnError" 241,vS "TurnError" 242,vS "/claim/cut.py" 243,vI 30 0,vI 0 0,vI 0 0,vI 0 0,vI 0 0,vR 59,Value.bool false,vI 181 0,vR 60,vN,vN,vN,vN,vI 244 0,vI 30 0,vS "/claim/cut.py" 245] }
noncomputable def K52.x62 (P:Params):Obj:={ cls:=Value.type "frame", slots:=#[some (vR 61),some (vR 3),some (vR 58),none,some (vS "turnery.errors" 237),none,some (vR 0)] }
noncomputable def K52.x67 (P:Params):Obj:={ cls:=Value.type "super", data:=Data.fields #[vR 65,vR 65,vR 65] }
noncomputable def K52.x68 (P:Params):Obj:={ cls:=Value.type "builtin_function_or_method", data:=Data.fields #[Value.builtin "object.__init_subclass__", vR 65] }
noncomputable def K52.x70 (P:Params):Obj:={ cls:=Value.type "builtin_function_or_method", data:=Data.fields #[Value.builtin "type.__prepare__", Value.type "type"] }
noncomputable def K52.x71 (P:Params):Obj:={ cls:=Value.type "dict", data:=Data.dict #[hE P "__module__" 264 (vS "turnery.errors" 237),hE P "__qualname__" 266 (vS "OtherWood" 265),hE P "__firstlineno__" 268 (vI 32 267),hE P "__static_attributes__" 269 (vR 76)] 4 }
noncomputable def K52.x72 (P:Params):Obj:={ cls:=Value.type "tuple", data:=Data.seq #[] }
noncomputable def K52.x74 (P:Params):Obj:={ cls:=Value.type "code", data:=Data.fields #[vS "OtherWood" 259,vS "OtherWood" 260,vS "/claim/cut.py" 261,vI 32 0,vI 0 0,vI 0 0,vI 0 0,vI 0 0,vR 72,Value.bool false,vI 181 0,vR 73,vN,vN,vN,vN,vI 262 0,vI 32 0,vS "/claim/cut.py" 263] }
noncomputable def K52.x75 (P:Params):Obj:={ cls:=Value.type "frame", slots:=#[some (vR 74),some (vR 3),some (vR 71),none,some (vS "turnery.errors" 237),none,some (vR 0)] }
noncomputable def K52.x79 (P:Params):Obj:={ cls:=Value.type "super", data:=Data.fields #[vR 78,vR 78,vR 78] }
noncomputable def K52.x80 (P:Params):Obj:={ cls:=Value.type "builtin_function_or_method", data:=Data.fields #[Value.builtin "object.__init_subclass__", vR 78] }
noncomputable def K52.x83 (P:Params):Obj:=W.Fast.tw17655722838942493900 P
noncomputable def K52.x90 (P:Params):Obj:=W.Fast.tw10480587384552255711 P
noncomputable def K52.x97 (P:Params):Obj:=W.Fast.tw11107199926922042964 P
noncomputable def K52.x102 (P:Params):Obj:=W.Fast.tw12545356231577685678 P
noncomputable def K52.x109 (P:Params):Obj:=W.Fast.tw4652403358503279725 P
noncomputable def K52.x114 (P:Params):Obj:=W.Fast.tw10191802443335409951 P
noncomputable def K52.x119 (P:Params):Obj:=W.Fast.tw3138195056946562385 P
noncomputable def K52.x124 (P:Params):Obj:=W.Fast.tw9502153863679722147 P
noncomputable def K52.x129 (P:Params):Obj:=W.Fast.tw17971201332795645771 P
noncomputable def K52.x136 (P:Params):Obj:=W.Fast.tw9113271615426680313 P
noncomputable def K52.x143 (P:Params):Obj:=W.Fast.tw15693120578706960224 P
noncomputable def K52.x150 (P:Params):Obj:=W.Fast.tw2859121536976651615 P
noncomputable def K52.x157 (P:Params):Obj:=W.Fast.tw2064312020839152642 P
noncomputable def K52.x164 (P:Params):Obj:=W.Fast.tw16193876163742122175 P
noncomputable def K52.x171 (P:Params):Obj:=W.Fast.tw10307881079749198680 P
noncomputable def K52.x176 (P:Params):Obj:=W.Fast.tw11373977330912240818 P
noncomputable def K52.x181 (P:Params):Obj:=W.Fast.tw6984670769328586108 P
noncomputable def K52.x186 (P:Params):Obj:=W.Fast.tw4985196346383017966 P
noncomputable def K52.x191 (P:Params):Obj:=W.Fast.tw5976376372292107623 P
noncomputable def K52.x196 (P:Params):Obj:=W.Fast.tw6100975151215213908 P
noncomputable def K52.x201 (P:Params):Obj:=W.Fast.tw13276687102826864725 P
noncomputable def K52.x206 (P:Params):Obj:=W.Fast.tw2609221330456925667 P
noncomputable def K52.x211 (P:Params):Obj:=W.Fast.tw1958138621526918865 P
noncomputable def K52.x216 (P:Params):Obj:=W.Fast.tw17150004979944335419 P
noncomputable def K52.x221 (P:Params):Obj:=W.Fast.tw12927458701670250499 P
noncomputable def K52.x226 (P:Params):Obj:=W.Fast.tw13209630382613903021 P
noncomputable def K52.x231 (P:Params):Obj:=W.Fast.tw3946211271893076118 P
noncomputable def K52.x236 (P:Params):Obj:=W.Fast.tw12851346897826850938 P
noncomputable def K52.x241 (P:Params):Obj:=W.Fast.tw7599143003497573253 P
noncomputable def K52.x246 (P:Params):Obj:=W.Fast.tw3187638982895347049 P
noncomputable def K52.x251 (P:Params):Obj:=W.Fast.tw13939875444547270484 P
noncomputable def K52.x258 (P:Params):Obj:=W.Fast.tw11522411331127766478 P
noncomputable def K52.x263 (P:Params):Obj:=W.Fast.tw5058030168059152193 P
noncomputable def K52.x270 (P:Params):Obj:=W.Fast.tw3253606781669300440 P
noncomputable def _root_.PySem.W.Fast.tw11669483188184739705:Params→Heap:=fun P=>{ objs:=⟨[W.boot_o_0 P,W.boot_o_1 P,Obj.mk vN none (Data.dict #[]) #[],x3 P,W.boot_o_4 P,W.boot_o_5 P,W.boot_o_6 P,W.boot_o_7 P,W.boot_o_8 P,W.boot_o_9 P,W.boot_o_10 P,x11 P,x12 P,x13 P,x14 P,oT #[],oE,oT #[vS "term" 192],oT #[],x19 P,x20 P,x21 P,oT #[],oE,x24 P,oT #[],x26 P,x27 P,x28 P,oT #[],oE,x31 P,x32 P,x33 P,oT #[],oE,x36 P,x37 P,x38 P,oT #[],oE,x41 P,x42 P,x43 P,oT #[],oE,x46 P,x47 P,x48 P,oT #[],oE,oT #[vS "term" 232,vS "parts" 233],oT #[],x53 P,x54 P,x55 P,oT #[Value.type "ValueError"],x57 P,x58 P,x59 P,oE,x61 P,x62 P,oT #[],x64 P,x65 P,x66 P,x67 P,x68 P,oT #[vR 65],x70 P,x71 P,x72 P,oE,x74 P,x75 P,oT #[],x77 P,x78 P,x79 P,x80 P,oT #[],oE,x83 P,x84 P,x85 P,oT #[],oE,x88 P,oT #[],x90 P,x91 P,x92 P,oT #[],oE,oT #[vS "one" 294,vS "other" 295],oT #[],x97 P,x98 P,x99 P,oT #[],oE,x102 P,x103 P,x104 P,oT #[],oE,x107 P,oT #[],x109 P,x110 P,x111 P,oT #[],oE,x114 P,x115 P,x116 P,oT #[],oE,x119 P,x120 P,x121 P,oT #[],oE,x124 P,x125 P,x126 P,oT #[],oE,x129 P,x130 P,x131 P,oT #[],oE,x134 P,oT #[],x136 P,x137 P,x138 P,oT #[],oE,x141 P,oT #[],x143 P,x144 P,x145 P,oT #[],oE,x148 P,oT #[],x150 P,x151 P,x152 P,oT #[],oE,x155 P,oT #[],x157 P,x158 P,x159 P,oT #[],oE,x162 P,oT #[],x164 P,x165 P,x166 P,oT #[],oE,x169 P,oT #[],x171 P,x172 P,x173 P,oT #[],oE,x176 P,x177 P,x178 P,oT #[],oE,x181 P,x182 P,x183 P,oT #[],oE,x186 P,x187 P,x188 P,oT #[],oE,x191 P,x192 P,x193 P,oT #[],oE,x196 P,x197 P,x198 P,oT #[],oE,x201 P,x202 P,x203 P,oT #[],oE,x206 P,x207 P,x208 P,oT #[],oE,x211 P,x212 P,x213 P,oT #[],oE,x216 P,x217 P,x218 P,oT #[],oE,x221 P,x222 P,x223 P,oT #[],oE,x226 P,x227 P,x228 P,oT #[],oE,x231 P,x232 P,x233 P,oT #[],oE,x236 P,x237 P,x238 P,oT #[],oE,x241 P,x242 P,x243 P,oT #[],oE,x246 P,x247 P,x248 P,oT #[],oE,x251 P,x252 P,x253 P,oT #[],oE,x256 P,oT #[],x258 P,x259 P,x260 P,oT #[],oE,x263 P,x264 P,x265 P,oT #[],oE,x268 P,oT #[],x270 P,x271 P,x272 P]⟩ }
theorem _root_.PySem.W.Fast.te11669483188184739705:PySem.W.Fast.tw11669483188184739705=PySem.W.Fast.tw11669483188184739705:=rfl
noncomputable def K52.N:W.BT:=.nil
noncomputable def K52.B (o:Obj) (l r:W.BT):W.BT:=.node o l r
noncomputable def _root_.PySem.W.Fast.tw14793389791651412681:Params→W.BT:=fun P=>B (W.boot_o_0 P) (B (W.boot_o_1 P) (B (x3 P) (B (W.boot_o_7 P) (B (53:) (B (x31 P) (B (53:) (B (53:) (17:) N) (B (x191 P) N N)) (B (oT #[vS "one" 294,vS "other" 295]) (B (x159 P) N N) (B (x223 P) N N))) (B (x47 P) (B (x79 P) (B (x143 P) (B (x271 P) N N) N) (B (x207 P) N N)) (B (x111 P) (17:) (6:)))) (B (oE) (B (53:) (B (x71 P) (B (53:) (B (x263 P) N N) N) (6:)) (B (x103 P) (6:) (B (x231 P) N N))) (B (x55 P) (B (oE) (B (x151 P) N N) (17:)) (B (x119 P) (B (x183 P) N N) (B (x247 P) N N))))) (B (x11 P) (B (x19 P) (B (oE) (B (x67 P) (B (x131 P) (B (x259 P) N N) N) (17:)) (B (x99 P) (6:) (B (x227 P) N N))) (B (oT #[vS "term" 232,vS "parts" 233]) (B (x83 P) (17:) (B (x211 P) N N)) (B (x115 P) (6:) (B (x243 P) N N)))) (B (x27 P) (B (x43 P) (B (x75 P) (B (53:) (17:) N) (B (x203 P) N N)) (B (x107 P) (B (x171 P) N N) (17:))) (B (x59 P) (B (x91 P) (B (x155 P) N N) (6:)) (B (oE) (B (x187 P) N N) (B (x251 P) N N)))))) (B (W.boot_o_5 P) (B (W.boot_o_9 P) (B (oT #[vS "term" 192]) (B (x33 P) (B (x65 P) (B (x129 P) (6:) N) (B (x193 P) N N)) (B (x97 P) (17:) (17:))) (B (53:) (B (53:) (B (x145 P) N N) (6:)) (B (oE) (B (x177 P) N N) (B (x241 P) N N)))) (B (53:) (B (x41 P) (B (oE) (B (x137 P) (B (x265 P) N N) N) (B (x201 P) N N)) (B (53:) (B (x169 P) N N) (B (x233 P) N N))) (B (x57 P) (B (53:) (6:) (B (x217 P) N N)) (B (x121 P) (17:) (6:))))) (B (x13 P) (B (x21 P) (B (x37 P) (B (oT #[vR 65]) (B (oE) (6:) N) (B (x197 P) N N)) (B (oE) (B (x165 P) N N) (6:))) (B (x53 P) (B (x85 P) (6:) (B (x213 P) N N)) (B (53:) (B (x181 P) N N) (17:)))) (B (53:) (B (oE) (B (x77 P) (B (x141 P) (6:) N) (17:)) (B (x109 P) (B (x173 P) N N) (B (x237 P) N N))) (B (x61 P) (B (53:) (B (x157 P) N N) (B (x221 P) N N)) (B (x125 P) (6:) (B (x253 P) N N))))))) (B (Obj.mk vN none (Data.dict #[]) #[]) (B (W.boot_o_4 P) (B (W.boot_o_8 P) (B (oE) (B (x32 P) (B (x64 P) (B (oE) (B (x256 P) N N) N) (B (x192 P) N N)) (B (53:) (6:) (6:))) (B (x48 P) (B (x80 P) (B (x144 P) (B (x272 P) N N) N) (B (x208 P) N N)) (B (53:) (B (x176 P) N N) (17:)))) (B (x24 P) (B (oE) (B (x72 P) (B (x136 P) (B (x264 P) N N) N) (17:)) (B (x104 P) (17:) (B (x232 P) N N))) (B (oT #[Value.type "ValueError"]) (B (x88 P) (B (x152 P) N N) (B (x216 P) N N)) (B (x120 P) (6:) (B (x248 P) N N))))) (B (x12 P) (B (x20 P) (B (x36 P) (B (x68 P) (B (53:) (B (x260 P) N N) N) (B (x196 P) N N)) (B (53:) (B (x164 P) N N) (B (x228 P) N N))) (B (53:) (B (x84 P) (B (x148 P) N N) (B (x212 P) N N)) (B (x116 P) (17:) (6:)))) (B (x28 P) (B (53:) (B (53:) (B (oE) (B (x268 P) N N) N) (6:)) (B (53:) (B (x172 P) N N) (B (x236 P) N N))) (B (oE) (B (x92 P) (6:) (17:)) (B (x124 P) (B (x188 P) N N) (B (x252 P) N N)))))) (B (W.boot_o_6 P) (B (W.boot_o_10 P) (B (53:) (B (53:) (B (x66 P) (B (x130 P) (B (x258 P) N N) N) (6:)) (B (x98 P) (B (x162 P) N N) (B (x226 P) N N))) (B (oE) (B (oE) (6:) (17:)) (B (x114 P) (B (x178 P) N N) (B (x242 P) N N)))) (B (x26 P) (B (x42 P) (B (x74 P) (B (x138 P) (6:) N) (B (x202 P) N N)) (B (oE) (6:) (6:))) (B (x58 P) (B (x90 P) (17:) (B (x218 P) N N)) (B (53:) (B (x186 P) N N) (17:))))) (B (x14 P) (B (53:) (B (x38 P) (B (x70 P) (B (x134 P) (17:) N) (B (x198 P) N N)) (B (x102 P) (B (x166 P) N N) (17:))) (B (x54 P) (B (53:) (B (x150 P) N N) (6:)) (B (oE) (B (x182 P) N N) (B (x246 P) N N)))) (B (oE) (B (x46 P) (B (x78 P) (B (53:) (B (x270 P) N N) N) (B (x206 P) N N)) (B (x110 P) (6:) (B (x238 P) N N))) (B (x62 P) (B (oE) (B (x158 P) N N) (B (x222 P) N N)) (B (x126 P) (17:) (6:)))))))
theorem _root_.PySem.W.Fast.te14793389791651412681:PySem.W.Fast.tw14793389791651412681=PySem.W.Fast.tw14793389791651412681:=rfl
noncomputable def K52.y3_308 (P:Params):Obj:={ cls:=Value.type "dict", data:=Data.dict #[hE P "__name__" 165 (2:),hE P "__doc__" 166 (vN),hE P "__package__" 167 (vN),hE P "__loader__" 168 (Value.builtin "__main__.__loader__#opaque"),hE P "__spec__" 169 (vN),hE P "__annotations__" 170 (vR 6),hE P "__builtins__" 171 (vR 4),hE P "__file__" 173 (vS "/claim/cut.py" 172),hE P "__cached__" 174 (vN),hE P "is_call" 195 (vR 21),hE P "calls_of" 204 (vR 28),hE P "keeps_mark" 210 (vR 33),hE P "terms_in" 216 (vR 38),hE P "rules_in" 222 (vR 43),hE P "on_branch" 228 (vR 48),hE P "with_parts" 236 (vR 55),hE P "TurnError" 256 (vR 65),hE P "OtherWood" 272 (vR 78),hE P "calls_fit" 280 (vR 85),hE P "call_fits" 290 (vR 92),hE P "need_one_wood" 298 (vR 99),hE P "is_paper" 306 (vR 104),hE P "term_fits" 315 (vR 111),hE P "has_terms" 321 (vR 116),hE P "rules_have_terms" 327 (vR 121),hE P "rules_agree" 333 (vR 126),hE P "rules_for" 339 (vR 131),hE P "_law_cell_at" 349 (vR 138),hE P "_law_stream" 360 (vR 145),hE P "_law_names" 376 (vR 152),hE P "_law_wood" 393 (vR 159),hE P "_law_rows" 403 (vR 166),hE P "_law_calls" 414 (vR 173),hE P "_law_term" 420 (vR 178),hE P "_law_unkept" 426 (vR 183),hE P "_law_turning" 432 (vR 188),hE P "_law_again" 438 (vR 193),hE P "_law_renamed" 444 (vR 198),hE P "_law_turned_about" 450 (vR 203),hE P "_law_doubled" 456 (vR 208),hE P "_law_ruled" 462 (vR 213),hE P "_law_held_back" 468 (vR 218),hE P "_law_size" 474 (vR 223),hE P "_law_many" 480 (vR 228),hE P "_law_with_paper" 486 (vR 233),hE P "_law_other_rule" 492 (vR 238),hE P "_law_tree" 498 (vR 243),hE P "_law_put" 504 (vR 248),hE P "_law_by" 510 (vR 253),hE P "_law_outcome" 518 (vR 260),hE P "_law_some_rule" 524 (vR 265)] 51 }
noncomputable def K52.y12_308 (P:Params):Obj:={ cls:=vN,data:=Data.fields #[vI 2 0,vI 0 0,vR 20,vI 4 0,vI 0 0,vR 27,vI 11 0,vI 0 0,vR 32,vI 15 0,vI 0 0,vR 37,vI 19 0,vI 0 0,vR 42,vI 23 0,vI 0 0,vR 47,vI 27 0,vI 0 0,vR 54,vI 30 0,vI 0 0,vR 61,vI 32 0,vI 0 0,vR 74,vI 35 0,vI 0 0,vR 84,vI 37 0,vI 0 0,vR 91,vI 41 0,vI 0 0,vR 98,vI 45 0,vI 0 0,vR 103,vI 55 0,vI 0 0,vR 110,vI 57 0,vI 0 0,vR 115,vI 59 0,vI 0 0,vR 120,vI 61 0,vI 0 0,vR 125,vI 63 0,vI 0 0,vR 130,vI 66 0,vI 0 0,vR 137,vI 70 0,vI 0 0,vR 144,vI 77 0,vI 0 0,vR 151,vI 91 0,vI 0 0,vR 158,vI 106 0,vI 0 0,vR 165,vI 111 0,vI 0 0,vR 172,vI 118 0,vI 0 0,vR 177,vI 127 0,vI 0 0,vR 182,vI 131 0,vI 0 0,vR 187,vI 149 0,vI 0 0,vR 192,vI 152 0,vI 0 0,vR 197,vI 156 0,vI 0 0,vR 202,vI 164 0,vI 0 0,vR 207,vI 174 0,vI 0 0,vR 212,vI 178 0,vI 0 0,vR 217,vI 182 0,vI 0 0,vR 222,vI 186 0,vI 0 0,vR 227,vI 188 0,vI 0 0,vR 232,vI 199 0,vI 0 0,vR 237,vI 203 0,vI 0 0,vR 242,vI 213 0,vI 0 0,vR 247,vI 220 0,vI 0 0,vR 252,vI 224 0,vI 0 0,vR 259,vI 226 0,vI 0 0,vR 264] }
noncomputable def _root_.PySem.W.Fast.tw2071262503932101055:Params→W.BT:=fun P=>B (W.boot_o_0 P) (B (W.boot_o_1 P) (B (y3_308 P) (B (W.boot_o_7 P) (B (53:) (B (x31 P) (B (53:) (B (53:) (17:) N) (B (x191 P) N N)) (B (oT #[vS "one" 294,vS "other" 295]) (B (x159 P) N N) (B (x223 P) N N))) (B (x47 P) (B (x79 P) (B (x143 P) N N) (B (x207 P) N N)) (B (x111 P) (17:) (6:)))) (B (oE) (B (53:) (B (x71 P) (B (53:) (B (x263 P) N N) N) (6:)) (B (x103 P) (6:) (B (x231 P) N N))) (B (x55 P) (B (oE) (B (x151 P) N N) (17:)) (B (x119 P) (B (x183 P) N N) (B (x247 P) N N))))) (B (x11 P) (B (x19 P) (B (oE) (B (x67 P) (B (x131 P) (B (x259 P) N N) N) (17:)) (B (x99 P) (6:) (B (x227 P) N N))) (B (oT #[vS "term" 232,vS "parts" 233]) (B (x83 P) (17:) (B (x211 P) N N)) (B (x115 P) (6:) (B (x243 P) N N)))) (B (x27 P) (B (x43 P) (B (x75 P) (6:) (B (x203 P) N N)) (B (x107 P) (B (x171 P) N N) (17:))) (B (x59 P) (B (x91 P) (B (x155 P) N N) (6:)) (B (oE) (B (x187 P) N N) (B (x251 P) N N)))))) (B (W.boot_o_5 P) (B (W.boot_o_9 P) (B (oT #[vS "term" 192]) (B (x33 P) (B (x65 P) (B (x129 P) (6:) N) (B (x193 P) N N)) (B (x97 P) (17:) (17:))) (B (53:) (B (53:) (B (x145 P) N N) (6:)) (B (oE) (B (x177 P) N N) (B (x241 P) N N)))) (B (53:) (B (x41 P) (B (oE) (B (x137 P) (B (x265 P) N N) N) (B (x201 P) N N)) (B (53:) (B (x169 P) N N) (B (x233 P) N N))) (B (x57 P) (B (53:) (6:) (B (x217 P) N N)) (B (x121 P) (17:) (6:))))) (B (x13 P) (B (x21 P) (B (x37 P) (B (oT #[vR 65]) (B (oE) (6:) N) (B (x197 P) N N)) (B (oE) (B (x165 P) N N) (6:))) (B (x53 P) (B (x85 P) (6:) (B (x213 P) N N)) (B (53:) (B (x181 P) N N) (17:)))) (B (53:) (B (oE) (B (x77 P) (B (x141 P) N N) (17:)) (B (x109 P) (B (x173 P) N N) (B (x237 P) N N))) (B (x61 P) (B (53:) (B (x157 P) N N) (B (x221 P) N N)) (B (x125 P) (6:) (B (x253 P) N N))))))) (B (Obj.mk vN none (Data.dict #[]) #[]) (B (W.boot_o_4 P) (B (W.boot_o_8 P) (B (oE) (B (x32 P) (B (x64 P) (B (oE) (B (x256 P) N N) N) (B (x192 P) N N)) (B (53:) (6:) (6:))) (B (x48 P) (B (x80 P) (B (x144 P) N N) (B (x208 P) N N)) (B (53:) (B (x176 P) N N) (17:)))) (B (x24 P) (B (oE) (B (x72 P) (B (x136 P) (B (x264 P) N N) N) (17:)) (B (x104 P) (17:) (B (x232 P) N N))) (B (oT #[Value.type "ValueError"]) (B (x88 P) (B (x152 P) N N) (B (x216 P) N N)) (B (x120 P) (6:) (B (x248 P) N N))))) (B (y12_308 P) (B (x20 P) (B (x36 P) (B (x68 P) (B (53:) (B (x260 P) N N) N) (B (x196 P) N N)) (B (53:) (B (x164 P) N N) (B (x228 P) N N))) (B (53:) (B (x84 P) (B (x148 P) N N) (B (x212 P) N N)) (B (x116 P) (17:) (6:)))) (B (x28 P) (B (53:) (B (53:) (17:) (6:)) (B (53:) (B (x172 P) N N) (B (x236 P) N N))) (B (oE) (B (x92 P) (6:) (17:)) (B (x124 P) (B (x188 P) N N) (B (x252 P) N N)))))) (B (W.boot_o_6 P) (B (W.boot_o_10 P) (B (53:) (B (53:) (B (x66 P) (B (x130 P) (B (x258 P) N N) N) (6:)) (B (x98 P) (B (x162 P) N N) (B (x226 P) N N))) (B (oE) (B (oE) (6:) (17:)) (B (x114 P) (B (x178 P) N N) (B (x242 P) N N)))) (B (x26 P) (B (x42 P) (B (x74 P) (B (x138 P) N N) (B (x202 P) N N)) (B (oE) (6:) (6:))) (B (x58 P) (B (x90 P) (17:) (B (x218 P) N N)) (B (53:) (B (x186 P) N N) (17:))))) (B (x14 P) (B (53:) (B (x38 P) (B (x70 P) (B (x134 P) (17:) N) (B (x198 P) N N)) (B (x102 P) (B (x166 P) N N) (17:))) (B (x54 P) (B (53:) (B (x150 P) N N) (6:)) (B (oE) (B (x182 P) N N) (B (x246 P) N N)))) (B (oE) (B (x46 P) (B (x78 P) (6:) (B (x206 P) N N)) (B (x110 P) (6:) (B (x238 P) N N))) (B (x62 P) (B (oE) (B (x158 P) N N) (B (x222 P) N N)) (B (x126 P) (17:) (6:)))))))
theorem _root_.PySem.W.Fast.te2071262503932101055:PySem.W.Fast.tw2071262503932101055=PySem.W.Fast.tw2071262503932101055:=rfl
noncomputable def K52.y3_229 (P:Params):Obj:={ cls:=Value.type "dict", data:=Data.dict #[hE P "__name__" 165 (2:),hE P "__doc__" 166 (vN),hE P "__package__" 167 (vN),hE P "__loader__" 168 (Value.builtin "__main__.__loader__#opaque"),hE P "__spec__" 169 (vN),hE P "__annotations__" 170 (vR 6),hE P "__builtins__" 171 (vR 4),hE P "__file__" 173 (vS "/claim/cut.py" 172),hE P "__cached__" 174 (vN),hE P "is_call" 195 (vR 21),hE P "calls_of" 204 (vR 28),hE P "keeps_mark" 210 (vR 33),hE P "terms_in" 216 (vR 38),hE P "rules_in" 222 (vR 43),hE P "on_branch" 228 (vR 48),hE P "with_parts" 236 (vR 55),hE P "TurnError" 256 (vR 65),hE P "OtherWood" 272 (vR 78),hE P "calls_fit" 280 (vR 85),hE P "call_fits" 290 (vR 92),hE P "need_one_wood" 298 (vR 99),hE P "is_paper" 306 (vR 104),hE P "term_fits" 315 (vR 111),hE P "has_terms" 321 (vR 116),hE P "rules_have_terms" 327 (vR 121),hE P "rules_agree" 333 (vR 126),hE P "rules_for" 339 (vR 131),hE P "_law_cell_at" 349 (vR 138),hE P "_law_stream" 360 (vR 145),hE P "_law_names" 376 (vR 152),hE P "_law_wood" 393 (vR 159),hE P "_law_rows" 403 (vR 166),hE P "_law_calls" 414 (vR 173),hE P "_law_term" 420 (vR 178),hE P "_law_unkept" 426 (vR 183),hE P "_law_turning" 432 (vR 188)] 36 }
noncomputable def K52.y12_229 (P:Params):Obj:={ cls:=vN,data:=Data.fields #[vI 2 0,vI 0 0,vR 20,vI 4 0,vI 0 0,vR 27,vI 11 0,vI 0 0,vR 32,vI 15 0,vI 0 0,vR 37,vI 19 0,vI 0 0,vR 42,vI 23 0,vI 0 0,vR 47,vI 27 0,vI 0 0,vR 54,vI 30 0,vI 0 0,vR 61,vI 32 0,vI 0 0,vR 74,vI 35 0,vI 0 0,vR 84,vI 37 0,vI 0 0,vR 91,vI 41 0,vI 0 0,vR 98,vI 45 0,vI 0 0,vR 103,vI 55 0,vI 0 0,vR 110,vI 57 0,vI 0 0,vR 115,vI 59 0,vI 0 0,vR 120,vI 61 0,vI 0 0,vR 125,vI 63 0,vI 0 0,vR 130,vI 66 0,vI 0 0,vR 137,vI 70 0,vI 0 0,vR 144,vI 77 0,vI 0 0,vR 151,vI 91 0,vI 0 0,vR 158,vI 106 0,vI 0 0,vR 165,vI 111 0,vI 0 0,vR 172,vI 118 0,vI 0 0,vR 177,vI 127 0,vI 0 0,vR 182,vI 131 0,vI 0 0,vR 187] }
noncomputable def _root_.PySem.W.Fast.tw5891950573384262008:Params→W.BT:=fun P=>B (W.boot_o_0 P) (B (W.boot_o_1 P) (B (y3_229 P) (B (W.boot_o_7 P) (B (53:) (B (x31 P) (B (53:) (6:) N) (B (oT #[vS "one" 294,vS "other" 295]) (B (x159 P) N N) N)) (B (x47 P) (B (x79 P) (B (x143 P) N N) N) (B (x111 P) (17:) N))) (B (oE) (B (53:) (B (x71 P) (6:) N) (B (x103 P) (6:) N)) (B (x55 P) (B (oE) (B (x151 P) N N) N) (B (x119 P) (B (x183 P) N N) N)))) (B (x11 P) (B (x19 P) (B (oE) (B (x67 P) (B (x131 P) N N) N) (B (x99 P) (6:) N)) (B (oT #[vS "term" 232,vS "parts" 233]) (B (x83 P) (17:) N) (B (x115 P) (6:) N))) (B (x27 P) (B (x43 P) (B (x75 P) (6:) N) (B (x107 P) (B (x171 P) N N) N)) (B (x59 P) (B (x91 P) (B (x155 P) N N) N) (B (oE) (B (x187 P) N N) N))))) (B (W.boot_o_5 P) (B (W.boot_o_9 P) (B (oT #[vS "term" 192]) (B (x33 P) (B (x65 P) (B (x129 P) N N) N) (B (x97 P) (17:) N)) (B (53:) (B (53:) (B (x145 P) N N) N) (B (oE) (B (x177 P) N N) N))) (B (53:) (B (x41 P) (B (oE) (B (x137 P) N N) N) (B (53:) (B (x169 P) N N) N)) (B (x57 P) (B (53:) (6:) N) (B (x121 P) (17:) N)))) (B (x13 P) (B (x21 P) (B (x37 P) (B (oT #[vR 65]) (17:) N) (B (oE) (B (x165 P) N N) N)) (B (x53 P) (B (x85 P) (6:) N) (B (53:) (B (x181 P) N N) N))) (B (53:) (B (oE) (B (x77 P) (B (x141 P) N N) N) (B (x109 P) (B (x173 P) N N) N)) (B (x61 P) (B (53:) (B (x157 P) N N) N) (B (x125 P) N N)))))) (B (Obj.mk vN none (Data.dict #[]) #[]) (B (W.boot_o_4 P) (B (W.boot_o_8 P) (B (oE) (B (x32 P) (B (x64 P) (17:) N) (B (53:) (6:) N)) (B (x48 P) (B (x80 P) (B (x144 P) N N) N) (B (53:) (B (x176 P) N N) N))) (B (x24 P) (B (oE) (B (x72 P) (B (x136 P) N N) N) (B (x104 P) (17:) N)) (B (oT #[Value.type "ValueError"]) (B (x88 P) (B (x152 P) N N) N) (B (x120 P) (6:) N)))) (B (y12_229 P) (B (x20 P) (B (x36 P) (B (x68 P) (6:) N) (B (53:) (B (x164 P) N N) N)) (B (53:) (B (x84 P) (B (x148 P) N N) N) (B (x116 P) (17:) N))) (B (x28 P) (B (53:) (B (53:) (17:) N) (B (53:) (B (x172 P) N N) N)) (B (oE) (B (x92 P) (6:) N) (B (x124 P) (B (x188 P) N N) N))))) (B (W.boot_o_6 P) (B (W.boot_o_10 P) (B (53:) (B (53:) (B (x66 P) (B (x130 P) N N) N) (B (x98 P) (B (x162 P) N N) N)) (B (oE) (B (oE) (6:) N) (B (x114 P) (B (x178 P) N N) N))) (B (x26 P) (B (x42 P) (B (x74 P) (B (x138 P) N N) N) (B (oE) (6:) N)) (B (x58 P) (B (x90 P) (17:) N) (B (53:) (B (x186 P) N N) N)))) (B (x14 P) (B (53:) (B (x38 P) (B (x70 P) (B (x134 P) N N) N) (B (x102 P) (B (x166 P) N N) N)) (B (x54 P) (B (53:) (B (x150 P) N N) N) (B (oE) (B (x182 P) N N) N))) (B (oE) (B (x46 P) (B (x78 P) (6:) N) (B (x110 P) (6:) N)) (B (x62 P) (B (oE) (B (x158 P) N N) N) (B (x126 P) N N))))))
theorem _root_.PySem.W.Fast.te5891950573384262008:PySem.W.Fast.tw5891950573384262008=PySem.W.Fast.tw5891950573384262008:=rfl
end
open PySem PySem.W PyProof.Rows
set_option maxRecDepth 100000 in
set_option maxHeartbeats 0 in
theorem PySem.Challenge.cw_turnery_k52_whole_a_paper_tells_the_trut_holds : PySem.Challenge.rw_turnery_k52_whole_a_paper_tells_the_trut.Holds := by
 w_on;o_law;k_head;(case hw=>w_witness2)
 k_fill
 refine K52.walk (l:=PySem.Challenge.rw_turnery_k52_whole_a_paper_tells_the_trut) rfl rfl (fun w h Y=>PySem.W.kIn_of Y) ?F
 case F =>
  intro w mg fa h KX G hmg
  refine' K52.all_mk KX G hmg ?d1 ?d2 ?d3 ?d4 ?d5 ?d6 ?d7 ?d8 ?d9 ?d10 ?d11 ?d12 ?d13 ?d14 ?d15 ?d16 ?d17 ?d18 ?d19 ?d20 ?d21 ?d22 ?d23 ?d24 ?d25 ?d26 ?d27 ?d28 ?d29 ?d30 ?d31 ?d32 ?d33 ?d34 ?d35 ?d36 ?d37 ?d38 ?d39 ?d40 ?d41 ?z1 ?z2 ?z3 ?z4 ?z5 ?z6 ?z7 ?z8 ?z9 ?z10 ?z11 ?z12
  (case d1=>refine' L2.DefAt.mk' ?a ?l ?c ?k;(case a=>k_is);(case l=>k_is);(case c=>k_is);(case k=>k_is))
  (case d2=>refine' L2.DefAt.mk' ?a ?l ?c ?k;(case a=>k_is);(case l=>k_is);(case c=>k_is);(case k=>k_is))
  (case d3=>refine' L2.DefAt.mk' ?a ?l ?c ?k;(case a=>k_is);(case l=>k_is);(case c=>k_is);(case k=>k_is))
  (case d4=>refine' L2.DefAt.mk' ?a ?l ?c ?k;(case a=>k_is);(case l=>k_is);(case c=>k_is);(case k=>k_is))
  (case d5=>refine' L2.DefAt.mk' ?a ?l ?c ?k;(case a=>k_is);(case l=>k_is);(case c=>k_is);(case k=>k_is))
  (case d6=>refine' L2.DefAt.mk' ?a ?l ?c ?k;(case a=>k_is);(case l=>k_is);(case c=>k_is);(case k=>k_is))
  (case d7=>refine' L2.DefAt.mk' ?a ?l ?c ?k;(case a=>k_is);(case l=>k_is);(case c=>k_is);(case k=>k_is))
  (case d8=>refine' L2.DefAt.mk' ?a ?l ?c ?k;(case a=>k_is);(case l=>k_is);(case c=>k_is);(case k=>k_is))
  (case d9=>refine' L2.DefAt.mk' ?a ?l ?c ?k;(case a=>k_is);(case l=>k_is);(case c=>k_is);(case k=>k_is))
  (case d10=>refine' L2.DefAt.mk' ?a ?l ?c ?k;(case a=>k_is);(case l=>k_is);(case c=>k_is);(case k=>k_is))
  (case d11=>refine' L2.DefAt.mk' ?a ?l ?c ?k;(case a=>k_is);(case l=>k_is);(case c=>k_is);(case k=>k_is))
  (case d12=>refine' L2.DefAt.mk' ?a ?l ?c ?k;(case a=>k_is);(case l=>k_is);(case c=>k_is);(case k=>k_is))
  (case d13=>refine' L2.DefAt.mk' ?a ?l ?c ?k;(case a=>k_is);(case l=>k_is);(case c=>k_is);(case k=>k_is))
  (case d14=>refine' L2.DefAt.mk' ?a ?l ?c ?k;(case a=>k_is);(case l=>k_is);(case c=>k_is);(case k=>k_is))
  (case d15=>refine' L2.DefAt.mk' ?a ?l ?c ?k;(case a=>k_is);(case l=>k_is);(case c=>k_is);(case k=>k_is))
  (case d16=>refine' L2.DefAt.mk' ?a ?l ?c ?k;(case a=>k_is);(case l=>k_is);(case c=>k_is);(case k=>k_is))
  (case d17=>refine' L2.DefAt.mk' ?a ?l ?c ?k;(case a=>k_is);(case l=>k_is);(case c=>k_is);(case k=>k_is))
  (case d18=>refine' L2.DefAt.mk' ?a ?l ?c ?k;(case a=>k_is);(case l=>k_is);(case c=>k_is);(case k=>k_is))
  (case d19=>refine' L2.DefAt.mk' ?a ?l ?c ?k;(case a=>k_is);(case l=>k_is);(case c=>k_is);(case k=>k_is))
  (case d20=>refine' L2.DefAt.mk' ?a ?l ?c ?k;(case a=>k_is);(case l=>k_is);(case c=>k_is);(case k=>k_is))
  (case d21=>refine' L2.DefAt.mk' ?a ?l ?c ?k;(case a=>k_is);(case l=>k_is);(case c=>k_is);(case k=>k_is))
  (case d22=>refine' L2.DefAt.mk' ?a ?l ?c ?k;(case a=>k_is);(case l=>k_is);(case c=>k_is);(case k=>k_is))
  (case d23=>refine' L2.DefAt.mk' ?a ?l ?c ?k;(case a=>k_is);(case l=>k_is);(case c=>k_is);(case k=>k_is))
  (case d24=>refine' L2.DefAt.mk' ?a ?l ?c ?k;(case a=>k_is);(case l=>k_is);(case c=>k_is);(case k=>k_is))
  (case d25=>refine' L2.DefAt.mk' ?a ?l ?c ?k;(case a=>k_is);(case l=>k_is);(case c=>k_is);(case k=>k_is))
  (case d26=>refine' L2.DefAt.mk' ?a ?l ?c ?k;(case a=>k_is);(case l=>k_is);(case c=>k_is);(case k=>k_is))
  (case d27=>refine' L2.DefAt.mk' ?a ?l ?c ?k;(case a=>k_is);(case l=>k_is);(case c=>k_is);(case k=>k_is))
  (case d28=>refine' L2.DefAt.mk' ?a ?l ?c ?k;(case a=>k_is);(case l=>k_is);(case c=>k_is);(case k=>k_is))
  (case d29=>refine' L2.DefAt.mk' ?a ?l ?c ?k;(case a=>k_is);(case l=>k_is);(case c=>k_is);(case k=>k_is))
  (case d30=>refine' L2.DefAt.mk' ?a ?l ?c ?k;(case a=>k_is);(case l=>k_is);(case c=>k_is);(case k=>k_is))
  (case d31=>refine' L2.DefAt.mk' ?a ?l ?c ?k;(case a=>k_is);(case l=>k_is);(case c=>k_is);(case k=>k_is))
  (case d32=>refine' L2.DefAt.mk' ?a ?l ?c ?k;(case a=>k_is);(case l=>k_is);(case c=>k_is);(case k=>k_is))
  (case d33=>refine' L2.DefAt.mk' ?a ?l ?c ?k;(case a=>k_is);(case l=>k_is);(case c=>k_is);(case k=>k_is))
  (case d34=>refine' L2.DefAt.mk' ?a ?l ?c ?k;(case a=>k_is);(case l=>k_is);(case c=>k_is);(case k=>k_is))
  (case d35=>refine' L2.DefAt.mk' ?a ?l ?c ?k;(case a=>k_is);(case l=>k_is);(case c=>k_is);(case k=>k_is))
  (case d36=>refine' L2.DefAt.mk' ?a ?l ?c ?k;(case a=>k_is);(case l=>k_is);(case c=>k_is);(case k=>k_is))
  (case d37=>refine' L2.DefAt.mk' ?a ?l ?c ?k;(case a=>k_is);(case l=>k_is);(case c=>k_is);(case k=>k_is))
  (case d38=>refine' L2.DefAt.mk' ?a ?l ?c ?k;(case a=>k_is);(case l=>k_is);(case c=>k_is);(case k=>k_is))
  (case d39=>refine' L2.DefAt.mk' ?a ?l ?c ?k;(case a=>k_is);(case l=>k_is);(case c=>k_is);(case k=>k_is))
  (case d40=>refine' L2.DefAt.mk' ?a ?l ?c ?k;(case a=>k_is);(case l=>k_is);(case c=>k_is);(case k=>k_is))
  (case d41=>refine' L2.DefAt.mk' ?a ?l ?c ?k;(case a=>k_is);(case l=>k_is);(case c=>k_is);(case k=>k_is))
  (case z1=>k_is);(case z2=>k_is);(case z3=>k_is);(case z4=>k_is);(case z5=>k_is);(case z6=>k_is);(case z7=>k_is);(case z8=>k_is);(case z9=>k_is);(case z10=>k_is);(case z11=>k_is);(case z12=>k_is)
