import PyProof.Rows.All
import Wide.All
import OpenK.AllK
import Wide.FinOn
import Lean
import PyProof.EqAt
import PyProof.EqKinds
import PyProof.TupleCall
import KE.KSortTup
import KE.KRevIter
import KE.KLam
import KE.KNestM
import KE.KTryDeep
import KE.KTryOn
import OpenK.KOwn
import PyProof.FString
import PyProof.PureStr
import KE.KDictList
import PyProof.RulesAs
import PyProof.NsDelKeeps
import KE.KTryMore
import KE.KIsAll
import PySem.Challenge.RW_turnery_k63_rings_that_stray
set_option hygiene false
set_option compiler.extract_closed false
local macro_rules|`((0:))=>`(⟨rfl,rfl,rfl,by decide +kernel,rfl,by decide +kernel,by decide +kernel⟩)
local macro_rules|`((1:))=>`((by decide +kernel))
local macro_rules|`((2:))=>`((fun cdv A outer s H vs Q E hr h=>?_))
local macro_rules|`((3:))=>`((B (oT #[]) N N))
local macro_rules|`((4:))=>`((fun _ _=>rfl))
local macro_rules|`((5:))=>`((vS "law_turnery_k63_rings_that_stray" 601))
local macro_rules|`((6:))=>`((model X.prog X.w))
local macro_rules|`((7:))=>`((Addr × Obj))
local macro_rules|`((8:))=>`((fun vs H Q E h=>?_))
local macro_rules|`((9:))=>`((envOfC qual scope s.heap.objs.size f cd))
local macro_rules|`((10:))=>`((Nat.le_refl _))
local macro_rules|`((11:))=>`((Or.inl rfl))
local macro_rules|`((12:))=>`((by lia))
local macro_rules|`((13:))=>`((by decide))
local macro_rules|`((14:))=>`(((s.heap.update a (Obj.mapSeq fun _=>(#[]:Array Value))).push (seqObj "tuple" vs.toArray 0)))
local macro_rules|`((15:))=>`(⟨I.ok.mod,I.ok.kind,I.ok.glob,I.ok.blt,I.ok.above,I.ok.inj,I.ok.has,I.ok.cab,I.ok.hd,I.ok.frames,I.ok.stk,I.ok.exf,I.ok.bs,I.ok.bsz,I.ok.noex,I.ok.exfs,I.ok.funs,I.ok.frf⟩)
local macro_rules|`((16:))=>`((QD X (xs ++ caps) scope cl s3.heap.objs.size fp s3 H3))
local macro_rules|`((17:))=>`((by show 2≤sizeLine;decide))
local macro_rules|`((18:))=>`((by intro z;cases z))
local macro_rules|`((19:))=>`((model prog w))
local macro_rules|`((20:))=>`((vS "turnery.straying" 367))
local macro_rules|`((21:))=>`((by show 0≤sizeLine;decide))
local macro_rules|`((22:))=>`((QD X (xs ++ caps) scope cl C fp s₀ H₀))
local macro_rules|`((23:))=>`((fun r s'=>r=.ok (.ret (.bool true))∧OldK s₁.heap s'.heap∧s'.os=s₁.os∧AllBare s'.gens))
local macro_rules|`((24:))=>`((s.heap.objs.size + 1))
local macro_rules|`((25:))=>`((B (oE) N N))
local macro_rules|`((26:))=>`((oT #[]))
local macro_rules|`((27:))=>`((CompG.many (xs:=["kind", "rows"]) (caps:=[]) (cap:=[]) (cs:=[]) rfl rfl (1:) (1:) (1:) (1:) (1:) (1:) rfl rfl rfl))
local macro_rules|`((28:))=>`((∀ σ' H',N σ' H'→∃ m',m' < m∧W (i + 1) m' σ' H'))
local macro_rules|`((29:))=>`((by simp))
local macro_rules|`((30:))=>`((by show 1≤sizeLine;decide))
local macro_rules|`((31:))=>`((vS "turnery.behind" 522))
local macro_rules|`((32:))=>`((.ListComp elt [⟨tg,iter,ifs,0⟩] scope pos))
local macro_rules|`((33:))=>`((by show 3≤sizeLine;decide))
local macro_rules|`((34:))=>`((x == ("__debug__" : Str)))
local macro_rules|`((35:))=>`((Qj Qk (pv 1) Qf (4:)))
local macro_rules|`((36:))=>`((fun y H6=>∃ ys,H6 acc=some (.lst ys)∧ys.length < sizeLine∧∃ m',m' < m∧W (i + 1) m' (upd H6 acc (.lst (ys ++ [y])))))
local macro_rules|`((37:))=>`((fun z=>nomatch z))
local macro_rules|`((38:))=>`((s.heap.push { cls:=.type "tuple_iterator", data:=.fields #[.ref t,.int 0 0] }))
local macro_rules|`((39:))=>`((SqT.of Qb))
local macro_rules|`((40:))=>`((Qj Qk (pv 0) Qf (4:)))
local macro_rules|`((41:))=>`((YD (CX1 P w) P w K mg base N qual scope f cd A outer s H E))
local macro_rules|`((42:))=>`((.tup [.str PUT,.str (nmL ns (if i=o then 7 else 6)),.bl (decide (V.int (cell / 2 % 2)=V.int 1)),.int ab,.ref p0]))
local macro_rules|`((43:))=>`(⟨rfl,I.turned (t':=s.toks) (fun b o hb e=>eb b o hb e) f0 f1 f3 f4 f5⟩)
local macro_rules|`((44:))=>`(⟨fun i m σ H=>m=xs.length - i∧i≤xs.length∧Pv i σ H,⟨xs.length,by simp,Nat.zero_le _,h0⟩,?_⟩)
local macro_rules|`((45:))=>`(((((n + 1) % c:Nat):Int),0,nm ((n + 1) % kk)))
local macro_rules|`((46:))=>`((PyProof.Rows.callWith_type1 (thn (ha pos pins s σ H _ I h) fun us s1 ⟨vs,H1,I1,r1,q1⟩=>?_) hs rfl))
local macro_rules|`((47:))=>`((upd (upd H' pt (.tup [.ref ra',.int 0,.int e.2.br])) lw (.lst (V.ref pt :: wy.map fun q=>V.ref q.1))))
local macro_rules|`((48:))=>`(((items.toList.drop (sIx items.size 0 lo)).take (sIx items.size items.size hi - sIx items.size 0 lo)))
local macro_rules|`((49:))=>`((backTo pos (starEach es X.env)))
local macro_rules|`((50:))=>`((Qu I q (29:)))
local macro_rules|`((51:))=>`((upd (upd (upd H p0 (.tup [])) p1 (.tup [.str PUT,.str nm,.bl false,.int 1,.ref p0])) l0 (.lst [])))
local macro_rules|`((52:))=>`((Qj Qk (pv 3) Qf (4:)))
local macro_rules|`((53:))=>`(⟨_,rfl⟩)
local macro_rules|`((54:))=>`((false,eval e X.env))
local macro_rules|`((55:))=>`((a,kd,lr,if ltS (nmL ns 1) (nmL ns 0)=true then [B,A] else [A,B]))
local macro_rules|`((56:))=>`((seqObj "list" #[] 0))
local macro_rules|`((57:))=>`((Heap.lt_size e))
local macro_rules|`((58:))=>`(((Sum.inr t.2.1:Key),t.2.2))
local macro_rules|`((59:))=>`((List.mem_append_right _ (List.mem_append_right _ (Zv hb e))))
noncomputable section
set_option Elab.async false
set_option linter.all false
set_option maxRecDepth 100000
namespace L2
open PySem PySem.Spec PyProof.Rows
abbrev Key:=Sum Int Str
def U0:Key→Value→Bool
 | .inl k,v=>Value.isInt k v
 | .inr x,v=>Value.isStrOf x v
def OJ (w:World):Key→Int
 | .inl k=>hashInt k
 | .inr x=>hashStr w x
theorem QA:∀ {k:Key} {v:Value},U0 k v=true→(∃ i t,k=Sum.inl i∧v=Value.int i t)∨(∃ x t,k=Sum.inr x∧v=Value.str x t)
 | .inl i,v,h=>by
  obtain ⟨t,e⟩:=Value.isInt_shape (k:=i) (v:=v) h
  exact .inl ⟨i,t,rfl,e⟩
 | .inr x,v,h=>by
  obtain ⟨t,e⟩:=Value.isStrOf_shape (x:=x) (v:=v) h
  exact .inr ⟨x,t,rfl,e⟩
theorem WO (i:Int) (t:Tok):U0 (.inl i) (.int i t)=true:=by simp [U0,Value.isInt]
theorem WR (x:Str) (t:Tok):U0 (.inr x) (.str x t)=true:=by simp [U0,Value.isStrOf]
theorem MV (a b:Int):decide ((Sum.inl a:Key)=Sum.inl b)=(a == b):=by
 by_cases e:a=b
 ·subst e;simp
 ·have h:¬ (Sum.inl a:Key)=Sum.inl b:=fun q=>e (Sum.inl.inj q)
  rw [decide_eq_false h]
  exact (beq_eq_false_iff_ne.mpr e).symm
theorem M3 (a b:Str):decide ((Sum.inr a:Key)=Sum.inr b)=decide (a=b):=by
 by_cases e:a=b
 ·subst e;simp
 ·have h:¬ (Sum.inr a:Key)=Sum.inr b:=fun q=>e (Sum.inr.inj q)
  rw [decide_eq_false h,decide_eq_false e]
theorem Mx (a:Int) (b:Str):decide ((Sum.inl a:Key)=Sum.inr b)=false:=decide_eq_false (fun q=>nomatch q)
theorem Mv (a:Str) (b:Int):decide ((Sum.inr a:Key)=Sum.inl b)=false:=decide_eq_false (fun q=>nomatch q)
def Qt (prog:Program) (w:World):PySem.KeyKind prog w Key where
 is:=U0
 hash:=OJ w
 inj:=fun v a b ha hb=>by
  rcases QA ha with ⟨i,t,rfl,rfl⟩ | ⟨x,t,rfl,rfl⟩
  ·rcases QA hb with ⟨j,u,rfl,e⟩ | ⟨y,u,rfl,e⟩
   ·injection e with e1 _;rw [e1]
   ·exact nomatch e
  ·rcases QA hb with ⟨j,u,rfl,e⟩ | ⟨y,u,rfl,e⟩
   ·exact nomatch e
   ·injection e with e1 _;rw [e1]
 byValue:=fun k v h=>by
  rcases QA h with ⟨i,t,rfl,rfl⟩ | ⟨x,t,rfl,rfl⟩ <;> rfl
 pyHash:=fun hv h=>by
  rcases QA hv with ⟨i,t,rfl,rfl⟩ | ⟨x,t,rfl,rfl⟩
  ·exact wpAny_pyHash_int h
  ·exact wpAny_pyHash_str h
 eqBool:=fun hu hv h=>by
  rcases QA hu with ⟨i,t,rfl,rfl⟩ | ⟨x,t,rfl,rfl⟩
  ·rcases QA hv with ⟨j,u,rfl,rfl⟩ | ⟨y,u,rfl,rfl⟩
   ·rw [MV] at h;exact wpAny_eqBool_int h
   ·rw [Mx] at h;exact SeqAt.EqAt.int_str i t y u _ _ _ _ h
  ·rcases QA hv with ⟨j,u,rfl,rfl⟩ | ⟨y,u,rfl,rfl⟩
   ·rw [Mv] at h;exact SeqAt.EqAt.str_int x t j u _ _ _ _ h
   ·rw [M3] at h;exact wpAny_eqBool_str h
 «strs»:=fun k x t v h=>by
  rcases QA h with ⟨i,u,rfl,e⟩ | ⟨y,u,rfl,e⟩
  ·exact nomatch e
  ·injection e with e1 _
   subst e1
   cases v <;> rfl
theorem JY (prog:Program) (w:World) (i:Int) (t:Tok):(Qt prog w).is (.inl i) (.int i t)=true:=WO i t
theorem J3 (prog:Program) (w:World) (x:Str) (t:Tok):(Qt prog w).is (.inr x) (.str x t)=true:=WR x t
end L2
namespace L2
open PySem PySem.Spec PyProof.Rows
inductive V where
 | non | bl (b:Bool) | int (i:Int) | str (x:Str) | byt (b:Array UInt8) | flt (b:UInt64) | ref (a:Addr) | ty (n:String)
 deriving DecidableEq
def RelV:V→Value→Prop
 | .non,u=>u=Value.none
 | .bl b,u=>u=Value.bool b
 | .int i,u=>∃ t,u=Value.int i t
 | .str x,u=>∃ t,u=Value.str x t
 | .byt b,u=>∃ t,u=Value.bytes b t
 | .flt b,u=>∃ t,u=Value.float b t
 | .ref a,u=>u=Value.ref a
 | .ty n,u=>u=Value.type n
abbrev Vals:List V→List Value→Prop:=Paired RelV
theorem Vals.length {xs:List V} {us:List Value} (r:Vals xs us):xs.length=us.length:=Paired.length r
theorem Vals.get:∀ {xs:List V} {us:List Value} {i:Nat} {x:V},Vals xs us→xs[i]?=some x→∃ u,us[i]?=some u∧RelV x u
 | _,_,_,_,.nil,e=>by simp at e
 | _,_,0,_,.cons r _,e=>by simp at e;subst e;exact ⟨_,rfl,r⟩
 | _,_,i + 1,x,.cons _ t,e=>by
  obtain ⟨u,h1,h2⟩:=Vals.get (i:=i) (x:=x) t (by simpa using e)
  exact ⟨u,by simpa using h1,h2⟩
theorem Vals.set {x:V} {u:Value} (r:RelV x u):∀ {xs:List V} {us:List Value} (i:Nat),Vals xs us→Vals (xs.set i x) (us.set i u)
 | _,_,_,.nil=>.nil
 | _,_,0,.cons _ t=>.cons r t
 | _,_,i + 1,.cons q t=>.cons q (Vals.set r i t)
theorem Vals.append:∀ {xs ys:List V} {us ws:List Value},Vals xs us→Vals ys ws→Vals (xs ++ ys) (us ++ ws)
 | _,_,_,_,.nil,s=>s
 | _,_,_,_,.cons r t,s=>.cons r (Vals.append t s)
theorem Vals.take:∀ {xs:List V} {us:List Value} (n:Nat),Vals xs us→Vals (xs.take n) (us.take n)
 | _,_,0,_=>.nil
 | _,_,_ + 1,.nil=>.nil
 | _,_,n + 1,.cons r t=>.cons r (Vals.take n t)
theorem Vals.drop:∀ {xs:List V} {us:List Value} (n:Nat),Vals xs us→Vals (xs.drop n) (us.drop n)
 | _,_,0,r=>r
 | _,_,_ + 1,.nil=>.nil
 | _,_,n + 1,.cons _ t=>Vals.drop n t
def RelO:Option V→Option Value→Prop
 | some v,some u=>RelV v u
 | none,none=>True
 | _,_=>False
def KV {κ:Type}:List (κ × V)→List (κ × Value)→Prop:=Paired fun (p:κ × V) (q:κ × Value)=>p.1=q.1∧RelV p.2 q.2
def kV:Key→V
 | .inl i=>.int i
 | .inr x=>.str x
inductive HO where
 /-- a list -/
 | lst (xs:List V)
 /-- a tuple (never changes) -/
 | tup (xs:List V)
 /-- a dict whose keys are ints and texts;one whose keys are tuples of ints and texts (the empty one is both) -/
 | dK (kvs:List (Key × V)) | dT (kvs:List (List Key × V))
 /-- a set of ints: its members,its size -/
 | set (S:Int→Bool) (n:Nat)
 /-- an instance of the class at C,its dict at dx,its attributes -/
 | ins (C dx:Addr) (fs:List (Str × V))
 /-- the dict of the instance at x -/
 | own (x:Addr)
 /-- the dict of an exception -/
 | xd (fs:List (Str × V))
 /-- a bound method,f of x -/
 | met (f x:Addr)
 /-- a range object lo,lo + 1,.. below hi -/
 | rng (lo hi:Int)
 /-- a thing that is known to the object (the script;a dict while a loop walks it): read,never written while it is so -/
 | frz (o:Obj) (u:HO)
 /-- a code object's table -/
 | tbl (ps:Array Value)
 /-- any other thing,by what is true of its one object (a def of one's own: SetO a S n:=HO.ext fun h=>..) -/
 | ext (φ:Heap→Prop)
abbrev Hp:=Addr→Option HO
def upd (H:Hp) (a:Addr) (o:HO):Hp:=fun b=>if b=a then some o else H b
theorem Qb {H:Hp} {a:Addr} {o:HO}:upd H a o a=some o:=by unfold upd;rw [if_pos rfl]
theorem Qi {H:Hp} {a b:Addr} {o:HO} (h:b≠a):upd H a o b=H b:=by unfold upd;rw [if_neg h]
theorem ne_of {H:Hp} {a b:Addr} {o u:HO} (h:H a=some o) (h':H b=some u) (d:o≠u):a≠b:=by
 intro e;subst e;rw [h] at h';exact d (Option.some.inj h')
theorem Qh {H:Hp} {a b:Addr} {o:HO} (h:H a=some o) (h':H b=none):a≠b:=by
 intro e;subst e;rw [h] at h';cases h'
section
variable (P:Program) (w:World)
def ObjOk (H:Hp) (h:Heap) (a:Addr):HO→Prop
 | .lst xs=>xs.length≤sizeLine∧∃ (its:List Value) (n:Nat),Vals xs its∧h.get? a=some { cls:=.type "list", data:=.seq its.toArray n }
 | .tup xs=>xs.length≤sizeLine∧∃ its:List Value,Vals xs its∧IsTup h a its.toArray
 | .dK kvs=>kvs.length≤sizeLine∧(a == sysModules)=false∧∃ vs,KV kvs vs∧h.DictOf (Qt P w) a vs
 | .dT kvs=>kvs.length≤sizeLine∧(a == sysModules)=false∧∃ xs:List (List Key × Addr × Value),
  Paired (fun (p:List Key × V) (q:List Key × Addr × Value)=>p.1=q.1∧H q.2.1=some (.tup (p.1.map kV))∧RelV p.2 q.2.2) kvs xs ∧
  ∃ o es ep,h.get? a=some o∧o.ExactDict∧o.data=.dict es ep∧es.toList=xs.map (entryOfKey (tupleKind (Qt P w)))∧(xs.map (·.1)).Nodup
 | .set S n=>h.SetOf (intKind P w) a S n
 | .ins C dx fs=>H dx=some (.own a)∧fs.length≤1000∧dx≠a∧h.get? a=some (PySem.W.instObj C dx) ∧
  ∃ mA,h.Ns1 dx mA∧(∀ f,RelO (fs.lookup f) (mA f))∧PySem.Within mA (fs.map (·.1))
 | .own _=>∃ o,h.get? a=some o
 | .xd fs=>∃ mA,h.Ns1 a mA∧∀ f,RelO (fs.lookup f) (mA f)
 | .rng lo hi=>∃ t u v,h.get? a=some { cls:=.type "range", data:=.fields #[.int lo t,.int hi u,.int 1 v] }
 | .frz o u=>h.get? a=some o∧ObjOk H h a u
 | .tbl ps=>h.get? a=some { cls:=.none,data:=.fields ps }
 | .met f x=>h.get? a=some (PySem.W.methodObj (.ref f) (.ref x))
 | .ext φ=>φ h∧(∃ o,h.get? a=some o)∧∀ h1 h2:Heap,φ h1→(∀ o,h1.get? a=some o→h2.get? a=some o)→φ h2
def HOk (H:Hp) (h:Heap):Prop:=∀ a o,H a=some o→ObjOk P w H h a o
end
section
variable {P:Program} {w:World} {H H':Hp} {h h':Heap} {a:Addr} {o:HO}
theorem ObjOk.lt (x:ObjOk P w H h a o):a < h.objs.size:=by
 cases o with
 | lst xs=>obtain ⟨_,_,_,_,e⟩:=x;exact Heap.lt_size e
 | tup xs=>obtain ⟨_,_,_,p⟩:=x;exact p.lt
 | dK kvs=>obtain ⟨_,_,_,_,o,_,_,e,_⟩:=x;exact Heap.lt_size e
 | dT kvs=>obtain ⟨_,_,_,_,o,_,_,e,_⟩:=x;exact Heap.lt_size e
 | set S n=>obtain ⟨o,_,_,_,e,_⟩:=x;exact Heap.lt_size e
 | ins C dx fs=>obtain ⟨_,_,_,e,_⟩:=x;exact Heap.lt_size e
 | own y=>obtain ⟨_,e⟩:=x;exact Heap.lt_size e
 | xd fs=>obtain ⟨_,⟨_,_,_,e,_⟩,_⟩:=x;exact Heap.lt_size e
 | rng lo hi=>obtain ⟨_,_,_,e⟩:=x;exact Heap.lt_size e
 | frz ob u=>obtain ⟨e,_⟩:=x;exact Heap.lt_size e
 | tbl ps=>exact Heap.lt_size (show h.get? a=some _ from x)
 | met f y=>exact Heap.lt_size (show h.get? a=some _ from x)
 | ext φ=>obtain ⟨_,⟨_,e⟩,_⟩:=x;exact Heap.lt_size e
theorem Paired.mapP {α β:Type} {F G:α→β→Prop}:∀ {l₁:List α} {l₂:List β},Paired F l₁ l₂→(∀ a b,F a b→G a b)→Paired G l₁ l₂
 | _,_,.nil,_=>.nil
 | _,_,.cons r t,f=>.cons (f _ _ r) (Paired.mapP t f)
theorem ObjOk.stay (x:ObjOk P w H h a o) (k:∀ b u,(b=a∨H b=some (.own a))→h.get? b=some u→h'.get? b=some u)
 (ho:∀ b,H b=some (.own a)→H' b=some (.own a)) (ht:∀ b xs,H b=some (.tup xs)→H' b=some (.tup xs)):ObjOk P w H' h' a o:=by
 induction o with
 | lst xs=>obtain ⟨z,its,n,r,e⟩:=x;exact ⟨z,its,n,r,k _ _ (.inl rfl) e⟩
 | tup xs=>obtain ⟨z,its,r,ob,e,c⟩:=x;exact ⟨z,its,r,ob,k _ _ (.inl rfl) e,c⟩
 | dK kvs=>obtain ⟨z,y,vs,r,ob,es,ep,e,c⟩:=x;exact ⟨z,y,vs,r,ob,es,ep,k _ _ (.inl rfl) e,c⟩
 | dT kvs =>
  obtain ⟨z,y,xs,r,ob,es,ep,e,c⟩:=x
  exact ⟨z,y,xs,Paired.mapP r fun p q z=>⟨z.1,ht _ _ z.2.1,z.2.2⟩,ob,es,ep,k _ _ (.inl rfl) e,c⟩
 | set S n=>obtain ⟨ob,es,ep,t,e,c⟩:=x;exact ⟨ob,es,ep,t,k _ _ (.inl rfl) e,c⟩
 | ins C dx fs =>
  obtain ⟨d,z,ne,e,mA,⟨od,es,ep,e2,c⟩,r⟩:=x
  exact ⟨ho _ d,z,ne,k _ _ (.inl rfl) e,mA,⟨od,es,ep,k _ _ (.inr d) e2,c⟩,r⟩
 | own y=>obtain ⟨ob,e⟩:=x;exact ⟨ob,k _ _ (.inl rfl) e⟩
 | xd fs=>obtain ⟨mA,⟨od,es,ep,e,c⟩,r⟩:=x;exact ⟨mA,⟨od,es,ep,k _ _ (.inl rfl) e,c⟩,r⟩
 | rng lo hi=>obtain ⟨t,u,v,e⟩:=x;exact ⟨t,u,v,k _ _ (.inl rfl) e⟩
 | frz ob u ih=>obtain ⟨e,q⟩:=x;exact ⟨k _ _ (.inl rfl) e,ih q⟩
 | tbl ps =>
  have e:h.get? a=some { cls:=.none,data:=.fields ps }:=x
  show h'.get? a=some { cls:=.none,data:=.fields ps }
  exact k a _ (.inl rfl) e
 | met f y =>
  have e:h.get? a=some (PySem.W.methodObj (.ref f) (.ref y)):=x
  show h'.get? a=some (PySem.W.methodObj (.ref f) (.ref y))
  exact k a _ (.inl rfl) e
 | ext φ=>obtain ⟨p,⟨o,e⟩,st⟩:=x;exact ⟨st _ _ p fun o q=>k _ _ (.inl rfl) q,⟨o,k _ _ (.inl rfl) e⟩,st⟩
theorem HOk.lt (x:HOk P w H h) (e:H a=some o):a < h.objs.size:=(x a o e).lt
theorem HOk.fresh (x:HOk P w H h) (e:h.objs.size≤a):H a=none:=by
 cases q:H a with
 | none=>rfl
 | some u=>exact absurd (Nat.lt_of_lt_of_le (x.lt q) e) (Nat.lt_irrefl _)
theorem HOk.kept (x:HOk P w H h) (k:∀ b u,h.get? b=some u→h'.get? b=some u):HOk P w H h':=fun a o e =>
 (x a o e).stay (fun b u _ q=>k b u q) (fun _ q=>q) fun _ _ q=>q
theorem HOk.laid (x:HOk P w H h) (k:∀ b u,h.get? b=some u→h'.get? b=some u) (hp:h.objs.size≤a) (new:ObjOk P w (upd H a o) h' a o):HOk P w (upd H a o) h':=fun b u e=>by
 have hn:=x.fresh hp
 by_cases hb:b=a
 ·subst hb;rw [Qb] at e;cases e;exact new
 ·rw [Qi hb] at e
  exact (x b u e).stay (fun c v _ q=>k c v q) (fun c q=>by rw [Qi (Qh q hn)];exact q) fun c xs q=>by rw [Qi (Qh q hn)];exact q
end
def Rd (H:Hp) (a:Addr) (u:HO):Prop:=H a=some u∨∃ o,H a=some (.frz o u)
theorem Rd.ok {P:Program} {w:World} {H:Hp} {h:Heap} {a:Addr} {u:HO} (r:Rd H a u) (x:HOk P w H h):ObjOk P w H h a u:=by
 rcases r with r | ⟨o,r⟩
 ·exact x a u r
 ·obtain ⟨_,q⟩:=x a _ r
  exact q
def Mut:Option HO→Prop
 | some (.lst _)=>True
 | some (.dK _)=>True
 | some (.dT _)=>True
 | some (.set _ _)=>True
 | some (.ins _ _ _)=>True
 | some (.ext _)=>True
 | _=>False
section
variable {P:Program} {w:World} {H:Hp} {h h':Heap} {x e:Addr} {o':HO}
theorem HOk.write (ok:HOk P w H h) (mu:Mut (H x)) (he:e=x∨H e=some (.own x)) (k:∀ b u,b≠e→h.get? b=some u→h'.get? b=some u) (heo:∃ u,h'.get? e=some u)
 (new:ObjOk P w (upd H x o') h' x o'):HOk P w (upd H x o') h':=fun b u q=>by
 have nown:∀ c y,H c=some (.own y)→c≠x:=fun c y r z=>by subst z;rw [r] at mu;exact mu
 have ntup:∀ c xs,H c=some (.tup xs)→c≠x:=fun c xs r z=>by subst z;rw [r] at mu;exact mu
 by_cases hb:b=x
 ·subst hb;rw [Qb] at q;cases q;exact new
 ·rw [Qi hb] at q
  by_cases hbe:b=e
  ·have q':H b=some (.own x):=by
    rcases he with z | z
    ·exact absurd (hbe.trans z) hb
    ·rw [hbe];exact z
   rw [q] at q';cases q'
   obtain ⟨v,hv⟩:=heo
   exact ⟨v,by rw [hbe];exact hv⟩
  ·refine (ok b u q).stay (fun c v hc r=>k c v ?_ r) (fun c r=>by rw [Qi (nown c b r)];exact r) fun c xs r=>by rw [Qi (ntup c xs r)];exact r
   rcases hc with rfl | hc
   ·exact hbe
   ·rintro rfl
    rcases he with z | z
    ·exact nown c b hc z
    ·rw [hc] at z;cases z;exact hb rfl
end
structure Un (fs ex:List Addr) (H H':Hp) (h h':Heap):Prop where
 keep:∀ b o,h.get? b=some o→H b=none→b ∉ fs→b ∉ ex→h'.get? b=some o
 slot:∀ b o,h.get? b=some o→H b=none→b ∈ fs→b ∉ ex→∃ sl,h'.get? b=some { o with slots:=sl }
 free:∀ b o,h.get? b=some o→H b=none→b ∉ ex→H' b=none
 there:∀ b o,h.get? b=some o→b ∉ ex→∃ o',h'.get? b=some o'
 tups:∀ b xs,H b=some (.tup xs)→H' b=some (.tup xs)
 frzs:∀ b o u,H b=some (.frz o u)→H' b=some (.frz o u)
 tbls:∀ b ps,H b=some (.tbl ps)→∃ more,H' b=some (.tbl (ps ++ more))
section
variable {fs fs' ex ex':List Addr} {H H1 H2:Hp} {h h1 h2 h':Heap} {a x e:Addr} {o:HO}
theorem Un.any (u:Un fs ex H H1 h h1) {b:Addr} {ob:Obj} (q:h.get? b=some ob) (n:H b=none) (hx:b ∉ ex):∃ sl,h1.get? b=some { ob with slots:=sl }:=by
 by_cases hb:b ∈ fs
 ·exact u.slot b ob q n hb hx
 ·exact ⟨ob.slots,u.keep b ob q n hb hx⟩
theorem Un.kept (k:∀ b u,h.get? b=some u→h'.get? b=some u):Un fs ex H H h h' :=
 ⟨fun b ob q _ _ _=>k b ob q,fun b ob q _ _ _=>⟨ob.slots,k b ob q⟩,fun _ _ _ n _=>n,fun b ob q _=>⟨ob,k b ob q⟩,fun _ _ q=>q,fun _ _ _ q=>q,fun _ ps q=>⟨#[],by rw [q];simp⟩⟩
theorem Un.refl:Un fs ex H H h h:=Un.kept fun _ _ q=>q
theorem Un.laid (k:∀ b u,h.get? b=some u→h'.get? b=some u) (hp:h.objs.size≤a) (hn:H a=none):Un fs ex H (upd H a o) h h' where
 keep:=fun b u q _ _ _=>k b u q
 slot:=fun b u q _ _ _=>⟨u.slots,k b u q⟩
 free:=fun b u q n _=>by rw [Qi (Nat.ne_of_lt (Nat.lt_of_lt_of_le (Heap.lt_size q) hp))];exact n
 there:=fun b u q _=>⟨u,k b u q⟩
 tups:=fun b xs q=>by rw [Qi (Qh q hn)];exact q
 frzs:=fun b u xs q=>by rw [Qi (Qh q hn)];exact q
 tbls:=fun b ps q=>⟨#[],by rw [Qi (Qh q hn),q];simp⟩
theorem Un.write (mu:Mut (H x)) (he:e=x∨H e=some (.own x)) (k:∀ b u,b≠e→h.get? b=some u→h'.get? b=some u) (heo:∃ u,h'.get? e=some u):Un fs ex H (upd H x o) h h':=by
 have hx:∀ b,H b=none→b≠x:=fun b n z=>by subst z;rw [n] at mu;exact mu
 have hb:∀ b,H b=none→b≠e:=fun b n z=>by
  subst z
  rcases he with r | r
  ·exact hx b n r
  ·rw [n] at r;cases r
 have hm:∀ b u,H b=some u→¬ Mut (some u)→b≠x:=fun b u q nm z=>by subst z;rw [q] at mu;exact nm mu
 refine ⟨fun b u q n _ _=>k b u (hb b n) q,fun b u q n _ _=>⟨u.slots,k b u (hb b n) q⟩,fun b u q n _=>by rw [Qi (hx b n)];exact n,fun b u q _=>?_,fun b xs q=>by rw [Qi (hm b _ q fun z=>z)];exact q,fun b u xs q=>by rw [Qi (hm b _ q fun z=>z)];exact q,fun b ps q=>⟨#[],by rw [Qi (hm b _ q fun z=>z),q];simp⟩⟩
 by_cases hbe:b=e
 ·subst hbe;exact heo
 ·exact ⟨u,k b u hbe q⟩
end
def trk (h:Heap) (H:Hp):List Addr:=(List.range h.objs.size).filter fun a=>(H a).isSome
def ZZ (h:Heap) (H:Hp):Heap:=PySem.W.hideAll h (trk h H)
theorem U4 (h:Heap) (H:Hp):(ZZ h H).objs.size=h.objs.size:=PySem.W.hideAll_size _ _
theorem Xd {h:Heap} {H:Hp} {b:Addr} {o:Obj} (e:h.get? b=some o) (n:H b=none):(ZZ h H).get? b=some o :=
 PySem.W.hideAll_get _ e fun hm=>by
  have q:(H b).isSome=true:=(List.mem_filter.mp hm).2
  rw [n] at q;simp at q
theorem Wy {h:Heap} {H:Hp} {b:Addr} {o:Obj} (e:(ZZ h H).get? b=some o):h.get? b=some o∧H b=none:=by
 have e':h.get? b=some o:=PySem.W.of_hideAll (trk h H) e
 refine ⟨e',?_⟩
 cases q:H b with
 | none=>rfl
 | some x =>
  have hm:b ∈ trk h H:=List.mem_filter.mpr ⟨List.mem_range.mpr (Heap.lt_size e'),by simp [q]⟩
  have z:(ZZ h H).get? b=none:=PySem.W.hideAll_none (trk h H) hm
  rw [z] at e;cases e
def GU (g h:Heap) (L:Addr):List (7:):=(List.range h.objs.size).filterMap fun a=>if a=L∨(g.get? a).isSome=true then none else (h.get? a).map fun o=>(a,o)
def rest (g h:Heap) (L d:Addr):List (7:):=(GU g h L).filter fun p=>decide (p.1≠d)
end L2
namespace L2
open PySem PySem.Spec PyProof.Rows
structure Mod (K:PySem.W.Frag) (mg:Str→Option Value) (base:Heap):Prop where
 kin:K.In base
 glob:base.Ns mainGlobals mg
 blt:∃ mb,base.Ns builtinsNs mb∧∀ x:Str,x ≠ "__name__" → mb x=bootBuiltins x
 nolimit:base.NoLimit
structure Cx where
 prog:Program
 w:World
 K:PySem.W.Frag
 mg:Str→Option Value
 base:Heap
 A:Around
 N:List Str
 s₀:Shared
 H₀:Hp
 env:Env
 outer:List Env
 stack:List Env
 ex:List Addr
 fn:Str→Bool
 calm:Bool
 pn:List (7:)
 xe:Value→Shared→Prop
def frs (l:List Env):List Addr:=l.filterMap (·.frame)
abbrev Cx.fs (X:Cx):List Addr:=frs X.outer
def Vis (sc:Scope) (x:Str):Prop:=sc.names.lookup x=some .local∨sc.names.lookup x=some .cell∨sc.names.lookup x=some .free
def Loc (sc:Scope) (x:Str):Prop:=sc.names.lookup x=some .local∨sc.names.lookup x=some .cell
def ON (env:Env) (h:Heap) (m:Str→Option Value) (x:Str) (u:Value):Prop :=
 (env.kindOf x=some .local∧m x=some u)∨((env.kindOf x=some .cell∨env.kindOf x=some .free)∧∃ c,env.cells.lookup x=some c∧h.IsCell c (some u))
structure Cx.Ok (X:Cx):Prop where
 mod:Mod X.K X.mg X.base
 kind:X.env.scope.kind=.function
 glob:X.env.globals=mainGlobals
 blt:X.env.builtins=builtinsNs
 above:X.s₀.heap.objs.size≤X.env.locals
 inj:∀ x y c,X.env.cells.lookup x=some c→X.env.cells.lookup y=some c→x=y
 has:∀ x,(X.env.kindOf x=some .cell∨X.env.kindOf x=some .free)→∃ c,X.env.cells.lookup x=some c
 cab:∀ x c,X.fn x=true→X.env.cells.lookup x=some c→X.s₀.heap.objs.size≤c
 hd:X.calm=true→X.A.handled=none
 frames:X.A.frames=some X.stack
 stk:X.stack=X.outer∨(X.stack=X.env :: X.outer∧X.env.frame=some X.env.locals)
 exf:∀ b ∈ X.ex,b≠X.env.locals∧∀ x c,X.env.cells.lookup x=some c→c≠b
 bs:∀ b o,X.base.get? b=some o→X.s₀.heap.get? b=some o∧X.H₀ b=none
 bsz:X.base.objs.size≤X.s₀.heap.objs.size
 noex:∀ b o,X.base.get? b=some o→b ∉ X.ex
 exfs:∀ b ∈ X.ex,b ∉ X.fs
 funs:X.s₀.heap.FunFrames X.base X.outer
 frf:∀ b ∈ X.fs,X.H₀ b=none
structure Inv (X:Cx) (pins:List (7:)) (σ:List (Option V)) (H:Hp) (s:Shared):Prop where
 ok:X.Ok
 os:s.os=X.s₀.os
 bare:AllBare s.gens
 base:Un X.fs X.ex X.H₀ H X.s₀.heap s.heap
 loc:∃ m,s.heap.Ns X.env.locals m∧∀ (i:Nat) (x:Str) (v:V),X.N[i]?=some x→σ[i]?=some (some v)→Vis X.env.scope x→∃ u,RelV v u∧ON X.env s.heap m x u
 cell:∀ x c,X.env.cells.lookup x=some c→∃ v,s.heap.IsCell c v
 free:H X.env.locals=none
 freeC:∀ x c,X.env.cells.lookup x=some c→H c=none
 pin:∀ p ∈ X.pn ++ pins,s.heap.get? p.1=some p.2∧H p.1=none∧p.1≠X.env.locals∧p.1 ∉ X.fs∧∀ v,p.2.data≠.cell v
 hok:HOk X.prog X.w H s.heap
 len:σ.length=X.N.length
section
variable {X:Cx} {pins:List (7:)} {σ:List (Option V)} {H H':Hp} {s:Shared} {h':Heap}
theorem Cx.Ok.nofr (ok:X.Ok) {b:Addr} {o:Obj} (e:X.base.get? b=some o):b ∉ X.fs:=fun hb=>by
 have:=(ok.funs.mem hb).1
 rw [e] at this;cases this
theorem Inv.bs (I:Inv X pins σ H s):∀ b o,X.base.get? b=some o→s.heap.get? b=some o∧H b=none:=fun b o e =>
 ⟨I.base.keep b o (I.ok.bs b o e).1 (I.ok.bs b o e).2 (I.ok.nofr e) (I.ok.noex b o e),I.base.free b o (I.ok.bs b o e).1 (I.ok.bs b o e).2 (I.ok.noex b o e)⟩
theorem Inv.bk (I:Inv X pins σ H s):∀ b o,X.base.get? b=some o→s.heap.get? b=some o:=fun b o e=>(I.bs b o e).1
theorem Inv.mod (I:Inv X pins σ H s):Mod X.K X.mg X.base:=I.ok.mod
theorem Inv.kIn (I:Inv X pins σ H s):X.K.In s.heap:=I.ok.mod.kin.keeps I.bk
theorem Inv.lt (I:Inv X pins σ H s):X.env.locals < s.heap.objs.size:=let ⟨_,hn,_⟩:=I.loc;hn.lt
theorem Inv.sz (I:Inv X pins σ H s):X.s₀.heap.objs.size≤s.heap.objs.size:=Nat.le_trans I.ok.above (Nat.le_of_lt I.lt)
theorem Inv.nofs (I:Inv X pins σ H s) {a:Addr} (h:s.heap.objs.size≤a):a ∉ X.fs:=fun hb=>by
 obtain ⟨_,o,ho,_⟩:=I.ok.funs.mem hb
 exact absurd (Nat.lt_of_lt_of_le (Heap.lt_size ho) (Nat.le_trans I.sz h)) (Nat.lt_irrefl _)
theorem Inv.cne (I:Inv X pins σ H s):∀ x c,X.env.cells.lookup x=some c→c≠X.env.locals:=fun x c e z=>by
 obtain ⟨v,o,ho,hd⟩:=I.cell x c e
 obtain ⟨m,⟨o',es,ep,ho',hd',_⟩,_⟩:=I.loc
 rw [z,ho'] at ho;cases ho;rw [hd'] at hd;cases hd
theorem Inv.funs (I:Inv X pins σ H s):s.heap.FunFrames X.base X.outer:=by
 have all:∀ (l:List Env),(∀ b ∈ frs l,b ∈ X.fs)→X.s₀.heap.FunFrames X.base l→s.heap.FunFrames X.base l:=by
  intro l
  induction l with
  | nil=>intro _ _;trivial
  | cons env r ih =>
   intro hs hl
   obtain ⟨hk,⟨L,o,hf,hn,ho,hd⟩,hr⟩:=hl
   have hL:L ∈ X.fs:=hs L (by unfold frs;rw [List.filterMap_cons,hf];exact List.mem_cons_self)
   obtain ⟨sl,e⟩:=I.base.slot L o ho (I.ok.frf L hL) hL fun z=>I.ok.exfs L z hL
   exact ⟨hk,⟨L,_,hf,hn,e,hd⟩,ih (fun b hb=>hs b (by unfold frs;rw [List.filterMap_cons,hf];exact List.mem_cons_of_mem _ hb)) hr⟩
 exact all X.outer (fun _ hb=>hb) I.ok.funs
theorem Inv.stack (I:Inv X pins σ H s):s.heap.FunFrames X.base X.stack:=by
 rcases I.ok.stk with e | ⟨e,hf⟩
 ·rw [e];exact I.funs
 ·rw [e]
  obtain ⟨m,hn,_⟩:=I.loc
  refine .cons (by rw [I.ok.kind];decide) hf hn ?_ I.funs
  exact Heap.get?_none_of_le (Nat.le_trans I.ok.bsz I.ok.above)
theorem Inv.stkSub (I:Inv X pins σ H s):∀ b ∈ frs X.stack,b ∈ X.env.locals :: X.fs:=fun b hb=>by
 rcases I.ok.stk with e | ⟨e,hf⟩
 ·rw [e] at hb;exact List.mem_cons_of_mem _ hb
 ·rw [e] at hb
  unfold frs at hb
  rw [List.filterMap_cons,hf] at hb
  exact hb
theorem Inv.stkFree (I:Inv X pins σ H s):∀ b ∈ frs X.stack,H b=none:=fun b hb=>by
 rcases List.mem_cons.mp (I.stkSub b hb) with e | hb
 ·rw [e];exact I.free
 ·obtain ⟨_,o,ho,_⟩:=I.ok.funs.mem hb
  exact I.base.free b o ho (I.ok.frf b hb) fun z=>I.ok.exfs b z hb
theorem Inv.step {g':Array GenState} {t':Nat} {d':Drawn} {ch:List Addr} (I:Inv X pins σ H s)
 (hch:∀ b ∈ ch,(b ∈ X.ex∨X.s₀.heap.objs.size≤b)∧b≠X.env.locals∧(∀ x c,X.env.cells.lookup x=some c→c≠b)∧∀ p ∈ X.pn ++ pins,p.1≠b)
 (keep:∀ b o,b≠X.env.locals→b ∉ X.fs→b ∉ ch→s.heap.get? b=some o→H b=none→h'.get? b=some o)
 (slot:∀ b o,b≠X.env.locals→b ∈ X.fs→b ∉ ch→s.heap.get? b=some o→H b=none→∃ sl,h'.get? b=some { o with slots:=sl }) (free:∀ b o,b ∉ ch→s.heap.get? b=some o→H b=none→H' b=none)
 (there:∀ b o,b ∉ ch→s.heap.get? b=some o→∃ o',h'.get? b=some o')
 (tups:∀ b xs,H b=some (.tup xs)→H' b=some (.tup xs)) (frzs:∀ b o u,H b=some (.frz o u)→H' b=some (.frz o u)) (tbls:∀ b ps,H b=some (.tbl ps)→∃ more,H' b=some (.tbl (ps ++ more)))
 (ns:∀ m,s.heap.Ns X.env.locals m→h'.Ns X.env.locals m) (hok:HOk X.prog X.w H' h') (hg:AllBare g') :
 Inv X pins σ H' { s with heap:=h',gens:=g',drawn:=d',toks:=t' }:=by
 have neL:∀ b o,X.s₀.heap.get? b=some o→b≠X.env.locals:=fun b o e=>Nat.ne_of_lt (Nat.lt_of_lt_of_le (57:) I.ok.above)
 have neC:∀ b o,X.s₀.heap.get? b=some o→b ∉ X.ex→b ∉ ch:=fun b o e hx hb=>by
  rcases (hch b hb).1 with z | z
  ·exact hx z
  ·exact absurd (Nat.lt_of_lt_of_le (57:) z) (Nat.lt_irrefl _)
 have cellK:∀ x c,X.env.cells.lookup x=some c→∀ v,s.heap.IsCell c v→h'.IsCell c v:=fun x c e v ⟨o,ho,hd⟩=>by
  have nch:c ∉ ch:=fun z=>(hch c z).2.2.1 x c e rfl
  by_cases hc:c ∈ X.fs
  ·obtain ⟨sl,q⟩:=slot c o (I.cne x c e) hc nch ho (I.freeC x c e)
   exact ⟨_,q,hd⟩
  ·exact ⟨o,keep c o (I.cne x c e) hc nch ho (I.freeC x c e),hd⟩
 refine ⟨I.ok,I.os,hg,⟨fun b o e n hb hx=>?_,fun b o e n hb hx=>?_,fun b o e n hx=>?_,fun b o e hx=>?_,fun b xs e=>tups b xs (I.base.tups b xs e),fun b o xs e=>frzs b o xs (I.base.frzs b o xs e),fun b ps e=>?_⟩,?_,fun x c e=>?_,?_,fun x c e=>?_,fun p hp=>?_,hok,I.len⟩
 ·exact keep b o (neL b o e) hb (neC b o e hx) (I.base.keep b o e n hb hx) (I.base.free b o e n hx)
 ·obtain ⟨sl,e1⟩:=I.base.slot b o e n hb hx
  obtain ⟨sl',e2⟩:=slot b _ (neL b o e) hb (neC b o e hx) e1 (I.base.free b o e n hx)
  exact ⟨sl',e2⟩
 ·obtain ⟨o',e1⟩:=I.base.there b o e hx
  exact free b o' (neC b o e hx) e1 (I.base.free b o e n hx)
 ·obtain ⟨o',e1⟩:=I.base.there b o e hx
  exact there b o' (neC b o e hx) e1
 ·obtain ⟨m1,e1⟩:=I.base.tbls b ps e
  obtain ⟨m2,e2⟩:=tbls b _ e1
  exact ⟨m1 ++ m2,by rw [e2,Array.append_assoc]⟩
 ·obtain ⟨m,hn,hl⟩:=I.loc
  refine ⟨m,ns m hn,fun i x v e1 e2 e3=>?_⟩
  obtain ⟨u,r,l⟩:=hl i x v e1 e2 e3
  refine ⟨u,r,?_⟩
  rcases l with l | ⟨k,c,e,z⟩
  ·exact .inl l
  ·exact .inr ⟨k,c,e,cellK x c e _ z⟩
 ·obtain ⟨v,z⟩:=I.cell x c e
  exact ⟨v,cellK x c e v z⟩
 ·obtain ⟨m,⟨o,_,_,ho,_⟩,_⟩:=I.loc
  exact free _ o (fun z=>(hch _ z).2.1 rfl) ho I.free
 ·obtain ⟨v,o,ho,hd⟩:=I.cell x c e
  exact free c o (fun z=>(hch c z).2.2.1 x c e rfl) ho (I.freeC x c e)
 ·obtain ⟨e,n,ne,nf,d⟩:=I.pin p hp
  have nch:p.1 ∉ ch:=fun z=>(hch p.1 z).2.2.2 p hp rfl
  exact ⟨keep p.1 p.2 ne nf nch e n,free p.1 p.2 nch e n,ne,nf,d⟩
theorem Inv.un {t':Nat} (I:Inv X pins σ H s) (u:Un X.fs [] H H' s.heap h') (hok:HOk X.prog X.w H' h'):Inv X pins σ H' { s with heap:=h',toks:=t' }:=by
 obtain ⟨m,⟨o,es,ep,ho,r⟩,_⟩:=id I.loc
 obtain ⟨sl,hL⟩:=u.any ho I.free (29:)
 exact I.step (g':=s.gens) (d':=s.drawn) (ch:=[]) (fun _ z=>nomatch z) (fun b o _ hb _ e n=>u.keep b o e n hb (29:)) (fun b o _ hb _ e n=>u.slot b o e n hb (29:)) (fun b o _ e n=>u.free b o e n (29:)) (fun b o _ e=>u.there b o e (29:)) u.tups u.frzs u.tbls (fun m' hm=>by
  obtain ⟨o',es',ep',ho',r'⟩:=hm
  rw [ho] at ho';cases ho'
  exact ⟨_,es',ep',hL,r'⟩) hok I.bare
theorem Inv.call {g':Array GenState} {t':Nat} {d':Drawn} {ch:List Addr} (I:Inv X pins σ H s) (u:Un (frs X.stack) ch H H' s.heap h') (hok:HOk X.prog X.w H' h') (hg:AllBare g')
 (hch:∀ b ∈ ch,(b ∈ X.ex∨X.s₀.heap.objs.size≤b)∧b≠X.env.locals∧(∀ x c,X.env.cells.lookup x=some c→c≠b)∧∀ p ∈ X.pn ++ pins,p.1≠b) :
 Inv X pins σ H' { s with heap:=h',gens:=g',drawn:=d',toks:=t' }:=by
 obtain ⟨m,⟨o,es,ep,ho,r⟩,_⟩:=id I.loc
 obtain ⟨sl,hL⟩:=u.any ho I.free fun z=>(hch _ z).2.1 rfl
 exact I.step (ch:=ch) hch (fun b o hL hb hc e n=>u.keep b o e n (fun z=>(List.mem_cons.mp (I.stkSub b z)).elim hL hb) hc) (fun b o _ _ hc e n=>u.any e n hc) (fun b o hc e n=>u.free b o e n hc) (fun b o hc e=>u.there b o e hc) u.tups u.frzs u.tbls (fun m' hm=>by
  obtain ⟨o',es',ep',ho',r'⟩:=hm
  rw [ho] at ho';cases ho'
  exact ⟨_,es',ep',hL,r'⟩) hok hg
theorem Inv.turned {t':Nat} {it:Addr} (I:Inv X pins σ H s) (k:∀ b o,b≠it→s.heap.get? b=some o→h'.get? b=some o) (hn:H it=none) (hL:it≠X.env.locals)
 (h1:it ∈ X.ex∨X.s₀.heap.objs.size≤it) (h2:∀ x c,X.env.cells.lookup x=some c→c≠it) (h3:∀ p ∈ X.pn ++ pins,p.1≠it):Inv X pins σ H { s with heap:=h',toks:=t' }:=by
 have nit:∀ b u,H b=some u→b≠it:=fun b u e z=>by rw [z,hn] at e;cases e
 refine I.step (g':=s.gens) (d':=s.drawn) (ch:=[it]) (fun b hb=>?_) (fun b o _ _ hc e _=>k b o (fun z=>hc (by simp [z])) e) (fun b o _ _ hc e _=>⟨o.slots,k b o (fun z=>hc (by simp [z])) e⟩) (fun _ _ _ _ n=>n)
  (fun b o hc e=>⟨o,k b o (fun z=>hc (by simp [z])) e⟩) (fun _ _ e=>e) (fun _ _ _ e=>e) (fun b ps e=>⟨#[],by rw [e];simp⟩) (fun m hm=>?_) (fun b u e=>?_) I.bare
 ·have e:b=it:=by simpa using hb
  subst e
  exact ⟨h1,hL,h2,h3⟩
 ·obtain ⟨o,es,ep,ho,r⟩:=hm
  exact ⟨o,es,ep,k _ o (Ne.symm hL) ho,r⟩
 ·refine (I.hok b u e).stay (fun c v hc q=>k c v ?_ q) (fun _ q=>q) fun _ _ q=>q
  rcases hc with z | z
  ·rw [z];exact nit b u e
  ·exact nit c _ z
theorem Inv.tok (I:Inv X pins σ H s) (t:Nat):Inv X pins σ H { s with toks:=t }:=I.un (h':=s.heap) (t':=t) Un.refl I.hok
theorem Inv.kept {t':Nat} (I:Inv X pins σ H s) (k:∀ b u,s.heap.get? b=some u→h'.get? b=some u):Inv X pins σ H { s with heap:=h',toks:=t' }:=I.un (Un.kept k) (I.hok.kept k)
theorem Inv.laid {a:Addr} {o:HO} {t':Nat} (I:Inv X pins σ H s) (k:∀ b u,s.heap.get? b=some u→h'.get? b=some u) (hp:s.heap.objs.size≤a) (new:ObjOk X.prog X.w (upd H a o) h' a o) :
 Inv X pins σ (upd H a o) { s with heap:=h',toks:=t' }:=I.un (Un.laid k hp (I.hok.fresh hp)) (I.hok.laid k hp new)
theorem Inv.write {x e:Addr} {o:HO} {t':Nat} (I:Inv X pins σ H s) (mu:Mut (H x)) (he:e=x∨H e=some (.own x)) (k:∀ b u,b≠e→s.heap.get? b=some u→h'.get? b=some u) (heo:∃ u,h'.get? e=some u)
 (new:ObjOk X.prog X.w (upd H x o) h' x o):Inv X pins σ (upd H x o) { s with heap:=h',toks:=t' }:=I.un (Un.write mu he k heo) (I.hok.write mu he k heo new)
theorem Inv.pins_of {pins':List (7:)} (I:Inv X pins σ H s) (h:∀ p ∈ pins',s.heap.get? p.1=some p.2∧H p.1=none∧p.1≠X.env.locals∧p.1 ∉ X.fs∧∀ v,p.2.data≠.cell v):Inv X pins' σ H s :=
 ⟨I.ok,I.os,I.bare,I.base,I.loc,I.cell,I.free,I.freeC,fun p hp=>(List.mem_append.mp hp).elim (fun z=>I.pin p (List.mem_append_left _ z)) (h p),I.hok,I.len⟩
theorem UC {N:List Str} (hN:N.Nodup) {i j:Nat} {x:Str} (a:N[i]?=some x) (b:N[j]?=some x):i=j:=by
 obtain ⟨h1,e1⟩:=List.getElem?_eq_some_iff.mp a
 obtain ⟨h2,e2⟩:=List.getElem?_eq_some_iff.mp b
 exact (List.getElem_inj hN).mp (e1.trans e2.symm)
theorem UQ {M:Model} {A:Around} {E:Value→Shared→Prop} {i:Nat} {x:Str} {v:V} {u:Value} {Q:Unit→Shared→Prop} (I:Inv X pins σ H s) (hN:X.N.Nodup) (hi:X.N[i]?=some x) (hx:Loc X.env.scope x) (r:RelV v u)
 (h:∀ s',Inv X pins (σ.set i (some v)) H s'→(∃ a,Heap.SameBut a s.heap s'.heap∧(a=X.env.locals∨X.env.cells.lookup x=some a))→Q () s') (hf:X.fn x=true∨X.env.scope.names.lookup x=some .local:=by first | exact .inl rfl | exact .inr rfl | assumption):wpAny M A (storeName X.env x u) Q E s:=by
 obtain ⟨m,hn,hl⟩:=id I.loc
 have hcls:(X.env.scope.kind == .class || (X.env.scope.kind == .module && X.env.locals != X.env.globals))=false:=by rw [I.ok.kind];rfl
 have hiσ:i < σ.length:=by rw [I.len];exact (List.getElem?_eq_some_iff.mp hi).1
 have cne:=I.cne
 have tracked:∀ {a:Addr} {h':Heap},(∃ o,s.heap.get? a=some o∧H a=none)→Heap.SameBut a s.heap h'→HOk X.prog X.w H h':=fun {a h'} ha hs b ob e=>by
  obtain ⟨_,_,hfree⟩:=ha
  refine (I.hok b ob e).stay (fun c w' hc q=>(hs.2 c ?_).trans q) (fun _ q=>q) fun _ _ q=>q
  rintro rfl
  rcases hc with rfl | hc
  ·rw [hfree] at e;cases e
  ·rw [hfree] at hc;cases hc
 rcases hx with hk | hk
 ·refine wpAny_storeName_local hk hn (fun h' hn' hs=>?_) hcls
  obtain ⟨oL,_,_,hoL,_⟩:=id hn
  refine h _ ⟨I.ok,I.os,I.bare,⟨fun b o e n hb hx=>?_,fun b o e n hb hx=>?_,I.base.free,fun b o e hx=>?_,I.base.tups,I.base.frzs,I.base.tbls⟩,⟨_,hn',fun j y v' e1 e2 e3=>?_⟩,fun y c e=>?_,I.free,I.freeC,fun p hp=>?_,tracked ⟨oL,hoL,I.free⟩ hs,by simpa using I.len⟩ ⟨_,hs,.inl rfl⟩
  ·exact (hs.2 b (Nat.ne_of_lt (Nat.lt_of_lt_of_le (57:) I.ok.above))).trans (I.base.keep b o e n hb hx)
  ·obtain ⟨sl,e1⟩:=I.base.slot b o e n hb hx
   exact ⟨sl,(hs.2 b (Nat.ne_of_lt (Nat.lt_of_lt_of_le (57:) I.ok.above))).trans e1⟩
  ·obtain ⟨o',e1⟩:=I.base.there b o e hx
   exact ⟨o',(hs.2 b (Nat.ne_of_lt (Nat.lt_of_lt_of_le (57:) I.ok.above))).trans e1⟩
  ·by_cases hj:j=i
   ·subst hj
    rw [hi] at e1;cases e1
    rw [List.getElem?_set_self hiσ] at e2
    cases e2
    exact ⟨u,r,.inl ⟨hk,by simp⟩⟩
   ·rw [List.getElem?_set_ne (Ne.symm hj)] at e2
    obtain ⟨u',r',q⟩:=hl j y v' e1 e2 e3
    refine ⟨u',r',?_⟩
    rcases q with ⟨k,e⟩ | ⟨k,c,e,z⟩
    ·refine .inl ⟨k,?_⟩
     have:y≠x:=fun e=>hj (UC hN e1 (e ▸ hi))
     simp [this,e]
    ·exact .inr ⟨k,c,e,z.sameBut hs (cne y c e)⟩
  ·obtain ⟨w',z⟩:=I.cell y c e
   exact ⟨w',z.sameBut hs (cne y c e)⟩
  ·obtain ⟨e,n,ne,nf,d⟩:=I.pin p hp
   exact ⟨(hs.2 p.1 ne).trans e,n,ne,nf,d⟩
 ·have hfn:X.fn x=true:=by
   rcases hf with z | z
   ·exact z
   ·rw [z] at hk;cases hk
  obtain ⟨c,hc⟩:=I.ok.has x (.inl hk)
  obtain ⟨w',z⟩:=I.cell x c hc
  refine wpAny_storeName_cell I.ok.kind hk hc z (fun h' hc' hs=>?_)
  obtain ⟨oc,hoc,hocd⟩:=id z
  refine h { s with heap:=h' } ⟨I.ok,I.os,I.bare,⟨fun b o e n hb hx=>?_,fun b o e n hb hx=>?_,I.base.free,fun b o e hx=>?_,I.base.tups,I.base.frzs,I.base.tbls⟩,⟨m,hn.sameBut hs (Ne.symm (cne x c hc)),fun j y v' e1 e2 e3=>?_⟩,fun y c' e=>?_,I.free,I.freeC,fun p hp=>?_,tracked ⟨oc,hoc,I.freeC x c hc⟩ hs,by simpa using I.len⟩ ⟨c,hs,.inr hc⟩
  ·exact (hs.2 b (Nat.ne_of_lt (Nat.lt_of_lt_of_le (57:) (I.ok.cab x c hfn hc)))).trans (I.base.keep b o e n hb hx)
  ·obtain ⟨sl,e1⟩:=I.base.slot b o e n hb hx
   exact ⟨sl,(hs.2 b (Nat.ne_of_lt (Nat.lt_of_lt_of_le (57:) (I.ok.cab x c hfn hc)))).trans e1⟩
  ·obtain ⟨o',e1⟩:=I.base.there b o e hx
   exact ⟨o',(hs.2 b (Nat.ne_of_lt (Nat.lt_of_lt_of_le (57:) (I.ok.cab x c hfn hc)))).trans e1⟩
  ·by_cases hj:j=i
   ·subst hj
    rw [hi] at e1;cases e1
    rw [List.getElem?_set_self hiσ] at e2
    cases e2
    exact ⟨u,r,.inr ⟨.inl hk,c,hc,hc'⟩⟩
   ·rw [List.getElem?_set_ne (Ne.symm hj)] at e2
    obtain ⟨u',r',q⟩:=hl j y v' e1 e2 e3
    refine ⟨u',r',?_⟩
    rcases q with q | ⟨k,c',e,z'⟩
    ·exact .inl q
    ·refine .inr ⟨k,c',e,z'.sameBut hs ?_⟩
     rintro rfl
     exact hj (UC hN e1 (I.ok.inj _ _ _ e hc ▸ hi))
  ·by_cases hcc:c'=c
   ·subst hcc;exact ⟨_,hc'⟩
   ·obtain ⟨w2,z2⟩:=I.cell y c' e
    exact ⟨w2,z2.sameBut hs hcc⟩
  ·obtain ⟨e,n,ne,nf,d⟩:=I.pin p hp
   refine ⟨(hs.2 p.1 ?_).trans e,n,ne,nf,d⟩
   intro q
   rw [q,hoc] at e
   have q':oc=p.2:=Option.some.inj e
   exact d w' (by rw [← q'];exact hocd)
theorem Yd {M:Model} {A:Around} {E:Value→Shared→Prop} {i:Nat} {x:Str} {v:V} {u:Value} {Q:Unit→Shared→Prop} (I:Inv X pins σ H s) (hN:X.N.Nodup) (hi:X.N[i]?=some x) (hx:Loc X.env.scope x) (r:RelV v u)
 (h:∀ s',Inv X pins (σ.set i (some v)) H s'→Q () s') (hf:X.fn x=true∨X.env.scope.names.lookup x=some .local:=by first | exact .inl rfl | exact .inr rfl | assumption):wpAny M A (storeName X.env x u) Q E s :=
 UQ I hN hi hx r (fun s' I' _=>h s' I') hf
theorem Inv.call' {s':Shared} {ch:List Addr} (I:Inv X pins σ H s) (ho:s'.os=s.os) (u:Un (frs X.stack) ch H H' s.heap s'.heap) (hok:HOk X.prog X.w H' s'.heap) (hg:AllBare s'.gens)
 (hch:∀ b ∈ ch,(b ∈ X.ex∨X.s₀.heap.objs.size≤b)∧b≠X.env.locals∧(∀ x c,X.env.cells.lookup x=some c→c≠b)∧∀ p ∈ X.pn ++ pins,p.1≠b):Inv X pins σ H' s':=by
 obtain ⟨h',g',d',t',o'⟩:=s'
 have e:o'=s.os:=ho
 subst e
 exact I.call (g':=g') (t':=t') (d':=d') u hok hg hch
end
abbrev XK:=Value→Option Addr→Hp→Prop
abbrev St:=List (Option V)
abbrev VK:=V→Hp→Prop
abbrev TE:=St→Hp→VK→Prop
abbrev TT:=St→Hp→(Bool→Hp→Prop)→Prop
abbrev TA:=St→Hp→(List V→Hp→Prop)→Prop
structure Ends where
 nx:St→Hp→Prop
 rt:VK
 bk:St→Hp→Prop:=fun _ _=>False
 ct:St→Hp→Prop:=fun _ _=>False
abbrev TS:=Ends→St→Hp→Prop
def EP (X:Cx) (pins:List (7:)) (σ:St) (Q:VK) (u:Value) (s':Shared):Prop:=∃ v H',Inv X pins σ H' s'∧RelV v u∧Q v H'
def TP (X:Cx) (pins:List (7:)) (σ:St) (Q:Bool→Hp→Prop) (b:Bool) (s':Shared):Prop:=∃ H',Inv X pins σ H' s'∧Q b H'
def AP (X:Cx) (pins:List (7:)) (σ:St) (Q:List V→Hp→Prop) (us:List Value) (s':Shared):Prop:=∃ vs H',Inv X pins σ H' s'∧Vals vs us∧Q vs H'
def SP (X:Cx) (pins:List (7:)) (D:Ends) (f:Flow) (s':Shared):Prop :=
 match f with
 | .next=>∃ σ' H',Inv X pins σ' H' s'∧D.nx σ' H'
 | .brk=>∃ σ' H',Inv X pins σ' H' s'∧D.bk σ' H'
 | .cont=>∃ σ' H',Inv X pins σ' H' s'∧D.ct σ' H'
 | .ret u=>∃ v σ' H',Inv X pins σ' H' s'∧RelV v u∧D.rt v H'
def PE (X:Cx) (e:Expr) (t:TE):Prop :=
 ∀ (pins:List (7:)) (s:Shared) (σ:St) (H:Hp) (Q:VK),Inv X pins σ H s→t σ H Q→wpAny (6:) X.A (eval e X.env) (EP X pins σ Q) X.xe s
def PT (X:Cx) (e:Expr) (t:TT):Prop :=
 ∀ (pins:List (7:)) (s:Shared) (σ:St) (H:Hp) (Q:Bool→Hp→Prop),Inv X pins σ H s→t σ H Q→wpAny (6:) X.A (isTrue e X.env (eval e X.env)) (TP X pins σ Q) X.xe s
def PW (X:Cx) (e:Expr) (t:TT):Prop :=
 ∀ (whole:Sem Value) (pins:List (7:)) (s:Shared) (σ:St) (H:Hp) (Q:Bool→Hp→Prop),Inv X pins σ H s→t σ H Q→wpAny (6:) X.A (isTrue e X.env whole) (TP X pins σ Q) X.xe s
theorem PW.pt {X:Cx} {e:Expr} {t:TT} (h:PW X e t):PT X e t:=h _
def PA (X:Cx) (es:List Expr) (t:TA):Prop :=
 ∀ (pos:Pos) (pins:List (7:)) (s:Shared) (σ:St) (H:Hp) (Q:List V→Hp→Prop),Inv X pins σ H s→t σ H Q→wpAny (6:) X.A (spliced (49:)) (AP X pins σ Q) X.xe s
def PS (X:Cx) (st:Stmt) (t:TS):Prop :=
 ∀ (pins:List (7:)) (s:Shared) (σ:St) (H:Hp) (D:Ends),Inv X pins σ H s→t D σ H→wpAny (6:) X.A (exec st X.env) (SP X pins D) X.xe s
def PSs (X:Cx) (st:List Stmt) (t:TS):Prop :=
 ∀ (pins:List (7:)) (s:Shared) (σ:St) (H:Hp) (D:Ends),Inv X pins σ H s→t D σ H→wpAny (6:) X.A (execs st X.env) (SP X pins D) X.xe s
theorem thn {α:Type} {t:Sem α} {Q Q':α→Shared→Prop} {M:Model} {A:Around} {E:Value→Shared→Prop} {s:Shared} (h:wpAny M A t Q E s) (hQ:∀ a s,Q a s→Q' a s):wpAny M A t Q' E s:=wpAny_mono h hQ fun _ _ x=>x
end L2
namespace L2
open PySem PySem.Spec PyProof.Rows
section
variable {X:Cx}
def YV (i:Nat):TE:=fun σ H Q=>∃ v,σ[i]?=some (some v)∧Q v H
def tC (v:V):TE:=fun _ H Q=>Q v H
theorem MA {i:Nat} {x:Str} {pos:Pos} (hN:X.N[i]?=some x) (hv:Vis X.env.scope x) (hd:(34:)=false:=by decide) (hcd:(x == ("__classdict__" : Str))=false:=by decide):PE X (.Name x pos) (YV i):=by
 intro pins s σ H Q I h
 obtain ⟨v,e,h⟩:=h
 obtain ⟨m,hn,hl⟩:=I.loc
 obtain ⟨u,r,l⟩:=hl i x v hN e hv
 have fin:EP X pins σ Q u s:=⟨v,H,I,r,h⟩
 rcases l with ⟨hk,hm⟩ | ⟨hk,c,hc,hcell⟩
 ·exact wpAny_Name (wpAny_loadName_local I.ok.kind hk hn hm fin) hd
 ·rcases hk with hk | hk
  ·exact wpAny_Name (wpAny_loadName_cell I.ok.kind hk hc hcell fin) hd
  ·exact wpAny_Name (wpAny_loadName_free I.ok.kind hk hc hcell fin hcd) hd
theorem Qf {i j pos}:PE X (.Constant (.int i) j pos) (tC (.int i)):=fun _ _ _ H _ I h=>wpAny_Constant_int ⟨.int i,H,I.tok _,(53:),h⟩
theorem ZO {b j pos}:PE X (.Constant (.bool b) j pos) (tC (.bl b)):=fun _ _ _ H _ I h=>Constant_bool ⟨.bl b,H,I,rfl,h⟩
theorem Zi {j pos}:PE X (.Constant .none j pos) (tC .non):=fun _ _ _ H _ I h=>Constant_none ⟨.non,H,I,rfl,h⟩
theorem QJ {x j pos}:PE X (.Constant (.str x) j pos) (tC (.str x)):=fun _ _ _ H _ I h=>Calls.Constant_str ⟨.str x,H,I.tok _,(53:),h⟩
def Gl (X:Cx) (x:Str):Prop:=X.env.kindOf x=some .globalImplicit
theorem ZU {E:Value→Shared→Prop} {pins:List (7:)} {s:Shared} {σ:St} {H:Hp} {x:Str} {u:Value} {pos:Pos} {Q:Value→Shared→Prop} (I:Inv X pins σ H s) (hg:Gl X x) (hm:X.mg x=some u) (h:Q u s)
 (hd:(34:)=false:=by decide):wpAny (6:) X.A (eval (.Name x pos) X.env) Q E s :=
 Calls.Name_function_global I.ok.kind hg (Calls.loadGlobal_global (by rw [I.ok.glob];exact I.mod.glob.keeps I.bk) hm h) hd
theorem Z5 {E:Value→Shared→Prop} {pins:List (7:)} {s:Shared} {σ:St} {H:Hp} {x:Str} {u:Value} {pos:Pos} {Q:Value→Shared→Prop} (I:Inv X pins σ H s) (hg:Gl X x) (hm:X.mg x=none) (hv:bootBuiltins x=some u) (h:Q u s)
 (hn:x ≠ "__name__" := by decide) (hd:(34:)=false:=by decide):wpAny (6:) X.A (eval (.Name x pos) X.env) Q E s:=by
 obtain ⟨mb,h1,h2⟩:=I.mod.blt
 exact Calls.Name_function_global I.ok.kind hg (Calls.loadGlobal_builtin (by rw [I.ok.glob];exact I.mod.glob.keeps I.bk) hm (by rw [I.ok.blt];exact h1.keeps I.bk) ((h2 x hn).trans hv) h) hd
theorem Q4 {x:Str} {v:V} {u:Value} {pos:Pos} (hg:Gl X x) (hm:X.mg x=some u) (r:RelV v u) (hd:(34:)=false:=by decide):PE X (.Name x pos) (tC v) :=
 fun _ _ _ H _ I h=>ZU I hg hm ⟨v,H,I,r,h⟩ hd
theorem Zb {x:Str} {v:V} {u:Value} {pos:Pos} (hg:Gl X x) (hm:X.mg x=none) (hv:bootBuiltins x=some u) (r:RelV v u) (hn:x ≠ "__name__" := by decide) (hd:(34:)=false:=by decide):PE X (.Name x pos) (tC v) :=
 fun _ _ _ H _ I h=>Z5 I hg hm hv ⟨v,H,I,r,h⟩ hn hd
variable {a b:Expr} {ta tb:TE} {pos:Pos}
def PC (X:Cx) (op:CmpOp) (a b:Expr) (t:TE):Prop :=
 ∀ (pins:List (7:)) (s:Shared) (σ:St) (H:Hp) (Q:VK),Inv X pins σ H s→t σ H Q →
  wpAny (6:) X.A (eval a X.env) (fun v s₁=>wpAny (6:) X.A (eval b X.env) (fun u s₂=>wpAny (6:) X.A (compareOp op v u) (EP X pins σ Q) X.xe s₂) X.xe s₁) X.xe s
theorem J4 (b:Expr) {op:CmpOp} (h:op≠.In) (h2:op≠.NotIn):behindInMarks op b=false:=by
 have e1:(op == CmpOp.In)=false:=by cases op <;> first | rfl | exact absurd rfl h
 have e2:(op == CmpOp.NotIn)=false:=by cases op <;> first | rfl | exact absurd rfl h2
 cases b <;> simp [behindInMarks,e1,e2]
def OB (ta:TE):TE:=fun σ H Q=>ta σ H fun x H1=>Q (.bl (decide (x=.non))) H1
theorem RelV.none_iff {x:V} {v:Value} (r:RelV x v):(v == Value.none)=decide (x=.non):=by
 cases x with
 | non=>cases r;rfl
 | bl _=>cases r;rfl
 | int _=>obtain ⟨t,rfl⟩:=r;rfl
 | str _=>obtain ⟨t,rfl⟩:=r;rfl
 | byt _=>obtain ⟨t,rfl⟩:=r;rfl
 | flt _=>obtain ⟨t,rfl⟩:=r;rfl
 | ref _=>cases r;rfl
 | ty _=>cases r;rfl
theorem YB {j pos'} (ha:PE X a ta):PC X .Is a (.Constant .none j pos') (OB ta):=by
 intro pins s σ H Q I h
 refine thn (ha pins s σ H _ I h) fun v s1 ⟨x,H1,I1,r1,q1⟩=>?_
 exact Constant_none (is_none_gen ⟨.bl _,H1,I1,by rw [r1.none_iff];rfl,q1⟩)
def tB (t:TE):TT:=fun σ H Q=>t σ H fun x H1=>∃ c,x=.bl c∧Q c H1
theorem LU {op:CmpOp} {t:TE} (h:PC X op a b t) (h1:behindInMarks op b=false:=by first | exact J4 _ (13:) (13:) | rfl):PE X (.Compare a [op] [b] pos) t:=fun pins s σ H Q I hw=>wpAny_Compare1 (h pins s σ H Q I hw) h1
theorem Yy {op:CmpOp} {t:TE} (h:PC X op a b t) (h1:behindInMarks op b=false:=by first | exact J4 _ (13:) (13:) | rfl):PT X (.Compare a [op] [b] pos) (tB t):=by
 intro pins s σ H Q I hw
 refine wpAny_isTrue_Compare1 (thn (h pins s σ H _ I hw) fun v s1 h1=>thn h1 fun u s2 h2=>thn h2 fun c s3 ⟨x,H1,I1,r1,q1⟩=>?_) h1
 obtain ⟨d,rfl,q⟩:=q1
 cases r1
 exact wpAny_truthy_bool ⟨H1,I1,q⟩
theorem Q0 {e:Expr} {t:TE} (h:PE X e t) (he:∀ whole,isTrue e X.env whole=(do let v ← whole;standAt e.pos;holding [v] (truthy v)):=by intro _;rfl):PT X e (tB t):=by
 intro pins s σ H Q I hw
 refine isTrue_plain (thn (h pins s σ H _ I hw) fun v s1 ⟨x,H1,I1,r1,q1⟩=>?_) (he _)
 obtain ⟨d,rfl,q⟩:=q1
 cases r1
 exact wpAny_truthy_bool ⟨H1,I1,q⟩
variable {tA tB':TT} {rest:List Expr}
def Op (t u:TT):TT:=fun σ H Q=>t σ H fun c H1=>if c=true then u σ H1 Q else Q false H1
def tOr (t u:TT):TT:=fun σ H Q=>t σ H fun c H1=>if c=true then Q true H1 else u σ H1 Q
def Oo (t:TT):TT:=fun σ H Q=>t σ H fun c H1=>Q (!c) H1
theorem pw_and1 (ha:PT X a tA):PW X (.BoolOp .And [a] pos) tA:=by
 intro wh pins s σ H Q I h
 refine isTrue_and (thn (ha pins s σ H Q I h) fun c s1 e=>?_)
 cases c with
 | true=>exact isTrue_and_nil e
 | false=>exact e
theorem pw_or1 (ha:PT X a tA):PW X (.BoolOp .Or [a] pos) tA:=by
 intro wh pins s σ H Q I h
 refine isTrue_or (thn (ha pins s σ H Q I h) fun c s1 e=>?_)
 cases c with
 | false=>exact isTrue_or_nil e
 | true=>exact e
theorem pw_and (ha:PT X a tA) (hb:PW X (.BoolOp .And (b :: rest) pos) tB'):PW X (.BoolOp .And (a :: b :: rest) pos) (Op tA tB'):=by
 intro wh pins s σ H Q I h
 refine isTrue_and (thn (ha pins s σ H _ I h) fun c s1 ⟨H1,I1,q1⟩=>?_)
 cases c with
 | true=>exact hb wh pins s1 σ H1 Q I1 q1
 | false=>exact ⟨H1,I1,q1⟩
theorem pw_or (ha:PT X a tA) (hb:PW X (.BoolOp .Or (b :: rest) pos) tB'):PW X (.BoolOp .Or (a :: b :: rest) pos) (tOr tA tB'):=by
 intro wh pins s σ H Q I h
 refine isTrue_or (thn (ha pins s σ H _ I h) fun c s1 ⟨H1,I1,q1⟩=>?_)
 cases c with
 | true=>exact ⟨H1,I1,q1⟩
 | false=>exact hb wh pins s1 σ H1 Q I1 q1
theorem UK (ha:PT X a tA):PT X (.UnaryOp .Not a pos) (Oo tA):=by
 intro pins s σ H Q I h
 exact isTrue_not (ha pins s σ H (fun c H1=>Q (!c) H1) I h)
def NB (ta tb:TE):TE:=fun σ H Q=>ta σ H fun x H1=>∃ c,x=.bl c∧if c=true then tb σ H1 Q else Q (.bl false) H1
def Nt (ta:TE):TE:=fun σ H Q=>ta σ H fun x H1=>∃ c,x=.bl c∧Q (.bl (!c)) H1
theorem Ys {op} {t:TE} (h:PE X a t):PE X (.BoolOp op [a] pos) t:=fun pins s σ H Q I hw=>BoolOp_one (h pins s σ H Q I hw)
theorem Zw (ha:PE X a ta) (hb:PE X (.BoolOp .And (b :: rest) pos) tb):PE X (.BoolOp .And (a :: b :: rest) pos) (NB ta tb):=by
 intro pins s σ H Q I h
 refine BoolOp_and (thn (ha pins s σ H _ I h) fun v s1 ⟨x,H1,I1,r1,q1⟩=>?_)
 obtain ⟨c,rfl,q1⟩:=q1
 cases r1
 refine wpAny_truthy_bool ?_
 cases c with
 | true=>exact hb pins s1 σ H1 Q I1 q1
 | false=>exact ⟨.bl false,H1,I1,rfl,q1⟩
theorem UG (ha:PE X a ta):PE X (.UnaryOp .Not a pos) (Nt ta):=by
 intro pins s σ H Q I h
 refine UnaryOp_ (thn (ha pins s σ H _ I h) fun v s1 ⟨x,H1,I1,r1,q1⟩=>?_)
 obtain ⟨c,rfl,q1⟩:=q1
 cases r1
 exact not_of (wpAny_truthy_bool ⟨.bl (!c),H1,I1,rfl,q1⟩)
def tIf (t:TT) (ta tb:TE):TE:=fun σ H Q=>t σ H fun c H1=>if c=true then ta σ H1 Q else tb σ H1 Q
theorem JM {c:Expr} (hc:PT X c tA) (ha:PE X a ta) (hb:PE X b tb):PE X (.IfExp c a b pos) (tIf tA ta tb):=by
 intro pins s σ H Q I h
 refine wpAny_IfExp (thn (hc pins s σ H _ I h) fun d s1 ⟨H1,I1,q1⟩=>?_)
 cases d with
 | true=>exact ha pins s1 σ H1 Q I1 q1
 | false=>exact hb pins s1 σ H1 Q I1 q1
end
end L2
namespace L2
open PySem PySem.Spec PyProof.Rows
def SqL (K:PySem.W.Frag) (H:Hp) (a:Addr) (xs:List V):Prop :=
 Rd H a (.lst xs) ∨
  ∃ (o:Obj) (its:Array Value) (n:Nat),K.lookup a=some o∧o.cls=.type "list" ∧ o.dict=none∧o.data=.seq its n∧its.size≤sizeLine∧Vals xs its.toList
def SqT (K:PySem.W.Frag) (H:Hp) (a:Addr) (xs:List V):Prop :=
 Rd H a (.tup xs) ∨
  ∃ (o:Obj) (its:Array Value) (n:Nat),K.lookup a=some o∧o.cls=.type "tuple" ∧ o.data=.seq its n∧its.size≤sizeLine∧Vals xs its.toList
def Oh:Value→Option V
 | .none=>some .non
 | .bool b=>some (.bl b)
 | .int i _=>some (.int i)
 | .str x _=>some (.str x)
 | .bytes b _=>some (.byt b)
 | .float b _=>some (.flt b)
 | .ref a=>some (.ref a)
 | .type n=>some (.ty n)
 | _=>none
theorem RelV.abs {x:V} {u:Value} (r:RelV x u):Oh u=some x:=by
 cases x with
 | non=>cases r;rfl
 | bl _=>cases r;rfl
 | int _=>obtain ⟨t,rfl⟩:=r;rfl
 | str _=>obtain ⟨t,rfl⟩:=r;rfl
 | byt _=>obtain ⟨t,rfl⟩:=r;rfl
 | flt _=>obtain ⟨t,rfl⟩:=r;rfl
 | ref _=>cases r;rfl
 | ty _=>cases r;rfl
theorem RelV.inj {x y:V} {u:Value} (r:RelV x u) (q:RelV y u):x=y:=Option.some.inj (r.abs.symm.trans q.abs)
theorem Vals.inj:∀ {xs ys:List V} {us:List Value},Vals xs us→Vals ys us→xs=ys
 | _,_,_,.nil,.nil=>rfl
 | _,_,_,.cons r t,.cons r' t'=>by rw [r.inj r',Vals.inj t t']
section
variable {X:Cx} {pins:List (7:)} {σ:St} {H:Hp} {s:Shared} {a:Addr} {xs ys:List V}
theorem SqL.of {K:PySem.W.Frag} (h:H a=some (.lst xs)):SqL K H a xs:=.inl (.inl h)
theorem SqT.of {K:PySem.W.Frag} (h:H a=some (.tup xs)):SqT K H a xs:=.inl (.inl h)
theorem Inv.list (I:Inv X pins σ H s) (h:SqL X.K H a xs):∃ its:List Value,Vals xs its∧PlainL s.heap a its.toArray∧xs.length≤sizeLine:=by
 rcases h with h | ⟨o,its,n,hk,hc,hd,hs,hz,r⟩
 ·obtain ⟨z,its,n,r,e⟩:=h.ok I.hok
  exact ⟨its,r,⟨_,n,e,rfl,rfl,rfl⟩,z⟩
 ·refine ⟨its.toList,r,⟨o,n,I.kIn a o hk,hc,hd,by simpa using hs⟩,?_⟩
  have e:=r.length
  simp only [Array.length_toList] at e
  lia
theorem Inv.tuple (I:Inv X pins σ H s) (h:SqT X.K H a xs):∃ its:List Value,Vals xs its∧IsTup s.heap a its.toArray∧xs.length≤sizeLine:=by
 rcases h with h | ⟨o,its,n,hk,hc,hs,hz,r⟩
 ·obtain ⟨z,its,r,p⟩:=h.ok I.hok
  exact ⟨its,r,p,z⟩
 ·refine ⟨its.toList,r,⟨o,I.kIn a o hk,hc,n,by simpa using hs⟩,?_⟩
  have e:=r.length
  simp only [Array.length_toList] at e
  lia
theorem Inv.list_inj (I:Inv X pins σ H s) (h:SqL X.K H a xs) (h':SqL X.K H a ys):xs=ys:=by
 obtain ⟨its,r,⟨o,n,e,_,_,d⟩,_⟩:=I.list h
 obtain ⟨its',r',⟨o',n',e',_,_,d'⟩,_⟩:=I.list h'
 rw [e] at e';cases e'
 rw [d] at d'
 injection d' with d1 _
 have:its=its':=by simpa using congrArg Array.toList d1
 subst this
 exact r.inj r'
theorem Inv.tuple_inj (I:Inv X pins σ H s) (h:SqT X.K H a xs) (h':SqT X.K H a ys):xs=ys:=by
 obtain ⟨its,r,⟨o,e,_,n,d⟩,_⟩:=I.tuple h
 obtain ⟨its',r',⟨o',e',_,n',d'⟩,_⟩:=I.tuple h'
 rw [e] at e';cases e'
 rw [d] at d'
 injection d' with d1 _
 have:its=its':=by simpa using congrArg Array.toList d1
 subst this
 exact r.inj r'
end
abbrev Cx.wish (X:Cx) (E:Value→Shared→Prop):Cx:={ X with xe:=E }
abbrev Cx.nox (X:Cx):Cx:=X.wish fun _ _=>False
theorem Cx.Ok.wish {X:Cx} (ok:X.Ok) (E:Value→Shared→Prop):(X.wish E).Ok :=
 ⟨ok.mod,ok.kind,ok.glob,ok.blt,ok.above,ok.inj,ok.has,ok.cab,ok.hd,ok.frames,ok.stk,ok.exf,ok.bs,ok.bsz,ok.noex,ok.exfs,ok.funs,ok.frf⟩
theorem Cx.Ok.unwish {X:Cx} {E:Value→Shared→Prop} (ok:(X.wish E).Ok):X.Ok :=
 ⟨ok.mod,ok.kind,ok.glob,ok.blt,ok.above,ok.inj,ok.has,ok.cab,ok.hd,ok.frames,ok.stk,ok.exf,ok.bs,ok.bsz,ok.noex,ok.exfs,ok.funs,ok.frf⟩
section
variable {X:Cx} {pins:List (7:)} {σ:St} {H:Hp} {s:Shared} {E:Value→Shared→Prop}
theorem Inv.wish (I:Inv X pins σ H s) (E:Value→Shared→Prop):Inv (X.wish E) pins σ H s:=⟨I.ok.wish E,I.os,I.bare,I.base,I.loc,I.cell,I.free,I.freeC,I.pin,I.hok,I.len⟩
theorem Inv.unwish (I:Inv (X.wish E) pins σ H s):Inv X pins σ H s:=⟨I.ok.unwish,I.os,I.bare,I.base,I.loc,I.cell,I.free,I.freeC,I.pin,I.hok,I.len⟩
theorem SP.unwish {D:Ends} {f:Flow} {s':Shared} (h:SP (X.wish E) pins D f s'):SP X pins D f s':=by
 cases f with
 | next=>obtain ⟨σ',H',I,q⟩:=h;exact ⟨σ',H',I.unwish,q⟩
 | brk=>obtain ⟨σ',H',I,q⟩:=h;exact ⟨σ',H',I.unwish,q⟩
 | cont=>obtain ⟨σ',H',I,q⟩:=h;exact ⟨σ',H',I.unwish,q⟩
 | ret u=>obtain ⟨v,σ',H',I,r,q⟩:=h;exact ⟨v,σ',H',I.unwish,r,q⟩
theorem PSs.nox {st:List Stmt} {t:TS} (h:PSs X.nox st t):PSs X st t:=fun pins s σ H D I hw =>
 wpAny_mono (h pins s σ H D (I.wish _) hw) (fun _ _ q=>q.unwish) fun _ _ z=>False.elim z
end
section
variable {X:Cx} {st:Stmt} {rest:List Stmt} {t u:TS} {e:Expr} {te:TE} {pos:Pos}
def M7:TS:=fun D σ H=>D.nx σ H
def Ov (t u:TS):TS:=fun D σ H=>t { D with nx:=u D } σ H
theorem Qq:PSs X [] M7:=fun _ _ σ H _ I h=>wpAny_execs_nil ⟨σ,H,I,h⟩
theorem Qe (h1:PS X st t) (h2:PSs X rest u):PSs X (st :: rest) (Ov t u):=by
 intro pins s σ H D I h
 refine wpAny_execs_cons (thn (h1 pins s σ H { D with nx:=u D } I h) fun f s1 q=>?_)
 cases f with
 | next =>
  obtain ⟨σ',H',I',q⟩:=q
  exact h2 pins s1 σ' H' D I' q
 | ret v=>exact q
 | brk=>exact q
 | cont=>exact q
theorem Qg (h1:PS X st t):PSs X [st] t:=by
 intro pins s σ H D I h
 refine wpAny_execs_cons (thn (h1 pins s σ H D I h) fun f s1 q=>?_)
 cases f with
 | next=>exact wpAny_execs_nil q
 | ret v=>exact q
 | brk=>exact q
 | cont=>exact q
theorem Inv.quiet {pins:List (7:)} {σ:St} {H:Hp} {s:Shared} (I:Inv X pins σ H s):interactive X.env=false:=by simp [interactive,I.ok.kind]
def Ng (te:TE):TS:=fun D σ H=>te σ H fun _ H1=>D.nx σ H1
theorem QL (he:PE X e te) (hs:swapsWith e none pos.line X.env=pure false:=by rfl):PS X (.Expr e pos) (Ng te):=by
 intro pins s σ H D I h
 exact wpAny_Expr_any (thn (he pins s σ H _ I h) fun v s1 ⟨x,H1,I1,r1,q1⟩=>⟨σ,H1,I1,q1⟩) I.quiet hs
def OE (te:TE):TS:=fun D σ H=>te σ H D.rt
theorem Qn (he:PE X e te):PS X (.Return (some e) pos) (OE te):=by
 intro pins s σ H D I h
 exact wpAny_Return_some (thn (he pins s σ H _ I h) fun v s1 ⟨x,H1,I1,r1,q1⟩=>⟨x,σ,H1,I1,r1,q1⟩)
def NR:TS:=fun D _ H=>D.rt .non H
theorem X0:PS X (.Return none pos) NR:=fun _ _ σ H _ I h=>wpAny_Return_none ⟨.non,σ,H,I,rfl,h⟩
def Oy (c:TT) (t u:TS):TS:=fun D σ H=>c σ H fun b H1=>if b=true then t D σ H1 else u D σ H1
theorem Qz {c:Expr} {a b:List Stmt} {tc:TT} (hc:PT X c tc) (ha:PSs X a t) (hb:PSs X b u):PS X (.If c a b pos) (Oy tc t u):=by
 intro pins s σ H D I h
 refine wpAny_If (thn (hc pins s σ H _ I h) fun d s1 ⟨H1,I1,q1⟩=>?_)
 cases d with
 | true=>exact ha pins s1 σ H1 D I1 q1
 | false=>exact hb pins s1 σ H1 D I1 q1
def LR:TS:=fun _ _ _=>False
theorem QN {sts:List Stmt}:PSs X sts LR:=fun _ _ _ _ _ _ h=>h.elim
end
abbrev TG:=V→St→Hp→(St→Hp→Prop)→Prop
abbrev TGs:=List V→St→Hp→(St→Hp→Prop)→Prop
def PG (X:Cx) (target:Expr) (t:TG):Prop :=
 ∀ (pins:List (7:)) (s:Shared) (σ:St) (H:Hp) (v:V) (u:Value) (Q:St→Hp→Prop),Inv X pins σ H s→RelV v u→t v σ H Q →
  wpAny (6:) X.A (assign target X.env u) (fun _ s'=>∃ σ' H',Inv X pins σ' H' s'∧Q σ' H') X.xe s
def PGs (X:Cx) (ts:List Expr) (t:TGs):Prop :=
 ∀ (pins:List (7:)) (s:Shared) (σ:St) (H:Hp) (vs:List V) (us:List Value) (Q:St→Hp→Prop),Inv X pins σ H s→Vals vs us→t vs σ H Q →
  wpAny (6:) X.A (assignInOrder ((assignEach ts X.env).map (·.2)) us) (fun _ s'=>∃ σ' H',Inv X pins σ' H' s'∧Q σ' H') X.xe s
abbrev Ms:=V→V→V→Hp→(Hp→Prop)→Prop
def NN (X:Cx) (t:Ms):Prop :=
 ∀ (pins:List (7:)) (s:Shared) (σ:St) (H:Hp) (o i v:V) (ov iv u:Value) (Q:Hp→Prop),Inv X pins σ H s→RelV o ov→RelV i iv→RelV v u→t o i v H Q →
  wpAny (6:) X.A (setItem ov iv u) (fun _ s'=>∃ H',Inv X pins σ H' s'∧Q H') X.xe s
abbrev TIp:=V→V→Hp→VK→Prop
def PIp (X:Cx) (op:Operator) (t:TIp):Prop :=
 ∀ (pins:List (7:)) (s:Shared) (σ:St) (H:Hp) (x y:V) (v u:Value) (Q:VK),Inv X pins σ H s→RelV x v→RelV y u→t x y H Q →
  wpAny (6:) X.A (inplaceOp op v u) (EP X pins σ Q) X.xe s
section
variable {X:Cx} {pos:Pos}
def Q8 (i:Nat):TG:=fun v σ H Q=>Q (σ.set i (some v)) H
theorem Qy {i:Nat} {x:Str} (hN:X.N.Nodup) (hi:X.N[i]?=some x) (hx:Loc X.env.scope x) (hf:X.fn x=true∨X.env.scope.names.lookup x=some .local:=by first | exact .inl rfl | exact .inr rfl | assumption):PG X (.Name x pos) (Q8 i):=by
 intro pins s σ H v u Q I r h
 exact wpAny_assign_Name (Yd I hN hi hx r (fun s' I'=>⟨_,H,I',h⟩) hf)
def GH:TGs:=fun vs σ H Q=>vs=[]∧Q σ H
def UB (t:TG) (u:TGs):TGs:=fun vs σ H Q=>∃ v r,vs=v :: r∧t v σ H fun σ' H'=>u r σ' H' Q
theorem ZT:PGs X [] GH:=by
 intro pins s σ H vs us Q I r h
 obtain ⟨e,h⟩:=h
 subst e
 cases r
 exact assignInOrder_nil ⟨σ,H,I,h⟩
theorem QF {e:Expr} {es:List Expr} {t:TG} {u:TGs} (h1:PG X e t) (h2:PGs X es u)
 (hs:(assignEach (e :: es) X.env).map (·.2)=assign e X.env :: (assignEach es X.env).map (·.2):=by rfl):PGs X (e :: es) (UB t u):=by
 intro pins s σ H vs us Q I r h
 obtain ⟨v,vr,e1,h⟩:=h
 subst e1
 cases r with
 | cons r rr =>
  rw [hs]
  refine assignInOrder_cons (thn (h1 pins s σ H _ _ _ I r h) fun _ s1 ⟨σ1,H1,I1,q1⟩=>?_)
  exact h2 pins s1 σ1 H1 _ _ Q I1 rr q1
def Lp (K:PySem.W.Frag) (n:Nat) (t:TGs):TG:=fun v σ H Q=>∃ a xs,v=.ref a∧SqT K H a xs∧xs.length=n∧t xs σ H Q
theorem YI {es:List Expr} {k:Nat} {t:TGs} {n:Nat} (hc:X.calm=true) (h:PGs X es t)
 (hn:(assignEach es X.env).length=n:=by rfl) (hst:(assignEach es X.env).findIdx? (·.1)=none:=by rfl):PG X (.Tuple es k pos) (Lp X.K n t):=by
 intro pins s σ H v u Q I r hw
 obtain ⟨a,xs,e1,hq,hl,hw⟩:=hw
 subst e1
 cases r
 obtain ⟨its,rv,ht,hz⟩:=I.tuple hq
 refine assign_Tuple_tuple (I.ok.hd hc) ht (by simp [hn,← hl,rv.length]) hst fun h' hx=>?_
 have I1:Inv X pins σ H { s with heap:=h' }:=I.kept (t':=s.toks) fun b o e=>hx b o (Nat.ne_of_lt (57:)) e
 exact h pins _ σ H xs _ Q I1 (by simpa using rv) hw
def OL (to ti:TE) (t:Ms):TG:=fun v σ H Q=>to σ H fun o H1=>ti σ H1 fun i H2=>t o i v H2 fun H3=>Q σ H3
theorem MT {o i:Expr} {to ti:TE} {t:Ms} (ho:PE X o to) (hi:PE X i ti) (hs:NN X t)
 (ha:∀ v,assign (.Subscript o i pos) X.env v=(do
  let ov ← holding [v] (eval o X.env)
  let iv ← holding [v,ov] (eval i X.env)
  standAt pos
  holding [v,ov,iv] (setItem ov iv v)
  release [v,ov,iv] []):=by intro _;rfl):PG X (.Subscript o i pos) (OL to ti t):=by
 intro pins s σ H v u Q I r h
 rw [ha]
 refine wpAny_bind (wpAny_holding (thn (ho pins s σ H _ I h) fun ov s1 ⟨x,H1,I1,r1,q1⟩=>?_))
 refine wpAny_bind (wpAny_holding (thn (hi pins s1 σ H1 _ I1 q1) fun iv s2 ⟨y,H2,I2,r2,q2⟩=>?_))
 refine wpAny_bind (wpAny_standAt (wpAny_bind (wpAny_holding (thn (hs pins s2 σ H2 x y v ov iv u _ I2 r1 r2 r q2) fun _ s3 ⟨H3,I3,q3⟩=>?_))))
 exact wpAny_release ⟨σ,H3,I3,q3⟩
def Mp (te:TE) (g:TG):TS:=fun D σ H=>te σ H fun x H1=>g x σ H1 D.nx
theorem MR {tg e:Expr} {te:TE} {g:TG} (he:PE X e te) (hg:PG X tg g) (hs:swapsWithSole [tg] e pos.line X.env=pure false:=by rfl) (hw:swappedStores [tg] e X.env=pure none:=by rfl)
 (h1:(assignEach [tg] X.env).map (·.2)=[assign tg X.env]:=by rfl):PS X (.Assign [tg] e pos) (Mp te g):=by
 intro pins s σ H D I h
 refine wpAny_Assign_stores (thn (he pins s σ H _ I h) fun v s1 ⟨x,H1,I1,r1,q1⟩=>?_) hs hw
 rw [h1]
 exact thn (hg pins s1 σ H1 x v _ I1 r1 q1) fun _ s2 q=>q
theorem Ql {i:Nat} {x:Str} {e:Expr} {te:TE} {pos':Pos} (hN:X.N.Nodup) (hi:X.N[i]?=some x) (hx:Loc X.env.scope x) (he:PE X e te) (hs:swapsWith e (some (.Name x pos')) pos.line X.env=pure false:=by rfl) (hf:X.fn x=true∨X.env.scope.names.lookup x=some .local:=by first | exact .inl rfl | exact .inr rfl | assumption) :
 PS X (.Assign [.Name x pos'] e pos) (Mp te (Q8 i)):=by
 intro pins s σ H D I h
 refine wpAny_Assign_Name (thn (he pins s σ H _ I h) fun v s1 ⟨y,H1,I1,r1,q1⟩=>?_) hs
 exact Yd I1 hN hi hx r1 (fun s2 I2=>⟨_,H1,I2,q1⟩) hf
def OF (i:Nat) (te:TE) (ti:TIp):TS:=fun D σ H=>∃ x,σ[i]?=some (some x)∧te σ H fun y H1=>ti x y H1 fun z H2=>D.nx (σ.set i (some z)) H2
theorem Mz {i:Nat} {x:Str} {e:Expr} {te:TE} {op:Operator} {ti:TIp} {pos':Pos} (hN:X.N.Nodup) (hi:X.N[i]?=some x) (hx:Loc X.env.scope x) (he:PE X e te) (ho:PIp X op ti) (hf:X.fn x=true∨X.env.scope.names.lookup x=some .local:=by first | exact .inl rfl | exact .inr rfl | assumption) :
 PS X (.AugAssign (.Name x pos') op e pos) (OF i te ti):=by
 intro pins s σ H D I h
 obtain ⟨v,e1,h⟩:=h
 obtain ⟨m,hn,hl⟩:=I.loc
 have vis:Vis X.env.scope x:=by rcases hx with k | k;exact .inl k;exact .inr (.inl k)
 obtain ⟨u,r,l⟩:=hl i x v hi e1 vis
 refine wpAny_AugAssign_Name ?_
 have go:wpAny (6:) X.A (eval e X.env) (fun w s₂=>wpAny (6:) X.A (inplaceOp op u w) (fun r s₃=>wpAny (6:) X.A (storeName X.env x r) (fun _=>SP X pins D .next) X.xe s₃) X.xe s₂) X.xe s:=by
  refine thn (he pins s σ H _ I h) fun w s1 ⟨y,H1,I1,r1,q1⟩=>?_
  refine thn (ho pins s1 σ H1 v y u w _ I1 r r1 q1) fun z s2 ⟨zv,H2,I2,r2,q2⟩=>?_
  exact Yd I2 hN hi hx r2 (fun s3 I3=>⟨_,H2,I3,q2⟩) hf
 rcases l with ⟨hk,hm⟩ | ⟨hk,c,hc,hcell⟩
 ·exact wpAny_loadName_local I.ok.kind hk hn hm go
 ·rcases hk with hk | hk
  ·exact wpAny_loadName_cell I.ok.kind hk hc hcell go
  ·rcases hx with k | k
   ·have:X.env.scope.names.lookup x=some .free:=hk
    rw [k] at this;cases this
   ·have:X.env.scope.names.lookup x=some .free:=hk
    rw [k] at this;cases this
def ipI (f:Int→Int→Int):TIp:=fun x y H Q=>∃ i j,x=.int i∧y=.int j∧Q (.int (f i j)) H
theorem M5:PIp X .Add (ipI fun i j=>i + j):=by
 intro pins s σ H x y v u Q I r1 r2 h
 obtain ⟨i,j,e1,e2,q⟩:=h
 subst e1;subst e2
 obtain ⟨t,rfl⟩:=r1
 obtain ⟨t',rfl⟩:=r2
 exact iadd_int ⟨.int _,H,I.tok _,(53:),q⟩
end
section
variable {X:Cx} {pos:Pos}
def VB (c:TT) (tb:TS):TS:=fun D σ H=>∃ W:Nat→St→Hp→Prop,(∃ m,W m σ H)∧∀ m σ H,W m σ H →
 c σ H fun b H1=>if b=true then ∃ N:St→Hp→Prop,(∀ σ' H',N σ' H'→∃ m',m' < m∧W m' σ' H')∧tb { D with nx:=N,ct:=N,bk:=D.nx } σ H1 else D.nx σ H1
theorem Ul {c:Expr} {body:List Stmt} {tc:TT} {tb:TS} (hp:PassesOwn (6:) X.A X.env X.xe) (hc:PT X c tc) (hb:PSs X body tb):PS X (.While c body [] pos) (VB tc tb):=by
 intro pins s σ H D I h
 obtain ⟨W,⟨m0,w0⟩,turn⟩:=h
 refine wpAny_While (codeAny_whileLoop (fun n s'=>∃ σ' H',Inv X pins σ' H' s'∧W n σ' H') ?_ m0 ⟨σ,H,I,w0⟩)
 rintro n s1 ⟨σ1,H1,I1,w1⟩
 refine wpAny_passesOwn hp (thn (hc pins s1 σ1 H1 _ I1 (turn n σ1 H1 w1)) fun b s2 ⟨H2,I2,q2⟩=>?_)
 cases b with
 | true =>
  obtain ⟨N,hN,q2⟩:=q2
  rw [if_pos rfl]
  refine wpAny_passesOwn hp (thn (hb pins s2 σ1 H2 _ I2 q2) fun f s3 q3=>?_)
  cases f with
  | next =>
   obtain ⟨σ3,H3,I3,n3⟩:=q3
   obtain ⟨m',hm,w3⟩:=hN σ3 H3 n3
   exact ⟨m',hm,σ3,H3,I3,w3⟩
  | cont =>
   obtain ⟨σ3,H3,I3,n3⟩:=q3
   obtain ⟨m',hm,w3⟩:=hN σ3 H3 n3
   exact ⟨m',hm,σ3,H3,I3,w3⟩
  | brk=>exact q3
  | ret v=>exact q3
 | false =>
  rw [if_neg Bool.false_ne_true]
  exact wpAny_execs_nil ⟨σ1,H2,I2,q2⟩
end
structure It where
 go:Nat→Hp→Prop
 yld:Nat→Hp→V→Hp→Prop
 stop:Nat→Hp→Prop
def YW (X:Cx) (pins:List (7:)) (H:Hp) (b:Addr):Prop :=
 H b=none∧b≠X.env.locals∧b ∉ X.fs∧(b ∈ X.ex∨X.s₀.heap.objs.size≤b)∧(∀ x c,X.env.cells.lookup x=some c→c≠b)∧∀ p ∈ X.pn ++ pins,p.1≠b
theorem Inv.fpOk {X:Cx} {pins:List (7:)} {σ:St} {H H':Hp} {s:Shared} {b:Addr} (I:Inv X pins σ H s) (hb:s.heap.objs.size≤b) (hn:H' b=none):YW X pins H' b:=by
 refine ⟨hn,Nat.ne_of_gt (Nat.lt_of_lt_of_le I.lt hb),I.nofs hb,.inr (Nat.le_trans I.sz hb),fun x c e z=>?_,fun p hp z=>?_⟩
 ·obtain ⟨v,q⟩:=I.cell x c e
  exact absurd (Nat.lt_of_lt_of_le q.lt (by rw [z];exact hb)) (Nat.lt_irrefl _)
 ·exact absurd (Nat.lt_of_lt_of_le (Heap.lt_size (I.pin p hp).1) (by rw [z];exact hb)) (Nat.lt_irrefl _)
structure Turn (P:Program) (w:World) (K:PySem.W.Frag) (tg:Expr) (J:It) (fp:List Addr) (it:Addr) (tn:Nat→Heap→Prop):Prop where
 mem:it ∈ fp
 obj:∀ i h,tn i h→∀ b ∈ fp,∃ o,h.get? b=some o∧∀ v,o.data≠.cell v
 keep:∀ i h h',tn i h→(∀ b ∈ fp,∀ o,h.get? b=some o→h'.get? b=some o)→tn i h'
 item:∀ (X:Cx),X.prog=P→X.w=w→X.K=K→X.calm=true→∀ (i:Nat) (pins:List (7:)) (s:Shared) (σ:St) (H:Hp) (E:Value→Shared→Prop),Inv X pins σ H s→(∀ b ∈ fp,YW X pins H b)→tn i s.heap→J.go i H →
  wpAny (model P w) X.A (pyNext (.ref it)) (fun r s1=>∃ u,r=some u ∧
   wpAny (model P w) X.A (letOwnedTupleGo tg (.ref it) u) (fun _ s2=>∃ x H',Inv X pins σ H' s2∧RelV x u∧J.yld i H x H'∧tn (i + 1) s2.heap∧∀ b ∈ fp,H' b=none) E s1) E s
 done:∀ (X:Cx),X.prog=P→X.w=w→X.K=K→X.calm=true→∀ (i:Nat) (pins:List (7:)) (s:Shared) (σ:St) (H:Hp) (E:Value→Shared→Prop),Inv X pins σ H s→(∀ b ∈ fp,YW X pins H b)→tn i s.heap→J.stop i H →
  wpAny (model P w) X.A (pyNext (.ref it)) (fun r s1=>r=none∧Inv X pins σ H s1) E s
 self:∀ (A:Around) (i:Nat) (s:Shared) (Q:Value→Shared→Prop) (E:Value→Shared→Prop),tn i s.heap→Q (.ref it) s→wpAny (model P w) A (pyIter (.ref it)) Q E s
abbrev TI:=St→Hp→(It→Hp→Prop)→Prop
def PIE (X:Cx) (pins:List (7:)) (σ:St) (tg:Expr) (R:It→Hp→Prop) (itv:Value) (s2:Shared):Prop :=
 ∃ (it:Addr) (fp:List Addr) (tn:Nat→Heap→Prop) (J:It) (H':Hp),itv=.ref it∧Inv X pins σ H' s2∧Turn X.prog X.w X.K tg J fp it tn∧tn 0 s2.heap∧(∀ b ∈ fp,YW X pins H' b)∧R J H'
def PI (X:Cx) (tg iter:Expr) (wi:TI):Prop :=
 ∀ (pins:List (7:)) (s:Shared) (σ:St) (H:Hp) (R:It→Hp→Prop),Inv X pins σ H s→wi σ H R →
  wpAny (6:) X.A (eval iter X.env) (fun v s1=>wpAny (6:) X.A (pyIter v) (PIE X pins σ tg R) X.xe s1) X.xe s
theorem X1 {M:Model} {A:Around} {E:Value→Shared→Prop} {s:Shared} {tg:Expr} {it:Addr} {u:Value} {o:Obj} {n:String} {vs:Array Value} {Q:Unit→Shared→Prop} (ho:s.heap.get? it=some o) (hc:o.cls=.type n) (hd:o.data=.fields vs)
 (hn:["enumerate", "zip", "dict_itemiterator", "dict_reverseitemiterator", "odict_iterator", "itertools.zip_longest", "itertools.pairwise"].contains n=false) (hQ:Q () s):wpAny M A (letOwnedTupleGo tg (.ref it) u) Q E s:=by
 unfold letOwnedTupleGo
 cases tg <;> first
  | exact wpAny_pure hQ
  | (cases u <;> first
   | exact wpAny_pure hQ
   | (refine wpAny_bind (wpAny_load ho ?_)
      rw [hc,hd]
      show wpAny M A (if (["enumerate", "zip", "dict_itemiterator", "dict_reverseitemiterator", "odict_iterator", "itertools.zip_longest", "itertools.pairwise"].contains n && vs[0]? == some (rawInt _))=true then _ else _) Q E s
      rw [if_neg (by intro h;rw [hn,Bool.false_and] at h;cases h)]
      exact wpAny_pure hQ))
def Itl (K:PySem.W.Frag) (a:Addr):It :=
 ⟨fun i H=>∃ xs x,SqL K H a xs∧xs[i]?=some x,fun i H x H'=>H'=H∧∀ xs,SqL K H a xs→xs[i]?=some x,fun i H=>∃ xs,SqL K H a xs∧xs.length≤i⟩
def Itt (K:PySem.W.Frag) (a:Addr):It :=
 ⟨fun i H=>∃ xs x,SqT K H a xs∧xs[i]?=some x,fun i H x H'=>H'=H∧∀ xs,SqT K H a xs→xs[i]?=some x,fun i H=>∃ xs,SqT K H a xs∧xs.length≤i⟩
def Itr (lo:Int) (n:Nat):It:=⟨fun i _=>i < n,fun i H x H'=>H'=H∧x=.int (lo + i),fun i _=>n≤i⟩
theorem W3 {P:Program} {w:World} {K:PySem.W.Frag} {tg:Expr} (a it:Addr):Turn P w K tg (Itl K a) [it] it (fun i h=>h.IsListIter it a i) where
 mem:=by simp
 obj:=fun i h st b hb=>by
  have e:b=it:=by simpa using hb
  subst e
  obtain ⟨o,e,c,d⟩:=st
  exact ⟨o,e,fun v z=>by rw [d] at z;cases z⟩
 keep:=fun i h h' st k=>st.at fun o e=>k it (29:) o e
 item:=by
  intro X hP hw hK hc i pins s σ H E I hf st hg
  subst hP hw hK
  obtain ⟨xs,x,hq,hx⟩:=hg
  obtain ⟨its,rv,p,hz⟩:=I.list hq
  obtain ⟨u,hu,ru⟩:=rv.get hx
  obtain ⟨f0,f1,f2,f3,f4,f5⟩:=hf it (29:)
  refine wpAny_pyNext_list_item st p.isList (x:=u) (by simpa using hu) fun h' st' sb=>?_
  have I1:Inv X pins σ H { s with heap:=h' }:=I.turned (t':=s.toks) (fun b o hb e=>(sb.2 b hb).trans e) f0 f1 f3 f4 f5
  obtain ⟨o,e,c,d⟩:=id st'
  exact ⟨u,rfl,X1 (s:={ s with heap:=h' }) e c d (13:) ⟨x,H,I1,ru,⟨rfl,fun ys hy=>by rw [I.list_inj hy hq];exact hx⟩,st',fun b hb=>(hf b hb).1⟩⟩
 done:=by
  intro X hP hw hK hc i pins s σ H E I hf st hg
  subst hP hw hK
  obtain ⟨xs,hq,hx⟩:=hg
  obtain ⟨its,rv,p,hz⟩:=I.list hq
  obtain ⟨f0,f1,f2,f3,f4,f5⟩:=hf it (29:)
  have hl:=rv.length
  exact wpAny_pyNext_list_end (I.ok.hd hc) st p.isList (by simp;lia) fun h' eb=>(43:)
 self:=fun _ _ _ _ _ st h=>wpAny_pyIter_listiter st h
theorem XI {P:Program} {w:World} {K:PySem.W.Frag} {tg:Expr} (a it:Addr):Turn P w K tg (Itt K a) [it] it (fun i h=>h.IsTupleIter it a i) where
 mem:=by simp
 obj:=fun i h st b hb=>by
  have e:b=it:=by simpa using hb
  subst e
  obtain ⟨o,e,c,d⟩:=st
  exact ⟨o,e,fun v z=>by rw [d] at z;cases z⟩
 keep:=fun i h h' st k=>st.at fun o e=>k it (29:) o e
 item:=by
  intro X hP hw hK hc i pins s σ H E I hf st hg
  subst hP hw hK
  obtain ⟨xs,x,hq,hx⟩:=hg
  obtain ⟨its,rv,p,hz⟩:=I.tuple hq
  obtain ⟨u,hu,ru⟩:=rv.get hx
  obtain ⟨f0,f1,f2,f3,f4,f5⟩:=hf it (29:)
  refine wpAny_pyNext_tuple_item st (show s.heap.IsTuple a its.toArray from p) (x:=u) (by simpa using hu) fun h' st' sb=>?_
  have I1:Inv X pins σ H { s with heap:=h' }:=I.turned (t':=s.toks) (fun b o hb e=>(sb.2 b hb).trans e) f0 f1 f3 f4 f5
  obtain ⟨o,e,c,d⟩:=id st'
  exact ⟨u,rfl,X1 (s:={ s with heap:=h' }) e c d (13:) ⟨x,H,I1,ru,⟨rfl,fun ys hy=>by rw [I.tuple_inj hy hq];exact hx⟩,st',fun b hb=>(hf b hb).1⟩⟩
 done:=by
  intro X hP hw hK hc i pins s σ H E I hf st hg
  subst hP hw hK
  obtain ⟨xs,hq,hx⟩:=hg
  obtain ⟨its,rv,p,hz⟩:=I.tuple hq
  obtain ⟨f0,f1,f2,f3,f4,f5⟩:=hf it (29:)
  have hl:=rv.length
  exact wpAny_pyNext_tuple_end (I.ok.hd hc) st (show s.heap.IsTuple a its.toArray from p) (by simp;lia) fun h' eb=>(43:)
 self:=fun _ _ _ _ _ st h=>wpAny_pyIter_tupleiter st h
theorem XO {P:Program} {w:World} {K:PySem.W.Frag} {tg:Expr} (it:Addr) (lo:Int) (n:Nat):Turn P w K tg (Itr lo n) [it] it (fun i h=>IsRangeIter h it (lo + (i:Nat) * 1) ((n:Int) - (i:Nat)) 1) where
 mem:=by simp
 obj:=fun i h st b hb=>by
  have e:b=it:=by simpa using hb
  subst e
  exact ⟨_,st,fun v z=>by
   have z':Data.fields _=Data.cell v:=z
   cases z'⟩
 keep:=fun i h h' st k=>k it (29:) _ st
 item:=by
  intro X hP hw hK hc i pins s σ H E I hf st hg
  subst hP hw hK
  obtain ⟨f0,f1,f2,f3,f4,f5⟩:=hf it (29:)
  have W:=Walks.range (prog:=X.prog) (w:=X.w) (I.ok.hd hc) it lo 1 n
  refine W.item i s _ _ hg st fun v h' tk hv st' kk=>?_
  obtain ⟨t,rfl⟩:=hv
  have I1:Inv X pins σ H { s with heap:=h',toks:=tk }:=I.turned (fun b o hb e=>kk b o (by simpa using hb) e) f0 f1 f3 f4 f5
  refine ⟨_,rfl,X1 (s:={ s with heap:=h',toks:=tk }) (n:="range_iterator") st' rfl rfl (13:) ⟨.int (lo + i),H,I1,⟨t,?_⟩,⟨rfl,rfl⟩,st',fun b hb=>(hf b hb).1⟩⟩
  rw [Int.mul_one]
 done:=by
  intro X hP hw hK hc i pins s σ H E I hf st hg
  subst hP hw hK
  obtain ⟨f0,f1,f2,f3,f4,f5⟩:=hf it (29:)
  exact wpAny_pyNext_range_end (I.ok.hd hc) st (by have:n≤i:=hg;lia) fun h' eb=>(43:)
 self:=fun _ _ _ _ _ st h=>wpAny_pyIter_rangeiter st h
end L2
namespace L2
open PySem PySem.Spec PyProof.Rows
section
variable {X:Cx} {tg:Expr}
def LK (K:PySem.W.Frag) (tl:TE):TI:=fun σ H R=>tl σ H fun x H1=>∃ a,x=.ref a∧(∃ xs,SqL K H1 a xs)∧R (Itl K a) H1
def Ow (K:PySem.W.Frag) (tl:TE):TI:=fun σ H R=>tl σ H fun x H1=>∃ a,x=.ref a∧(∃ xs,SqT K H1 a xs)∧R (Itt K a) H1
theorem Zz {l:Expr} {tl:TE} (hl:PE X l tl):PI X tg l (LK X.K tl):=by
 intro pins s σ H R I h
 refine thn (hl pins s σ H _ I h) fun v s1 ⟨x,H1,I1,r1,q1⟩=>?_
 obtain ⟨a,e,⟨xs,hq⟩,q⟩:=q1
 subst e
 cases r1
 obtain ⟨its,rv,p,hz⟩:=I1.list hq
 refine wpAny_pyIter_list p.isList ?_
 refine ⟨s1.heap.objs.size,[s1.heap.objs.size],_,_,H1,rfl,I1.kept (t':=s1.toks) fun b o e=>Heap.get?_push_of_some _ e,W3 a _,⟨_,Heap.get?_push_size _ rfl,rfl,rfl⟩,fun b hb=>?_,q⟩
 have e:b=s1.heap.objs.size:=by simpa using hb
 subst e
 exact I1.fpOk (10:) (I1.hok.fresh (10:))
theorem Ui {l:Expr} {tl:TE} (hl:PE X l tl):PI X tg l (Ow X.K tl):=by
 intro pins s σ H R I h
 refine thn (hl pins s σ H _ I h) fun v s1 ⟨x,H1,I1,r1,q1⟩=>?_
 obtain ⟨a,e,⟨xs,hq⟩,q⟩:=q1
 subst e
 cases r1
 obtain ⟨its,rv,p,hz⟩:=I1.tuple hq
 refine wpAny_pyIter_tuple (show s1.heap.IsTuple a its.toArray from p) ?_
 refine ⟨s1.heap.objs.size,[s1.heap.objs.size],_,_,H1,rfl,I1.kept (t':=s1.toks) fun b o e=>Heap.get?_push_of_some _ e,XI a _,⟨_,Heap.get?_push_size _ rfl,rfl,rfl⟩,fun b hb=>?_,q⟩
 have e:b=s1.heap.objs.size:=by simpa using hb
 subst e
 exact I1.fpOk (10:) (I1.hok.fresh (10:))
theorem Vw {pins:List (7:)} {σ:St} {H:Hp} {s:Shared} {R:It→Hp→Prop} {E:Value→Shared→Prop} {lo hi:Int} {t u v:Tok} {tk:Nat} (I:Inv X pins σ H s) (h1:-(2 ^ 62)≤lo) (h2:lo < 2 ^ 62) (h3:-(2 ^ 62)≤hi) (h4:hi < 2 ^ 62)
 (q:R (Itr lo (hi - lo).toNat) H):wpAny (6:) X.A (pyIter (.ref s.heap.objs.size)) (PIE X pins σ tg R) E { s with heap:=s.heap.push { cls:=.type "range", data:=.fields #[.int lo t,.int hi u,.int 1 v] },toks:=tk }:=by
 refine wpAny_pyIter_range (IsRange.new ..) (small_one h1 h2 h3 h4) ?_
 have I1:Inv X pins σ H { s with heap:=s.heap.push { cls:=.type "range", data:=.fields #[.int lo t,.int hi u,.int 1 v] },toks:=tk }:=I.kept fun b o e=>Heap.get?_push_of_some _ e
 refine ⟨(s.heap.push { cls:=.type "range", data:=.fields #[.int lo t,.int hi u,.int 1 v] }).objs.size,[(s.heap.push { cls:=.type "range", data:=.fields #[.int lo t,.int hi u,.int 1 v] }).objs.size],_,_,H,rfl,I1.kept (t':=tk) fun b o e=>Heap.get?_push_of_some _ e,XO _ lo (hi - lo).toNat,?_,fun b hb=>?_,q⟩
 ·have e1:lo + ((0:Nat):Int) * 1=lo:=by simp
  have e2:(((hi - lo).toNat:Nat):Int) - ((0:Nat):Int)=Builtin.Range.rangeSize lo hi 1:=by rw [rangeSize_one];split <;> lia
  show IsRangeIter _ _ (lo + ((0:Nat):Int) * 1) ((((hi - lo).toNat:Nat):Int) - ((0:Nat):Int)) 1
  rw [e1,e2]
  exact Heap.get?_push_size _ rfl
 ·have e:b=(s.heap.push { cls:=.type "range", data:=.fields #[.int lo t,.int hi u,.int 1 v] }).objs.size:=by simpa using hb
  subst e
  exact I1.fpOk (10:) (I1.hok.fresh (10:))
def N2 (ta:TA):TI:=fun σ H R=>ta σ H fun vs H1=>∃ j:Int,vs=[.int j]∧-(2 ^ 62)≤j∧j < 2 ^ 62∧R (Itr 0 j.toNat) H1
theorem QY {a:Expr} {ta:TA} {p pos:Pos} (hg:Gl X "range") (hm:X.mg "range" = none) (ha:PA X [a] ta) (hs:starEach [a] X.env=[(false,eval a X.env)]:=by rfl):PI X tg (.Call (.Name "range" p) [a] [] pos) (N2 ta):=by
 intro pins s σ H R I h
 refine Call_ (Z5 I hg hm boot_range (46:))
 obtain ⟨j,e,q1,q2,q⟩:=q1
 subst e
 cases r1 with
 | cons r rr =>
  cases rr
  obtain ⟨t,rfl⟩:=r
  exact call_range_1 (Vw I1 (12:) (12:) q1 q2 (by simpa using q))
def OO (wi:TI) (g:TG) (tb:TS):TS:=fun D σ H=>wi σ H fun J H1=>∃ W:Nat→Nat→St→Hp→Prop,(∃ m,W 0 m σ H1)∧∀ i m σ H,W i m σ H →
 (J.stop i H∧D.nx σ H)∨(J.go i H∧∃ N:St→Hp→Prop,(28:)∧∀ x H',J.yld i H x H'→g x σ H' fun σ2 H2=>tb { D with nx:=N,ct:=N,bk:=D.nx } σ2 H2)
def Uh (fp:List Addr) (h:Heap):List (7:):=fp.filterMap fun b=>(h.get? b).map fun o=>(b,o)
theorem Zv {fp:List Addr} {h:Heap} {b:Addr} {o:Obj} (hb:b ∈ fp) (e:h.get? b=some o):(b,o) ∈ Uh fp h:=List.mem_filterMap.mpr ⟨b,hb,by rw [e];rfl⟩
theorem WE {fp:List Addr} {h:Heap} {p:Addr × Obj} (hp:p ∈ Uh fp h):p.1 ∈ fp∧h.get? p.1=some p.2:=by
 obtain ⟨b,hb,e⟩:=List.mem_filterMap.mp hp
 cases q:h.get? b with
 | none=>rw [q] at e;cases e
 | some o =>
  rw [q] at e
  have e':(b,o)=p:=Option.some.inj e
  subst e'
  exact ⟨hb,q⟩
theorem Inv.pinned {pins:List (7:)} {σ:St} {H:Hp} {s:Shared} {fp:List Addr} (I:Inv X pins σ H s) (hf:∀ b ∈ fp,YW X pins H b) (ho:∀ b ∈ fp,∃ o,s.heap.get? b=some o∧∀ v,o.data≠.cell v):Inv X (pins ++ Uh fp s.heap) σ H s :=
 I.pins_of fun p hp=>(List.mem_append.mp hp).elim (fun z=>I.pin p (List.mem_append_right _ z)) fun z=>by
  obtain ⟨hb,e⟩:=WE z
  obtain ⟨f0,f1,f2,_⟩:=hf p.1 hb
  obtain ⟨o,e',d⟩:=ho p.1 hb
  rw [e] at e';cases e'
  exact ⟨e,f0,f1,f2,d⟩
theorem Inv.unpinned {pins pl:List (7:)} {σ:St} {H:Hp} {s:Shared} (I:Inv X (pins ++ pl) σ H s):Inv X pins σ H s:=I.pins_of fun p hp=>I.pin p (List.mem_append_right _ (List.mem_append_left _ hp))
theorem Q1 {iter:Expr} {body:List Stmt} {wi:TI} {g:TG} {tb:TS} {pos:Pos} (hp:PassesOwn (6:) X.A X.env X.xe) (hc:X.calm=true) (hi:PI X tg iter wi) (hg:PG X tg g) (hb:PSs X body tb)
 (hs:∀ x,foldedSetIterable iter X.env x=pure x:=by intro _;rfl):PS X (.For tg iter body [] pos) (OO wi g tb):=by
 intro pins s σ H D I h
 refine wpAny_For (thn (hi pins s σ H _ I h) fun v s1 h1=>thn h1 fun itv s2 h2=>?_) hs
 obtain ⟨it,fp,tn,J,H2,e,I2,T,st2,f2,W,⟨m0,w0⟩,turn⟩:=h2
 subst e
 have stat:∀ {H':Hp},(∀ b ∈ fp,H' b=none)→∀ b ∈ fp,YW X pins H' b:=fun hn b hb=>⟨hn b hb,(f2 b hb).2⟩
 refine codeAny_forLoop_any (fun n s'=>∃ i σ' H',Inv X pins σ' H' s'∧tn i s'.heap∧(∀ b ∈ fp,H' b=none)∧W i n σ' H') ?_ m0 ⟨0,σ,H2,I2,st2,fun b hb=>(f2 b hb).1,w0⟩
 rintro n s3 ⟨i,σ3,H3,I3,st3,fr3,w3⟩
 rcases turn i n σ3 H3 w3 with ⟨stop,qn⟩ | ⟨go,N,hN,step⟩
 ·refine wpAny_passesOwn hp (thn (T.done X rfl rfl rfl hc i pins s3 σ3 H3 X.xe I3 (stat fr3) st3 stop) fun r s4 ⟨hr,I4⟩=>?_)
  subst hr
  exact wpAny_execs_nil ⟨σ3,H3,I4,qn⟩
 ·refine wpAny_passesOwn hp (thn (T.item X rfl rfl rfl hc i pins s3 σ3 H3 X.xe I3 (stat fr3) st3 go) fun r s4 ⟨u,hr,h4⟩=>?_)
  subst hr
  refine wpAny_passesOwn hp (thn h4 fun _ s5 ⟨x,H5,I5,r5,y5,st5,fr5⟩=>?_)
  have I5':=I5.pinned (stat fr5) (T.obj _ _ st5)
  refine wpAny_passesOwn hp (thn (hg _ s5 σ3 H5 x u _ I5' r5 (step x H5 y5)) fun _ s6 ⟨σ6,H6,I6,q6⟩=>?_)
  refine wpAny_passesOwn hp (thn (hb _ s6 σ6 H6 _ I6 q6) fun f s7 q7=>?_)
  have again:∀ {σ7:St} {H7:Hp},Inv X (pins ++ Uh fp s5.heap) σ7 H7 s7→N σ7 H7→∃ m,m < n∧∃ i σ' H',Inv X pins σ' H' s7∧tn i s7.heap∧(∀ b ∈ fp,H' b=none)∧W i m σ' H':=fun {σ7 H7} I7 n7=>by
   obtain ⟨m',hm,w7⟩:=hN σ7 H7 n7
   refine ⟨m',hm,i + 1,σ7,H7,I7.unpinned,T.keep _ _ _ st5 fun b hb o e=>(I7.pin (b,o) (59:)).1,fun b hb=>?_,w7⟩
   obtain ⟨o,e,d⟩:=T.obj _ _ st5 b hb
   exact (I7.pin (b,o) (59:)).2.1
  cases f with
  | next=>obtain ⟨σ7,H7,I7,n7⟩:=q7;exact again I7 n7
  | cont=>obtain ⟨σ7,H7,I7,n7⟩:=q7;exact again I7 n7
  | brk=>obtain ⟨σ7,H7,I7,q7⟩:=q7;exact ⟨σ7,H7,I7.unpinned,q7⟩
  | ret v=>obtain ⟨x7,σ7,H7,I7,r7,q7⟩:=q7;exact ⟨x7,σ7,H7,I7.unpinned,r7,q7⟩
end
theorem Xf {K:PySem.W.Frag} {a:Addr} {xs:List V} {g:TG} {tb:TS} {D:Ends} {σ:St} {H:Hp} (Pv:Nat→St→Hp→Prop) (h0:Pv 0 σ H) (hl:∀ i σ H,i≤xs.length→Pv i σ H→SqL K H a xs)
 (hs:∀ i x σ H,xs[i]?=some x→Pv i σ H→g x σ H fun σ2 H2=>tb { D with nx:=Pv (i + 1),ct:=Pv (i + 1),bk:=D.nx } σ2 H2) (hd:∀ σ H,Pv xs.length σ H→D.nx σ H) :
 ∃ W:Nat→Nat→St→Hp→Prop,(∃ m,W 0 m σ H)∧∀ i m σ H,W i m σ H →
  ((Itl K a).stop i H∧D.nx σ H)∨((Itl K a).go i H∧∃ N:St→Hp→Prop,(28:)∧∀ x H',(Itl K a).yld i H x H'→g x σ H' fun σ2 H2=>tb { D with nx:=N,ct:=N,bk:=D.nx } σ2 H2):=by
 refine (44:)
 rintro i m σ H ⟨rfl,hi,p⟩
 have q:=hl i σ H hi p
 by_cases hlt:i < xs.length
 ·refine .inr ⟨⟨xs,xs[i],q,by simp [hlt]⟩,Pv (i + 1),fun σ' H' p'=>⟨xs.length - (i + 1),by lia,rfl,hlt,p'⟩,fun x H' y=>?_⟩
  obtain ⟨e,y⟩:=y
  subst e
  exact hs i x σ _ (y xs q) p
 ·have e:i=xs.length:=by lia
  subst e
  exact .inl ⟨⟨xs,q,Nat.le_refl _⟩,hd σ H p⟩
theorem We {K:PySem.W.Frag} {a:Addr} {xs:List V} {g:TG} {tb:TS} {D:Ends} {σ:St} {H:Hp} (Pv:Nat→St→Hp→Prop) (h0:Pv 0 σ H) (hl:∀ i σ H,i≤xs.length→Pv i σ H→SqT K H a xs)
 (hs:∀ i x σ H,xs[i]?=some x→Pv i σ H→g x σ H fun σ2 H2=>tb { D with nx:=Pv (i + 1),ct:=Pv (i + 1),bk:=D.nx } σ2 H2) (hd:∀ σ H,Pv xs.length σ H→D.nx σ H) :
 ∃ W:Nat→Nat→St→Hp→Prop,(∃ m,W 0 m σ H)∧∀ i m σ H,W i m σ H →
  ((Itt K a).stop i H∧D.nx σ H)∨((Itt K a).go i H∧∃ N:St→Hp→Prop,(28:)∧∀ x H',(Itt K a).yld i H x H'→g x σ H' fun σ2 H2=>tb { D with nx:=N,ct:=N,bk:=D.nx } σ2 H2):=by
 refine (44:)
 rintro i m σ H ⟨rfl,hi,p⟩
 have q:=hl i σ H hi p
 by_cases hlt:i < xs.length
 ·refine .inr ⟨⟨xs,xs[i],q,by simp [hlt]⟩,Pv (i + 1),fun σ' H' p'=>⟨xs.length - (i + 1),by lia,rfl,hlt,p'⟩,fun x H' y=>?_⟩
  obtain ⟨e,y⟩:=y
  subst e
  exact hs i x σ _ (y xs q) p
 ·have e:i=xs.length:=by lia
  subst e
  exact .inl ⟨⟨xs,q,Nat.le_refl _⟩,hd σ H p⟩
theorem Zp {lo:Int} {n:Nat} {g:TG} {tb:TS} {D:Ends} {σ:St} {H:Hp} (Pv:Nat→St→Hp→Prop) (h0:Pv 0 σ H)
 (hs:∀ i σ H,i < n→Pv i σ H→g (.int (lo + i)) σ H fun σ2 H2=>tb { D with nx:=Pv (i + 1),ct:=Pv (i + 1),bk:=D.nx } σ2 H2) (hd:∀ σ H,Pv n σ H→D.nx σ H) :
 ∃ W:Nat→Nat→St→Hp→Prop,(∃ m,W 0 m σ H)∧∀ i m σ H,W i m σ H →
  ((Itr lo n).stop i H∧D.nx σ H)∨((Itr lo n).go i H∧∃ N:St→Hp→Prop,(28:)∧∀ x H',(Itr lo n).yld i H x H'→g x σ H' fun σ2 H2=>tb { D with nx:=N,ct:=N,bk:=D.nx } σ2 H2):=by
 refine ⟨fun i m σ H=>m=n - i∧i≤n∧Pv i σ H,⟨n,by simp,Nat.zero_le _,h0⟩,?_⟩
 rintro i m σ H ⟨rfl,hi,p⟩
 by_cases hlt:i < n
 ·refine .inr ⟨hlt,Pv (i + 1),fun σ' H' p'=>⟨n - (i + 1),by lia,rfl,hlt,p'⟩,fun x H' y=>?_⟩
  obtain ⟨e,y⟩:=y
  subst e y
  exact hs i σ _ hlt p
 ·have e:i=n:=by lia
  subst e
  exact .inl ⟨Nat.le_refl _,hd σ H p⟩
end L2
namespace L2
open PySem PySem.Spec PyProof.Rows
abbrev R2:=V→V→Hp→VK→Prop
def OpR (X:Cx) (f:Value→Value→Sem Value) (r:R2):Prop :=
 ∀ (pins:List (7:)) (s:Shared) (σ:St) (H:Hp) (x y:V) (v u:Value) (Q:VK),Inv X pins σ H s→RelV x v→RelV y u→r x y H Q →
  wpAny (6:) X.A (f v u) (EP X pins σ Q) X.xe s
def Zc (X:Cx) (f:Value) (r:List V→Hp→VK→Prop):Prop :=
 ∀ (pins:List (7:)) (s:Shared) (σ:St) (H:Hp) (xs:List V) (us:List Value) (Q:VK),Inv X pins σ H s→Vals xs us→r xs H Q →
  wpAny (6:) X.A (call f us) (EP X pins σ Q) X.xe s
def tOp (r:R2) (ta tb:TE):TE:=fun σ H Q=>ta σ H fun x H1=>tb σ H1 fun y H2=>r x y H2 Q
def rI (C:Int→Int→Prop) (g:Int→Int→V):R2:=fun x y H Q=>∃ i j,x=.int i∧y=.int j∧C i j∧Q (g i j) H
def rI0 (g:Int→Int→V):R2:=fun x y H Q=>∃ i j,x=.int i∧y=.int j∧Q (g i j) H
section
variable {X:Cx} {a b c:Expr} {ta tb tc:TE} {pos:Pos}
theorem LS (ha:PE X a ta) (hb:PE X b tb) {pins:List (7:)} {s:Shared} {σ:St} {H:Hp} {R:V→V→Hp→Prop} (I:Inv X pins σ H s)
 (h:ta σ H fun x H1=>tb σ H1 fun y H2=>R x y H2) {Q:Value→Shared→Prop} {f:Value→Value→Sem Value}
 (hf:∀ v u s2 x y H2,Inv X pins σ H2 s2→RelV x v→RelV y u→R x y H2→wpAny (6:) X.A (f v u) Q X.xe s2) :
 wpAny (6:) X.A (eval a X.env) (fun v s₁=>wpAny (6:) X.A (eval b X.env) (fun u s₂=>wpAny (6:) X.A (f v u) Q X.xe s₂) X.xe s₁) X.xe s:=by
 refine thn (ha pins s σ H _ I h) fun v s1 ⟨x,H1,I1,r1,q1⟩=>?_
 refine thn (hb pins s1 σ H1 _ I1 q1) fun u s2 ⟨y,H2,I2,r2,q2⟩=>?_
 exact hf v u s2 x y H2 I2 r1 r2 q2
theorem Qo {op:Operator} {r:R2} (ho:OpR X (binaryOp op) r) (ha:PE X a ta) (hb:PE X b tb):PE X (.BinOp a op b pos) (tOp r ta tb):=by
 intro pins s σ H Q I h
 exact wpAny_BinOp (LS ha hb I h fun v u s2 x y H2 I2 rx ry q=>ho pins s2 σ H2 x y v u Q I2 rx ry q)
theorem opI {f:Value→Value→Sem Value} {C:Int→Int→Prop} {g:Int→Int→Int}
 (rule:∀ (i j:Int) (t u:Tok) (s:Shared) (Q:Value→Shared→Prop) (E:Value→Shared→Prop),C i j→Q (.int (g i j) s.toks) { s with toks:=s.toks + 1 }→wpAny (6:) X.A (f (.int i t) (.int j u)) Q E s) :
 OpR X f (rI C fun i j=>.int (g i j)):=by
 intro pins s σ H x y v u Q I rx ry h
 obtain ⟨i,j,rfl,rfl,hc,q⟩:=h
 obtain ⟨t,rfl⟩:=rx
 obtain ⟨t',rfl⟩:=ry
 exact rule i j t t' s _ _ hc ⟨.int (g i j),H,I.tok _,(53:),q⟩
theorem Nd {f:Value→Value→Sem Value} {g:Int→Int→Int}
 (rule:∀ (i j:Int) (t u:Tok) (s:Shared) (Q:Value→Shared→Prop) (E:Value→Shared→Prop),Q (.int (g i j) s.toks) { s with toks:=s.toks + 1 }→wpAny (6:) X.A (f (.int i t) (.int j u)) Q E s) :
 OpR X f (rI0 fun i j=>.int (g i j)):=by
 intro pins s σ H x y v u Q I rx ry h
 obtain ⟨i,j,rfl,rfl,q⟩:=h
 obtain ⟨t,rfl⟩:=rx
 obtain ⟨t',rfl⟩:=ry
 exact rule i j t t' s _ _ ⟨.int (g i j),H,I.tok _,(53:),q⟩
theorem LZ {f:Value→Value→Sem Value} {g:Int→Int→Bool}
 (rule:∀ (i j:Int) (t u:Tok) (s:Shared) (Q:Value→Shared→Prop) (E:Value→Shared→Prop),Q (.bool (g i j)) s→wpAny (6:) X.A (f (.int i t) (.int j u)) Q E s) :
 OpR X f (rI0 fun i j=>.bl (g i j)):=by
 intro pins s σ H x y v u Q I rx ry h
 obtain ⟨i,j,rfl,rfl,q⟩:=h
 obtain ⟨t,rfl⟩:=rx
 obtain ⟨t',rfl⟩:=ry
 exact rule i j t t' s _ _ ⟨.bl (g i j),H,I,rfl,q⟩
def Ol (i j:Int):Prop:=0 < j∧j < 1073741824
def OK (i j:Int):Prop:=0≤j∧j≤1000000∧i.natAbs < 2 ^ 64
def CMul (i j:Int):Prop:=(-(2 ^ 64) < i∧i < 2 ^ 64)∨(-(2 ^ 64) < j∧j < 2 ^ 64)
theorem CMul.ok {i j:Int} (h:CMul i j):IntMulOk i j:=by
 rcases h with ⟨h1,h2⟩ | ⟨h1,h2⟩
 ·exact .of_left (intBits_le_64 h1 h2)
 ·exact .of_right (intBits_le_64 h1 h2)
theorem QC:OpR X (binaryOp .Add) (rI0 fun i j=>.int (i + j)):=Nd fun _ _ _ _ _ _ _ q=>add_int q
theorem LV:OpR X (binaryOp .Sub) (rI0 fun i j=>.int (i - j)):=Nd fun _ _ _ _ _ _ _ q=>sub_int q
theorem Z1:OpR X (binaryOp .Mult) (rI CMul fun i j=>.int (i * j)):=opI fun _ _ _ _ _ _ _ hc q=>mul_int q hc.ok
theorem Yk:OpR X (binaryOp .FloorDiv) (rI Ol fun i j=>.int (i / j)):=opI fun i j _ _ _ _ _ hc q=>by
 have h1:(0:Int) < j:=hc.1
 have h2:j < 1073741824:=hc.2
 exact floordiv_int (12:) (by rw [Int.fdiv_eq_ediv_of_nonneg i (12:)];exact q) (.inl (PyProof.noPylong_small (12:)))
theorem QE:OpR X (binaryOp .Mod) (rI (fun _ j=>0 < j) fun i j=>.int (i % j)):=opI fun i j _ _ _ _ _ hc q=>by
 have h1:(0:Int) < j:=hc
 exact mod_int' (12:) (by rw [Int.fmod_eq_emod_of_nonneg i (12:)];exact q)
theorem VW:OpR X (binaryOp .Pow) (rI OK fun i j=>.int (i ^ j.toNat)):=opI fun _ _ _ _ _ _ _ hc q=>pow_int_small hc.1 hc.2.1 hc.2.2 q
end
def Of:V→V→Bool
 | .non,.non=>true | .non,.int _=>true | .int _,.non=>true | .non,.bl _=>true | .bl _,.non=>true | .non,.str _=>true | .str _,.non=>true
 | .int _,.int _=>true | .bl _,.bl _=>true | .str _,.str _=>true | .byt _,.byt _=>true
 | .int _,.str _=>true | .str _,.int _=>true | .bl _,.str _=>true | .str _,.bl _=>true
 | _,_=>false
def rEq:R2:=fun x y H Q=>Of x y=true∧Q (.bl (decide (x=y))) H
def rNe:R2:=fun x y H Q=>Of x y=true∧Q (.bl (!decide (x=y))) H
theorem Wo {i j:Int}:decide (V.int i=V.int j)=(i == j):=by
 rw [Bool.eq_iff_iff]
 simp
theorem Vc {i j:Bool}:decide (V.bl i=V.bl j)=(i == j):=by
 rw [Bool.eq_iff_iff]
 simp
theorem X8 {i j:Str}:decide (V.str i=V.str j)=(i == j):=by
 rw [Bool.eq_iff_iff]
 simp
theorem Ws {i j:Array UInt8}:decide (V.byt i=V.byt j)=(i.toList == j.toList):=by
 rw [Bool.eq_iff_iff]
 cases i
 cases j
 simp
section
variable {X:Cx} {a b c:Expr} {ta tb tc:TE} {pos:Pos}
theorem Qu {pins:List (7:)} {σ:St} {H:Hp} {s:Shared} {Q:VK} {k k':Bool} (I:Inv X pins σ H s) (q:Q (.bl k) H) (e:k=k'):EP X pins σ Q (.bool k') s:=by
 subst e
 exact ⟨.bl k,H,I,rfl,q⟩
theorem ZB:OpR X (compareOp .Eq) rEq:=by
 intro pins s σ H x y v u Q I rx ry h
 obtain ⟨hs,q⟩:=h
 cases x with
 | non =>
  cases rx
  cases y with
  | non=>cases ry;exact PySem.EqNone.eq_none_none (50:)
  | bl j=>cases ry;exact PySem.EqNone.eq_none_bool (50:)
  | int j=>obtain ⟨t',rfl⟩:=ry;exact PySem.EqNone.eq_none_int (50:)
  | str j=>obtain ⟨t',rfl⟩:=ry;exact PySem.EqNone.eq_none_str (50:)
  | _=>exact absurd (show false=true from hs) Bool.false_ne_true
 | bl i =>
  cases rx
  cases y with
  | non=>cases ry;exact PySem.EqNone.eq_bool_none (50:)
  | bl j=>cases ry;exact eq_bool (Qu I q Vc)
  | str j=>obtain ⟨t',rfl⟩:=ry;exact PySem.EqMixed.eq_bool_str (50:)
  | _=>exact absurd (show false=true from hs) Bool.false_ne_true
 | int i =>
  obtain ⟨t,rfl⟩:=rx
  cases y with
  | non=>cases ry;exact PySem.EqNone.eq_int_none (50:)
  | int j=>obtain ⟨t',rfl⟩:=ry;exact eq_int (Qu I q Wo)
  | str j=>obtain ⟨t',rfl⟩:=ry;exact PySem.EqMixed.eq_int_str (50:)
  | _=>exact absurd (show false=true from hs) Bool.false_ne_true
 | str i =>
  obtain ⟨t,rfl⟩:=rx
  cases y with
  | non=>cases ry;exact PySem.EqNone.eq_str_none (50:)
  | bl j=>cases ry;exact PySem.EqMixed.eq_str_bool (50:)
  | int j=>obtain ⟨t',rfl⟩:=ry;exact PySem.EqMixed.eq_str_int (50:)
  | str j=>obtain ⟨t',rfl⟩:=ry;exact eq_str (Qu I q X8)
  | _=>exact absurd (show false=true from hs) Bool.false_ne_true
 | byt i =>
  obtain ⟨t,rfl⟩:=rx
  cases y with
  | byt j=>obtain ⟨t',rfl⟩:=ry;exact PySem.W.eq_bytes (Qu I q Ws)
  | _=>exact absurd (show false=true from hs) Bool.false_ne_true
 | _=>cases y <;> exact absurd (show false=true from hs) Bool.false_ne_true
theorem U3:OpR X (compareOp .NotEq) rNe:=by
 intro pins s σ H x y v u Q I rx ry h
 obtain ⟨hs,q⟩:=h
 cases x with
 | non =>
  cases rx
  cases y with
  | non=>cases ry;exact PySem.EqNone.ne_none_none (50:)
  | bl j=>cases ry;exact PySem.EqNone.ne_none_bool (50:)
  | int j=>obtain ⟨t',rfl⟩:=ry;exact PySem.EqNone.ne_none_int (50:)
  | str j=>obtain ⟨t',rfl⟩:=ry;exact PySem.EqNone.ne_none_str (50:)
  | _=>exact absurd (show false=true from hs) Bool.false_ne_true
 | bl i =>
  cases rx
  cases y with
  | non=>cases ry;exact PySem.EqNone.ne_bool_none (50:)
  | bl j=>cases ry;exact ne_bool (Qu I q (congrArg not Vc))
  | str j=>obtain ⟨t',rfl⟩:=ry;exact PySem.EqMixed.ne_bool_str (50:)
  | _=>exact absurd (show false=true from hs) Bool.false_ne_true
 | int i =>
  obtain ⟨t,rfl⟩:=rx
  cases y with
  | non=>cases ry;exact PySem.EqNone.ne_int_none (50:)
  | int j=>obtain ⟨t',rfl⟩:=ry;exact ne_int (Qu I q (congrArg not Wo))
  | str j=>obtain ⟨t',rfl⟩:=ry;exact PySem.EqMixed.ne_int_str (50:)
  | _=>exact absurd (show false=true from hs) Bool.false_ne_true
 | str i =>
  obtain ⟨t,rfl⟩:=rx
  cases y with
  | non=>cases ry;exact PySem.EqNone.ne_str_none (50:)
  | bl j=>cases ry;exact PySem.EqMixed.ne_str_bool (50:)
  | int j=>obtain ⟨t',rfl⟩:=ry;exact PySem.EqMixed.ne_str_int (50:)
  | str j=>obtain ⟨t',rfl⟩:=ry;exact ne_str (Qu I q (congrArg not X8))
  | _=>exact absurd (show false=true from hs) Bool.false_ne_true
 | byt i =>
  obtain ⟨t,rfl⟩:=rx
  cases y with
  | byt j=>obtain ⟨t',rfl⟩:=ry;exact PySem.W.ne_bytes (Qu I q (congrArg not Ws))
  | _=>exact absurd (show false=true from hs) Bool.false_ne_true
 | _=>cases y <;> exact absurd (show false=true from hs) Bool.false_ne_true
theorem YT:OpR X (compareOp .Lt) (rI0 fun i j=>.bl (decide (i < j))):=LZ fun _ _ _ _ _ _ _ q=>lt_int q
theorem M8:OpR X (compareOp .LtE) (rI0 fun i j=>.bl (decide (i≤j))):=LZ fun _ _ _ _ _ _ _ q=>le_int q
theorem Wr:OpR X (compareOp .Gt) (rI0 fun i j=>.bl (decide (j < i))):=LZ fun _ _ _ _ _ _ _ q=>gt_int q
theorem W5:OpR X (compareOp .Lt) (fun x y H Q=>∃ i j,x=.str i∧y=.str j∧Q (.bl (decide (i.cps.toList < j.cps.toList))) H):=by
 intro pins s σ H x y v u Q I rx ry h
 obtain ⟨i,j,rfl,rfl,q⟩:=h
 obtain ⟨t,rfl⟩:=rx
 obtain ⟨t',rfl⟩:=ry
 exact lt_str (Qu I q rfl)
theorem Wq:OpR X (compareOp .IsNot) (fun x y H Q=>y=.non∧Q (.bl (!decide (x=.non))) H):=by
 intro pins s σ H x y v u Q I rx ry h
 obtain ⟨rfl,q⟩:=h
 cases ry
 refine isnot_none_gen (Qu I q ?_)
 cases x <;> first
  | (cases rx;rfl)
  | (obtain ⟨t,rfl⟩:=rx;rfl)
theorem Qr (b:Expr) {op:CmpOp} (h:op≠.In:=by decide) (h2:op≠.NotIn:=by decide):behindInMarks op b=false:=by
 have e1:(op == CmpOp.In)=false:=by cases op <;> first | rfl | exact absurd rfl h
 have e2:(op == CmpOp.NotIn)=false:=by cases op <;> first | rfl | exact absurd rfl h2
 cases b <;> simp [behindInMarks,e1,e2]
theorem Zf {op:CmpOp} {r:R2} (ho:OpR X (compareOp op) r) (ha:PE X a ta) (hb:PE X b tb) (hm:behindInMarks op b=false):PE X (.Compare a [op] [b] pos) (tOp r ta tb):=by
 intro pins s σ H Q I h
 exact wpAny_Compare1 (LS ha hb I h fun v u s2 x y H2 I2 rx ry q=>ho pins s2 σ H2 x y v u Q I2 rx ry q) hm
def NM (t:TE):TT:=fun σ H Q=>t σ H fun x H'=>∃ k,x=.bl k∧Q k H'
theorem Qs {op:CmpOp} {r:R2} (ho:OpR X (compareOp op) r) (ha:PE X a ta) (hb:PE X b tb) (hm:behindInMarks op b=false):PT X (.Compare a [op] [b] pos) (NM (tOp r ta tb)):=by
 intro pins s σ H Q I h
 refine wpAny_isTrue_Compare1 (thn (ha pins s σ H _ I h) fun v s1 ⟨x,H1,I1,r1,q1⟩=>thn (hb pins s1 σ H1 _ I1 q1) fun u s2 ⟨y,H2,I2,r2,q2⟩ =>
  thn (ho pins s2 σ H2 x y v u _ I2 r1 r2 q2) fun c s3 ⟨z,H3,I3,r3,k,e,q3⟩=>?_) hm
 subst e
 cases r3
 exact wpAny_truthy_bool ⟨H3,I3,q3⟩
def L9 (r r':R2) (ta tb tc:TE):TE:=fun σ H Q=>ta σ H fun x H1=>tb σ H1 fun y H2=>r x y H2 fun z H3=>∃ k,z=.bl k ∧
 (if k=true then tc σ H3 fun w' H4=>r' y w' H4 Q else Q (.bl false) H3)
theorem V0 {op op':CmpOp} {r r':R2} (ho:OpR X (compareOp op) r) (ho':OpR X (compareOp op') r') (ha:PE X a ta) (hb:PE X b tb) (hc:PE X c tc)
 (hm:lastMarks [op,op'] [b,c]=false:=by with_unfolding_all rfl):PE X (.Compare a [op,op'] [b,c] pos) (L9 r r' ta tb tc):=by
 intro pins s σ H Q I h
 refine Compare_chain (thn (ha pins s σ H _ I h) fun v s1 ⟨x,H1,I1,r1,q1⟩=>chain_link (thn (hb pins s1 σ H1 _ I1 q1) fun u s2 ⟨y,H2,I2,r2,q2⟩ =>
  thn (ho pins s2 σ H2 x y v u _ I2 r1 r2 q2) fun d s3 ⟨z,H3,I3,r3,k,e,q3⟩=>?_)) hm
 subst e
 cases r3
 refine wpAny_truthy_bool ?_
 cases k with
 | false=>exact ite_ff ⟨.bl false,H3,I3,rfl,q3⟩
 | true=>exact ite_tt (chain_last (thn (hc pins s3 σ H3 _ I3 q3) fun w' s4 ⟨z',H4,I4,r4,q4⟩=>ho' pins s4 σ H4 y z' u w' Q I4 r2 r4 q4))
theorem Yx:(sizeLine:Nat) < 2 ^ 63:=by rw [sizeLine_eq];decide
theorem U6 {x:V} {us:List Value} (r:Vals [x] us):∃ u,us=[u]∧RelV x u:=by
 cases r with
 | cons r1 r2=>cases r2;exact ⟨_,rfl,r1⟩
theorem WB {x y:V} {us:List Value} (r:Vals [x,y] us):∃ u w',us=[u,w']∧RelV x u∧RelV y w':=by
 cases r with
 | cons r1 r2 =>
  cases r2 with
  | cons r3 r4=>cases r4;exact ⟨_,_,rfl,r1,r3⟩
theorem Yv:Zc X (.type "int") (fun xs H Q=>(∃ i,xs=[.int i]∧Q (.int i) H)∨∃ k,xs=[.bl k]∧Q (.int (if k then 1 else 0)) H):=by
 intro pins s σ H xs us Q I r h
 rcases h with ⟨i,rfl,q⟩ | ⟨k,rfl,q⟩
 ·obtain ⟨u,rfl,t,rfl⟩:=U6 r
  exact call_int_int ⟨.int i,H,I,(53:),q⟩
 ·obtain ⟨u,rfl,r1⟩:=U6 r
  cases r1
  exact call_int_bool ⟨.int (if k then 1 else 0),H,I.tok _,(53:),q⟩
end
end L2
namespace L2
open PySem PySem.Spec PyProof.Rows
structure ObjM (h:Heap) (x dx C:Addr) (mA:Str→Option Value):Prop where
 obj:h.get? x=some (PySem.W.instObj C dx)
 ns:h.Ns1 dx mA
 ne:dx≠x
theorem W4 {h:Heap} {dx:Addr} {mA:Str→Option Value} (n:h.Ns1 dx mA):∃ od,h.get? dx=some od∧∀ name,PySem.W.lookIn name od=some (mA name):=by
 obtain ⟨o,es,ep,ho,hd,hk,_,hm⟩:=n
 refine ⟨o,ho,fun name=>?_⟩
 have e:=hm name
 unfold nsFind findBy at e
 rw [← Array.find?_toList] at e
 unfold PySem.W.lookIn
 rw [hd]
 dsimp only
 split
 ·rename_i y q
  rw [q] at e
  exact congrArg some e
 ·rename_i q
  rw [q] at e
  have a:es.toList.any (·.refKey)=false:=by
   rw [List.any_eq_false]
   intro y hy
   obtain ⟨z,t,hkey⟩:=hk y (Array.mem_toList_iff.mp hy)
   simp [DictEntry.refKey,hkey]
  have a':¬ es.toList.any (·.refKey)=true:=by rw [a];exact Bool.false_ne_true
  rw [if_neg a']
  exact congrArg some e
theorem ObjM.look {h:Heap} {x dx C:Addr} {mA:Str→Option Value} (I:ObjM h x dx C mA):∃ od,PySem.W.InstAt h x (PySem.W.instObj C dx) C (some od)∧∀ name,PySem.W.lookIn name od=some (mA name) :=
 let ⟨od,ho,hl⟩:=W4 I.ns
 ⟨od,⟨I.obj,rfl,rfl,ho⟩,hl⟩
section
variable {prog:Program} {w:World} {A:Around} {E:Value→Shared→Prop} {s:Shared} {K:PySem.W.Frag} {x dx C f:Addr} {mA:Str→Option Value} {name:Str} {v:Value}
theorem Lr {expr:Bool} {Q:Value→Shared→Prop} (X:K.In s.heap) (I:ObjM s.heap x dx C mA) (hg:PySem.W.plainGet K C name=true) (hh:PySem.W.hasDictIn K C=true)
 (ha:PySem.W.findIn K (.ref C) name=some none) (hv:mA name=some v) (hv':PySem.W.handedIn v=true) (h:Q v { s with toks:=s.toks + 1 }) :
 wpAny (19:) A (getAttr (.ref x) name expr) Q E s:=by
 obtain ⟨od,J,hl⟩:=I.look
 exact PySem.W.get_value X J (PySem.W.plainGet_of hg).1 (PySem.W.findObj_own hh ha rfl (by rw [hl,hv])) hv' h
theorem Vs {pl:Sem Bool} {Q:Value × List Value→Shared→Prop} (X:K.In s.heap) (I:ObjM s.heap x dx C mA) (hg:PySem.W.plainGet K C name=true)
 (hf:PySem.W.findIn K (.ref C) name=some (some (.ref f))) (ht:PySem.W.isFn K (.ref f)=true) (hv:mA name=none) (h:Q (.ref f,[.ref x]) s) :
 wpAny (19:) A (getMethod (.ref x) name pl) Q E s:=by
 obtain ⟨od,J,hl⟩:=I.look
 exact PySem.W.method_fn X J (PySem.W.plainGet_of hg).1 (PySem.W.plainGet_of hg).2 hf (beq_iff_eq.mp ht) (by show (PySem.W.lookIn name od).map (·.isSome)=some false;rw [hl,hv];rfl) h
theorem GW {ns:List Str} {Q:Unit→Shared→Prop} (X:K.In s.heap) (I:ObjM s.heap x dx C mA)
 (hs:PySem.W.findIn K (.ref C) "__setattr__" = some (some (.builtin "object.__setattr__"))) (hp:PySem.W.plainOver K C=true) (ht:PySem.W.takerIn K C name=some none) (hh:PySem.W.hasDictIn K C=true)
 (hw:PySem.Within mA ns) (hsz:ns.length≤sizeLine)
 (h:∀ h',ObjM h' x dx C (fun y=>if y=name then some v else mA y)→Heap.SameBut dx s.heap h'→Q () { s with heap:=h',toks:=s.toks + 2 }) :
 wpAny (19:) A (setAttr (.ref x) name v) Q E s:=by
 obtain ⟨od,J,hl⟩:=I.look
 refine PySem.W.set_plain X J hs (PySem.W.osa_open (s:={ s with toks:=s.toks + 1 }) (r:=none) X J hp ht fun b=>?_)
 obtain ⟨cd,hc,hd'⟩:=PySem.W.any_some hh
 have hx:s.heap.get? x=some ⟨.ref C,some dx,.plain,#[]⟩:=I.obj
 refine wpAny_bind (wpAny_pure (wpAny_bind (wpAny_bind (wpAny_loadPart hx (wpAny_bind (PySem.W.Looks.here (s:={ s with toks:=s.toks + 1 }) (PySem.W.looks_clsIn X hc) ?_))))))
 rw [hd']
 refine wpAny_pure (a:=some dx) (wpAny_bind (wpAny_pure (wpAny_bind ?_)))
 refine wpAny_nsSet1 (s:={ s with toks:=s.toks + 1 }) I.ns fun h' hn2 hs2=>?_
 obtain ⟨oD,esD,epD,hoD,hdD,hcD⟩:=hn2.count (PySem.Within.cons name v hw)
 refine wpAny_bind (wpAny_lookBehind hoD (by rw [hdD];exact pastItsLine_dict (Nat.le_trans hcD (by rw [List.length_cons];lia))) ?_)
 exact wpAny_pure (h _ ⟨(hs2.2 _ (Ne.symm I.ne)).trans I.obj,hn2,I.ne⟩ hs2)
theorem Vy {R:Result→Shared→Prop} {vs:List Value} {kw:List (Str × Value)} (X:K.In s.heap) (hm:PySem.W.makesIn K C=true)
 (hi:PySem.W.findIn K (.ref C) "__init__" = some (some (.ref f))) (hf:PySem.W.typeIn K (.ref f)=some (.type "function"))
 (h:codeAny (19:) (A.under (.builtin "type.__call__" ⟨.ref C :: vs,kw⟩)) (.call (.ref f) ⟨.ref (24:) :: vs,kw⟩) (PySem.W.InitBack (24:) R)
  { s with heap:=(s.heap.push PySem.W.emptyDict).push (PySem.W.instObj C s.heap.objs.size) }) :
 codeAny (19:) A (.call (.ref C) ⟨vs,kw⟩) R s:=by
 obtain ⟨hh,g,d,t,os⟩:=s
 exact PySem.W.make_core (PySem.W.makes_of X hm) (PySem.W.looks_findIn X hi) (fun self=>PySem.W.bind_fn X self hf) (.inl rfl) h
end
def QS (f:Str) (v:V):List (Str × V)→List (Str × V)
 | []=>[(f,v)]
 | (g,x) :: r=>if g=f then (g,v) :: r else (g,x) :: QS f v r
theorem YU (f g:Str) (v:V):∀ fs:List (Str × V),(QS f v fs).lookup g=if g=f then some v else fs.lookup g
 | []=>by
  show List.lookup g [(f,v)]=_
  by_cases h:g=f
  ·have hb:(g == f)=true:=beq_iff_eq.mpr h
   simp only [List.lookup,hb,if_pos h]
  ·have hb:(g == f)=false:=beq_eq_false_iff_ne.mpr h
   simp only [List.lookup,hb,if_neg h]
 | (k,x) :: r=>by
  have ih:=YU f g v r
  rw [show QS f v ((k,x) :: r)=(if k=f then (k,v) :: r else (k,x) :: QS f v r) from rfl]
  by_cases hk:k=f
  ·rw [if_pos hk]
   by_cases h:g=k
   ·have hb:(g == k)=true:=beq_iff_eq.mpr h
    simp only [List.lookup,hb,if_pos (h.trans hk)]
   ·have hb:(g == k)=false:=beq_eq_false_iff_ne.mpr h
    simp only [List.lookup,hb,if_neg (fun e:g=f=>h (e.trans hk.symm))]
  ·rw [if_neg hk]
   by_cases h:g=k
   ·have hb:(g == k)=true:=beq_iff_eq.mpr h
    simp only [List.lookup,hb,if_neg (fun e:g=f=>hk (h.symm.trans e))]
   ·have hb:(g == k)=false:=beq_eq_false_iff_ne.mpr h
    simp only [List.lookup,hb]
    exact ih
theorem YE (f:Str) (v:V):∀ fs:List (Str × V),f ∈ (QS f v fs).map (·.1)∧∀ g,g ∈ fs.map (·.1)→g ∈ (QS f v fs).map (·.1)
 | []=>⟨by simp [QS],fun g h=>by simp at h⟩
 | (k,x) :: r=>by
  obtain ⟨i1,i2⟩:=YE f v r
  rw [show QS f v ((k,x) :: r)=(if k=f then (k,v) :: r else (k,x) :: QS f v r) from rfl]
  by_cases hk:k=f
  ·rw [if_pos hk]
   subst hk
   exact ⟨by simp,fun g h=>by simpa using h⟩
  ·rw [if_neg hk]
   refine ⟨?_,fun g h=>?_⟩
   ·rw [List.map_cons]
    exact List.mem_cons_of_mem _ i1
   ·rw [List.map_cons] at h ⊢
    rcases List.mem_cons.mp h with e | e
    ·exact List.mem_cons.mpr (.inl e)
    ·exact List.mem_cons_of_mem _ (i2 g e)
theorem YM (f:Str) (v:V):∀ fs:List (Str × V),(QS f v fs).length≤fs.length + 1
 | []=>by simp [QS]
 | (k,x) :: r=>by
  have ih:=YM f v r
  rw [show QS f v ((k,x) :: r)=(if k=f then (k,v) :: r else (k,x) :: QS f v r) from rfl]
  by_cases hk:k=f
  ·rw [if_pos hk,List.length_cons,List.length_cons];lia
  ·rw [if_neg hk,List.length_cons,List.length_cons];lia
theorem RelO.some_of {v:V} {o:Option Value} (r:RelO (some v) o):∃ u,o=some u∧RelV v u:=by
 cases o with
 | none=>exact (show False from r).elim
 | some u=>exact ⟨u,rfl,r⟩
theorem RelO.none_of {o:Option Value} (r:RelO none o):o=none:=by
 cases o with
 | none=>rfl
 | some u=>exact (show False from r).elim
theorem WU {v:V} {u:Value} (r:RelV v u):PySem.W.handedIn u=true:=by
 cases v with
 | non=>cases (show u=Value.none from r);rfl
 | bl b=>cases (show u=Value.bool b from r);rfl
 | int i=>obtain ⟨t,e⟩:=(show ∃ t,u=Value.int i t from r);cases e;rfl
 | str x=>obtain ⟨t,e⟩:=(show ∃ t,u=Value.str x t from r);cases e;rfl
 | byt b=>obtain ⟨t,e⟩:=(show ∃ t,u=Value.bytes b t from r);cases e;rfl
 | flt b=>obtain ⟨t,e⟩:=(show ∃ t,u=Value.float b t from r);cases e;rfl
 | ref a=>cases (show u=Value.ref a from r);rfl
 | ty n=>cases (show u=Value.type n from r);rfl
section
variable {P:Program} {w:World} {H H':Hp} {h h':Heap} {a C dx:Addr} {fs fs':List (Str × V)}
theorem Y8 (hok:HOk P w H h) (e:H a=some (.ins C dx fs)):∃ mA,ObjM h a dx C mA∧(∀ f,RelO (fs.lookup f) (mA f))∧PySem.Within mA (fs.map (·.1))∧fs.length≤1000∧H dx=some (.own a):=by
 obtain ⟨d,z,ne,ob,mA,n,r,q⟩:=(show ObjOk P w H h a (.ins C dx fs) from hok a _ e)
 exact ⟨mA,⟨ob,n,ne⟩,r,q,z,d⟩
end
structure Cls (K:PySem.W.Frag) (C:Addr):Prop where
 pg:PySem.W.plainGet K C Str.empty=true
 hd:PySem.W.hasDictIn K C=true
 po:PySem.W.plainOver K C=true
 sa:PySem.W.findIn K (.ref C) "__setattr__" = some (some (.builtin "object.__setattr__"))
theorem Cls.get {K:PySem.W.Frag} {C:Addr} (c:Cls K C) (f:Str):PySem.W.plainGet K C f=true:=c.pg
def NoAttr (K:PySem.W.Frag) (C:Addr) (f:Str):Prop:=PySem.W.findIn K (.ref C) f=some none
theorem NoAttr.taker {K:PySem.W.Frag} {C:Addr} {f:Str} (n:NoAttr K C f):PySem.W.takerIn K C f=some none:=by
 unfold PySem.W.takerIn
 rw [show PySem.W.findIn K (.ref C) f=some none from n]
 rfl
structure Meth (K:PySem.W.Frag) (C:Addr) (m:Str) (f:Addr):Prop where
 at_:PySem.W.findIn K (.ref C) m=some (some (.ref f))
 fn:PySem.W.isFn K (.ref f)=true
 kp:PySem.W.keepIn K (.ref f)=true
section
variable {X:Cx} {pins:List (7:)} {σ:St} {H:Hp} {s:Shared} {a C dx:Addr} {fs:List (Str × V)} {f:Str} {v:V} {A:Around} {E:Value→Shared→Prop}
theorem Uu {b:Bool} {Q:Value→Shared→Prop} (I:Inv X pins σ H s) (e:H a=some (.ins C dx fs)) (c:Cls X.K C) (n:NoAttr X.K C f) (l:fs.lookup f=some v)
 (h:∀ u s',Inv X pins σ H s'→RelV v u→Q u s'):wpAny (6:) A (getAttr (.ref a) f b) Q E s:=by
 obtain ⟨mA,O,r,_,_,_⟩:=Y8 I.hok e
 obtain ⟨u,hu,ru⟩:=RelO.some_of (v:=v) (o:=mA f) (by rw [← l];exact r f)
 exact Lr I.kIn O (c.get f) c.hd n hu (WU ru) (h u _ (I.tok _) ru)
theorem Uo {m:Str} {g:Addr} {pl:Sem Bool} {Q:Value × List Value→Shared→Prop} (I:Inv X pins σ H s) (e:H a=some (.ins C dx fs)) (c:Cls X.K C) (k:Meth X.K C m g) (l:fs.lookup m=none)
 (h:Q (.ref g,[.ref a]) s):wpAny (6:) A (getMethod (.ref a) m pl) Q E s:=by
 obtain ⟨mA,O,r,_,_,_⟩:=Y8 I.hok e
 have hn:mA m=none:=RelO.none_of (by rw [← l];exact r m)
 exact Vs I.kIn O (c.get m) k.at_ k.fn hn h
theorem Ur {y:V} {u:Value} {Q:Unit→Shared→Prop} (I:Inv X pins σ H s) (e:H a=some (.ins C dx fs)) (c:Cls X.K C) (n:NoAttr X.K C f) (hl:fs.length < 1000) (ry:RelV y u)
 (h:∀ s',Inv X pins σ (upd H a (.ins C dx (QS f y fs))) s'→Q () s'):wpAny (6:) A (setAttr (.ref a) f u) Q E s:=by
 obtain ⟨mA,O,r,wi,_,ho⟩:=Y8 I.hok e
 have hz:(fs.map (·.1)).length≤sizeLine:=by rw [List.length_map,sizeLine_eq];lia
 refine GW I.kIn O c.sa c.po n.taker c.hd wi hz fun h' O' sb=>h _ ?_
 have hd:∃ o,h'.get? dx=some o:=let ⟨o,_,_,e',_⟩:=O'.ns;⟨o,e'⟩
 refine I.write (x:=a) (e:=dx) (by rw [e];exact True.intro) (.inr ho) (fun b q hb z=>(sb.2 b hb).trans z) hd ?_
 refine ⟨by rw [Qi O.ne];exact ho,?_,O.ne,O'.obj,_,O'.ns,fun g=>?_,fun g hg=>?_⟩
 ·have:=YM f y fs;lia
 ·show RelO ((QS f y fs).lookup g) (if g=f then some u else mA g)
  rw [YU]
  by_cases q:g=f
  ·rw [if_pos q,if_pos q];exact ry
  ·rw [if_neg q,if_neg q];exact r g
 ·by_cases q:g=f
  ·rw [q];exact (YE f y fs).1
  ·refine (YE f y fs).2 g (wi g fun z=>hg ?_)
   show (if g=f then some u else mA g)=none
   rw [if_neg q];exact z
theorem Inv.made (I:Inv X pins σ H s):Inv X pins σ (upd (upd H s.heap.objs.size (.own (24:))) (24:) (.ins C s.heap.objs.size []))
 { s with heap:=(s.heap.push PySem.W.emptyDict).push (PySem.W.instObj C s.heap.objs.size) }:=by
 have e1:(s.heap.push PySem.W.emptyDict).get? s.heap.objs.size=some PySem.W.emptyDict:=Heap.get?_push_size s.heap rfl
 have e2:((s.heap.push PySem.W.emptyDict).push (PySem.W.instObj C s.heap.objs.size)).get? (24:)=some (PySem.W.instObj C s.heap.objs.size):=by
  have:=Heap.get?_push_size (s.heap.push PySem.W.emptyDict) (o:=PySem.W.instObj C s.heap.objs.size) rfl
  rwa [Heap.size_push] at this
 have e3:(s.heap.push PySem.W.emptyDict).Ns s.heap.objs.size (fun _=>none):=⟨PySem.W.emptyDict,#[],_,e1,rfl,(fun e he=>absurd he (29:)),fun _=>rfl⟩
 have I1:=I.laid (a:=s.heap.objs.size) (o:=.own (24:)) (h':=s.heap.push PySem.W.emptyDict) (t':=s.toks) (fun b u q=>Heap.get?_push_of_some _ q) (10:) ⟨_,e1⟩
 refine I1.laid (a:=s.heap.objs.size + 1) (o:=.ins C s.heap.objs.size []) (t':=s.toks) (fun b u q=>Heap.get?_push_of_some _ q) (Nat.le_of_eq (Heap.size_push _ _)) ?_
 have ne:s.heap.objs.size≠s.heap.objs.size + 1:=Nat.ne_of_lt (Nat.lt_succ_self _)
 refine ⟨by rw [Qi ne,Qb],Nat.zero_le _,ne,e2,fun _=>none,(Heap.Ns1.of_empty e3).at fun o q=>Heap.get?_push_of_some _ q,fun _=>True.intro,fun y hy=>absurd rfl hy⟩
theorem Gu {prog:Program} {w:World} {env:Env} {e:Expr} {f:Str} {pos:Pos} {s:Shared} {Q:Value→Shared→Prop} (hb:attributeBase e f env (eval e env)=eval e env)
 (h:wpAny (19:) A (eval e env) (fun o s₁=>wpAny (19:) A (getAttr o f true) Q E s₁) E s):wpAny (19:) A (eval (.Attribute e f pos) env) Q E s :=
 Attribute_any_ h (by rw [arm_eval_Attribute,hb])
end
def Ou (K:PySem.W.Frag) (ta:TE) (f:Str):TE:=fun σ H Q=>ta σ H fun x H1=>∃ a C dx fs v,x=.ref a∧H1 a=some (.ins C dx fs)∧Cls K C∧NoAttr K C f∧fs.lookup f=some v∧Q v H1
def Ox (K:PySem.W.Frag) (ta tv:TE) (f:Str):TS:=fun D σ H=>tv σ H fun y H1=>ta σ H1 fun x H2=>∃ a C dx fs,x=.ref a∧H2 a=some (.ins C dx fs)∧Cls K C∧NoAttr K C f∧fs.length < 1000 ∧
 D.nx σ (upd H2 a (.ins C dx (QS f y fs)))
def Oc (X:Cx) (op:Operator) (rd:V→V→Hp→VK→Prop):Prop :=
 ∀ (pins:List (7:)) (s:Shared) (σ:St) (H:Hp) (x y:V) (u v:Value) (Q:VK),Inv X pins σ H s→RelV x u→RelV y v→rd x y H Q→wpAny (6:) X.A (inplaceOp op u v) (EP X pins σ Q) X.xe s
def GC (K:PySem.W.Frag) (ta tv:TE) (rd:V→V→Hp→VK→Prop) (f:Str):TS:=fun D σ H=>ta σ H fun x H1=>∃ a C dx fs v,x=.ref a∧H1 a=some (.ins C dx fs)∧Cls K C∧NoAttr K C f∧fs.lookup f=some v ∧
 tv σ H1 fun y H2=>rd v y H2 fun z H3=>∃ dx' fs',H3 a=some (.ins C dx' fs')∧fs'.length < 1000∧D.nx σ (upd H3 a (.ins C dx' (QS f z fs')))
section
variable {X:Cx} {o e value:Expr} {f:Str} {pos pos' tpos:Pos} {ta tv:TE}
theorem QG (he:PE X e ta) (hb:attributeBase e f X.env (eval e X.env)=eval e X.env):PE X (.Attribute e f pos) (Ou X.K ta f):=by
 intro pins s σ H Q I h
 refine Gu hb (thn (he pins s σ H _ I h) fun u s1 ⟨x,H1,I1,rx,a,C,dx,fs,v,ex,ea,c,n,l,q⟩=>?_)
 subst ex
 obtain rfl:u=Value.ref a:=rx
 exact Uu I1 ea c n l fun u' s2 I2 ru=>⟨v,H1,I2,ru,q⟩
theorem ZD (ha:PE X o ta) (hv:PE X value tv) (hs:swapsWith value (some (.Attribute o f pos')) pos.line X.env=pure false):PS X (.Assign [.Attribute o f pos'] value pos) (Ox X.K ta tv f):=by
 intro pins s σ H D I h
 refine plainObj_wpAny_Assign_Attribute (thn (hv pins s σ H _ I h) fun u s1 ⟨y,H1,I1,ry,q⟩=>thn (ha pins s1 σ H1 _ I1 q) fun ov s2 ⟨x,H2,I2,rx,a,C,dx,fs,ex,ea,c,n,l,q2⟩=>?_) hs
 subst ex
 obtain rfl:ov=Value.ref a:=rx
 exact Ur I2 ea c n l ry fun s3 I3=>⟨σ,_,I3,q2⟩
theorem WN {op:Operator} {rd:V→V→Hp→VK→Prop} (ha:PE X o ta) (hv:PE X value tv) (hop:Oc X op rd):PS X (.AugAssign (.Attribute o f tpos) op value pos) (GC X.K ta tv rd f):=by
 intro pins s σ H D I h
 refine wpAny_AugAssign_AttributeAny (thn (ha pins s σ H _ I h) fun ov s1 ⟨x,H1,I1,rx,a,C,dx,fs,v,ex,ea,c,n,l,q⟩=>?_)
 subst ex
 obtain rfl:ov=Value.ref a:=rx
 refine Uu I1 ea c n l fun u s2 I2 ru=>thn (hv pins s2 σ H1 _ I2 q) fun w3 s3 ⟨y,H2,I3,ry,q3⟩=>thn (hop pins s3 σ H2 v y u w3 _ I3 ru ry q3) fun w4 s4 ⟨z,H3,I4,rz,dx',fs',ea',l',q4⟩=>?_
 exact Ur I4 ea' c n l' rz fun s5 I5=>⟨σ,_,I5,q4⟩
def OR:V→V→Hp→VK→Prop:=fun x y H Q=>∃ i j,x=.int i∧y=.int j∧Q (.int (i - j)) H
theorem Mj:Oc X .Sub OR:=by
 rintro pins s σ H x y u v Q I rx ry ⟨i,j,rfl,rfl,q⟩
 obtain ⟨t,rfl⟩:=(show ∃ t,u=Value.int i t from rx)
 obtain ⟨t',rfl⟩:=(show ∃ t',v=Value.int j t' from ry)
 exact PyProof.Rows.isub_int ⟨.int (i - j),H,I.tok _,(53:),q⟩
end
section
variable {X:Cx} {pins:List (7:)} {σ:St} {H:Hp} {s:Shared} {A:Around} {E:Value→Shared→Prop} {Q:Value→Shared→Prop} {c:Value} {b:Bool}
inductive TyOf (K:PySem.W.Frag) (H:Hp):V→Value→Prop where
 | non:TyOf K H .non (.type "NoneType")
 | bl (x:Bool):TyOf K H (.bl x) (.type "bool")
 | int (i:Int):TyOf K H (.int i) (.type "int")
 | str (x:Str):TyOf K H (.str x) (.type "str")
 | flt (x:UInt64):TyOf K H (.flt x) (.type "float")
 | lst {a:Addr} {xs:List V} (e:H a=some (.lst xs)):TyOf K H (.ref a) (.type "list")
 | frz {a:Addr} {o:Obj} {xs:List V} (e:H a=some (.frz o (.lst xs))):TyOf K H (.ref a) (.type "list")
 | tup {a:Addr} {xs:List V} (e:H a=some (.tup xs)):TyOf K H (.ref a) (.type "tuple")
 | dK {a:Addr} {kvs:List (Key × V)} (e:H a=some (.dK kvs)):TyOf K H (.ref a) (.type "dict")
 | dT {a:Addr} {kvs:List (List Key × V)} (e:H a=some (.dT kvs)):TyOf K H (.ref a) (.type "dict")
 | ins {a C dx:Addr} {fs:List (Str × V)} (e:H a=some (.ins C dx fs)) (cl:Cls K C) (ha:PySem.W.findIn K (.ref C) "__class__" = some (some (.builtin "object.__class__")))
  (hn:PySem.W.specialIn K (.builtin "object.__class__") "__get__" = some (some (.builtin "getset_descriptor.__get__"))) (htk:PySem.W.takesIn K (.builtin "object.__class__")=some true)
  (hm:PySem.W.mroIn K C (.type "object")=some true):TyOf K H (.ref a) (.ref C)
theorem WW {x:V} {u t:Value} (I:Inv X pins σ H s) (rx:RelV x u) (ty:TyOf X.K H x t) (e:PySem.W.kitOne X.K t c=some b) (h:∀ tk,Q (.bool b) { s with toks:=tk }) :
 wpAny (6:) A (call (.builtin "isinstance") [u,c]) Q E s:=by
 cases ty with
 | non=>cases (show u=Value.none from rx);exact PySem.W.kia_one PySem.W.kitx_none I.kIn True.intro e (fun z=>nomatch z) h
 | bl y=>cases (show u=Value.bool y from rx);exact PySem.W.kia_one PySem.W.kitx_bool I.kIn True.intro e (fun z=>nomatch z) h
 | int i=>obtain ⟨t,q⟩:=(show ∃ t,u=Value.int i t from rx);cases q;exact PySem.W.kia_one PySem.W.kitx_int I.kIn True.intro e (fun z=>nomatch z) h
 | str y=>obtain ⟨t,q⟩:=(show ∃ t,u=Value.str y t from rx);cases q;exact PySem.W.kia_one PySem.W.kitx_str I.kIn True.intro e (fun z=>nomatch z) h
 | flt y=>obtain ⟨t,q⟩:=(show ∃ t,u=Value.float y t from rx);cases q;exact PySem.W.kia_one PySem.W.kitx_float I.kIn True.intro e (fun z=>nomatch z) h
 | @lst a xs ea =>
  cases (show u=Value.ref a from rx)
  obtain ⟨_,_,n,_,h1⟩:=(show ObjOk X.prog X.w H s.heap a (.lst xs) from I.hok a _ ea)
  exact PySem.W.kia_one PySem.W.kitx_list I.kIn ⟨_,h1,rfl⟩ e (37:) h
 | @frz a ob xs ea =>
  cases (show u=Value.ref a from rx)
  obtain ⟨_,_,_,n,_,h1⟩:=(show ObjOk X.prog X.w H s.heap a (.frz ob (.lst xs)) from I.hok a _ ea)
  exact PySem.W.kia_one PySem.W.kitx_list I.kIn ⟨_,h1,rfl⟩ e (37:) h
 | @tup a xs ea =>
  cases (show u=Value.ref a from rx)
  obtain ⟨_,_,_,p⟩:=(show ObjOk X.prog X.w H s.heap a (.tup xs) from I.hok a _ ea)
  obtain ⟨o,h1,h2,_⟩:=p
  exact PySem.W.kia_one PySem.W.kitx_tuple I.kIn ⟨o,h1,h2⟩ e (37:) h
 | @dK a kvs ea =>
  cases (show u=Value.ref a from rx)
  obtain ⟨_,_,vs,_,p⟩:=(show ObjOk X.prog X.w H s.heap a (.dK kvs) from I.hok a _ ea)
  obtain ⟨o,es,ep,h1,h2,_⟩:=p
  exact PySem.W.kia_one PySem.W.kitx_dict I.kIn ⟨o,h1,h2.1⟩ e (37:) h
 | @dT a kvs ea =>
  cases (show u=Value.ref a from rx)
  obtain ⟨_,_,xs,_,o,es,ep,h1,h2,_⟩:=(show ObjOk X.prog X.w H s.heap a (.dT kvs) from I.hok a _ ea)
  exact PySem.W.kia_one PySem.W.kitx_dict I.kIn ⟨o,h1,h2.1⟩ e (37:) h
 | @ins a C dx fs ea cl ha hn htk hm =>
  cases (show u=Value.ref a from rx)
  obtain ⟨mA,O,_⟩:=Y8 I.hok ea
  obtain ⟨od,J,_⟩:=O.look
  exact PySem.W.kia_one (PySem.W.kitx_own (cl.get _) cl.hd ha hn htk hm) I.kIn J e (37:) h
end
end L2
namespace L2
open PySem PySem.Spec PyProof.Rows
structure Room (k:Nat) (A:Around):Prop where
 hd:A.handled=none
 dp:A.depth + 3 * k + 5 < recursionLimit
 un:A.units + 16 * k + 200 < cLine
theorem Room.mono {j k:Nat} {A:Around} (r:Room k A) (h:j≤k):Room j A:=⟨r.hd,by have:=r.dp;lia,by have:=r.un;lia⟩
theorem Room.deeper {k:Nat} {A:Around} (r:Room (k + 1) A) (env:Env):Room k (A.deeper env) :=
 ⟨r.hd,by have:=r.dp;show A.depth + 1 + 3 * k + 5 < _;lia,by have:=r.un;show A.units + 3 + 16 * k + 200 < _;lia⟩
theorem XS {A:Around} {C:Addr} {us:List Value} {kw:List (Str × Value)}:(A.under (.builtin "type.__call__" ⟨.ref C :: us,kw⟩)).depth=A.depth + 1:=by
 first | rfl | simp [Around.under,Code.weight,Code.isCreation,Code.isGuard,Code.isCaller,Code.frames,Code.isFrame,guardIds]
theorem Xq {A:Around} {C:Addr} {us:List Value} {kw:List (Str × Value)}:(A.under (.builtin "type.__call__" ⟨.ref C :: us,kw⟩)).units=A.units + 1:=by
 first | rfl | simp [Around.under,Code.cUnits,Code.frames,Code.isFrame]
theorem Room.make {k:Nat} {A:Around} (r:Room (k + 1) A) (C:Addr) (us:List Value) (kw:List (Str × Value)):Room k (A.under (.builtin "type.__call__" ⟨.ref C :: us,kw⟩)) :=
 ⟨r.hd,by have:=r.dp;rw [XS];lia,by have:=r.un;rw [Xq];lia⟩
theorem Room.depth {k:Nat} {A:Around} (r:Room k A):A.depth < recursionLimit:=by have:=r.dp;lia
theorem Room.units {k:Nat} {A:Around} (r:Room k A):A.units + 64 < cLine:=by have:=r.un;lia
def Ua:TA:=fun _ H Q=>Q [] H
def ZA (ta:TE) (tr:TA):TA:=fun σ H Q=>ta σ H fun x H1=>tr σ H1 fun xs H2=>Q (x :: xs) H2
section
variable {X:Cx} {e:Expr} {es:List Expr} {te:TE} {t:TA} {pos:Pos}
theorem Qc:PA X [] Ua:=fun _ _ _ _ H Q I h=>Calls.spliced_nil ⟨[],H,I,.nil,h⟩
theorem Qa (ha:PE X e te) (hr:PA X es t) (hs:starEach (e :: es) X.env=(54:) :: starEach es X.env:=by rfl):PA X (e :: es) (ZA te t):=by
 intro pos pins s σ H Q I h
 rw [hs]
 show wpAny _ _ (spliced ((54:) :: backTo pos (starEach es X.env))) _ _ s
 refine Calls.spliced_cons (thn (ha pins s σ H _ I h) fun u s1 ⟨x,H1,I1,r1,q1⟩=>?_)
 exact thn (hr pos pins s1 σ H1 _ I1 q1) fun us s2 ⟨xs,H2,I2,r2,q2⟩=>⟨x :: xs,H2,I2,.cons r1 r2,q2⟩
def La (t:TA):TE:=fun σ H Q=>t σ H fun xs H1=>xs.length≤sizeLine∧∀ p,H1 p=none→Q (.ref p) (upd H1 p (.tup xs))
def OQ (t:TA):TE:=fun σ H Q=>t σ H fun xs H1=>xs.length≤sizeLine∧∀ p,H1 p=none→Q (.ref p) (upd H1 p (.lst xs))
theorem Qm {x1} (h:PA X es t):PE X (.Tuple es x1 pos) (La t):=by
 intro pins s σ H Q I hq
 refine wpAny_Tuple_spliced (thn (h pos pins s σ H _ I hq) fun us s1 ⟨xs,H1,I1,r,z,q⟩=>⟨by rw [← r.length];exact z,?_⟩)
 have hf:H1 s1.heap.objs.size=none:=I1.hok.fresh (10:)
 refine ⟨.ref s1.heap.objs.size,upd H1 s1.heap.objs.size (.tup xs),I1.laid (t':=s1.toks) (fun b u e=>Heap.get?_push_of_some _ e) (10:) ?_,rfl,q _ hf⟩
 exact ⟨z,us,r,⟨_,Heap.get?_push_size _ rfl,rfl,_,rfl⟩⟩
theorem QK (h:PA X es t):PE X (.List es pos) (OQ t):=by
 intro pins s σ H Q I hq
 refine wpAny_List_spliced (thn (h pos pins s σ H _ I hq) fun us s1 ⟨xs,H1,I1,r,z,q⟩=>⟨by rw [← r.length];exact z,?_⟩)
 have hf:H1 s1.heap.objs.size=none:=I1.hok.fresh (10:)
 refine ⟨.ref s1.heap.objs.size,upd H1 s1.heap.objs.size (.lst xs),I1.laid (t':=s1.toks) (fun b u e=>Heap.get?_push_of_some _ e) (10:) ?_,rfl,q _ hf⟩
 exact ⟨z,us,0,r,Heap.get?_push_size _ rfl⟩
end
abbrev Sp:=List V→Hp→VK→XK→Prop
abbrev CXT:=List Env→Hp→Shared→XK→Value→Shared→Prop
structure Env0 (P:Program) (w:World) (K:PySem.W.Frag) (mg:Str→Option Value) (base:Heap) (A:Around) (outer:List Env) (s:Shared) (H:Hp):Prop where
 frames:A.frames=some outer
 mod:Mod K mg base
 bs:∀ b o,base.get? b=some o→s.heap.get? b=some o∧H b=none
 bsz:base.objs.size≤s.heap.objs.size
 funs:s.heap.FunFrames base outer
 frf:∀ b ∈ frs outer,H b=none
 hok:HOk P w H s.heap
 bare:AllBare s.gens
def CE (outer:List Env) (P:Program) (w:World) (H:Hp) (s:Shared) (Q:VK) (u:Value) (s':Shared):Prop :=
 ∃ v H',s'.os=s.os∧AllBare s'.gens∧Un (frs outer) [] H H' s.heap s'.heap∧HOk P w H' s'.heap∧RelV v u∧Q v H'
def CR (CX:CXT) (outer:List Env) (P:Program) (w:World) (H:Hp) (s:Shared) (Q:VK) (E:XK) (r:Result) (s':Shared):Prop :=
 match r with
 | .ok (.ret u)=>CE outer P w H s Q u s'
 | .ok _=>False
 | .error e=>CX outer H s E e s'
structure FnOk (P:Program) (w:World) (K:PySem.W.Frag) (mg:Str→Option Value) (base:Heap) (CX:CXT) (k:Nat) (f:Addr) (fd:FuncData) (ps:List Str) (sp:Sp):Prop where
 len:∀ vs H Q E,sp vs H Q E→vs.length=ps.length
 run:∀ (A:Around) (outer:List Env) (s:Shared) (H:Hp) (args:Args) (us:List Value) (vs:List V) (Q:VK) (E:XK),Room k A→Env0 P w K mg base A outer s H→BindsTo s fd args (ps.zip us)→Vals vs us→sp vs H Q E →
  codeAny (model P w) A (.call (.ref f) args) (CR CX outer P w H s Q E) s
theorem Env0.make {P:Program} {w:World} {K:PySem.W.Frag} {mg:Str→Option Value} {base:Heap} {A:Around} {outer:List Env} {s:Shared} {H:Hp} (e:Env0 P w K mg base A outer s H) (C:Addr) (us:List Value) (kw:List (Str × Value)) :
 Env0 P w K mg base (A.under (.builtin "type.__call__" ⟨.ref C :: us,kw⟩)) outer s H:=⟨by first | exact e.frames | (simpa [Around.under,Code.envs,Code.isFrame,pushEnvs] using e.frames),e.mod,e.bs,e.bsz,e.funs,e.frf,e.hok,e.bare⟩
section
variable {X:Cx} {pins:List (7:)} {σ:St} {H:Hp} {s s':Shared}
theorem Inv.env0 (I:Inv X pins σ H s):Env0 X.prog X.w X.K X.mg X.base X.A X.stack s H :=
 ⟨I.ok.frames,I.ok.mod,I.bs,Nat.le_trans I.ok.bsz I.sz,I.stack,I.stkFree,I.hok,I.bare⟩
theorem Inv.after {Q:VK} {u:Value} (I:Inv X pins σ H s) (h:CE X.stack X.prog X.w H s Q u s'):EP X pins σ Q u s':=by
 obtain ⟨v,H',os,bare,un,hok,r,q⟩:=h
 obtain ⟨hh,g,d,t,os'⟩:=s'
 obtain rfl:os'=s.os:=os
 exact ⟨v,H',I.call (h':=hh) (g':=g) (d':=d) (t':=t) (ch:=[]) un hok bare (fun b z=>absurd z (29:)),r,q⟩
end
def VG (sp:Sp) (dvs:List V) (E:XK) (t:TA):TE:=fun σ H Q=>t σ H fun vs H1=>sp (vs ++ dvs) H1 Q E
def LP (C:Addr) (m:Str) (sp:Sp) (dvs:List V) (E:XK) (ta:TE) (t:TA):TE:=fun σ H Q=>ta σ H fun x H1=>∃ a dx fs,x=.ref a∧H1 a=some (.ins C dx fs)∧fs.lookup m=none ∧
 t σ H1 fun vs H2=>sp (x :: (vs ++ dvs)) H2 Q E
def NX (C:Addr) (sp:Sp) (dvs:List V) (E:XK) (t:TA):TE:=fun σ H Q=>t σ H fun vs H1=>∀ x dx,H1 x=none→H1 dx=none→dx≠x →
 sp (.ref x :: (vs ++ dvs)) (upd (upd H1 dx (.own x)) x (.ins C dx [])) (fun v H2=>v=.non∧Q (.ref x) H2) E
def Binds (K:PySem.W.Frag) (fd:FuncData) (ps:List Str) (ds:List Value):Prop :=
 ∀ (s:Shared) (us:List Value),K.In s.heap→(us ++ ds).length=ps.length→BindsTo s fd ⟨us,[]⟩ (ps.zip (us ++ ds))
theorem Binds.all {K:PySem.W.Frag} {fd:FuncData} {ps:List Str} (h:∀ us:List Value,us.length=ps.length→bindArgs fd ⟨us,[]⟩=pure (ps.zip us)):Binds K fd ps []:=fun s us _ hl=>by
 rw [List.append_nil] at hl ⊢
 exact .of_eq (h us hl)
def ZX (CX:CXT) (X:Cx) (E:XK):Prop:=∀ (pins:List (7:)) (σ:St) (H:Hp) (s:Shared) (e:Value) (s':Shared),Inv X pins σ H s→CX X.stack H s E e s'→X.xe e s'
section
variable {X:Cx} {CX:CXT} {k:Nat} {f C:Addr} {fd:FuncData} {ps:List Str} {sp:Sp} {dvs:List V} {ds:List Value} {E:XK} {x m:Str} {p pos apos:Pos} {e o:Expr} {es:List Expr} {ta:TE} {t:TA}
theorem XB {pins:List (7:)} {σ:St} {H:Hp} {s:Shared} {Q:VK} {us:List Value} {vs:List V} (F:FnOk X.prog X.w X.K X.mg X.base CX k f fd ps sp) (hr:Room k X.A) (hb:Binds X.K fd ps ds) (hd:Vals dvs ds) (hx:ZX CX X E)
 (I:Inv X pins σ H s) (r:Vals vs us) (h:sp (vs ++ dvs) H Q E):wpAny (6:) X.A (call (.ref f) us) (EP X pins σ Q) X.xe s:=by
 have r2:Vals (vs ++ dvs) (us ++ ds):=r.append hd
 have hl:(us ++ ds).length=ps.length:=by rw [← r2.length];exact F.len _ _ _ _ h
 refine wpAny_call (codeAny_mono (F.run X.A X.stack s H ⟨us,[]⟩ (us ++ ds) (vs ++ dvs) Q E hr I.env0 (hb s us I.kIn hl) r2 h) fun r s' hq=>?_)
 cases r with
 | error e=>exact hx pins σ H s e s' I hq
 | ok fl =>
  cases fl with
  | ret u=>exact I.after hq
  | next=>exact False.elim hq
  | brk=>exact False.elim hq
  | cont=>exact False.elim hq
theorem Lw (F:FnOk X.prog X.w X.K X.mg X.base CX k f fd ps sp) (hr:Room k X.A) (hg:Gl X x) (hm:X.mg x=some (.ref f)) (hk:PySem.W.keepIn X.K (.ref f)=true) (hb:Binds X.K fd ps ds) (hd:Vals dvs ds) (hx:ZX CX X E)
 (ha:PA X (e :: es) t) (hdb:(34:)=false:=by decide) (he:starEach (e :: es) X.env=(54:) :: starEach es X.env:=by rfl) (hpl:(49:).any (·.1)=false:=by rfl) :
 PE X (.Call (.Name x p) (e :: es) [] pos) (VG sp dvs E t):=by
 intro pins s σ H Q I h
 refine wpAny_Call_Name_kw (ZU I hg hm ?_ hdb)
 refine PySem.W.callWith_K (h₀:=X.base) I.ok.mod.kin hk (thn (ha pos pins s σ H _ I h) fun us s1 ⟨vs,H1,I1,r,q⟩=>⟨I1.kIn,?_⟩) he hpl
 exact XB F hr hb hd hx I1 r q
theorem Za {pl:Sem Bool} (he:PE X o ta) (c:Cls X.K C) (hm:Meth X.K C m f) (F:FnOk X.prog X.w X.K X.mg X.base CX k f fd ps sp) (hr:Room k X.A) (hb:Binds X.K fd ps ds) (hd:Vals dvs ds) (hx:ZX CX X E) (ha:PA X (e :: es) t)
 (hst:starEach (e :: es) X.env=(54:) :: starEach es X.env:=by rfl) (hpl:(49:).any (·.1)=false:=by rfl)
 (ht:eval (.Call (.Attribute o m apos) (e :: es) [] pos) X.env=(do
  let ov ← eval o X.env
  standAt apos.atName
  let (f,first) ← holding [ov] (getMethod ov m pl)
  callWith pos f first (backTo pos (starEach (e :: es) X.env)) (backToKw pos (keywordEach [] X.env))):=by rfl) :
 PE X (.Call (.Attribute o m apos) (e :: es) [] pos) (LP C m sp dvs E ta t):=by
 intro pins s σ H Q I h
 refine PySem.W.methodCall_KW (pl:=pl) (thn (he pins s σ H _ I h) fun u s1 ⟨x,H1,I1,rx,a,dx,fs,ex,ea,l,q⟩=>?_) ht
 subst ex
 obtain rfl:u=Value.ref a:=rx
 refine Uo I1 ea c hm l ?_
 refine PySem.W.callWith_K (first:=[.ref a]) (h₀:=X.base) I.ok.mod.kin hm.kp (thn (ha pos pins s1 σ H1 _ I1 q) fun us s2 ⟨vs,H2,I2,r,q2⟩=>⟨I2.kIn,?_⟩) hst hpl
 exact XB (us:=.ref a :: us) (vs:=.ref a :: vs) F hr hb hd hx I2 (.cons rfl r) q2
theorem VL {pl:Sem Bool} (he:PE X o ta) (c:Cls X.K C) (hm:Meth X.K C m f) (F:FnOk X.prog X.w X.K X.mg X.base CX k f fd ps sp) (hr:Room k X.A) (hb:Binds X.K fd ps ds) (hd:Vals dvs ds) (hx:ZX CX X E)
 (ht:eval (.Call (.Attribute o m apos) [] [] pos) X.env=(do
  let ov ← eval o X.env
  standAt apos.atName
  let (f,first) ← holding [ov] (getMethod ov m pl)
  callWith pos f first (backTo pos (starEach [] X.env)) (backToKw pos (keywordEach [] X.env))):=by rfl) :
 PE X (.Call (.Attribute o m apos) [] [] pos) (LP C m sp dvs E ta Ua):=by
 intro pins s σ H Q I h
 refine PySem.W.methodCall_KW (pl:=pl) (thn (he pins s σ H _ I h) fun u s1 ⟨x,H1,I1,rx,a,dx,fs,ex,ea,l,q⟩=>?_) ht
 subst ex
 obtain rfl:u=Value.ref a:=rx
 refine Uo I1 ea c hm l ?_
 exact PySem.W.callWith_K0 (first:=[.ref a]) I1.kIn hm.kp (XB (us:=[.ref a]) (vs:=[.ref a]) F hr hb hd hx I1 (.cons rfl .nil) q)
structure Mk (K:PySem.W.Frag) (C f:Addr):Prop where
 makes:PySem.W.makesIn K C=true
 init:PySem.W.findIn K (.ref C) "__init__" = some (some (.ref f))
 fn:PySem.W.isFn K (.ref f)=true
 kp:PySem.W.keepIn K (.ref C)=true
theorem Vq {pins:List (7:)} {σ:St} {H:Hp} {s:Shared} {Q:VK} {us:List Value} {vs:List V} (M:Mk X.K C f) (F:FnOk X.prog X.w X.K X.mg X.base CX k f fd ps sp) (hr:Room (k + 1) X.A) (hb:Binds X.K fd ps ds) (hd:Vals dvs ds)
 (hx:ZX CX X E) (I:Inv X pins σ H s) (r:Vals vs us)
 (h:∀ x dx,H x=none→H dx=none→dx≠x→sp (.ref x :: (vs ++ dvs)) (upd (upd H dx (.own x)) x (.ins C dx [])) (fun v H2=>v=.non∧Q (.ref x) H2) E) :
 wpAny (6:) X.A (call (.ref C) us) (EP X pins σ Q) X.xe s:=by
 have hq:=h (24:) s.heap.objs.size (I.hok.fresh (Nat.le_succ _)) (I.hok.fresh (10:)) (Nat.ne_of_lt (Nat.lt_succ_self _))
 have I2:=Inv.made (C:=C) I
 have r2:Vals (V.ref (24:) :: (vs ++ dvs)) (Value.ref (24:) :: (us ++ ds)):=.cons rfl (r.append hd)
 have hl:(Value.ref (24:) :: us ++ ds).length=ps.length:=by
  have e:=r2.length
  rw [F.len _ _ _ _ hq] at e
  exact e.symm
 refine wpAny_call (Vy (f:=f) I.kIn M.makes M.init (beq_iff_eq.mp M.fn) (codeAny_mono (F.run _ X.stack _ _ ⟨Value.ref (24:) :: us,[]⟩ (Value.ref (24:) :: (us ++ ds)) _ _ E (hr.make C us [])
  (I2.env0.make C us []) (hb _ (Value.ref (24:) :: us) I2.kIn hl) r2 hq) fun r s' hq'=>?_))
 cases r with
 | error e=>exact hx pins σ _ _ e s' I2 hq'
 | ok fl =>
  cases fl with
  | ret u =>
   obtain ⟨v,H',I3,rv,ev,q3⟩:=I2.after hq'
   subst ev
   exact ⟨rv,⟨V.ref (24:),H',I3,rfl,q3⟩⟩
  | next=>exact False.elim hq'
  | brk=>exact False.elim hq'
  | cont=>exact False.elim hq'
theorem Jq (M:Mk X.K C f) (F:FnOk X.prog X.w X.K X.mg X.base CX k f fd ps sp) (hr:Room (k + 1) X.A) (hg:Gl X x) (hm:X.mg x=some (.ref C)) (hb:Binds X.K fd ps ds) (hd:Vals dvs ds) (hx:ZX CX X E)
 (ha:PA X (e :: es) t) (hdb:(34:)=false:=by decide) (he:starEach (e :: es) X.env=(54:) :: starEach es X.env:=by rfl) (hpl:(49:).any (·.1)=false:=by rfl) :
 PE X (.Call (.Name x p) (e :: es) [] pos) (NX C sp dvs E t):=by
 intro pins s σ H Q I h
 refine wpAny_Call_Name_kw (ZU I hg hm ?_ hdb)
 refine PySem.W.callWith_K (h₀:=X.base) I.ok.mod.kin M.kp (thn (ha pos pins s σ H _ I h) fun us s1 ⟨vs,H1,I1,r,q⟩=>⟨I1.kIn,?_⟩) he hpl
 exact Vq M F hr hb hd hx I1 r q
end
section
variable {X:Cx} {CX:CXT} {k:Nat} {f C:Addr} {fd:FuncData} {ps ks:List Str} {sp:Sp} {E:XK} {x m:Str} {p pos apos kpos:Pos} {e o:Expr} {es:List Expr} {kws:List Keyword} {te ta:TE} {t tk:TA} {nm:Option Str}
variable {g:List Value→List Value→List Value} {gV:List V→List V→List V}
end
structure FnScope (N P:List Str) (sc:Scope):Prop where
 kind:sc.kind=.function
 co:sc.isCoroutine=false
 gen:sc.isGenerator=false
 nd:N.Nodup
 pre:N.take P.length=P
 par:∀ x ∈ P,sc.names.lookup x=some .local∨sc.names.lookup x=some .cell
 nofree:∀ y ∈ sc.names,y.2≠.free
theorem U1 {kindOf:Str→Option NameKind} {x:Str}:∀ {binds:List (Str × Value)} {m:Str→Option Value},(∀ v,(x,v) ∉ binds)→bindL kindOf binds m x=m x
 | [],_,_=>rfl
 | (n,v) :: r,m,h=>by
  unfold bindL
  rw [U1 fun w hw=>h w (List.mem_cons_of_mem _ hw)]
  split
  ·have:x≠n:=by rintro rfl;exact h v List.mem_cons_self
   simp [this]
  ·rfl
theorem UX {kindOf:Str→Option NameKind} {x:Str}:∀ {binds:List (Str × Value)} {m:Str→Option Value},(∀ v,(x,v) ∉ binds)→bindC kindOf binds m x=m x
 | [],_,_=>rfl
 | (n,v) :: r,m,h=>by
  unfold bindC
  rw [UX fun w hw=>h w (List.mem_cons_of_mem _ hw)]
  split
  ·rfl
  ·have:x≠n:=by rintro rfl;exact h v List.mem_cons_self
   simp [this]
theorem U5 {kindOf:Str→Option NameKind} {x:Str} {v:Value}:∀ {P:List Str} {vs:List Value} {i:Nat} {m:Str→Option Value},P.Nodup→P[i]?=some x→vs[i]?=some v→kindOf x=some .local →
 bindL kindOf (P.zip vs) m x=some v
 | [],_,_,_,_,h,_,_=>by simp at h
 | _ :: _,[],_,_,_,_,h,_=>by simp at h
 | p :: P,w :: vs,0,m,nd,h1,h2,hk=>by
  simp at h1 h2;subst h1;subst h2
  show bindL kindOf ((p,w) :: P.zip vs) m p=_
  unfold bindL
  rw [U1 fun v hv=>(List.nodup_cons.mp nd).1 (List.of_mem_zip hv).1,if_pos hk]
  simp
 | p :: P,w :: vs,i + 1,m,nd,h1,h2,hk=>by
  show bindL kindOf ((p,w) :: P.zip vs) m x=_
  unfold bindL
  exact U5 (i:=i) (List.nodup_cons.mp nd).2 (by simpa using h1) (by simpa using h2) hk
theorem UV {kindOf:Str→Option NameKind} {x:Str} {v:Value}:∀ {P:List Str} {vs:List Value} {i:Nat} {m:Str→Option Value},P.Nodup→P[i]?=some x→vs[i]?=some v→kindOf x≠some .local →
 bindC kindOf (P.zip vs) m x=some v
 | [],_,_,_,_,h,_,_=>by simp at h
 | _ :: _,[],_,_,_,_,h,_=>by simp at h
 | p :: P,w :: vs,0,m,nd,h1,h2,hk=>by
  simp at h1 h2;subst h1;subst h2
  show bindC kindOf ((p,w) :: P.zip vs) m p=_
  unfold bindC
  rw [UX fun v hv=>(List.nodup_cons.mp nd).1 (List.of_mem_zip hv).1,if_neg hk]
  simp
 | p :: P,w :: vs,i + 1,m,nd,h1,h2,hk=>by
  show bindC kindOf ((p,w) :: P.zip vs) m x=_
  unfold bindC
  exact UV (i:=i) (List.nodup_cons.mp nd).2 (by simpa using h1) (by simpa using h2) hk
def start (N:List Str) (vs:List V):St:=vs.map some ++ List.replicate (N.length - vs.length) none
def YD (CX:CXT) (P:Program) (w:World) (K:PySem.W.Frag) (mg:Str→Option Value) (base:Heap) (N:List Str) (qual:Str) (scope:Scope) (f:Addr) (cd:Value) (A:Around) (outer:List Env) (s:Shared) (H:Hp) (E:XK):Cx where
 prog:=P
 w:=w
 K:=K
 mg:=mg
 base:=base
 A:=A.deeper (9:)
 N:=N
 s₀:=s
 H₀:=H
 env:=envOfC qual scope s.heap.objs.size f cd
 outer:=outer
 stack:=envOfC qual scope s.heap.objs.size f cd :: outer
 ex:=[]
 calm:=true
 fn:=fun _=>true
 pn:=[]
 xe:=fun e s'=>wpAny (model P w) (A.deeper (9:)) (leaving (9:) e) (fun _ s''=>CX outer H s E e s'') (fun e' s''=>CX outer H s E e' s'') s'
theorem JU {sc:Scope} {n:Nat} {x:Str} (h:sc.names.lookup x=some .cell):∃ c,(cellsFrom n sc.names []).lookup x=some c:=by
 have q:=PySem.W.cellsFrom_some sc.names n [] (.inl h)
 exact Option.isSome_iff_exists.mp q
theorem WY {CX:CXT} {P:Program} {w:World} {K:PySem.W.Frag} {mg:Str→Option Value} {base:Heap} {N ps:List Str} {qual:Str} {scope:Scope} {f:Addr} {cd:Value} {A:Around} {outer:List Env} {s s1:Shared} {H:Hp} {E:XK} {us:List Value} {vs:List V}
 (S:FnScope N ps scope) (hd:A.handled=none) (e0:Env0 P w K mg base A outer s H) (hl:vs.length=ps.length) (r:Vals vs us)
 (x:InCallC s s.heap.objs.size (bindL (9:).kindOf (ps.zip us) fun _=>none) (cellsFrom (24:) scope.names []) (bindC (9:).kindOf (ps.zip us) fun _=>none) s1) :
 Inv (YD CX P w K mg base N qual scope f cd A outer s H E) [] (start N vs) H s1:=by
 have hpl:ps.length≤N.length:=by have:=congrArg List.length S.pre;rw [List.length_take] at this;lia
 obtain ⟨h1,tk,rfl,hk⟩:=x.done
 have noA:∀ b:Addr,b ∉ (YD CX P w K mg base N qual scope f cd A outer s H E).ex:=fun b z=>absurd (show b ∈ ([]:List Addr) from z) (29:)
 refine ⟨⟨e0.mod,S.kind,rfl,rfl,Nat.le_refl _,fun y z c h1 h2=>?_,fun y hy=>?_,fun y c _ h=>?_,fun _=>hd,Around.frames_deeper e0.frames,.inr ⟨rfl,rfl⟩,fun b z=>absurd z (noA b),e0.bs,e0.bsz,fun b _ _=>noA b,fun b z=>absurd z (noA b),e0.funs,e0.frf⟩,rfl,e0.bare,Un.kept hk,⟨_,x.toInCall.ns,fun i y v h1 h2 h3=>?_⟩,fun y c h=>⟨_,x.cell y c h⟩,e0.hok.fresh (10:),fun y c h=>?_,fun p hp=>absurd (show p ∈ ([]:List (7:)) from hp) (29:),e0.hok.kept hk,?_⟩
 ·exact name_of_addr x.apart (PySem.mem_of_lookup h1) (PySem.mem_of_lookup h2)
 ·have hy:scope.names.lookup y=some .cell∨scope.names.lookup y=some .free:=hy
  rcases hy with hy | hy
  ·exact JU hy
  ·exact absurd rfl (S.nofree _ (PySem.mem_of_lookup hy))
 ·exact Nat.le_of_lt (x.above y c (PySem.mem_of_lookup h))
 ·have hi:i < vs.length:=by
   unfold start at h2
   by_cases hi:i < vs.length
   ·exact hi
   ·rw [List.getElem?_append_right (by simpa using hi)] at h2
    rw [List.getElem?_replicate] at h2
    split at h2 <;> cases h2
  have ha:vs[i]?=some v:=by
   unfold start at h2
   rw [List.getElem?_append_left (by simpa using hi),List.getElem?_map] at h2
   cases e:vs[i]? with
   | none=>rw [e] at h2;cases h2
   | some a=>rw [e] at h2;cases h2;rfl
  obtain ⟨u,hu,rv⟩:=r.get ha
  have hp:ps[i]?=some y:=by
   rw [← S.pre,List.getElem?_take_of_lt (12:)];exact h1
  have ndP:ps.Nodup:=by rw [← S.pre];exact S.nd.sublist (List.take_sublist _ _)
  refine ⟨u,rv,?_⟩
  rcases S.par y (List.mem_of_getElem? hp) with k | k
  ·exact .inl ⟨k,U5 ndP hp hu k⟩
  ·obtain ⟨c,e⟩:=JU (n:=s.heap.objs.size + 1) k
   refine .inr ⟨.inl k,c,e,?_⟩
   have q:=x.cell y c e
   rw [UV ndP hp hu (by show scope.names.lookup y≠_;rw [k];decide)] at q
   exact q
 ·exact e0.hok.fresh (Nat.le_of_lt (x.above y c (PySem.mem_of_lookup h)))
 ·unfold start
  show _=N.length
  rw [List.length_append,List.length_map,List.length_replicate]
  lia
theorem VA {CX:CXT} {P:Program} {w:World} {K:PySem.W.Frag} {mg:Str→Option Value} {base:Heap} {k:Nat} {f:Addr} {name qual:Str} {params:Arguments} {body:List Stmt} {scope:Scope} {dV kV doc pm cdv ct oc:Value} {an od:Option Addr}
 {osl:Array (Option Value)} {N ps:List Str} {sp:Sp} (lk:K.lookup f=some ⟨oc,od,.func (PySem.W.fnOf name qual params body scope dV kV doc pm an cdv ct),osl⟩) (hcd:PySem.W.codeIn K cdv qual=true) (S:FnScope N ps scope)
 (len:∀ vs H Q E,sp vs H Q E→vs.length=ps.length)
 (hbody:∀ (A:Around) (outer:List Env) (s:Shared) (H:Hp) (vs:List V) (Q:VK) (E:XK),Room k (A.deeper (envOfC qual scope s.heap.objs.size f cdv))→sp vs H Q E →
  ∃ t,PSs (YD CX P w K mg base N qual scope f cdv A outer s H E) body t∧t { nx:=fun _ H'=>Q .non H',rt:=Q } (start N vs) H) :
 FnOk P w K mg base CX (k + 1) f (PySem.W.fnOf name qual params body scope dV kV doc pm an cdv ct) ps sp:=by
 refine ⟨len,fun A outer s H args us vs Q E hr e0 hb r hsp=>?_⟩
 have hl:=len _ _ _ _ hsp
 have KX:K.In s.heap:=e0.mod.kin.keeps fun b o e=>(e0.bs b o e).1
 have lim:s.heap.NoLimit:=e0.mod.nolimit.keeps fun b o e=>(e0.bs b o e).1
 have hkind:∀ y ∈ ps.zip us,scope.names.lookup y.1=some .local∨(scope.names.lookup y.1=some .cell∧((cellsFrom (24:) scope.names []).lookup y.1).isSome=true):=fun ⟨n,v⟩ hy=>by
  rcases S.par n (List.of_mem_zip hy).1 with q | q
  ·exact .inl q
  ·exact .inr ⟨q,PySem.W.cellsFrom_some _ _ _ (.inl q)⟩
 refine codeAny_call_function hr.depth (KX _ _ lk) rfl S.co S.gen rfl (PySem.W.codeRec_of KX hcd) (hb _ _ _ _ ?_)
 refine wpAny_newFunctionEnv_cells S.kind hkind fun env he s1 x=>?_
 subst he
 refine ⟨lim.keeps x.toInCall.keep,codeAny_func ?_⟩
 obtain ⟨t,ht,hq⟩:=hbody A outer s H vs Q E (hr.deeper _) hsp
 have I:Inv (YD CX P w K mg base N qual scope f cdv A outer s H E) [] (start N vs) H s1:=WY S hr.hd e0 hl r x
 refine wpAny_mono (ht [] s1 (start N vs) H _ I hq) (fun fl s' hs=>?_) fun e s' hs=>hs
 have fin:∀ {σ':St} {H':Hp} {v:V} {u:Value},Inv (YD CX P w K mg base N qual scope f cdv A outer s H E) [] σ' H' s'→RelV v u→Q v H'→CE outer P w H s Q u s' :=
  fun {σ' H' v u} J rv q=>⟨v,H',J.os,J.bare,J.base,J.hok,rv,q⟩
 cases fl with
 | ret u =>
  obtain ⟨v,σ',H',J,rv,q⟩:=hs
  exact fin J rv q
 | next =>
  obtain ⟨σ',H',J,q⟩:=hs
  exact fin (v:=V.non) (u:=Value.none) J rfl q
 | brk =>
  obtain ⟨_,_,_,q⟩:=hs
  exact False.elim q
 | cont =>
  obtain ⟨_,_,_,q⟩:=hs
  exact False.elim q
end L2
namespace L2
open PySem PySem.Spec PyProof.Rows
section
variable {X:Cx} {x:Str} {p pos:Pos} {e:Expr} {es:List Expr} {t:TA} {id T:String} {r:List V→Hp→VK→Prop}
def tCB (r:List V→Hp→VK→Prop) (t:TA):TE:=fun σ H Q=>t σ H fun vs H1=>r vs H1 Q
theorem Qp (hc:Zc X (.builtin id) r) (hg:Gl X x) (hm:X.mg x=none) (hv:bootBuiltins x=some (.builtin id)) (ha:PA X (e :: es) t) (hn:x ≠ "__name__" := by decide) (hdb:(34:)=false:=by decide)
 (he:starEach (e :: es) X.env=(54:) :: starEach es X.env:=by rfl) (hpl:(49:).any (·.1)=false:=by rfl):PE X (.Call (.Name x p) (e :: es) [] pos) (tCB r t):=by
 intro pins s σ H Q I h
 refine wpAny_Call_Name_kw (Z5 I hg hm hv ?_ hn hdb)
 exact PyProof.Rows.callWith_builtin1 (thn (ha pos pins s σ H _ I h) fun us s1 ⟨vs,H1,I1,r1,q1⟩=>hc pins s1 σ H1 vs us Q I1 r1 q1) he hpl
theorem QI (hc:Zc X (.type T) r) (hg:Gl X x) (hm:X.mg x=none) (hv:bootBuiltins x=some (.type T)) (ha:PA X (e :: es) t) (hn:x ≠ "__name__" := by decide) (hdb:(34:)=false:=by decide)
 (he:starEach (e :: es) X.env=(54:) :: starEach es X.env:=by rfl) (hpl:(49:).any (·.1)=false:=by rfl):PE X (.Call (.Name x p) (e :: es) [] pos) (tCB r t):=by
 intro pins s σ H Q I h
 refine wpAny_Call_Name_kw (Z5 I hg hm hv ?_ hn hdb)
 exact PyProof.Rows.callWith_type1 (thn (ha pos pins s σ H _ I h) fun us s1 ⟨vs,H1,I1,r1,q1⟩=>hc pins s1 σ H1 vs us Q I1 r1 q1) he hpl
end
end L2
namespace HT
open PySem PyProof.Rows
def Lx:List Int→List Int→Bool
 | [],[]=>false
 | [],_ :: _=>true
 | _ :: _,[]=>false
 | x :: xs,y :: ys=>if x=y then Lx xs ys else decide (x < y)
section
open PySem.SeqAt
open PySem.AutoSeq1 (wpAny_loadPart')
open PySem.MeetsSeq PySem.MeetsSeq2 PySem.MeetsSeq3
end
section
variable {prog:Program} {w:World} {A:Around} {E:Value→Shared→Prop} {s:Shared}
theorem cat_tup {t b:Addr} {vs ws:List Value} {Q:Value→Shared→Prop} (ht:IsTup s.heap t vs.toArray) (hb:IsTup s.heap b ws.toArray) (hv:vs≠[])
 (h1:ws=[]→Q (.ref t) s) (h2:ws≠[]→Q (.ref s.heap.objs.size) { s with heap:=s.heap.push { cls:=.type "tuple", data:=.seq (vs ++ ws).toArray } })
 (hsz:vs.length + ws.length≤sizeLine):wpAny (19:) A (binaryOp .Add (.ref t) (.ref b)) Q E s:=by
 obtain ⟨⟨cls,dd,data,sl⟩,ho,hc,n,hd⟩:=id ht
 obtain ⟨⟨cls2,dd2,data2,sl2⟩,ho2,hc2,n2,hd2⟩:=id hb
 simp only at hc hd hc2 hd2
 subst hc hd hc2 hd2
 have e:vs.toArray ++ ws.toArray=(vs ++ ws).toArray:=by simp
 by_cases hw:ws=[]
 ·exact concat_meets ⟨_,ho,rfl⟩ ⟨_,ho2,rfl⟩ noFill_tuple_add seq_tuple_add PySem.F.slot_tuple_add PySem.F.entry_tuple_add (PySem.F.args_tuple_add_2 _ _)
   (tuple_addW1 t b vs.toArray ws.toArray n n2 dd dd2 sl sl2 (by simpa using hv) (by simp [hw])) ⟨ho,ho2,h1 hw⟩
 ·refine concat_meets ⟨_,ho,rfl⟩ ⟨_,ho2,rfl⟩ noFill_tuple_add seq_tuple_add PySem.F.slot_tuple_add PySem.F.entry_tuple_add (PySem.F.args_tuple_add_2 _ _)
   (tuple_addW2 t b vs.toArray ws.toArray n n2 dd dd2 sl sl2 (by simpa using hv) (by simpa using hw) (by rw [List.size_toArray,List.size_toArray];exact hsz)) ⟨ho,ho2,?_⟩
  rw [e]
  exact h2 hw
def sIx (n d:Nat):Option Int→Nat
 | none=>d
 | some v=>if v < 0 then (v + (n:Int)).toNat else min v.toNat n
theorem sIx_none (n d:Nat):sIx n d none=d:=rfl
theorem sIx_nat (n d k:Nat):sIx n d (some (k:Int))=min k n:=by
 show (if (k:Int) < 0 then ((k:Int)+(n:Int)).toNat else min (k:Int).toNat n)=min k n
 rw [if_neg (12:),Int.toNat_natCast]
theorem Mw (n d:Nat) (hd:d≤n) (o:Option Int):sIx n d o≤n:=by
 cases o with
 | none=>exact hd
 | some v =>
  show (if v < 0 then (v + (n:Int)).toNat else min v.toNat n)≤n
  by_cases hv:v < 0
  ·rw [if_pos hv];lia
  ·rw [if_neg hv];exact Nat.min_le_right _ _
theorem WA (v:Int) (n d:Nat):(if v < 0 then max (v + (n:Int)) 0 else min v (n:Int))=((sIx n d (some v):Nat):Int):=by
 show (if v < 0 then max (v + (n:Int)) 0 else min v (n:Int))=(((if v < 0 then (v + (n:Int)).toNat else min v.toNat n):Nat):Int)
 by_cases hv:v < 0
 ·simp only [if_pos hv];lia
 ·simp only [if_neg hv];lia
theorem XQ (lo hi:Option Int) (n:Nat):Builtin.Slice.sliceAdjust lo hi 1 (n:Int)=(((sIx n 0 lo:Nat):Int),((sIx n n hi:Nat):Int)):=by
 have h1:¬ ((1:Int) < 0):=by lia
 unfold Builtin.Slice.sliceAdjust
 simp only [h1,if_false]
 refine Prod.ext ?_ ?_
 ·cases lo with
  | none=>rfl
  | some v=>exact WA v n 0
 ·cases hi with
  | none=>rfl
  | some v=>exact WA v n n
theorem XN (i j:Nat):Builtin.Slice.slicePlaces (i:Int) (j:Int) 1=j - i:=by
 unfold Builtin.Slice.slicePlaces
 have h1:(1:Int) > 0:=by lia
 simp only [h1,if_true,Int.ediv_one]
 split <;> lia
theorem Ut {v:Value} {o:Option Int} {Q:Option Int→Shared→Prop} (p:IsPart v o) (h:Q o s):wpAny (19:) A (Builtin.Slice.slicePartIndex v) Q E s:=by
 cases p with
 | none=>exact slicePart_none h
 | int i t=>exact slicePart_int h
theorem Yz {sl:Addr} {vl vu:Value} {lo hi:Option Int} {n:Nat} {Q:Int × Int × Nat→Shared→Prop} (hs:s.heap.IsSliceOf sl vl vu .none) (pl:IsPart vl lo) (pu:IsPart vu hi)
 (h:Q (((sIx n 0 lo:Nat):Int),1,sIx n n hi - sIx n 0 lo) s):wpAny (19:) A (Builtin.Slice.sliceApplied (.ref sl) (pure (n:Int))) Q E s:=by
 obtain ⟨os,hos,hcs,hds⟩:=id hs
 unfold Builtin.Slice.sliceApplied Builtin.Slice.sliceFields
 refine wpAny_bind (wpAny_bind (wpAny_field hos hds (x:=vl) rfl (wpAny_bind (wpAny_field hos hds (x:=vu) rfl (wpAny_bind (wpAny_field hos hds (x:=.none) rfl (wpAny_pure ?_)))))))
 refine wpAny_bind (slicePart_none ?_)
 show wpAny _ _ (if ((1:Int) == 0)=true then _ else _) _ _ s
 rw [if_neg (13:)]
 refine wpAny_bind (Ut pl (wpAny_bind (Ut pu (wpAny_bind (wpAny_pure ?_)))))
 show wpAny _ _ (match Builtin.Slice.sliceAdjust lo hi 1 (n:Int) with | (lo,hi)=>pure (lo,(1:Int),Builtin.Slice.slicePlaces lo hi 1)) _ _ s
 rw [XQ lo hi n]
 show wpAny _ _ (pure (((sIx n 0 lo:Nat):Int),(1:Int),Builtin.Slice.slicePlaces ((sIx n 0 lo:Nat):Int) ((sIx n n hi:Nat):Int) 1)) _ _ s
 rw [XN]
 exact wpAny_pure h
theorem Vp (xs:Array Value) (i k:Nat):((List.range k).filterMap fun (m:Nat)=>xs[((i:Int)+(m:Int) * 1).toNat]?).toArray=((xs.toList.drop i).take k).toArray:=by
 have e:(fun (m:Nat)=>xs[((i:Int)+(m:Int) * 1).toNat]?)=fun m=>xs[i + m]?:=by
  funext m
  have:((i:Int)+(m:Int) * 1).toNat=i + m:=by lia
  rw [this]
 rw [e]
 have:=pick_run xs i k
 rw [List.filterMap_map] at this
 have e2:((fun x=>xs[x]?) ∘ fun x=>i + x)=fun m=>xs[i + m]?:=rfl
 rw [e2] at this
 rw [this]
theorem getItem_tuple_cut {t sl:Addr} {items:Array Value} {vl vu:Value} {lo hi:Option Int} {Q:Value→Shared→Prop} (ht:IsTup s.heap t items) (hs:s.heap.IsSliceOf sl vl vu .none) (pl:IsPart vl lo) (pu:IsPart vu hi)
 (hw:¬ (sIx items.size 0 lo=0∧sIx items.size items.size hi=items.size))
 (h:Q (.ref s.heap.objs.size) { s with heap:=s.heap.push { cls:=.type "tuple", data:=.seq (48:).toArray } })
 (hsz:items.size≤sizeLine):wpAny (19:) A (getItem (.ref t) (.ref sl)) Q E s:=by
 have htake:sizeOk (.seq (48:).toArray):=by
  show (48:).toArray.size≤sizeLine
  rw [List.size_toArray,List.length_take,List.length_drop,Array.length_toList]
  lia
 have hj:sIx items.size items.size hi≤items.size:=Mw _ _ (10:) hi
 obtain ⟨os,hos,hcs,hds⟩:=id hs
 have hTs:s.TypeIs (.ref sl) "slice" := ⟨os,hos,hcs⟩
 unfold getItem
 try with_reducible refine wpAny_holding ?_
 first | refine wpAny_bind (wpAny_pure ?_) | skip
 refine wpAny_bind (wpAny_sequenceKey ht.typeIs (13:) ?_)
 refine wpAny_bind (wpAny_callSpecial?_slot (name:=Str.ofString "__getitem__") ht.typeIs PyProof.Rows.slot_tuple_getitem
  (wpAny_call_entry PyProof.Rows.slot_tuple_getitem ht.typeIs entry_tuple_getitem ?_ (args_tuple_getitem _ _)))
 show wpAny _ _ (Builtin.Tuple.tupleItemsOf (.ref t) >>= _) _ _ s
 refine wpAny_bind (tupleItemsOf_ ht ?_)
 refine wpAny_bind (wpAny_typeOf hTs ?_)
 rw [if_pos (13:)]
 refine wpAny_bind (Yz hs pl pu ?_)
 have hno:¬ ((((sIx items.size 0 lo:Nat):Int) == 0 && (1:Int) == 1 && (sIx items.size items.size hi - sIx items.size 0 lo) == items.size)=true):=by
  intro q
  rw [Bool.and_eq_true,Bool.and_eq_true] at q
  have q1:((sIx items.size 0 lo:Nat):Int)=0:=eq_of_beq q.1.1
  have q2:sIx items.size items.size hi - sIx items.size 0 lo=items.size:=eq_of_beq q.2
  exact hw ⟨by lia,by lia⟩
 show wpAny _ _ (if (((sIx items.size 0 lo:Nat):Int) == 0 && (1:Int) == 1 && (sIx items.size items.size hi - sIx items.size 0 lo) == items.size)=true then _ else _) _ _ s
 rw [if_neg hno,Vp]
 first
  | exact wpAny_bind (m:=Builtin.Tuple.tupleExact _) (wpAny_newObj_type (wpAny_pure ⟨_,rfl,wpAny_pure h⟩) htake)
  | exact wpAny_bind (m:=Builtin.Tuple.tupleExact _) (wpAny_newObj_type (wpAny_bind (wpAny_pure (wpAny_pure ⟨_,rfl,wpAny_pure h⟩))) htake)
  | exact wpAny_bind (wpAny_bind (m:=Builtin.Tuple.tupleExact _) (wpAny_newObj_type (wpAny_pure (wpAny_pure ⟨_,rfl,wpAny_pure h⟩)) htake))
  | exact wpAny_bind (wpAny_bind (m:=Builtin.Tuple.tupleExact _) (wpAny_newObj_type (wpAny_pure ⟨_,rfl,wpAny_pure h⟩) htake))
end
end HT
namespace L2
open PySem PySem.Spec PyProof.Rows
abbrev TO:=St→Hp→(Option Int→Hp→Prop)→Prop
def PO (X:Cx) (e:Option Expr) (t:TO):Prop :=
 ∀ (pins:List (7:)) (s:Shared) (σ:St) (H:Hp) (Q:Option Int→Hp→Prop),Inv X pins σ H s→t σ H Q →
  wpAny (6:) X.A (evalPart e X.env) (fun u s'=>∃ o H',Inv X pins σ H' s'∧IsPart u o∧Q o H') X.xe s
def Lf:TO:=fun _ H Q=>Q none H
def NH (t:TE):TO:=fun σ H Q=>t σ H fun x H1=>∃ i,x=.int i∧Q (some i) H1
section
variable {X:Cx} {e:Expr} {te:TE} {lo hi:Option Expr} {tl th:TO} {pos p2:Pos}
theorem Ya:PO X none Lf:=by
 intro pins s σ H Q I h
 rw [evalPart_none]
 exact wpAny_pure ⟨none,H,I,.none,h⟩
theorem Z9 (h:PE X e te):PO X (some e) (NH te):=by
 intro pins s σ H Q I hw
 rw [evalPart_some]
 refine thn (h pins s σ H _ I hw) fun u s1 ⟨x,H1,I1,r1,q1⟩=>?_
 obtain ⟨i,rfl,q⟩:=q1
 obtain ⟨t,rfl⟩:=r1
 exact ⟨some i,H1,I1,.int i t,q⟩
def SlR (X:Cx) (r:V→Option Int→Option Int→Hp→VK→Prop):Prop :=
 ∀ (pins:List (7:)) (s:Shared) (σ:St) (H:Hp) (x:V) (v vl vu:Value) (lo hi:Option Int) (sl:Addr) (Q:VK),Inv X pins σ H s→RelV x v→s.heap.IsSliceOf sl vl vu .none→IsPart vl lo→IsPart vu hi→r x lo hi H Q →
  ∃ T id,typeLookup (.type T) "__getitem__" = pure (some (.builtin id))∧s.TypeIs v T∧wpAny (6:) X.A (getItem v (.ref sl)) (EP X pins σ Q) X.xe s
def tSl (r:V→Option Int→Option Int→Hp→VK→Prop) (te:TE) (tl th:TO):TE:=fun σ H Q=>te σ H fun x H1=>tl σ H1 fun l H2=>th σ H2 fun u H3=>r x l u H3 Q
theorem ZQ {r:V→Option Int→Option Int→Hp→VK→Prop} (hr:SlR X r) (he:PE X e te) (hl:PO X lo tl) (hu:PO X hi th):PE X (.Subscript e (.Slice lo hi none p2) pos) (tSl r te tl th):=by
 intro pins s σ H Q I h
 refine Subscript_ (thn (he pins s σ H _ I h) fun v s1 ⟨x,H1,I1,r1,q1⟩=>?_)
 refine wpAny_Slice (thn (hl pins s1 σ H1 _ I1 q1) fun vl s2 ⟨l,H2,I2,pl,q2⟩=>thn (hu pins s2 σ H2 _ I2 q2) fun vu s3 ⟨u,H3,I3,pu,q3⟩=>?_)
 rw [evalPart_none]
 refine wpAny_pure ?_
 have I4:Inv X pins σ H3 { s3 with heap:=s3.heap.push { cls:=.type "slice", data:=.fields #[vl,vu,.none] } }:=I3.kept (t':=s3.toks) fun b ob q=>Heap.get?_push_of_some _ q
 obtain ⟨T,id,hT,ht,hg⟩:=hr pins { s3 with heap:=s3.heap.push { cls:=.type "slice", data:=.fields #[vl,vu,.none] } } σ H3 x v vl vu l u s3.heap.objs.size Q I4 r1 (Heap.IsSliceOf.new ..) pl pu q3
 show wpAny (6:) X.A (subscriptTail e (.Slice lo hi none p2) v (.ref s3.heap.objs.size)) (EP X pins σ Q) X.xe { s3 with heap:=s3.heap.push { cls:=.type "slice", data:=.fields #[vl,vu,.none] } }
 exact tail_any (ops:=[.ref s3.heap.objs.size,v]) ht hT hg (by with_unfolding_all rfl)
def cutV (xs:List V) (lo hi:Option Int):List V:=(xs.drop (HT.sIx xs.length 0 lo)).take (HT.sIx xs.length xs.length hi - HT.sIx xs.length 0 lo)
theorem YN (xs:List V) (lo hi:Option Int):(cutV xs lo hi).length≤xs.length:=by
 unfold cutV
 rw [List.length_take,List.length_drop]
 lia
def OH (K:PySem.W.Frag):V→Option Int→Option Int→Hp→VK→Prop:=fun x lo hi H Q=>∃ a xs,x=.ref a∧SqT K H a xs ∧
 ¬ (HT.sIx xs.length 0 lo=0∧HT.sIx xs.length xs.length hi=xs.length)∧∀ p,H p=none→Q (.ref p) (upd H p (.tup (cutV xs lo hi)))
theorem XG:SlR X (OH X.K):=by
 intro pins s σ H x v vl vu lo hi sl Q I rx hs pl pu h
 obtain ⟨a,xs,rfl,hx,hw,q⟩:=h
 cases rx
 obtain ⟨its,r,ht,hz⟩:=I.tuple hx
 have hlen:its.toArray.size=xs.length:=by rw [List.size_toArray];exact r.length.symm
 refine ⟨"tuple", _,PyProof.Rows.slot_tuple_getitem.lookup,ht.typeIs,?_⟩
 refine HT.getItem_tuple_cut ht hs pl pu (by rw [hlen];exact hw) ?_ (by rw [hlen];exact hz)
 rw [hlen]
 refine ⟨.ref s.heap.objs.size,_,I.laid (t':=s.toks) (o:=.tup (cutV xs lo hi)) (fun b ob q=>Heap.get?_push_of_some _ q) (10:) ?_,rfl,q _ (I.hok.fresh (10:))⟩
 exact ⟨Nat.le_trans (YN xs lo hi) hz,_,(r.drop (HT.sIx xs.length 0 lo)).take (HT.sIx xs.length xs.length hi - HT.sIx xs.length 0 lo),IsTup.new _ _⟩
def Od (K:PySem.W.Frag):R2:=fun x y H Q=>∃ a b xs ys,x=.ref a∧y=.ref b∧SqT K H a xs∧SqT K H b ys∧xs≠[]∧xs.length + ys.length≤sizeLine ∧
 (ys=[]→Q (.ref a) H)∧(ys≠[]→∀ p,H p=none→Q (.ref p) (upd H p (.tup (xs ++ ys))))
theorem Vals.nil_iff {xs:List V} {us:List Value} (r:Vals xs us):us=[] ↔ xs=[]:=by
 cases r with
 | nil=>simp
 | cons _ _=>simp
theorem Gp:OpR X (binaryOp .Add) (Od X.K):=by
 intro pins s σ H x y v u Q I rx ry h
 obtain ⟨a,b,xs,ys,rfl,rfl,ha,hb,hx,hz,q1,q2⟩:=h
 cases rx
 cases ry
 obtain ⟨its,r1,p1,_⟩:=I.tuple ha
 obtain ⟨its2,r2,p2,_⟩:=I.tuple hb
 refine HT.cat_tup p1 p2 (fun z=>hx (r1.nil_iff.mp z)) (fun z=>⟨.ref a,H,I,rfl,q1 (r2.nil_iff.mp z)⟩) (fun z=>?_) (by rw [← r1.length,← r2.length];exact hz)
 refine ⟨.ref s.heap.objs.size,_,I.laid (t':=s.toks) (o:=.tup (xs ++ ys)) (fun b ob q=>Heap.get?_push_of_some _ q) (10:) ?_,rfl,q2 (fun w=>z (r2.nil_iff.mpr w)) _ (I.hok.fresh (10:))⟩
 exact ⟨by rw [List.length_append];exact hz,_,r1.append r2,IsTup.new _ _⟩
end
end L2
namespace L2
open PySem PySem.Spec PyProof.Rows
def ixN (n:Nat) (i:Int):Option Nat:=if 0≤i then (if i < n then some i.toNat else none) else if -(n:Int)≤i then some (i + n).toNat else none
def atI {α:Type} (xs:List α) (i:Int):Option α:=(ixN xs.length i).bind fun j=>xs[j]?
theorem Ww {n:Nat} {i:Int} {j:Nat} (h:ixN n i=some j):seqIndex? i n=some j∧j < n∧-(n:Int)≤i∧i < n:=by
 unfold ixN at h
 by_cases h0:0≤i
 ·rw [if_pos h0] at h
  by_cases h1:i < n
  ·rw [if_pos h1] at h
   have e:i.toNat=j:=Option.some.inj h
   exact ⟨by rw [seqIndex_of h0 h1,e],by lia,by lia,h1⟩
  ·rw [if_neg h1] at h;cases h
 ·rw [if_neg h0] at h
  by_cases h1:-(n:Int)≤i
  ·rw [if_pos h1] at h
   have e:(i + n).toNat=j:=Option.some.inj h
   exact ⟨by rw [seqIndex_neg (12:) h1,e],by lia,h1,by lia⟩
  ·rw [if_neg h1] at h;cases h
theorem JB {α:Type} {xs:List α} {i:Int} {v:α} (h:atI xs i=some v):∃ j,seqIndex? i xs.length=some j∧xs[j]?=some v∧j < xs.length∧-(xs.length:Int)≤i∧i < xs.length:=by
 unfold atI at h
 cases e:ixN xs.length i with
 | none=>rw [e] at h;cases h
 | some j =>
  rw [e] at h
  obtain ⟨h1,h2,h3,h4⟩:=Ww e
  exact ⟨j,h1,h,h2,h3,h4⟩
theorem QH {α:Type} {xs:List α} {j:Nat} {v:α} (h:xs[j]?=some v):atI xs (j:Int)=some v:=by
 have hj:j < xs.length:=(List.getElem?_eq_some_iff.mp h).1
 have e:ixN xs.length (j:Int)=some j:=by
  unfold ixN
  rw [if_pos (12:),if_pos (12:)];simp
 unfold atI;rw [e];exact h
def Ll (b:Expr):Prop:=∀ o i,subscripted b false o i=operate [o,i] (getItem o i)
def IxR (X:Cx) (r:R2):Prop :=
 ∀ (value slice:Expr) (pins:List (7:)) (s:Shared) (σ:St) (H:Hp) (x y:V) (v u:Value) (Q:VK),Inv X pins σ H s→RelV x v→RelV y u→r x y H Q →
  subscripted slice false v u=operate [v,u] (getItem v u)→wpAny (6:) X.A (subscriptTail value slice v u) (EP X pins σ Q) X.xe s
def MtR (X:Cx) (id:String) (r:V→List V→Hp→VK→Prop):Prop :=
 ∀ (pins:List (7:)) (s:Shared) (σ:St) (H:Hp) (x:V) (xs:List V) (v:Value) (us:List Value) (Q:VK),Inv X pins σ H s→RelV x v→Vals xs us→r x xs H Q →
  wpAny (6:) X.A (call (.builtin id) (v :: us)) (EP X pins σ Q) X.xe s
section
variable {X:Cx} {a b:Expr} {ta tb:TE} {pos:Pos}
theorem Qj {r:R2} (hr:IxR X r) (ha:PE X a ta) (hb:PE X b tb) (hs:Ll b):PE X (.Subscript a b pos) (tOp r ta tb):=by
 intro pins s σ H Q I h
 exact Subscript_ (LS ha hb I h fun v u s2 x y H2 I2 rx ry q=>hr a b pins s2 σ H2 x y v u Q I2 rx ry q (hs _ _))
def Os (K:PySem.W.Frag):R2:=fun x y H Q=>∃ p xs i v,x=.ref p∧y=.int i∧SqL K H p xs∧atI xs i=some v∧Q v H
def Oj (K:PySem.W.Frag):R2:=fun x y H Q=>∃ p xs i v,x=.ref p∧y=.int i∧SqT K H p xs∧atI xs i=some v∧Q v H
def Oa:R2:=fun x y H Q=>∃ z i c,x=.str z∧y=.int i∧z.length≤sizeLine∧atI z.cps.toList i=some c∧Q (.str ⟨#[c]⟩) H
theorem Qx:IxR X (Os X.K):=by
 intro value slice pins s σ H x y v u Q I rx ry h hs
 obtain ⟨p,xs,i,z,rfl,rfl,hq,he,q⟩:=h
 cases rx
 obtain ⟨t,rfl⟩:=ry
 obtain ⟨its,r,pl,hz⟩:=I.list hq
 obtain ⟨j,h1,h2,h3,h4,h5⟩:=JB he
 obtain ⟨w,ew,rw'⟩:=r.get h2
 have hl:=r.length
 have hn:=Yx
 have fin:EP X pins σ Q w s:=⟨z,H,I,rw',q⟩
 by_cases h0:0≤i
 ·have hj:i.toNat=j:=by
   rw [seqIndex_of h0 h5] at h1
   exact Option.some.inj h1
  exact item_listR pl.isList h0 (12:) (by rw [hj];simpa using ew) fin hs
 ·have hj:(i + (its.toArray.size:Int)).toNat=j:=by
   rw [seqIndex_neg (12:) h4] at h1
   rw [List.size_toArray,← hl]
   exact Option.some.inj h1
  exact subscriptTail_builtinR (x:=w) pl.isList.typeIs slot_list_getitem.lookup
   (wpAny_getItem_list_neg (Q:=fun r s'=>r=w∧EP X pins σ Q r s') pl.isList (12:) (by rw [List.size_toArray] <;> lia) (12:) (by rw [hj];simpa using ew) ⟨rfl,fin⟩) hs
theorem Qk:IxR X (Oj X.K):=by
 intro value slice pins s σ H x y v u Q I rx ry h hs
 obtain ⟨p,xs,i,z,rfl,rfl,hq,he,q⟩:=h
 cases rx
 obtain ⟨t,rfl⟩:=ry
 obtain ⟨its,r,pl,hz⟩:=I.tuple hq
 obtain ⟨j,h1,h2,h3,h4,h5⟩:=JB he
 obtain ⟨w,ew,rw'⟩:=r.get h2
 have hl:=r.length
 have hn:=Yx
 have fin:EP X pins σ Q w s:=⟨z,H,I,rw',q⟩
 exact subscriptTail_builtinR (x:=w) pl.typeIs slot_tuple_getitem.lookup
  (getItem_tuple (j:=j) (Q:=fun r s'=>r=w∧EP X pins σ Q r s') pl (12:) (12:) (by rw [List.size_toArray,← hl];exact h1) (by simpa using ew) ⟨rfl,fin⟩) hs
theorem Ge:IxR X Oa:=by
 intro value slice pins s σ H x y v u Q I rx ry h hs
 obtain ⟨z,i,c,rfl,rfl,hz,he,q⟩:=h
 obtain ⟨t,rfl⟩:=rx
 obtain ⟨t',rfl⟩:=ry
 obtain ⟨j,h1,h2,h3,h4,h5⟩:=JB he
 have hl:z.cps.toList.length=z.length:=by simp [Str.length]
 rw [hl] at h1 h4 h5
 have hn:=Yx
 exact tail_any (typeIs_str s z t) slot_str_getitem.lookup (getItem_str (c:=c) (by
  have e1:decide (i < -(2 ^ 63:Int))=false:=decide_eq_false (12:)
  have e2:decide (i ≥ 2 ^ 63)=false:=decide_eq_false (12:)
  rw [e1,e2,Bool.or_false]) (by rw [h1];simpa using h2) ⟨.str ⟨#[c]⟩,H,I.tok _,(53:),q⟩) hs
theorem XL (its:List Value) (n j:Nat) (u:Value):Obj.mapSeq (·.setIfInBounds j u) { cls:=.type "list", data:=.seq its.toArray n }={ cls:=.type "list", data:=.seq (its.set j u).toArray n }:=by
 simp [Obj.mapSeq]
theorem Inv.lst {pins:List (7:)} {σ:St} {H:Hp} {s:Shared} {p:Addr} {xs:List V} (I:Inv X pins σ H s) (h:H p=some (.lst xs)) :
 ∃ (its:List Value) (n:Nat),Vals xs its∧s.heap.get? p=some { cls:=.type "list", data:=.seq its.toArray n }∧xs.length≤sizeLine:=by
 obtain ⟨z,its,n,r,e⟩:=I.hok p _ h
 exact ⟨its,n,r,e,z⟩
theorem Inv.lstUpd {pins:List (7:)} {σ:St} {H:Hp} {s:Shared} {p:Addr} {xs ys:List V} {its its':List Value} {n n':Nat} {f:Obj→Obj} (I:Inv X pins σ H s) (h:H p=some (.lst xs))
 (ho:s.heap.get? p=some { cls:=.type "list", data:=.seq its.toArray n }) (hf:f { cls:=.type "list", data:=.seq its.toArray n }={ cls:=.type "list", data:=.seq its'.toArray n' }) (r:Vals ys its') (hz:ys.length≤sizeLine) (t:Nat) :
 Inv X pins σ (upd H p (.lst ys)) { s with heap:=s.heap.update p f,toks:=t }:=by
 have e:(s.heap.update p f).get? p=some { cls:=.type "list", data:=.seq its'.toArray n' }:=by
  rw [Heap.get?_update_self f ho (by rw [hf] <;> rfl),hf]
 refine I.write (x:=p) (e:=p) (by rw [h];trivial) (.inl rfl) (fun b u hb q=>(Heap.get?_update_other _ _ (Ne.symm hb)).trans q) ⟨_,e⟩ ?_
 exact ⟨hz,its',n',r,e⟩
def NJ:V→V→V→Hp→(Hp→Prop)→Prop:=fun o i v H Q=>∃ p xs k j,o=.ref p∧i=.int k∧H p=some (.lst xs)∧ixN xs.length k=some j∧Q (upd H p (.lst (xs.set j v)))
theorem Vo:NN X NJ:=by
 intro pins s σ H o i v ov iv u Q I ro ri rv h
 obtain ⟨p,xs,k,j,rfl,rfl,hp,hj,q⟩:=h
 cases ro
 obtain ⟨t,rfl⟩:=ri
 obtain ⟨its,n,r,ho,hz⟩:=I.lst hp
 obtain ⟨h1,h2,h3,h4⟩:=Ww hj
 have hl:=r.length
 have hn:=Yx
 have I':Inv X pins σ (upd H p (.lst (xs.set j v))) { s with heap:=s.heap.update p (Obj.mapSeq (·.setIfInBounds j u)) } :=
  I.lstUpd hp ho (XL its n j u) (r.set rv j) (by rw [List.length_set];exact hz) s.toks
 by_cases h0:0≤k
 ·have hk:k.toNat=j:=by
   rw [seqIndex_of h0 h4] at h1
   exact Option.some.inj h1
  exact PySem.W.ki_setAt ho h0 (12:) (by rw [List.size_toArray,← hl];exact h4) (by rw [hk];exact ⟨_,I',q⟩)
 ·have hk:(k + (its.toArray.size:Int)).toNat=j:=by
   rw [seqIndex_neg (12:) h3] at h1
   rw [List.size_toArray,← hl]
   exact Option.some.inj h1
  exact PySem.W.ki_setBack ho (12:) (by rw [List.size_toArray,← hl];exact h3) (12:) (by rw [hk];exact ⟨_,I',q⟩)
theorem JF (lo hi:Option Int) (n:Nat):(sliceBounds lo hi none n).1=((HT.sIx n 0 lo:Nat):Int)∧(sliceBounds lo hi none n).2.1=((HT.sIx n n hi:Nat):Int)∧(sliceBounds lo hi none n).2.2=1:=by
 refine ⟨?_,?_,rfl⟩
 ·cases lo with
  | none=>simp [sliceBounds,HT.sIx]
  | some i =>
   simp only [sliceBounds,HT.sIx,Option.getD_none,show (1:Int) > 0 by decide,if_true]
   by_cases h:i < 0
   ·simp only [h,if_true] <;> lia
   ·simp only [h,if_false] <;> lia
 ·cases hi with
  | none=>simp [sliceBounds,HT.sIx]
  | some i =>
   simp only [sliceBounds,HT.sIx,Option.getD_none,show (1:Int) > 0 by decide,if_true]
   by_cases h:i < 0
   ·simp only [h,if_true] <;> lia
   ·simp only [h,if_false] <;> lia
theorem UN (its:List Value) (lo hi:Option Int):slicePick its.toArray lo hi none=((its.drop (HT.sIx its.length 0 lo)).take (HT.sIx its.length its.length hi - HT.sIx its.length 0 lo)).toArray:=by
 obtain ⟨h1,h2,h3⟩:=JF lo hi its.toArray.size
 unfold slicePick
 rw [h1,h2,h3]
 simp only [sliceRange_one,pick_run,List.size_toArray] <;> rfl
def Ob (K:PySem.W.Frag):V→Option Int→Option Int→Hp→VK→Prop:=fun x lo hi H Q=>∃ a xs,x=.ref a∧SqL K H a xs∧∀ p,H p=none→Q (.ref p) (upd H p (.lst (cutV xs lo hi)))
theorem X9:SlR X (Ob X.K):=by
 intro pins s σ H x v vl vu lo hi sl Q I rx hs pl pu h
 obtain ⟨a,xs,rfl,hx,q⟩:=h
 cases rx
 obtain ⟨its,r,ht,hz⟩:=I.list hx
 have hlen:=r.length
 refine ⟨"list", _,slot_list_getitem.lookup,ht.isList.typeIs,?_⟩
 refine wpAny_getItem_list_slice ht.isList hs pl pu .none (29:) ?_ (by rw [List.size_toArray] <;> lia)
 rw [UN,← hlen]
 refine ⟨.ref s.heap.objs.size,_,I.laid (t':=s.toks) (o:=.lst (cutV xs lo hi)) (fun b ob q=>Heap.get?_push_of_some _ q) (10:) ?_,rfl,q _ (I.hok.fresh (10:))⟩
 exact ⟨Nat.le_trans (YN xs lo hi) hz,_,0,(r.drop (HT.sIx xs.length 0 lo)).take (HT.sIx xs.length xs.length hi - HT.sIx xs.length 0 lo),Heap.get?_push_size _ rfl⟩
theorem Qw:Zc X (.builtin "len") (fun xs H Q=>∃ p ys,xs=[.ref p]∧(SqL X.K H p ys∨SqT X.K H p ys)∧Q (.int ys.length) H):=by
 intro pins s σ H xs us Q I r h
 obtain ⟨p,ys,rfl,hq,q⟩:=h
 obtain ⟨u,rfl,rx⟩:=U6 r
 cases rx
 have hn:=Yx
 rcases hq with hq | hq
 ·obtain ⟨its,r',pl,hz⟩:=I.list hq
  have hlen:=r'.length
  exact Calls.call_len_list pl.isList (by simp only [List.size_toArray] <;> lia) ⟨.int ys.length,H,I.tok _,⟨s.toks + 1,by rw [List.size_toArray,hlen]⟩,q⟩
 ·obtain ⟨its,r',pl,hz⟩:=I.tuple hq
  have hlen:=r'.length
  exact len_tuple pl (by simp only [List.size_toArray] <;> lia) ⟨.int ys.length,H,I.tok _,⟨s.toks + 1,by rw [List.size_toArray,hlen]⟩,q⟩
theorem Jl:Zc X (.type "list") (fun xs H Q=>∃ p ys,xs=[.ref p]∧(SqL X.K H p ys∨SqT X.K H p ys)∧∀ l,H l=none→Q (.ref l) (upd H l (.lst ys))):=by
 intro pins s σ H xs us Q I r h
 obtain ⟨p,ys,rfl,hq,q⟩:=h
 obtain ⟨u,rfl,rx⟩:=U6 r
 cases rx
 have fin:∀ (its:List Value),Vals ys its→ys.length≤sizeLine→∀ (h':Heap) (c':Nat),(∀ b o',s.heap.get? b=some o'→h'.get? b=some o') →
  h'.get? s.heap.objs.size=some { cls:=.type "list", dict:=none,data:=.seq its.toArray c',slots:=#[] }→EP X pins σ Q (.ref s.heap.objs.size) { s with heap:=h' }:=fun its r' hz h' c' kp e =>
  ⟨.ref s.heap.objs.size,_,I.laid (t':=s.toks) kp (10:) (show ObjOk X.prog X.w _ h' _ (.lst ys) from ⟨hz,its,c',r',e⟩),rfl,q _ (I.hok.fresh (10:))⟩
 rcases hq with hq | hq
 ·obtain ⟨its,r',pl,hz⟩:=I.list hq
  have hlen:=r'.length
  obtain ⟨o,ho,hc,n,hd⟩:=pl.isList
  exact call_list_seq p (.inl rfl) ho hc hd (fun h' c' kp e=>fin its r' hz h' c' kp e) (by simp only [List.size_toArray] <;> lia)
 ·obtain ⟨its,r',pl,hz⟩:=I.tuple hq
  have hlen:=r'.length
  obtain ⟨o,ho,hc,n,hd⟩:=pl
  exact call_list_seq p (.inr rfl) ho hc hd (fun h' c' kp e=>fin its r' hz h' c' kp e) (by simp only [List.size_toArray] <;> lia)
theorem Zm:Zc X (.type "tuple") (fun xs H Q=>∃ p ys,xs=[.ref p]∧((SqL X.K H p ys∧∀ l,H l=none→Q (.ref l) (upd H l (.tup ys)))∨(SqT X.K H p ys∧Q (.ref p) H))):=by
 intro pins s σ H xs us Q I r h
 obtain ⟨p,ys,rfl,h⟩:=h
 obtain ⟨u,rfl,rx⟩:=U6 r
 cases rx
 rcases h with ⟨hq,q⟩ | ⟨hq,q⟩
 ·obtain ⟨its,r',pl,hz⟩:=I.list hq
  have hlen:=r'.length
  refine call_tuple_list pl.isList (fun h' kp=>?_) (by simp only [List.size_toArray] <;> lia)
  have I1:Inv X pins σ H { s with heap:=h' }:=I.kept (t':=s.toks) kp
  have I2:Inv X pins σ (upd H h'.objs.size (.tup ys)) { s with heap:=h'.push { cls:=.type "tuple", data:=.seq its.toArray } } :=
   I1.laid (t':=s.toks) (fun b o e=>Heap.get?_push_of_some _ e) (10:) (show ObjOk X.prog X.w _ _ _ (.tup ys) from ⟨hz,its,r',IsTup.new _ _⟩)
  exact ⟨.ref h'.objs.size,_,I2,rfl,q _ (I1.hok.fresh (10:))⟩
 ·obtain ⟨its,r',pl,hz⟩:=I.tuple hq
  exact call_tuple_same pl ⟨.ref p,H,I,rfl,q⟩
def tyV (K:PySem.W.Frag) (T:String) (x:V) (H:Hp):Prop:=match x with
 | .str _=>T = "str"
 | .int _=>T = "int"
 | .ref p=>(T = "list" ∧ ∃ xs,SqL K H p xs)∨(T = "tuple" ∧ ∃ o,K.lookup p=some o∧o.cls=.type "tuple" ∧ o.dict=none) ∨
  (T = "dict" ∧ ((∃ kvs,H p=some (.dK kvs))∨∃ kvs,H p=some (.dT kvs)))∨(T = "set" ∧ ∃ S n,H p=some (.set S n))
 | _=>False
theorem Me {pins:List (7:)} {σ:St} {H:Hp} {s:Shared} {T:String} {x:V} {v:Value} (I:Inv X pins σ H s) (r:RelV x v) (ty:tyV X.K T x H) :
 s.TypeIs v T∧∀ a,v=.ref a→∃ ob,s.heap.get? a=some ob∧ob.dict=none:=by
 cases x with
 | str z =>
  obtain ⟨t,rfl⟩:=r
  cases (show T = "str" from ty)
  exact ⟨typeIs_str s z t,fun _ e=>nomatch e⟩
 | int i =>
  obtain ⟨t,rfl⟩:=r
  cases (show T = "int" from ty)
  exact ⟨typeIs_int s i t,fun _ e=>nomatch e⟩
 | ref p =>
  cases r
  rcases ty with ⟨rfl,xs,hq⟩ | ⟨rfl,o,hk,hc,hd⟩ | ⟨rfl,hk⟩ | ⟨rfl,S,n,hk⟩
  ·obtain ⟨its,_,pl,_⟩:=I.list hq
   refine ⟨pl.isList.typeIs,fun a e=>?_⟩
   cases e
   obtain ⟨o,n,e,c,hd,_⟩:=pl
   exact ⟨o,e,hd⟩
  ·refine ⟨⟨o,I.kIn p o hk,hc⟩,fun a e=>?_⟩
   cases e
   exact ⟨o,I.kIn _ o hk,hd⟩
  ·have z:∃ o,s.heap.get? p=some o∧o.ExactDict:=by
    rcases hk with ⟨kvs,hk⟩ | ⟨kvs,hk⟩
    ·obtain ⟨_,_,_,_,o,_,_,e,ex,_⟩:=I.hok p _ hk
     exact ⟨o,e,ex⟩
    ·obtain ⟨_,_,_,_,o,_,_,e,ex,_⟩:=I.hok p _ hk
     exact ⟨o,e,ex⟩
   obtain ⟨o,e,ex⟩:=z
   refine ⟨⟨o,e,ex.1⟩,fun a e2=>?_⟩
   cases e2
   exact ⟨o,e,ex.2.1⟩
  ·obtain ⟨o,_,_,_,e,ex,_⟩:=I.hok p _ hk
   refine ⟨⟨o,e,ex.1⟩,fun a e2=>?_⟩
   cases e2
   exact ⟨o,e,ex.2.1⟩
 | _=>exact False.elim ty
def tBM (K:PySem.W.Frag) (T:String) (r:V→List V→Hp→VK→Prop) (to:TE) (t:TA):TE:=fun σ H Q=>to σ H fun x H1=>tyV K T x H1∧t σ H1 fun xs H2=>r x xs H2 Q
variable {o e:Expr} {es:List Expr} {to:TE} {t:TA} {name:Str} {apos cpos:Pos} {T id:String} {r:V→List V→Hp→VK→Prop}
theorem YJ (pa:PlainAttrs T) (slot:Slot T name id) (hty:typeOf (.builtin id)=pure (.type "method_descriptor")) (hm:MtR X id r) (ho:PE X o to) (ha:PA X (e :: es) t)
 (hbase:attributeBase o name X.env (eval o X.env)=eval o X.env:=by rfl)
 (hfew:((backTo cpos (starEach (e :: es) X.env)).all (fun x=>!x.1) && (backToKw cpos (keywordEach [] X.env)).all (fun x=>x.1.isSome)
  && decide ((e :: es).length + ([]:List Keyword).length + (if ([]:List Keyword).isEmpty then 0 else 1) < 30))=true:=by rfl)
 (hline:(apos.endLine == cpos.line)=true:=by rfl) (hs:starEach (e :: es) X.env=(54:) :: starEach es X.env:=by rfl) (hplain:(backTo cpos (starEach es X.env)).any (·.1)=false:=by rfl) :
 PE X (.Call (.Attribute o name apos) (e :: es) [] cpos) (tBM X.K T r to t):=by
 intro pins s σ H Q I h
 refine wpAny_Call_method_late hbase hfew hline rfl (thn (ho pins s σ H _ I h) fun v s1 ⟨x,H1,I1,r1,ty,q1⟩=>?_)
 obtain ⟨h1,h2⟩:=Me I1 r1 ty
 refine ⟨T,id,pa,slot,hty,h1,h2,?_⟩
 have hA:=ha cpos pins s1 σ H1 _ I1 q1
 rw [hs] at hA ⊢
 refine Calls.callWith_builtin (by show (false || (backTo cpos (starEach es X.env)).any (·.1))=false;rw [hplain] <;> rfl) (Calls.evalArgs_plain ?_)
 exact thn hA fun us s2 ⟨vs,H2,I2,r2,q2⟩=>hm pins s2 σ H2 x vs v us Q I2 r1 r2 q2
/- xs.append(e),list.index on a module's tuple .. are MtR facts of 06m -/
end
end L2
namespace L2
open PySem PySem.Spec PyProof.Rows
def MtM (X:Cx) (id:String) (r:V→List V→Hp→VK→Prop):Prop :=
 ∀ (pins:List (7:)) (s:Shared) (σ:St) (H:Hp) (x:V) (xs:List V) (v:Value) (us:List Value) (Q:VK),Inv X pins σ H s→RelV x v→Vals xs us→r x xs H Q →
  wpAny (6:) X.A (call (.builtin id) (v :: us)) (EP X pins σ Q) X.xe s
theorem Vals.one:∀ {x:V} {us:List Value},Vals [x] us→∃ u,us=[u]∧RelV x u
 | _,_,.cons r .nil=>⟨_,rfl,r⟩
theorem Vals.two:∀ {x y:V} {us:List Value},Vals [x,y] us→∃ u v,us=[u,v]∧RelV x u∧RelV y v
 | _,_,_,.cons r (.cons q .nil)=>⟨_,_,rfl,r,q⟩
theorem Vals.rep {xs:List V} {us:List Value} (h:Vals xs us):∀ k:Nat,Vals (List.replicate k xs).flatten (List.replicate k us).flatten
 | 0=>.nil
 | k + 1=>by
  rw [List.replicate_succ,List.replicate_succ,List.flatten_cons,List.flatten_cons]
  exact Vals.append h (Vals.rep h k)
theorem UR (its:List Value):∀ (k:Nat) (acc:List Value),
 List.foldl (fun x1 x2=>x1 ++ x2) acc.toArray (List.replicate k its.toArray)=(acc ++ (List.replicate k its).flatten).toArray
 | 0,acc=>by simp
 | k + 1,acc=>by
  have e:acc.toArray ++ its.toArray=(acc ++ its).toArray:=by simp
  have e2:(acc ++ its) ++ (List.replicate k its).flatten=acc ++ (List.replicate (k + 1) its).flatten:=by
   rw [List.replicate_succ,List.flatten_cons,List.append_assoc]
  rw [← e2,← UR its k (acc ++ its),← e,List.replicate_succ,List.foldl_cons]
section
variable {X:Cx} {pins:List (7:)} {σ:St} {H:Hp} {s:Shared} {l b:Addr} {xs ys zs:List V}
theorem Inv.lset {its its':List Value} {n:Nat} {f:Array Value→Array Value} {t':Nat} (I:Inv X pins σ H s) (hH:H l=some (.lst xs))
 (e:s.heap.get? l=some { cls:=.type "list", data:=.seq its.toArray n }) (hf:f its.toArray=its'.toArray) (hv:Vals ys its') (hz:ys.length≤sizeLine) :
 Inv X pins σ (upd H l (.lst ys)) { s with heap:=s.heap.update l (Obj.mapSeq f),toks:=t' }:=by
 have q:=PySem.IsL.update e f
 rw [hf] at q
 refine I.write (x:=l) (e:=l) (by rw [hH];exact trivial) (.inl rfl) (fun b' u hb hu=>(Heap.get?_update_other s.heap (Obj.mapSeq f) (Ne.symm hb)).trans hu) ⟨_,q⟩ ?_
 exact ⟨hz,its',_,hv,q⟩
theorem Inv.lnew {its:List Value} {t':Nat} (I:Inv X pins σ H s) (hv:Vals ys its) (hz:ys.length≤sizeLine) :
 Inv X pins σ (upd H s.heap.objs.size (.lst ys)) { s with heap:=s.heap.push { cls:=.type "list", data:=.seq its.toArray },toks:=t' } :=
 I.laid (fun _ _ q=>Heap.get?_push_of_some _ q) (10:) ⟨hz,its,0,hv,Heap.get?_push_size _ rfl⟩
theorem Inv.fresh (I:Inv X pins σ H s):H s.heap.objs.size=none:=I.hok.fresh (10:)
theorem Inv.lstM (I:Inv X pins σ H s) (hH:H l=some (.lst xs)):xs.length≤sizeLine∧∃ (its:List Value) (n:Nat),Vals xs its∧xs.length=its.length∧s.heap.get? l=some { cls:=.type "list", data:=.seq its.toArray n }:=by
 obtain ⟨z,its,n,r,e⟩:=I.hok l _ hH
 exact ⟨z,its,n,r,r.length,e⟩
end
section
variable {X:Cx}
def GZ:V→List V→Hp→VK→Prop:=fun x vs H Q=>∃ l xs y,x=.ref l∧vs=[y]∧H l=some (.lst xs)∧xs.length < sizeLine∧Q .non (upd H l (.lst (xs ++ [y])))
theorem Q5:MtM X "list.append" GZ:=by
 intro pins s σ H x vs v us Q I rx rv h
 obtain ⟨l,xs,y,rfl,rfl,hH,hz,q⟩:=h
 cases rx
 obtain ⟨u,rfl,ru⟩:=rv.one
 obtain ⟨z,its,n,r,hl,e⟩:=I.lstM hH
 refine call_meets F.slot_list_append ⟨_,e,rfl⟩ F.entry_list_append (F.args_list_append_2 _ _) (PySem.list_append l its.toArray n u (by rw [List.size_toArray];lia)) ⟨e,?_⟩
 refine ⟨.non,_,I.lset (its':=its ++ [u]) hH e (29:) (r.append (.cons ru .nil)) ?_,rfl,q⟩
 rw [List.length_append,List.length_singleton]
 lia
theorem GV {α:Type} (xs:List α) (k:Nat):(List.replicate k xs).flatten.length=k * xs.length:=by
 induction k with
 | zero=>simp
 | succ k ih=>rw [List.replicate_succ,List.flatten_cons,List.length_append,ih,Nat.succ_mul,Nat.add_comm]
end
section
variable {prog:Program} {w:World} {A:Around} {E:Value→Shared→Prop} {s:Shared}
set_option maxRecDepth 100000 in
end
section
variable {X:Cx}
end
end L2
namespace Att
open PySem PySem.W PySem.Calls PyProof.Rows
theorem YY {P:Params} {h:Heap}:∀ (ns:List Int) (vs:List Value),WellAll P h vs (ns.map WData.int)→IntsAre vs ns:=by
 intro ns
 induction ns with
 | nil =>
  intro vs w
  rw [List.map_nil] at w
  cases w
  exact .nil
 | cons n ns ih =>
  intro vs w
  rw [List.map_cons] at w
  cases w with
  | cons a b =>
   cases a
   exact .cons _ _ (ih _ b)
theorem WF {l:OpenLaw} {n:Nat} (hn:l.most=some n) {P:Params} {h:Heap} {args:List WData} {vals:List Value}
 (hpre:l.row.toRowW.claim.pre args=true) (hwl:WellAll P h vals args) :
 ∃ a vs ns,vals=[Value.ref a]∧args=[WData.list (ns.map WData.int)]∧h.get? a=some { cls:=.type "list", data:=.seq vs.toArray }∧IntsAre vs ns∧ns.length≤n:=by
 have hsh:WShape.hasAll [] args [.list .int]=true:=(pre_splitW hpre).1
 have hc:l.pre.holds [] { args:=args }=true:=(pre_splitW hpre).2
 obtain ⟨d,r,rfl,h1,h2⟩:=hasAllW_cons hsh
 obtain rfl:=hasAllW_nil h2
 obtain ⟨xs,rfl,h3⟩:=hasW_list h1
 obtain ⟨ns,rfl⟩:=items_int h3
 have hlen:ns.length≤n:=by
  unfold OpenLaw.pre at hc
  have h4:(WTm.not (.lt (.lit (.int (n:Int))) (.len (.arg 0)))).holds [] { args:=[.list (ns.map .int)] }=true:=by
   have h4:=(holds_andW hc).1
   rw [hn] at h4
   exact h4
  have h5:=condW_of h4 (w_not (w_lt w_lit (w_len_list (w_arg rfl))))
  rw [List.length_map] at h5
  refine Nat.le_of_not_lt fun q=>?_
  have q':(n:Int) < ((ns.length:Nat):Int):=by lia
  first
   | (rw [decide_eq_true q'] at h5;exact absurd h5 (13:))
   | (simp at h5;lia)
 cases hwl with
 | cons w1 w2 =>
  cases w2
  cases w1 with
  | list ho hall=>exact ⟨_,_,ns,rfl,rfl,ho,YY ns _ hall,hlen⟩
theorem WM (l:OpenLaw) (args:List WData):l.row.toRowW.claim.post args (.bool true) args=true :=
 postW_of (r:=l.row.toRowW) (X:=(true == true))
  (show WShape.has [] (.bool true) .bool=true by first | rfl | decide | simp [WShape.has,WShape.arms,WShape.armsAll])
  (show (WTm.eq .res (.lit (.bool true))).value [] { args:=args,res:=some (.bool true),after:=args }=some (.bool (true == true)) from w_eq_bool (w_res rfl) w_lit) rfl
theorem attach_call {l:OpenLaw} {n:Nat} {q:Program} {loose:List Str} {XP:(Str→Option Value)→Heap→Prop} {YP:World→Heap→Prop} {d:DefRec}
 (hn:l.most=some n) (hdf:d.params.defaults=[])
 (call:∀ (w:World) (s₀ s₁:Shared) (mg mb:Str→Option Value) (fa:Addr) (o:Obj) (pm cd doc:Value) (a:Addr) (vs:List Value) (ns:List Int),Ground q loose [] XP w s₀ mg mb s₁.heap→YP w s₁.heap →
  s₁.heap.get? fa=some o→o.data=.func (docDef d.name d.params d.body d.scope pm cd doc)→s₁.heap.CodeRec cd d.name→mg d.name=some (.ref fa) →
  s₁.heap.get? a=some { cls:=.type "list", data:=.seq vs.toArray }→IntsAre vs ns→ns.length≤n→s₁.gens=#[] →
  codeAny (model l.prog w) callerA (.call (.ref fa) ⟨[.ref a],[]⟩) (23:) s₁) :
 WalkO q loose XP YP l.row.toRowW d [] (fun f vs=>PySem.call f vs):=by
 intro w s₀ s₁ mg mb G Y fa o pm cd doc dV kV ho hd hcd hD hmg hg args vals as hpre hlay hrd hwl hlo
 obtain rfl:dV=.none:=Dflts.none hD hdf
 obtain rfl:kV=.none:=Dflts.noKw hD
 obtain ⟨a,vs,ns,rfl,rfl,hobj,hints,hlen⟩:=WF hn hpre hwl
 refine enter_call (codeAny_mono (call w s₀ s₁ mg mb fa o pm cd doc a vs ns G Y ho (fd_plain hd) hcd hmg hobj hints hlen hg) fun r s' hq=>?_)
 obtain ⟨rfl,h2,h3,h4⟩:=hq
 exact ⟨.inl ⟨.bool true,.bool true,[],rfl,fun _=>rfl,.bool true,WM l _,fun _=>⟨List.Pairwise.nil,fun _ hm=>(nomatch hm)⟩⟩,h2,h3,h4⟩
section
variable {prog:Program} {w:World} {A:Around} {E:Value→Shared→Prop} {s:Shared} {K:Frag}
def Om (h:Heap) (L d:Addr):List (7:):=(List.range h.objs.size).filterMap fun a=>if a=L∨a=d then none else (h.get? a).map fun o=>(a,o)
end
end Att
namespace L2
open PySem PySem.Spec PyProof.Rows
theorem YC:∀ {vs:List Value} {ns:List Int},IntsAre vs ns→Vals (ns.map V.int) vs
 | _,_,.nil=>.nil
 | _,_,.cons n t h=>.cons ⟨t,rfl⟩ (YC h)
def MG (H:Hp):Prop:=∀ b,H b=none∨∃ o xs,H b=some (.frz o (.lst xs))
theorem W8 {P:Program} {w:World} {K:PySem.W.Frag} {mg mb:Str→Option Value} {CX:CXT} {k:Nat} {fa a:Addr} {fd:FuncData} {x:Str} {sp:Sp} {s₁:Shared} {vs:List Value} {ns:List Int}
 (KX:K.In s₁.heap) (hns:s₁.heap.Ns mainGlobals mg) (hb:s₁.heap.Ns builtinsNs mb) (hbb:∀ x:Str,x ≠ "__name__" → mb x=bootBuiltins x) (hlim:s₁.heap.NoLimit) (hg:s₁.gens=#[])
 (ha:s₁.heap.get? a=some { cls:=.type "list", data:=.seq vs.toArray }) (hi:IntsAre vs ns) (hl:ns.length≤sizeLine) (hr:Room k callerA)
 (F:∀ base:Heap,K.In base→base.Ns mainGlobals mg→FnOk P w K mg base CX k fa fd [x] sp) (hbind:∀ (s:Shared) (u:Value),BindsTo s fd ⟨[u],[]⟩ [(x,u)])
 (hsp:∀ H:Hp,MG H→SqL K H a (ns.map V.int)→sp [.ref a] H (fun v _=>v=.bl true) fun _ _ _=>False)
 (hCX:∀ H e s',CX [] H s₁ (fun _ _ _=>False) e s'→False) :
 codeAny (model P w) callerA (.call (.ref fa) ⟨[.ref a],[]⟩) (23:) s₁:=by
 have rv:=YC hi
 have lenV:=hi.length
 have core:∀ H:Hp,MG H→SqL K H a (ns.map V.int)→HOk P w H s₁.heap→(∀ b,H b≠none→b=a)→(H a≠none→K.lookup a=none) →
  codeAny (model P w) callerA (.call (.ref fa) ⟨[.ref a],[]⟩) (23:) s₁:=by
  intro H hO hS hok hA hK
  have base_of:∀ {b:Addr} {o:Obj},s₁.heap.get? b=some o→H b=none→(ZZ s₁.heap H).get? b=some o:=fun e n=>Xd e n
  have noA:∀ {b:Addr} {o:Obj} {es:Array DictEntry} {ep:Nat},s₁.heap.get? b=some o→o.data=.dict es ep→H b=none:=fun {b o es ep} e d=>by
   cases q:H b with
   | none=>rfl
   | some u =>
    have e':b=a:=hA b (by rw [q];simp)
    subst e'
    rw [ha] at e;cases e
    have d':Data.seq vs.toArray _=Data.dict es ep:=d
    cases d'
  have nsK:∀ {b:Addr} {m:Str→Option Value},s₁.heap.Ns b m→(ZZ s₁.heap H).Ns b m:=fun {b m} ⟨o,es,ep,e,d,r⟩=>⟨o,es,ep,base_of e (noA e d),d,r⟩
  have hKb:K.In (ZZ s₁.heap H):=fun b o e=>base_of (KX b o e) (by
   cases q:H b with
   | none=>rfl
   | some u =>
    have e':b=a:=hA b (by rw [q];simp)
    subst e'
    rw [hK (by rw [q];simp)] at e;cases e)
  have hM:Mod K mg (ZZ s₁.heap H):=⟨hKb,nsK hns,⟨mb,nsK hb,hbb⟩,let ⟨mc,h1,h2⟩:=hlim;⟨mc,nsK h1,h2⟩⟩
  have e0:Env0 P w K mg (ZZ s₁.heap H) callerA [] s₁ H:=⟨rfl,hM,fun b o e=>Wy e,Nat.le_of_eq (U4 _ _),trivial,fun b hb=>absurd (show b ∈ ([]:List Addr) from hb) (29:),hok,.of_eq hg⟩
  refine codeAny_mono ((F _ hKb (nsK hns)).run callerA [] s₁ H ⟨[.ref a],[]⟩ [.ref a] [.ref a] _ _ hr e0 (hbind s₁ (.ref a)) (.cons rfl .nil) (hsp H hO hS)) fun r s' h=>?_
  cases r with
  | error e=>exact (hCX H e s' h).elim
  | ok fl =>
   cases fl with
   | next=>exact False.elim h
   | brk=>exact False.elim h
   | cont=>exact False.elim h
   | ret u =>
    obtain ⟨v,H',os,bare,un,hok',r',q⟩:=h
    have q':v=.bl true:=q
    subst q'
    obtain rfl:u=Value.bool true:=r'
    refine ⟨rfl,OldK.of_keep fun b o e=>?_,os,bare⟩
    cases q:H b with
    | none=>exact un.keep b o e q (by intro z;exact absurd (show b ∈ ([]:List Addr) from z) (29:)) (29:)
    | some u =>
     rcases hO b with z | ⟨ob,xs,z⟩
     ·rw [q] at z;cases z
     ·have z2:=un.frzs b ob _ z
      obtain ⟨e1,_⟩:=hok b _ z
      obtain ⟨e2,_⟩:=hok' b _ z2
      rw [e] at e1;cases e1
      exact e2
 cases hk:K.lookup a with
 | some o =>
  have e:=KX a o hk
  rw [ha] at e
  cases e
  refine core (fun _=>none) (fun _=>.inl rfl) (.inr ⟨_,vs.toArray,_,hk,rfl,rfl,rfl,by rw [List.size_toArray,lenV];exact hl,by simpa using rv⟩) (fun b u z=>by have z':(none:Option HO)=some u:=z;cases z') (fun b z=>absurd rfl z) fun z=>absurd rfl z
 | none =>
  refine core (fun b=>if b=a then some (.frz { cls:=.type "list", data:=.seq vs.toArray } (.lst (ns.map V.int))) else none) (fun b=>?_) (.inl (.inr ⟨{ cls:=.type "list", data:=.seq vs.toArray },if_pos rfl⟩)) (fun b u z=>?_) (fun b z=>?_) fun _=>hk
  ·by_cases hb:b=a
   ·exact .inr ⟨_,_,if_pos hb⟩
   ·exact .inl (if_neg hb)
  ·by_cases hb:b=a
   ·have z':=(if_pos hb).symm.trans z
    cases z'
    subst hb
    exact ⟨ha,by rw [List.length_map];exact hl,vs,_,rv,ha⟩
   ·have z':=(if_neg hb).symm.trans z
    cases z'
  ·by_cases hb:b=a
   ·exact hb
   ·exact absurd (if_neg hb) z
end L2
namespace L2
open PySem PySem.Spec PyProof.Rows
abbrev KOf {K:PySem.W.Frag} {h:Heap} (_:K.In h):PySem.W.Frag:=K
theorem walk_of {l:PySem.W.OpenLaw} {n k:Nat} {q:Program} {loose:List Str} {XP:(Str→Option Value)→Heap→Prop} {YP:World→Heap→Prop} {d:DefRec} {K:Params→PySem.W.Frag} {CX:World→CXT} {sp:World→Sp} {x:Str}
 (hn:l.most=some n) (hn2:n≤sizeLine) (hdf:d.params.defaults=[]) (hr:Room k callerA)
 (hY:∀ (w:World) (h:Heap),YP w h→(K w.params).In h)
 (F:∀ (w:World) (mg:Str→Option Value) (fa:Addr) (h:Heap),(K w.params).In h→h.Ns mainGlobals mg→mg d.name=some (.ref fa) →
  ∃ fd:FuncData,(∀ (s:Shared) (u:Value),BindsTo s fd ⟨[u],[]⟩ [(x,u)]) ∧
   ∀ base:Heap,(K w.params).In base→base.Ns mainGlobals mg→FnOk l.prog w (K w.params) mg base (CX w) k fa fd [x] (sp w))
 (hsp:∀ (w:World) (H:Hp) (a:Addr) (ns:List Int),ns.length≤n→MG H→SqL (K w.params) H a (ns.map V.int)→sp w [.ref a] H (fun v _=>v=.bl true) fun _ _ _=>False)
 (hCX:∀ (w:World) (H:Hp) (s:Shared) (e:Value) (s':Shared),CX w [] H s (fun _ _ _=>False) e s'→False) :
 PySem.W.WalkO q loose XP YP l.row.toRowW d [] (fun f vs=>PySem.call f vs):=by
 refine Att.attach_call hn hdf fun w s₀ s₁ mg mb fa o pm cd doc a vs ns G Y ho hd hcd hmg hobj hints hlen hg=>?_
 have KX:=hY w _ Y
 obtain ⟨fd,hb,hF⟩:=F w mg fa _ KX G.T.g hmg
 exact W8 KX G.T.g G.T.b G.T.builtins G.T.nolimit hg hobj hints (Nat.le_trans hlen hn2) hr hF hb (fun H hO hS=>hsp w H a ns hlen hO hS) fun H e s'=>hCX w H s₁ e s'
end L2
/- THE LAST THEOREM (shape;LID,My.* are yours):
 My.Adr: a structure of the addresses that your layer names (classes,functions);My.Txt K t: a structure (Prop) of the equations over K;
 My.txt_mk:{K} {implicit addresses ..} (e1:nsIn K mainGlobals "law" = some (some (.ref f))) (e2:K.lookup f=some ⟨oc,od,.func (fnOf "law" "law" params body scope dV kV doc pm an cdv ct),sl⟩) (e3:codeIn K cdv "law" = true) .. : ∃ t,My.Txt K t
set_option maxRecDepth 100000 in
set_option maxHeartbeats 0 in
theorem PySem.Challenge.cw_LID_holds : PySem.Challenge.rw_LID.Holds := by
 w_on;o_law;k_head;(case hw=>w_witness2)
 k_fill
 refine L2.walk_of (l:=PySem.Challenge.rw_LID) (n:=63) (k:=40) (x:="script") (CX:=fun w=>..) (sp:=fun _=>My.sp_law) rfl (13:) rfl ⟨rfl,by decide,by decide⟩ (fun w h Y=>PySem.W.kIn_of Y) ?F ?S ?C
 case F =>
  intro w mg fa h KX G hmg
  have T:∃ t,My.Txt (L2.KOf KX) t:=by
   dsimp only [L2.KOf]                          -- K must stand as «<heap const> w.params» for k_is
   refine' My.txt_mk ?e1 ?e2 ?e3 ..
   (case e1=>PySem.W.k_is)                    -- in the order: a name -> its address -> its object -> its parts
   (case e2=>PySem.W.k_is)
   ..
  obtain ⟨t,T⟩:=T
  have e0:=hmg.symm.trans (PySem.W.mg_of KX G T.law)
  cases e0                                       -- fa is the law's own address
  exact ⟨_,fun s u=>.of_eq rfl,fun base kb nb=>My.law_fn T kb nb⟩     -- if «.of_eq rfl» comes too early: refine' ⟨_,?b,fun base kb nb=>My.law_fn T kb nb⟩;exact fun s u=>.of_eq rfl
 case S=>exact fun w H a ns hl hO hS=>..
 case C=>exact ..
(the tactic k_is has no namespace: write k_is) -/
namespace L2
open PySem PySem.Spec PyProof.Rows
def inClass (s:Stmt) (j:Nat):Stmt:=match s with
 | .ClassDef _ _ _ body _ _ _ _ _ _ _=>body.getD j (.Pass ⟨0,0,0,0⟩)
 | _=>.Pass ⟨0,0,0,0⟩
def defArgs (s:Stmt):Arguments:=match s with
 | .FunctionDef _ a _ _ _ _ _ _ _ _=>a
 | _=>{ posonlyargs:=[],args:=[],vararg:=none,kwonlyargs:=[],kw_defaults:=[],kwarg:=none,defaults:=[] }
def defBody (s:Stmt):List Stmt:=match s with
 | .FunctionDef _ _ b _ _ _ _ _ _ _=>b
 | _=>[]
def defScope (s:Stmt):Scope:=match s with
 | .FunctionDef _ _ _ _ _ _ sc _ _ _=>sc
 | _=>{ kind:=.function,names:=[],isGenerator:=false,isCoroutine:=false }
abbrev CX0:CXT:=fun _ _ _ _ _ _=>False
abbrev E0:XK:=fun _ _ _=>False
theorem Zq {X:Cx}:ZX CX0 X E0:=fun _ _ _ _ _ _ _ h=>h.elim
structure Fun (K:PySem.W.Frag) (x qual:Str) (st:Stmt) (f:Addr) (fd:FuncData):Prop where
 ex:∃ (oc:Value) (od:Option Addr) (kV doc pm:Value) (an:Option Addr) (cdv ct:Value) (osl:Array (Option Value)),
  fd=PySem.W.fnOf x qual (defArgs st) (defBody st) (defScope st) .none kV doc pm an cdv ct∧K.lookup f=some ⟨oc,od,.func fd,osl⟩∧PySem.W.codeIn K cdv qual=true
 kp:PySem.W.keepIn K (.ref f)=true
section
variable {P:Program} {w:World} {K:PySem.W.Frag} {mg:Str→Option Value} {base:Heap}
theorem Fun.ok {x qual:Str} {st:Stmt} {f:Addr} {fd:FuncData} {N ps:List Str} {k:Nat} {sp:Sp} (F:Fun K x qual st f fd) (S:FnScope N ps (defScope st)) (len:∀ vs H Q E,sp vs H Q E→vs.length=ps.length)
 (hbody:∀ (cdv:Value) (A:Around) (outer:List Env) (s:Shared) (H:Hp) (vs:List V) (Q:VK) (E:XK),Room k (A.deeper (envOfC qual (defScope st) s.heap.objs.size f cdv))→sp vs H Q E →
  ∃ t,PSs (YD CX0 P w K mg base N qual (defScope st) f cdv A outer s H E).nox (defBody st) t∧t { nx:=fun _ H'=>Q .non H',rt:=Q } (start N vs) H):FnOk P w K mg base CX0 (k + 1) f fd ps sp:=by
 obtain ⟨oc,od,kV,doc,pm,an,cdv,ct,osl,rfl,lk,hcd⟩:=F.ex
 refine VA lk hcd S len fun A outer s H vs Q E hr hsp=>?_
 obtain ⟨t,h,q⟩:=hbody cdv A outer s H vs Q E hr hsp
 exact ⟨t,h.nox,q⟩
theorem Fun.binds {x qual:Str} {st:Stmt} {f:Addr} {fd:FuncData} {ps:List Str} (F:Fun K x qual st f fd)
 (h:∀ (kV doc pm:Value) (an:Option Addr) (cdv ct:Value) (us:List Value),us.length=ps.length→bindArgs (PySem.W.fnOf x qual (defArgs st) (defBody st) (defScope st) .none kV doc pm an cdv ct) ⟨us,[]⟩=pure (ps.zip us)):Binds K fd ps []:=by
 obtain ⟨oc,od,kV,doc,pm,an,cdv,ct,osl,rfl,lk,hcd⟩:=F.ex
 exact .all (h kV doc pm an cdv ct)
theorem QT {x qual:Str} {st:Stmt} {f:Addr} {oc:Value} {od an:Option Addr} {osl:Array (Option Value)} {kV doc pm cdv ct:Value} (l:K.lookup f=some ⟨oc,od,.func (PySem.W.fnOf x qual (defArgs st) (defBody st) (defScope st) .none kV doc pm an cdv ct),osl⟩)
 (c:PySem.W.codeIn K cdv qual=true) (k:PySem.W.keepIn K (.ref f)=true):Fun K x qual st f (PySem.W.fnOf x qual (defArgs st) (defBody st) (defScope st) .none kV doc pm an cdv ct):=⟨⟨oc,od,kV,doc,pm,an,cdv,ct,osl,rfl,l,c⟩,k⟩
end
theorem Um {A:Around} {k:Nat} (hr:Room k A):A.units + 1 < cLine:=Nat.lt_of_le_of_lt (Nat.add_le_add_left (by decide:1≤64) _) hr.units
theorem UZ {n:Nat} (h:n≤1000):n < sizeLine:=Nat.lt_of_le_of_lt h (13:)
section
variable {X:Cx}
theorem pv (i:Nat) {x:Str} {pos:Pos} (hN:X.N[i]?=some x:=by rfl) (hv:Vis X.env.scope x:=by first | exact Or.inl rfl | exact Or.inr (11:) | exact Or.inr (Or.inr rfl)) (hd:(34:)=false:=by decide)
 (hcd:(x == ("__classdict__" : Str))=false:=by decide):PE X (.Name x pos) (YV i):=MA hN hv hd hcd
end
theorem ZW {A B:Prop} (h:B):if false=true then A else B:=by
 rw [if_neg Bool.false_ne_true]
 exact h
theorem Zl {A B:Prop} (h:A):if true=true then A else B:=by
 rw [if_pos rfl]
 exact h
theorem XM {c A B:Prop} [Decidable c] (h1:c→A) (h2:¬ c→B):if c then A else B:=by
 by_cases h:c
 ·rw [if_pos h]
  exact h1 h
 ·rw [if_neg h]
  exact h2 h
theorem YR {c A B:Prop} [Decidable c] (hc:c) (h:B):if (!decide c)=true then A else B:=by
 rw [decide_eq_true hc]
 exact ZW h
def Same (H H':Hp):Prop:=∀ b o,H b=some o→H' b=some o
theorem Same.refl (H:Hp):Same H H:=fun _ _ h=>h
theorem Same.trans {H H1 H2:Hp} (a:Same H H1) (b:Same H1 H2):Same H H2:=fun c o h=>b c o (a c o h)
theorem Same.seq {K:PySem.W.Frag} {H H':Hp} {a:Addr} {xs:List V} (e:Same H H') (h:SqL K H a xs):SqL K H' a xs:=by
 rcases h with (h | ⟨o,h⟩) | h
 ·exact .inl (.inl (e _ _ h))
 ·exact .inl (.inr ⟨o,e _ _ h⟩)
 ·exact .inr h
end L2
set_option maxHeartbeats 4000000
namespace L2
open PySem PySem.Spec PyProof.Rows
section
variable {X:Cx}
theorem ZN:Zc X (.builtin "isinstance") (fun xs H Q=>∃ x T t b,xs=[x,.ty T]∧TyOf X.K H x t∧PySem.W.kitOne X.K t (.type T)=some b∧Q (.bl b) H):=by
 intro pins s σ H xs us Q I r h
 obtain ⟨x,T,t,b,rfl,ty,e,q⟩:=h
 obtain ⟨u,c,rfl,rx,rc⟩:=WB r
 cases (show c=Value.type T from rc)
 exact WW I rx ty e fun tk=>⟨.bl b,H,I.tok tk,rfl,q⟩
end
section
variable {X:Cx}
end
mutual
inductive RdV (K:PySem.W.Frag) (H:Hp):V→PyData→Prop where
 | non:RdV K H .non .none
 | bl (b:Bool):RdV K H (.bl b) (.bool b)
 | int (i:Int):RdV K H (.int i) (.int i)
 | str (x:Str):RdV K H (.str x) (.str x)
 | lst {a:Addr} {xs:List V} {ds:List PyData}:SqL K H a xs→RdAll K H xs ds→RdV K H (.ref a) (.list ds)
 | tup {a:Addr} {xs:List V} {ds:List PyData}:SqT K H a xs→RdAll K H xs ds→RdV K H (.ref a) (.tuple ds)
inductive RdAll (K:PySem.W.Frag) (H:Hp):List V→List PyData→Prop where
 | nil:RdAll K H [] []
 | cons {v:V} {vs:List V} {d:PyData} {ds:List PyData}:RdV K H v d→RdAll K H vs ds→RdAll K H (v :: vs) (d :: ds)
end
section
variable {X:Cx} {pins:List (7:)} {σ:St} {H:Hp} {s:Shared}
mutual
theorem RdV.reads (I:Inv X pins σ H s):∀ {v:V} {d:PyData} {u:Value},RdV X.K H v d→RelV v u→∃ as,Reads s.heap u d as
 | _,_,u,.non,r=>by cases (show u=Value.none from r);exact ⟨_,.none⟩
 | _,_,u,.bl b,r=>by cases (show u=Value.bool b from r);exact ⟨_,.bool b⟩
 | _,_,u,.int i,r=>by obtain ⟨t,e⟩:=(show ∃ t,u=Value.int i t from r);cases e;exact ⟨_,.int i t⟩
 | _,_,u,.str x,r=>by obtain ⟨t,e⟩:=(show ∃ t,u=Value.str x t from r);cases e;exact ⟨_,.str x t⟩
 | _,_,u,@RdV.lst _ _ a xs ds hq hr,r=>by
  cases (show u=Value.ref a from r)
  obtain ⟨its,rv,⟨o,n,e,c,_,dt⟩,_⟩:=I.list hq
  obtain ⟨as,q⟩:=RdAll.reads I hr rv
  exact ⟨_,.list e c dt (by simpa using q)⟩
 | _,_,u,@RdV.tup _ _ a xs ds hq hr,r=>by
  cases (show u=Value.ref a from r)
  obtain ⟨its,rv,⟨o,e,c,n,dt⟩,_⟩:=I.tuple hq
  obtain ⟨as,q⟩:=RdAll.reads I hr rv
  exact ⟨_,.tuple e c dt (by simpa using q)⟩
theorem RdAll.reads (I:Inv X pins σ H s):∀ {vs:List V} {ds:List PyData} {us:List Value},RdAll X.K H vs ds→Vals vs us→∃ as,ReadsAll s.heap us ds as
 | _,_,_,.nil,r=>by cases r;exact ⟨_,.nil⟩
 | _,_,_,.cons h t,r=>by
  cases r with
  | cons r1 r2 =>
   obtain ⟨as,q⟩:=RdV.reads I h r1
   obtain ⟨bs,q2⟩:=RdAll.reads I t r2
   exact ⟨_,.cons q q2⟩
end
end
section
variable {X:Cx}
def N1 (K:PySem.W.Frag) (A:Around) (neg:Bool):R2:=fun x y H Q=>∃ d e:PyData,RdV K H x d∧RdV K H y e∧d.canLay0=true∧e.canLay0=true∧A.units + min d.depth e.depth < cLine∧Q (.bl (if neg then !PyData.eqv d e else PyData.eqv d e)) H
theorem MP:OpR X (compareOp .Eq) (N1 X.K X.A false):=by
 intro pins s σ H x y v u Q I rx ry h
 obtain ⟨d,e,hd,he,cd,ce,hu,q⟩:=h
 obtain ⟨as,q1⟩:=hd.reads I rx
 obtain ⟨bs,q2⟩:=he.reads I ry
 exact SeqAt.compareEq_reads q1 q2 cd ce hu ⟨.bl _,H,I,rfl,q⟩
theorem Gf:OpR X (compareOp .NotEq) (N1 X.K X.A true):=by
 intro pins s σ H x y v u Q I rx ry h
 obtain ⟨d,e,hd,he,cd,ce,hu,q⟩:=h
 obtain ⟨as,q1⟩:=hd.reads I rx
 obtain ⟨bs,q2⟩:=he.reads I ry
 exact SeqAt.compareNe_reads q1 q2 cd ce hu ⟨.bl _,H,I,rfl,q⟩
end
mutual
theorem ZG:∀ d:PyData,d.canLay0=true→PyData.eqv d d=true
 | .none,_=>by simp [PyData.eqv]
 | .bool _,_=>by simp [PyData.eqv]
 | .int _,_=>by simp [PyData.eqv]
 | .str _,_=>by simp [PyData.eqv]
 | .list xs,h=>by
  simp only [PyData.eqv]
  exact ZL xs (by simpa [PyData.canLay0] using h)
 | .tuple xs,h=>by
  simp only [PyData.eqv]
  exact ZL xs (by simpa [PyData.canLay0] using h)
 | .dict _,h=>by simp [PyData.canLay0] at h
theorem ZL:∀ ds:List PyData,PyData.canLayAll0 ds=true→PyData.eqvAll ds ds=true
 | [],_=>by simp [PyData.eqvAll]
 | d :: ds,h=>by
  simp only [PyData.canLayAll0,Bool.and_eq_true] at h
  simp only [PyData.eqvAll,Bool.and_eq_true]
  exact ⟨ZG d h.1,ZL ds h.2⟩
end
end L2
namespace L2
open PySem PySem.Spec PyProof.Rows
structure Fn (P:Program) (w:World) (K:PySem.W.Frag) (mg:Str→Option Value) (base:Heap) (k:Nat) (x:Str) (ps:List Str) (sp:Sp):Prop where
 ex:∃ (f:Addr) (fd:FuncData),FnOk P w K mg base CX0 k f fd ps sp∧Binds K fd ps []∧PySem.W.keepIn K (.ref f)=true∧mg x=some (.ref f)
theorem Qv {X:Cx} {k k':Nat} {x:Str} {ps:List Str} {sp:Sp} {p pos:Pos} {e:Expr} {es:List Expr} {t:TA} (F:Fn X.prog X.w X.K X.mg X.base k x ps sp) (hr:Room k' X.A) (ha:PA X (e :: es) t) (hk:k≤k':=by decide) (hg:Gl X x:=by rfl)
 (hdb:(34:)=false:=by decide) (he:starEach (e :: es) X.env=(54:) :: starEach es X.env:=by rfl) (hpl:(49:).any (·.1)=false:=by rfl) :
 PE X (.Call (.Name x p) (e :: es) [] pos) (VG sp [] E0 t):=by
 obtain ⟨f,fd,h1,h2,h3,h4⟩:=F.ex
 exact Lw h1 (hr.mono hk) hg h4 h3 h2 .nil Zq ha hdb he hpl
theorem YA {c A B:Prop} [Decidable c] (hc:c) (h:A):if decide c=true then A else B:=by
 rw [decide_eq_true hc]
 exact Zl h
theorem Zo {c A B:Prop} [Decidable c] (hc:¬ c) (h:B):if decide c=true then A else B:=by
 rw [decide_eq_false hc]
 exact ZW h
theorem Qd {H:Hp} {p:Addr} (h:H p=Option.none) (o:HO):Same H (upd H p o):=fun b u q=>by rw [Qi (Qh q h)];exact q
def S (l:List Nat):Str:=⟨l.toArray⟩
theorem VD (l:List Nat):(S l).cps.toList=l:=by simp [S]
theorem Vu (l:List Nat):(S l).length=l.length:=by simp [S,Str.length]
theorem LO {a b:List Nat} (h:S a=S b):a=b:=by
 have:=congrArg (fun z:Str=>z.cps.toList) h
 simpa [VD] using this
end L2
namespace L2
open PySem PySem.Spec PyProof.Rows
def OT (t:TS):TS:=fun D σ H=>∃ R:St→Hp→Prop,t { D with nx:=R } σ H∧∀ σ' H',R σ' H'→D.nx σ' H'
theorem Jb {X:Cx} {st:Stmt} {t:TS} (h:PS X st t):PS X st (OT t):=by
 intro pins s σ H D I hw
 obtain ⟨R,h1,h2⟩:=hw
 refine thn (h pins s σ H { D with nx:=R } I h1) fun f s1 q=>?_
 cases f with
 | next =>
  obtain ⟨σ',H',I',q⟩:=q
  exact ⟨σ',H',I',h2 _ _ q⟩
 | brk=>exact q
 | cont=>exact q
 | ret v=>exact q
theorem ZY:∀ xs:List Str,PyData.depthAll (xs.map PyData.str)=0
 | []=>by simp [PyData.depthAll]
 | x :: r=>by simp [PyData.depthAll,PyData.depth,ZY r]
end L2
namespace L2
open PySem PySem.Spec PyProof.Rows
structure DefAt (K:PySem.W.Frag) (x:Str) (st:Stmt):Prop where
 ex:∃ (f:Addr) (oc:Value) (od:Option Addr) (kV doc pm:Value) (an:Option Addr) (cdv ct:Value) (osl:Array (Option Value)),
  PySem.W.nsIn K mainGlobals x=some (some (.ref f))∧K.lookup f=some ⟨oc,od,.func (PySem.W.fnOf x x (defArgs st) (defBody st) (defScope st) .none kV doc pm an cdv ct),osl⟩∧PySem.W.codeIn K cdv x=true∧PySem.W.keepIn K (.ref f)=true
theorem DefAt.mk' {K:PySem.W.Frag} {x:Str} {st:Stmt} {f:Addr} {oc:Value} {od:Option Addr} {kV doc pm:Value} {an:Option Addr} {cdv ct:Value} {osl:Array (Option Value)}
 (a:PySem.W.nsIn K mainGlobals x=some (some (.ref f))) (l:K.lookup f=some ⟨oc,od,.func (PySem.W.fnOf x x (defArgs st) (defBody st) (defScope st) .none kV doc pm an cdv ct),osl⟩) (c:PySem.W.codeIn K cdv x=true) (k:PySem.W.keepIn K (.ref f)=true):DefAt K x st :=
 ⟨f,oc,od,kV,doc,pm,an,cdv,ct,osl,a,l,c,k⟩
theorem DefAt.fn {P:Program} {w:World} {K:PySem.W.Frag} {mg:Str→Option Value} {base h:Heap} {k:Nat} {x:Str} {st:Stmt} {ps:List Str} {sp:Sp} (D:DefAt K x st) (X:K.In h) (G:h.Ns mainGlobals mg)
 (ok:∀ (f:Addr) (fd:FuncData),Fun K x x st f fd→FnOk P w K mg base CX0 k f fd ps sp)
 (hb:∀ (kV doc pm:Value) (an:Option Addr) (cdv ct:Value) (us:List Value),us.length=ps.length→bindArgs (PySem.W.fnOf x x (defArgs st) (defBody st) (defScope st) .none kV doc pm an cdv ct) ⟨us,[]⟩=pure (ps.zip us)):Fn P w K mg base k x ps sp:=by
 obtain ⟨f,oc,od,kV,doc,pm,an,cdv,ct,osl,a,l,c,kp⟩:=D.ex
 have F:=QT (st:=st) l c kp
 exact ⟨f,_,ok f _ F,F.binds hb,kp,PySem.W.mg_of X G a⟩
end L2
namespace L2
open PySem PySem.Spec PyProof.Rows
section
variable {X:Cx}
def Ni (K:PySem.W.Frag):R2:=fun x y H Q=>∃ a b xs ys,x=.ref a∧y=.ref b∧SqT K H a xs∧SqT K H b ys∧xs.length + ys.length≤sizeLine ∧
 ∀ p H',Same H H'→SqT K H' p (xs ++ ys)→Q (.ref p) H'
theorem Y0:OpR X (binaryOp .Add) (Ni X.K):=by
 intro pins s σ H x y v u Q I rx ry h
 obtain ⟨a,b,xs,ys,e1,e2,ha,hb,hz,q⟩:=h
 by_cases hx:xs=[]
 ·subst e1;subst e2;subst hx
  cases (show v=Value.ref a from rx)
  cases (show u=Value.ref b from ry)
  obtain ⟨its,r1,p1,_⟩:=I.tuple ha
  obtain ⟨its2,r2,p2,_⟩:=I.tuple hb
  cases r1
  obtain ⟨⟨cls,dd,data,sl⟩,ho,hc,n,hd⟩:=id p1
  obtain ⟨⟨cls2,dd2,data2,sl2⟩,ho2,hc2,n2,hd2⟩:=id p2
  simp only at hc hd hc2 hd2
  subst hc hd hc2 hd2
  exact concat_meets ⟨_,ho,rfl⟩ ⟨_,ho2,rfl⟩ noFill_tuple_add seq_tuple_add PySem.F.slot_tuple_add PySem.F.entry_tuple_add (PySem.F.args_tuple_add_2 _ _)
   (tuple_addW0 a b _ its2.toArray n n2 dd dd2 sl sl2 rfl) ⟨ho,ho2,⟨.ref b,H,I,rfl,q b H (Same.refl H) (by simpa using hb)⟩⟩
 ·refine Gp pins s σ H x y v u Q I rx ry ⟨a,b,xs,ys,e1,e2,ha,hb,hx,hz,fun hy=>?_,fun hy p hp=>?_⟩
  ·subst hy
   exact q a H (Same.refl H) (by simpa using ha)
  ·exact q p _ (Qd hp _) (39:)
theorem Same.seqT {K:PySem.W.Frag} {H H':Hp} {a:Addr} {xs:List V} (e:Same H H') (h:SqT K H a xs):SqT K H' a xs:=by
 rcases h with (h | ⟨o,h⟩) | h
 ·exact .inl (.inl (e _ _ h))
 ·exact .inl (.inr ⟨o,e _ _ h⟩)
 ·exact .inr h
def GX:V→List V→Hp→VK→Prop:=fun x vs H Q=>∃ l xs y,x=.ref l∧vs=[.int 0,y]∧H l=some (.lst xs)∧xs.length < sizeLine∧Q .non (upd H l (.lst (y :: xs)))
theorem XH:MtM X "list.insert" GX:=by
 intro pins s σ H x vs v us Q I rx rv h
 obtain ⟨l,xs,y,e1,e2,hH,hz,q⟩:=h
 subst e1;subst e2
 cases (show v=Value.ref l from rx)
 obtain ⟨u0,u,e3,r0,ru⟩:=rv.two
 subst e3
 obtain ⟨t,e4⟩:=(show ∃ t,u0=Value.int 0 t from r0)
 subst e4
 obtain ⟨z,its,n,r,hl,e⟩:=I.lstM hH
 have hfit:¬ (!Builtin.List.listFitsIndex 0)=true:=by decide
 refine call_meets F.slot_list_insert ⟨_,e,rfl⟩ F.entry_list_insert (F.args_list_insert_3 _ _ _) (AutoSeq1.list_insert_list_int_val_1 l its.toArray n 0 t u hfit (by rw [List.size_toArray];lia)) ⟨e,?_⟩
 refine ⟨.non,_,I.lset (its':=u :: its) hH e ?_ (.cons ru r) ?_,rfl,q⟩
 ·apply Array.toList_inj.mp
  simp
 ·rw [List.length_cons];lia
end
section
variable {X:Cx} {tg:Expr}
end
end L2
namespace L2
open PySem PySem.Spec PyProof.Rows
def QD (X:Cx) (N':List Str) (scope:Scope) (cl:List (Str × Addr)) (C:Addr) (fp:List Addr) (s₀:Shared) (H₀:Hp):Cx :=
 { X with N:=N',s₀:=s₀,H₀:=H₀,env:=compEnvC scope cl C X.env,outer:=X.stack,ex:=fp,fn:=fun _=>false,pn:=[],xe:=fun _ _=>False }
def PF (X:Cx) (ifs:List Expr) (t:TT):Prop :=
 ∀ (pins:List (7:)) (s:Shared) (σ:St) (H:Hp) (Q:Bool→Hp→Prop),Inv X pins σ H s→t σ H Q →
  wpAny (6:) X.A (forIn ifs true fun c r=>if r=true then do let ok ← isTrue c X.env (eval c X.env);pure (ForInStep.yield ok) else pure (ForInStep.yield r)) (TP X pins σ Q) X.xe s
theorem Zj {X:Cx}:PF X [] (fun _ H Q=>Q true H):=by
 intro pins s σ H Q I h
 rw [List.forIn_nil]
 exact wpAny_pure ⟨H,I,h⟩
structure OwnAt (X:Cx) (pins:List (7:)) (H:Hp) (s:Shared) (C:Addr):Prop where
 ns:∃ m,s.heap.Ns C m
 free:H C=none
 loc:C≠X.env.locals
 above:X.s₀.heap.objs.size≤C
 cells:∀ x c,X.env.cells.lookup x=some c→c≠C
 pins:∀ p ∈ X.pn ++ pins,p.1≠C
theorem OwnAt.go {X:Cx} {pins:List (7:)} {σ:St} {H:Hp} {s:Shared} {C:Addr} {h':Heap} (I:Inv X pins σ H s) (o:OwnAt X pins H s C) (hb:Heap.SameBut C s.heap h'):Inv X pins σ H { s with heap:=h' } :=
 I.turned (t':=s.toks) (fun b u hb' e=>(hb.2 b hb').trans e) o.free o.loc (.inr o.above) o.cells o.pins
def WC (n:Nat) (Pv:Nat→List V→Hp→Prop):Nat→Nat→Hp→Prop:=fun i m H=>m=n - i∧i≤n∧∃ ys,Pv i ys H
def VO (n:Nat) (Pv:Nat→List V→Hp→Prop) (acc:Addr) (i m:Nat):VK:=fun y H5=>∃ ys,H5 acc=some (.lst ys)∧ys.length < sizeLine∧∃ m',m' < m∧WC n Pv (i + 1) m' (upd H5 acc (.lst (ys ++ [y])))
theorem Q6 {n:Nat} {Pv:Nat→List V→Hp→Prop} {acc:Addr} {i:Nat} {y:V} {H5:Hp} {ys:List V} (hi:i < n) (hacc:H5 acc=some (.lst ys)) (hl:ys.length < 5000) (hP:Pv (i + 1) (ys ++ [y]) (upd H5 acc (.lst (ys ++ [y])))):VO n Pv acc i (n - i) y H5 :=
 ⟨ys,hacc,Nat.lt_trans hl (13:),n - (i + 1),by lia,rfl,hi,_,hP⟩
end L2
namespace L2
open PySem PySem.Spec PyProof.Rows
end L2
namespace L2
open PySem PySem.Spec PyProof.Rows
section
variable {X:Cx}
theorem Zx:Zc X (.builtin "isinstance") (fun xs H Q=>∃ a ys T b,xs=[.ref a,.ty T]∧SqT X.K H a ys∧PySem.W.kitOne X.K (.type "tuple") (.type T)=some b∧Q (.bl b) H):=by
 intro pins s σ H xs us Q I r h
 obtain ⟨a,ys,T,b,rfl,ht,e,q⟩:=h
 obtain ⟨u,c,rfl,rx,rc⟩:=WB r
 cases (show c=Value.type T from rc)
 cases (show u=Value.ref a from rx)
 obtain ⟨its,r1,p,_⟩:=I.tuple ht
 obtain ⟨o,h1,h2,_⟩:=p
 exact PySem.W.kia_one PySem.W.kitx_tuple I.kIn ⟨o,h1,h2⟩ e (37:) fun tk=>⟨.bl b,H,I.tok tk,rfl,q⟩
end
theorem Yo {K:PySem.W.Frag} {H:Hp}:∀ p:List Int,RdAll K H (p.map V.int) (p.map PyData.int)
 | []=>.nil
 | i :: r=>.cons (.int i) (Yo r)
theorem Yb:∀ p:List Int,PyData.canLayAll0 (p.map PyData.int)=true
 | []=>by simp [PyData.canLayAll0]
 | i :: r=>by simp only [List.map_cons,PyData.canLayAll0,PyData.canLay0,Yb r,Bool.and_self]
end L2
namespace L2
open PySem PySem.Spec PyProof.Rows
section
variable {X:Cx} {pins:List (7:)} {σ:St} {H:Hp} {s:Shared} {h':Heap}
theorem Inv.turnedL {ch:List Addr} {t':Nat} (I:Inv X pins σ H s) (k:∀ b o,b ∉ ch→s.heap.get? b=some o→h'.get? b=some o) (hf:∀ b ∈ ch,YW X pins H b):Inv X pins σ H { s with heap:=h',toks:=t' }:=by
 have nch:∀ b u,H b=some u→b ∉ ch:=fun b u e z=>by rw [(hf b z).1] at e;cases e
 refine I.step (g':=s.gens) (d':=s.drawn) (ch:=ch) (fun b hb=>?_) (fun b o _ _ hc e _=>k b o hc e) (fun b o _ _ hc e _=>⟨o.slots,k b o hc e⟩) (fun _ _ _ _ n=>n)
  (fun b o hc e=>⟨o,k b o hc e⟩) (fun _ _ e=>e) (fun _ _ _ e=>e) (fun b ps e=>⟨#[],by rw [e];simp⟩) (fun m hm=>?_) (fun b u e=>?_) I.bare
 ·obtain ⟨f0,f1,f2,f3,f4,f5⟩:=hf b hb
  exact ⟨f3,f1,f4,f5⟩
 ·obtain ⟨o,es,ep,ho,r⟩:=hm
  exact ⟨o,es,ep,k _ o (fun z=>(hf _ z).2.1 rfl) ho,r⟩
 ·refine (I.hok b u e).stay (fun c v hc q=>k c v ?_ q) (fun _ q=>q) fun _ _ q=>q
  rcases hc with z | z
  ·rw [z];exact nch b u e
  ·exact nch c _ z
theorem Inv.turnedNew {ch:List Addr} {t':Nat} {a:Addr} {o:HO} (I:Inv X pins σ H s) (k:∀ b o,b ∉ ch→s.heap.get? b=some o→h'.get? b=some o) (hf:∀ b ∈ ch,YW X pins H b)
 (hp:s.heap.objs.size≤a) (new:ObjOk X.prog X.w (upd H a o) h' a o):Inv X pins σ (upd H a o) { s with heap:=h',toks:=t' }:=by
 have hn:H a=none:=I.hok.fresh hp
 have nch:∀ b u,H b=some u→b ∉ ch:=fun b u e z=>by rw [(hf b z).1] at e;cases e
 have lt:∀ b u,s.heap.get? b=some u→b≠a:=fun b u e=>Nat.ne_of_lt (Nat.lt_of_lt_of_le (57:) hp)
 refine I.step (g':=s.gens) (d':=s.drawn) (ch:=ch) (fun b hb=>?_) (fun b o _ _ hc e _=>k b o hc e) (fun b o _ _ hc e _=>⟨o.slots,k b o hc e⟩) (fun b u _ e n=>by rw [Qi (lt b u e)];exact n)
  (fun b o hc e=>⟨o,k b o hc e⟩) (fun b xs e=>by rw [Qi (Qh e hn)];exact e) (fun b u xs e=>by rw [Qi (Qh e hn)];exact e) (fun b ps e=>⟨#[],by rw [Qi (Qh e hn),e];simp⟩) (fun m hm=>?_) (fun b u e=>?_) I.bare
 ·obtain ⟨f0,f1,f2,f3,f4,f5⟩:=hf b hb
  exact ⟨f3,f1,f4,f5⟩
 ·obtain ⟨o,es,ep,ho,r⟩:=hm
  exact ⟨o,es,ep,k _ o (fun z=>(hf _ z).2.1 rfl) ho,r⟩
 ·by_cases hb:b=a
  ·subst hb
   rw [Qb] at e;cases e
   exact new
  ·rw [Qi hb] at e
   refine (I.hok b u e).stay (fun c v hc q=>k c v ?_ q) (fun c q=>by rw [Qi (Qh q hn)];exact q) fun c xs q=>by rw [Qi (Qh q hn)];exact q
   rcases hc with z | z
   ·rw [z];exact nch b u e
   ·exact nch c _ z
end
def Itz (K:PySem.W.Frag) (a b:Addr) (xs ys:List V):It :=
 ⟨fun i H=>SqL K H a xs∧SqL K H b ys∧i < xs.length∧i < ys.length,fun i H x H'=>∃ p u v,H p=none∧x=.ref p∧H'=upd H p (.tup [u,v])∧xs[i]?=some u∧ys[i]?=some v,fun i H=>SqL K H a xs∧SqL K H b ys∧(xs.length≤i∨ys.length≤i)⟩
theorem Gc {P:Program} {w:World} {K:PySem.W.Frag} {elts:List Expr} {k1:Nat} {pos:Pos} (a b z:Addr) (xs ys:List V) (TI TO i1 i2:Addr) (Ap:ZipApart z TI TO i1 i2 a b) :
 Turn P w K (.Tuple elts k1 pos) (Itz K a b xs ys) [z,TI,TO,i1,i2] z (fun i h=>IsZip h z TI TO .none∧IsPair h TI (.ref i1) (.ref i2)∧(∃ u v,IsPair h TO u v)∧h.IsListIter i1 a i∧h.IsListIter i2 b i) where
 mem:=by simp
 obj:=fun i h st c hc=>by
  obtain ⟨hz,hTI,⟨u,v,hTO⟩,h1,h2⟩:=st
  simp only [List.mem_cons,List.mem_nil_iff,or_false] at hc
  rcases hc with rfl | rfl | rfl | rfl | rfl
  ·exact ⟨_,hz,fun v z=>by have z':Data.fields _=Data.cell v:=z;cases z'⟩
  ·exact ⟨_,hTI,fun v z=>by have z':Data.seq _ _=Data.cell v:=z;cases z'⟩
  ·exact ⟨_,hTO,fun v z=>by have z':Data.seq _ _=Data.cell v:=z;cases z'⟩
  ·obtain ⟨o,e,c,d⟩:=h1;exact ⟨o,e,fun v z=>by rw [d] at z;cases z⟩
  ·obtain ⟨o,e,c,d⟩:=h2;exact ⟨o,e,fun v z=>by rw [d] at z;cases z⟩
 keep:=fun i h h' st k=>by
  obtain ⟨hz,hTI,⟨u,v,hTO⟩,h1,h2⟩:=st
  exact ⟨k z (29:) _ hz,k TI (29:) _ hTI,⟨u,v,k TO (29:) _ hTO⟩,h1.at fun o e=>k i1 (29:) o e,h2.at fun o e=>k i2 (29:) o e⟩
 item:=by
  intro X hP hw hK hc i pins s σ H E I hf st hg
  subst hP hw hK
  obtain ⟨hz,hTI,⟨u0,v0,hTO⟩,h1,h2⟩:=st
  obtain ⟨qa,qb,lx,ly⟩:=hg
  obtain ⟨its,rv,p,_⟩:=I.list qa
  obtain ⟨its2,rv2,p2,_⟩:=I.list qb
  have ex:xs[i]?=some xs[i]:=List.getElem?_eq_getElem lx
  have ey:ys[i]?=some ys[i]:=List.getElem?_eq_getElem ly
  obtain ⟨u,hu,ru⟩:=rv.get ex
  obtain ⟨v,hv,rv'⟩:=rv2.get ey
  refine wpAny_pyNext_zip_item Ap hz hTI hTO h1 h2 p.isList p2.isList (x:=u) (y:=v) (by simpa using hu) (by simpa using hv) fun h' a1 a2 a3 a4 a5 a6 hk=>?_
  refine ⟨.ref s.heap.objs.size,rfl,wpAny_letOwnedTupleGo_zip (s:={ s with heap:=h' }) a1 fun h'' hz' hs'=>?_⟩
  have lt:∀ {c o},s.heap.get? c=some o→c≠s.heap.objs.size:=fun e=>Nat.ne_of_lt (57:)
  have e5:IsPair h'' s.heap.objs.size u v:=(hs'.2 _ (Ne.symm (lt hz))).trans a5
  have hch:∀ c ∈ [z,TO,i1,i2],YW X pins H c:=fun c hc=>hf c (by
   simp only [List.mem_cons,List.mem_nil_iff,or_false] at hc ⊢
   rcases hc with rfl | rfl | rfl | rfl <;> simp)
  have I2:Inv X pins σ (upd H s.heap.objs.size (.tup [xs[i],ys[i]])) { s with heap:=h'',toks:=s.toks }:=by
   refine I.turnedNew (ch:=[z,TO,i1,i2]) (fun c o hc e=>?_) hch (10:) ⟨by show 2≤sizeLine;decide,[u,v],.cons ru (.cons rv' .nil),⟨_,e5,rfl,_,rfl⟩⟩
   simp only [List.mem_cons,List.mem_nil_iff,or_false,not_or] at hc
   exact (hs'.2 c hc.1).trans (hk c o hc.1 hc.2.1 hc.2.2.1 hc.2.2.2 e)
  have hfr:∀ c ∈ [z,TI,TO,i1,i2],upd H s.heap.objs.size (.tup [xs[i],ys[i]]) c=none:=fun c hc=>by
   have hc2:=hf c hc
   have:c≠s.heap.objs.size:=by
    simp only [List.mem_cons,List.mem_nil_iff,or_false] at hc
    rcases hc with rfl | rfl | rfl | rfl | rfl
    ·exact lt hz
    ·exact lt hTI
    ·exact lt hTO
    ·obtain ⟨o,e,_⟩:=h1;exact lt e
    ·obtain ⟨o,e,_⟩:=h2;exact lt e
   rw [Qi this];exact hc2.1
  exact ⟨.ref s.heap.objs.size,_,I2,rfl,⟨s.heap.objs.size,_,_,I.fresh,rfl,rfl,ex,ey⟩,⟨hz',hs'.extBut _ _ Ap.TIz (hk _ _ Ap.TIz Ap.TITO Ap.TIi1 Ap.TIi2 hTI),⟨_,_,hs'.extBut _ _ Ap.TOz a2⟩,a3.extBut hs'.extBut Ap.i1z,a4.extBut hs'.extBut Ap.i2z⟩,hfr⟩
 done:=by
  intro X hP hw hK hc i pins s σ H E I hf st hg
  subst hP hw hK
  obtain ⟨hz,hTI,⟨u0,v0,hTO⟩,h1,h2⟩:=st
  obtain ⟨qa,qb,hl⟩:=hg
  obtain ⟨its,rv,p,_⟩:=I.list qa
  obtain ⟨its2,rv2,p2,_⟩:=I.list qb
  have l1:=rv.length
  have l2:=rv2.length
  have hch:∀ c ∈ [z,TO,i1,i2],YW X pins H c:=fun c hc=>hf c (by
   simp only [List.mem_cons,List.mem_nil_iff,or_false] at hc ⊢
   rcases hc with rfl | rfl | rfl | rfl <;> simp)
  refine wpAny_pyNext_zip_end (I.ok.hd hc) Ap hz hTI hTO h1 h2 p.isList p2.isList ?_ fun h' hk=>⟨rfl,I.turnedL (t':=s.toks) (ch:=[z,TO,i1,i2]) (fun c o hc e=>?_) hch⟩
  ·rcases hl with q | q
   ·exact .inl (by simp;lia)
   ·exact .inr (by simp;lia)
  ·simp only [List.mem_cons,List.mem_nil_iff,or_false,not_or] at hc
   exact hk c o hc.1 hc.2.1 hc.2.2.1 hc.2.2.2 e
 self:=fun _ _ _ _ _ st h=>wpAny_pyIter_zip st.1 h
theorem nne {x y:Nat} (h:x < y∨y < x):x≠y:=by lia
section
variable {X:Cx} {elts:List Expr} {k1:Nat} {tpos:Pos}
def Ot (K:PySem.W.Frag) (ta:TA):TI:=fun σ H R=>ta σ H fun vs H1=>∃ a b xs ys,vs=[.ref a,.ref b]∧SqL K H1 a xs∧SqL K H1 b ys∧R (Itz K a b xs ys) H1
theorem Mu {e1 e2:Expr} {ta:TA} {p pos:Pos} (hg:Gl X "zip") (hm:X.mg "zip" = none) (ha:PA X [e1,e2] ta) (hs:starEach [e1,e2] X.env=[(false,eval e1 X.env),(false,eval e2 X.env)]:=by rfl) (hs2:starEach [e2] X.env=[(false,eval e2 X.env)]:=by rfl) :
 PI X (.Tuple elts k1 tpos) (.Call (.Name "zip" p) [e1,e2] [] pos) (Ot X.K ta):=by
 intro pins s σ H R I h
 refine Call_ (Z5 I hg hm PyProof.Rows.boot_zip (PyProof.Rows.callWith_type1 (thn (ha pos pins s σ H _ I h) fun us s1 ⟨vs,H1,I1,r1,q1⟩=>?_) (by rw [hs,hs2]) (by rw [hs2];rfl)))
 obtain ⟨a,b,xs,ys,e,qa,qb,q⟩:=q1
 subst e
 obtain ⟨u1,u2,e3,r3,r4⟩:=r1.two
 subst e3
 cases (show u1=Value.ref a from r3)
 cases (show u2=Value.ref b from r4)
 obtain ⟨its,rv,pl,_⟩:=I1.list qa
 obtain ⟨its2,rv2,pl2,_⟩:=I1.list qb
 have la:@LT.lt Nat _ a s1.heap.objs.size:=by obtain ⟨o,n,e,_⟩:=pl;exact Heap.lt_size e
 have lb:@LT.lt Nat _ b s1.heap.objs.size:=by obtain ⟨o,n,e,_⟩:=pl2;exact Heap.lt_size e
 refine call_zip_2 pl.isList pl2.isList fun h' hz hTI hTO h1 h2 hsz hk=>?_
 refine wpAny_pyIter_zip hz ?_
 have I2:Inv X pins σ H1 { s1 with heap:=h' }:=I1.kept (t':=s1.toks) hk
 refine ⟨s1.heap.objs.size + 4,[s1.heap.objs.size + 4,s1.heap.objs.size + 2,s1.heap.objs.size + 3,s1.heap.objs.size,s1.heap.objs.size + 1],_,_,H1,rfl,I2,Gc a b (s1.heap.objs.size + 4) xs ys (s1.heap.objs.size + 2) (s1.heap.objs.size + 3) s1.heap.objs.size (s1.heap.objs.size + 1) ?_,⟨hz,hTI,⟨_,_,hTO⟩,h1,h2⟩,fun c hc=>?_,q⟩
 ·constructor <;> (refine nne ?_;lia)
 ·have hle:@LE.le Nat _ s1.heap.objs.size c:=by
   simp only [List.mem_cons,List.mem_nil_iff,or_false] at hc
   rcases hc with rfl | rfl | rfl | rfl | rfl <;> lia
  exact I1.fpOk hle (I1.hok.fresh hle)
theorem G1 {K:PySem.W.Frag} {a b:Addr} {xs ys:List V} {g:TG} {tb:TS} {D:Ends} {σ:St} {H:Hp} (hlen:xs.length=ys.length) (Pv:Nat→St→Hp→Prop) (h0:Pv 0 σ H) (hl:∀ i σ H,i≤xs.length→Pv i σ H→SqL K H a xs∧SqL K H b ys)
 (hs:∀ i u v p σ H,xs[i]?=some u→ys[i]?=some v→H p=none→Pv i σ H→g (.ref p) σ (upd H p (.tup [u,v])) fun σ2 H2=>tb { D with nx:=Pv (i + 1),ct:=Pv (i + 1),bk:=D.nx } σ2 H2) (hd:∀ σ H,Pv xs.length σ H→D.nx σ H) :
 ∃ W:Nat→Nat→St→Hp→Prop,(∃ m,W 0 m σ H)∧∀ i m σ H,W i m σ H →
  ((Itz K a b xs ys).stop i H∧D.nx σ H)∨((Itz K a b xs ys).go i H∧∃ N:St→Hp→Prop,(28:)∧∀ x H',(Itz K a b xs ys).yld i H x H'→g x σ H' fun σ2 H2=>tb { D with nx:=N,ct:=N,bk:=D.nx } σ2 H2):=by
 refine ⟨fun i m σ H=>m=xs.length - i∧i≤xs.length∧Pv i σ H,⟨xs.length - 0,rfl,Nat.zero_le _,h0⟩,?_⟩
 rintro i m σ H ⟨rfl,hi,p⟩
 obtain ⟨qa,qb⟩:=hl i σ H hi p
 by_cases h:i < xs.length
 ·refine .inr ⟨⟨qa,qb,h,by lia⟩,Pv (i + 1),fun σ' H' p'=>⟨xs.length - (i + 1),by lia,rfl,h,p'⟩,?_⟩
  rintro x H' ⟨p',u,v,hp,rfl,rfl,hu,hv⟩
  exact hs i u v p' σ H hu hv hp p
 ·have e:i=xs.length:=by lia
  subst e
  exact .inl ⟨⟨qa,qb,.inl (10:)⟩,hd σ H p⟩
end
end L2
namespace L2
open PySem PySem.Spec PyProof.Rows
section
variable {X:Cx}
end
section
variable {prog:Program} {w:World} {A:Around} {R:Result→Shared→Prop} {I:Addr} {fp wr:List Addr} {n:Nat} {P:Nat→Value→Prop} {St:Nat→Heap→Prop}
end
section
variable {prog:Program} {w:World} {A:Around} {E:Value→Shared→Prop} {s:Shared}
end
end L2
namespace L2
open PySem PySem.Spec PyProof.Rows
section
variable {X:Cx} {x:Str} {p pos:Pos} {e:Expr} {es:List Expr} {kws:List Keyword} {t tk:TA} {id:String} {ks:List Str} {r:List V→List V→Hp→VK→Prop}
end
end L2
namespace L2
open PySem PySem.Spec PyProof.Rows
structure CompG (X:Cx) (xs caps:List Str) (cap:List Nat) (scope:Scope) (cl:List (Str × Addr)):Prop where
 clos:closureFor scope X.env=pure cl
 cell:∀ y ∈ scope.names,y.2≠.cell
 kind:scope.kind=.function
 names:∀ y ∈ scope.names,y.2=.local→scope.names.lookup y.1=some .local
 lx:∀ x ∈ xs,scope.names.lookup x=some .local
 nd:(xs ++ caps).Nodup
 from_:∀ y c,cl.lookup y=some c→X.env.cells.lookup y=some c
 has:∀ y,((relabel scope X.env).names.lookup y=some .cell∨(relabel scope X.env).names.lookup y=some .free)→∃ c,cl.lookup y=some c
 len:cap.length=caps.length
 cps:∀ (i:Nat) (y:Str),caps[i]?=some y→∃ j,cap[i]?=some j∧X.N[j]?=some y∧X.env.scope.names.lookup y=some .cell∧(relabel scope X.env).names.lookup y=some .cell
def Jr (cap:List Nat) (σ:St):St:=cap.map fun j=>(σ[j]?).getD none
def JK (n:Nat) (wi:TI) (cap:List Nat) (g:TG) (tt:TT) (te:TE):TE:=fun σ H Q=>wi σ H fun J H1=>∀ acc,H1 acc=none→∃ W:Nat→Nat→Hp→Prop,(∃ m,W 0 m (upd H1 acc (.lst [])))∧∀ i m H2,W i m H2 →
 (J.stop i H2∧Q (.ref acc) H2)∨(J.go i H2∧∀ x H3,J.yld i H2 x H3→∀ as:St,as.length=n→g x (as ++ Jr cap σ) H3 fun σ4 H4=>(∃ bs:St,bs.length=n∧σ4=bs ++ Jr cap σ)∧tt σ4 H4 fun ok H5=>if ok=true then
  te σ4 H5 (36:)
  else ∃ m',m' < m∧W (i + 1) m' H5)
theorem JQ {X:Cx} {elt iter tg:Expr} {xs:List Str} {ifs:List Expr} {scope:Scope} {pos pos':Pos} {wi:TI} {g:TG} {tt:TT} {te:TE} {cl:List (Str × Addr)} {caps:List Str} {cap:List Nat}
 (O:CompG X xs caps cap scope cl) (hc:X.calm=true) (hi:PI X tg iter wi) (hg:∀ C fp s₀ H₀,PG (22:) tg g)
 (ht:∀ C fp s₀ H₀,PF (22:) ifs tt)
 (hs:∀ x,foldedSetIterable iter X.env x=pure x) {pins:List (7:)} {s:Shared} {σ:St} {H:Hp} {Q:VK} {use:Option (Value→Sem Unit)} {QQ:Value→Shared→Prop} (I:Inv X pins σ H s)
 (h:JK xs.length wi cap g tt te σ H Q)
 (hfin:∀ D C H' s',Inv X pins σ H' s'→OwnAt X pins H' s' C→Q (.ref D) H'→compPost (6:) X.A X.xe use QQ (.ref D) C (.ok .next) s')
 (hw:∀ {fp:List Addr} {s3:Shared} {H3:Hp} {D:Value} {p9:List (7:)} {s9:Shared} {σ9:St} {H9:Hp} {Q9:VK},Inv X pins σ H3 s3→(∀ b ∈ fp,(b ∈ X.ex∨X.s₀.heap.objs.size≤b)∧b≠X.env.locals∧(∀ x c,X.env.cells.lookup x=some c→c≠b)∧∀ p ∈ X.pn ++ pins,p.1≠b)→Inv (16:) p9 σ9 H9 s9→te σ9 H9 Q9 →
  wpAny (6:) X.A (eval elt (compEnvC scope cl s3.heap.objs.size X.env)) (EP (16:) p9 σ9 Q9) (notedBy (6:) X.A (compEnvC scope cl s3.heap.objs.size X.env) (fun x s'=>compPost (6:) X.A X.xe use QQ D s3.heap.objs.size (.error x) s')) s9) :
 wpAny (6:) X.A (comprehension (32:) scope X.env pos' (newList []) false (eval iter X.env) use) QQ X.xe s:=by
 refine wpAny_comprehension_free rfl hs O.clos O.kind O.names (thn (hi pins s σ H _ I h) fun v s1 h1=>thn h1 fun itv s2 h2=>?_)
 obtain ⟨it,fp,tn,J,H1,e,I2,T,t0,f2,hR⟩:=h2
 subst e
 refine wpAny_newObj_type (wpAny_newFunctionEnv O.cell (by intro y hy;simp at hy) (fun h₁ hns hsb=>?_) O.kind)
 have hacc:H1 s2.heap.objs.size=none:=I2.fresh
 obtain ⟨W,⟨m0,w0⟩,turn⟩:=hR s2.heap.objs.size hacc
 have I3:Inv X pins σ (upd H1 s2.heap.objs.size (.lst [])) { s2 with heap:=s2.heap.push { cls:=.type "list", data:=.seq ([]:List Value).toArray } }:=I2.lnew (t':=s2.toks) (ys:=[]) (its:=[]) .nil (Nat.zero_le _)
 generalize hs3:({ s2 with heap:=s2.heap.push { cls:=.type "list", data:=.seq ([]:List Value).toArray } }:Shared)=s3 at hns hsb I3 ⊢
 generalize hD:s2.heap.objs.size=D at I3 w0 turn hacc ⊢
 generalize hH3:upd H1 D (.lst [])=H3 at I3 w0
 have keep3:∀ b o,s3.heap.get? b=some o→h₁.get? b=some o:=fun b o e=>(hsb.2 b (Nat.ne_of_lt (57:))).trans (Heap.get?_push_of_some _ e)
 have hfp3:∀ b ∈ fp,H3 b=none:=fun b hb=>by
  rw [← hH3,Qi]
  ·exact (f2 b hb).1
  ·intro z
   obtain ⟨o,e,_⟩:=T.obj _ _ t0 b hb
   exact absurd (57:) (by rw [z,hD];exact Nat.lt_irrefl _)
 have hCfresh:H3 s3.heap.objs.size=none:=I3.fresh
 have hCfp:∀ b ∈ fp,b≠s3.heap.objs.size:=fun b hb z=>by
  obtain ⟨o,e,_⟩:=T.obj _ _ t0 b hb
  have h2:s3.heap.objs.size=s2.heap.objs.size + 1:=by rw [← hs3];exact Heap.size_push ..
  exact absurd (57:) (by rw [z,h2];exact Nat.not_lt.mpr (Nat.le_succ _))
 have t3:tn 0 h₁:=T.keep _ _ _ t0 fun b hb o e=>keep3 b o (by rw [← hs3];exact Heap.get?_push_of_some _ e)
 have ok':(16:).Ok:=by
  refine ⟨I3.ok.mod,O.kind,I3.ok.glob,I3.ok.blt,Nat.le_refl _,fun y z c e1 e2=>I3.ok.inj y z c (O.from_ y c e1) (O.from_ z c e2),fun y hy=>O.has y hy,fun y c z _=>(nomatch z),I3.ok.hd,I3.ok.frames,.inl rfl,fun b hb=>⟨hCfp b hb,fun y c e=>?_⟩,I3.bs,Nat.le_trans I3.ok.bsz I3.sz,fun b o e hb=>?_,fun b hb z=>?_,I3.stack,I3.stkFree⟩
  ·exact (f2 b hb).2.2.2.2.1 y c (O.from_ y c e)
  ·rcases (f2 b hb).2.2.2.1 with q | q
   ·exact I3.ok.noex b o e q
   ·exact absurd (Nat.lt_of_lt_of_le (57:) (Nat.le_trans I3.ok.bsz q)) (Nat.lt_irrefl _)
  ·rcases List.mem_cons.mp (I3.stkSub b z) with q | q
   ·exact (f2 b hb).2.1 q
   ·exact (f2 b hb).2.2.1 q
 have I4:Inv (16:) [] (List.replicate xs.length none ++ Jr cap σ) H3 { s3 with heap:=h₁,toks:=s3.toks + ([]:List (Str × Value)).length }:=by
  obtain ⟨m,hn,hl⟩:=id I3.loc
  refine ⟨ok',rfl,I3.bare,Un.kept keep3,⟨_,hns,fun i y v e1 e2 e3=>?_⟩,fun y c e=>?_,hCfresh,fun y c e=>I3.freeC y c (O.from_ y c e),fun p hp=>(nomatch hp),I3.hok.kept keep3,?_⟩
  ·by_cases hix:i < xs.length
   ·rw [List.getElem?_append_left (by rw [List.length_replicate];exact hix),List.getElem?_replicate,if_pos hix] at e2
    cases e2
   ·have e1':caps[i - xs.length]?=some y:=by
     have e1'':(xs ++ caps)[i]?=some y:=e1
     rwa [List.getElem?_append_right (12:)] at e1''
    obtain ⟨j,hj,hN,hk,hk'⟩:=O.cps _ y e1'
    have e2':(σ[j]?).getD none=some v:=by
     rw [List.getElem?_append_right (by rw [List.length_replicate];lia),List.length_replicate] at e2
     unfold Jr at e2
     simpa [hj] using e2
    have e2'':σ[j]?=some (some v):=by
     cases q:σ[j]? with
     | none=>rw [q] at e2';cases e2'
     | some a=>rw [q] at e2';exact congrArg some e2'
    obtain ⟨u,r,l⟩:=hl j y v hN e2'' (.inr (.inl hk))
    refine ⟨u,r,?_⟩
    rcases l with ⟨k,_⟩ | ⟨k,c,e,z⟩
    ·have k':X.env.scope.names.lookup y=some .local:=k
     rw [hk] at k';cases k'
    ·obtain ⟨c',hc'⟩:=O.has y (.inl hk')
     have:c'=c:=Option.some.inj ((O.from_ y c' hc').symm.trans e)
     subst this
     refine .inr ⟨.inl hk',c',hc',?_⟩
     obtain ⟨o,ho,hd⟩:=z
     exact ⟨o,keep3 _ _ ho,hd⟩
  ·obtain ⟨v,o,ho,hd⟩:=I3.cell y c (O.from_ y c e)
   exact ⟨v,o,keep3 _ _ ho,hd⟩
  ·show (List.replicate xs.length none ++ Jr cap σ).length=(xs ++ caps).length
   simp [Jr,O.len]
 have fin:∀ (H':Hp) (σ':St) (s':Shared),Inv (16:) [] σ' H' s'→Q (.ref D) H' →
  compPost (6:) X.A X.xe use QQ (.ref D) s3.heap.objs.size (.ok .next) s':=fun H' σ' s' I' q=>by
  obtain ⟨m,hn,_⟩:=id I'.loc
  have hU:Un (frs X.stack) fp H3 H' s3.heap s'.heap:=I'.base
  have hok2:HOk X.prog X.w H' s'.heap:=I'.hok
  have os':s'.os=s3.os:=I'.os
  have I6:Inv X pins σ H' s':=I3.call' (ch:=fp) os' hU hok2 I'.bare (fun b hb=>⟨(f2 b hb).2.2.2.1,(f2 b hb).2.1,(f2 b hb).2.2.2.2⟩)
  refine hfin D _ H' s' I6 ⟨⟨m,hn⟩,I'.free,Nat.ne_of_gt I3.lt,I3.sz,fun y c e z=>?_,fun p hp z=>?_⟩ q
  ·obtain ⟨v,hv⟩:=I3.cell y c e
   exact absurd hv.lt (by rw [z];exact Nat.lt_irrefl _)
  ·exact absurd (Heap.lt_size (I3.pin p hp).1) (by rw [z];exact Nat.lt_irrefl _)
 have stat:∀ {H':Hp},(∀ b ∈ fp,H' b=none)→∀ b ∈ fp,YW (16:) [] H' b:=fun hn b hb =>
  ⟨hn b hb,hCfp b hb,ok'.exfs b hb,.inl hb,fun y c e=>(f2 b hb).2.2.2.2.1 y c (O.from_ y c e),fun p hp=>(nomatch hp)⟩
 have loop:codeAny (6:) X.A (.compLoop (32:) 0 (.ref it) (.ref D) (compEnvC scope cl s3.heap.objs.size X.env))
  (compPost (6:) X.A X.xe use QQ (.ref D) s3.heap.objs.size) { s3 with heap:=h₁,toks:=s3.toks + ([]:List (Str × Value)).length }:=by
  refine codeAny_loop rfl (fun n s'=>∃ i as H',as.length=xs.length∧Inv (16:) [] (as ++ Jr cap σ) H' s'∧tn i s'.heap∧(∀ b ∈ fp,H' b=none)∧W i n H') ?_ m0 ⟨0,_,H3,List.length_replicate,I4,t3,hfp3,w0⟩
  rintro n s5 ⟨i,as,H5,has,I5,st5,fr5,w5⟩
  show wpAny _ _ ((compTurn (32:) 0 (.ref it) (.ref D) (compEnvC scope cl s3.heap.objs.size X.env)).onRaise (fun x=>do noteFrame x (compEnvC scope cl s3.heap.objs.size X.env);theTreesLotGoes x)) _ _ s5
  refine wpAny_noted ?_
  rw [compTurn_list]
  refine wpAny_bind (wpAny_standAt (wpAny_bind ?_))
  have bad:∀ {M:Model} {A:Around} {α:Type} {t:Sem α} {P:α→Shared→Prop} {E':Value→Shared→Prop} {s':Shared},wpAny M A t P (fun _ _=>False) s'→wpAny M A t P E' s':=fun h=>wpAny_mono h (fun _ _ q=>q) fun _ _ z=>z.elim
  rcases turn i n H5 w5 with ⟨stop,qn⟩ | ⟨go,step⟩
  ·refine bad (thn (T.done (16:) rfl rfl rfl hc i [] s5 _ H5 (fun _ _=>False) I5 (stat fr5) st5 stop) fun r s6 ⟨hr,I6⟩=>?_)
   subst hr
   exact wpAny_pure (fin H5 _ s6 I6 qn)
  ·refine bad (thn (T.item (16:) rfl rfl rfl hc i [] s5 _ H5 (fun _ _=>False) I5 (stat fr5) st5 go) fun r s6 ⟨u,hr,h6⟩=>?_)
   subst hr
   refine wpAny_bind (bad (thn h6 fun _ s7 ⟨y,H7,I7,r7,y7,st7,fr7⟩=>?_))
   have I7':=I7.pinned (stat fr7) (T.obj _ _ st7)
   have goal:=step y H7 y7 as has
   refine wpAny_bind (bad (thn (hg s3.heap.objs.size fp s3 H3 _ s7 _ H7 y _ _ I7' r7 goal) fun _ s8 ⟨σ8,H8,I8,⟨bs,hbs,eσ⟩,goal8⟩=>?_))
   subst eσ
   refine wpAny_bind (bad (thn (ht s3.heap.objs.size fp s3 H3 _ s8 _ H8 _ I8 goal8) fun okb s9 ⟨H9,I9,q9⟩=>?_))
   have again:∀ {H10:Hp} {s10:Shared} {m':Nat},Inv (16:) ([] ++ Uh fp s7.heap) (bs ++ Jr cap σ) H10 s10→m' < n→W (i + 1) m' H10 →
    ∃ m,m < n∧∃ i as H',as.length=xs.length∧Inv (16:) [] (as ++ Jr cap σ) H' s10∧tn i s10.heap∧(∀ b ∈ fp,H' b=none)∧W i m H':=fun {H10 s10 m'} I10 hm w10=>by
    refine ⟨m',hm,i + 1,bs,H10,hbs,I10.unpinned,T.keep _ _ _ st7 fun b hb o e=>(I10.pin (b,o) (59:)).1,fun b hb=>?_,w10⟩
    obtain ⟨o,e,d⟩:=T.obj _ _ st7 b hb
    exact (I10.pin (b,o) (59:)).2.1
   cases okb with
   | false =>
    rw [if_neg Bool.false_ne_true] at q9
    obtain ⟨m',hm,w9⟩:=q9
    exact wpAny_pure ⟨rfl,again I9 hm w9⟩
   | true =>
    rw [if_pos rfl] at q9
    refine wpAny_bind (wpAny_bind (thn (hw I3 (fun b hb=>⟨(f2 b hb).2.2.2.1,(f2 b hb).2.1,(f2 b hb).2.2.2.2⟩) I9 q9) fun yv s10 ⟨yy,H10,I10,r10,ys,hys,hlen,m',hm,w10⟩=>?_))
    refine wpAny_bind (bad (thn (Q5 (X:=QD X (xs ++ caps) scope cl s3.heap.objs.size fp s3 H3) _ s10 _ H10 (.ref D) [yy] (.ref D) [yv] (fun _ H11=>W (i + 1) m' H11) I10 rfl (.cons r10 .nil) ⟨D,ys,yy,rfl,rfl,hys,hlen,w10⟩) fun _ s11 ⟨_,H11,I11,_,q11⟩=>?_))
    exact wpAny_pure (wpAny_pure ⟨rfl,again I11 hm q11⟩)
 refine codeAny_compStart_list loop (T.self _ 0 _ _ _ t3 loop)
theorem Uf {X:Cx} {elt iter tg:Expr} {xs:List Str} {ifs:List Expr} {scope:Scope} {pos pos':Pos} {wi:TI} {g:TG} {tt:TT} {te:TE} {cl:List (Str × Addr)} {caps:List Str} {cap:List Nat}
 (O:CompG X xs caps cap scope cl) (hc:X.calm=true) (hi:PI X tg iter wi) (hg:∀ C fp s₀ H₀,PG (22:) tg g)
 (ht:∀ C fp s₀ H₀,PF (22:) ifs tt) (he:∀ C fp s₀ H₀,PE (22:) elt te)
 (hs:∀ x,foldedSetIterable iter X.env x=pure x) {pins:List (7:)} {s:Shared} {σ:St} {H:Hp} {Q:VK} {use:Option (Value→Sem Unit)} {QQ:Value→Shared→Prop} (I:Inv X pins σ H s)
 (h:JK xs.length wi cap g tt te σ H Q)
 (hfin:∀ D C H' s',Inv X pins σ H' s'→OwnAt X pins H' s' C→Q (.ref D) H'→compPost (6:) X.A X.xe use QQ (.ref D) C (.ok .next) s') :
 wpAny (6:) X.A (comprehension (32:) scope X.env pos' (newList []) false (eval iter X.env) use) QQ X.xe s :=
 JQ O hc hi hg ht hs I h hfin fun _ _ I9 q9=>wpAny_mono (he _ _ _ _ _ _ _ _ _ I9 q9) (fun _ _ q=>q) fun _ _ hx=>hx.elim
theorem QO {X:Cx} {elt iter tg:Expr} {xs:List Str} {ifs:List Expr} {scope:Scope} {pos:Pos} {wi:TI} {g:TG} {tt:TT} {te:TE} {cl:List (Str × Addr)} {caps:List Str} {cap:List Nat}
 (O:CompG X xs caps cap scope cl) (hc:X.calm=true) (hi:PI X tg iter wi) (hg:∀ C fp s₀ H₀,PG (22:) tg g)
 (ht:∀ C fp s₀ H₀,PF (22:) ifs tt) (he:∀ C fp s₀ H₀,PE (22:) elt te)
 (hs:∀ x,foldedSetIterable iter X.env x=pure x:=by intro _;rfl) :
 PE X (32:) (JK xs.length wi cap g tt te):=by
 intro pins s σ H Q I h
 rw [eval_ListComp]
 exact Uf (use:=none) O hc hi hg ht he hs I h fun D C H' s' I' o q=>by
  obtain ⟨m,hn⟩:=o.ns
  exact ⟨m,hn,fun h' hb=>⟨.ref D,H',o.go I' hb,rfl,q⟩⟩
theorem GR {X:Cx} {elt iter tg:Expr} {xs:List Str} {y:Str} {py:Pos} {ifs:List Expr} {scope:Scope} {pos spos:Pos} {wi:TI} {g:TG} {tt:TT} {te:TE} {cl:List (Str × Addr)} {caps:List Str} {cap:List Nat} {i:Nat}
 (O:CompG X xs caps cap scope cl) (hc:X.calm=true) (hi:PI X tg iter wi) (hg:∀ C fp s₀ H₀,PG (22:) tg g)
 (ht:∀ C fp s₀ H₀,PF (22:) ifs tt) (he:∀ C fp s₀ H₀,PE (22:) elt te)
 (hN:X.N.Nodup) (hy:X.N[i]?=some y) (hl:X.env.scope.names.lookup y=some .local)
 (hsw:swapsWith (32:) (some (.Name y py)) spos.line X.env=pure true:=by rfl)
 (hs:∀ x,foldedSetIterable iter X.env x=pure x:=by intro _;rfl) :
 PS X (.Assign [.Name y py] (32:) spos) (Mp (JK xs.length wi cap g tt te) (Q8 i)):=by
 intro pins s σ H D I h
 rw [exec_Assign_Name_used _ _ _ _ hsw]
 refine wpAny_bind (wpAny_standAt (wpAny_bind ?_))
 show wpAny _ X.A (do let _ ← comprehension (32:) scope X.env _ (newList []) false (eval iter X.env) (some (assign (.Name y py) X.env))) _ _ s
 refine wpAny_bind (thn (Uf (use:=some (assign (.Name y py) X.env)) (QQ:=fun _ s'=>SP X pins D .next s') O hc hi hg ht he hs I h fun Dd C H' s' I' o q=>?_) fun _ s' hq=>wpAny_pure (wpAny_pure hq))
 obtain ⟨m,hn⟩:=o.ns
 show wpAny _ X.A (assign (.Name y py) X.env (.ref Dd)) _ _ s'
 refine wpAny_assign_Name (UQ (v:=.ref Dd) I' hN hy (.inl hl) rfl (fun s2 I2 sb=>?_) (.inr hl))
 obtain ⟨a,sb,ha⟩:=sb
 have hCa:C≠a:=by
  rcases ha with z | z
  ·rw [z];exact o.loc
  ·exact Ne.symm (o.cells y a z)
 have o2:OwnAt X pins H' s2 C:=⟨⟨m,hn.sameBut sb hCa⟩,o.free,o.loc,o.above,o.cells,o.pins⟩
 refine ⟨m,hn.sameBut sb hCa,fun h' hb=>?_⟩
 exact ⟨_,H',o2.go I2 hb,q⟩
section
variable {X:Cx} {xs caps:List Str} {cap:List Nat} {scope:Scope} {cl:List (Str × Addr)}
theorem YS {x:Str} {px:Pos} (O:CompG X [x] caps cap scope cl):∀ C fp s₀ H₀,PG (QD X ([x] ++ caps) scope cl C fp s₀ H₀) (.Name x px) (Q8 0):=fun C fp s₀ H₀ =>
 Qy (X:=QD X ([x] ++ caps) scope cl C fp s₀ H₀) (i:=0) O.nd rfl (.inl (lookup_relabel_local (O.lx x (29:)))) (.inr (lookup_relabel_local (O.lx x (29:))))
theorem Ly {x y:Str} {px py pos:Pos} {k:Nat} (O:CompG X [x,y] caps cap scope cl) (hc:X.calm=true):∀ C fp s₀ H₀,PG (QD X ([x,y] ++ caps) scope cl C fp s₀ H₀) (.Tuple [.Name x px,.Name y py] k pos) (Lp X.K 2 (UB (Q8 0) (UB (Q8 1) GH))):=fun C fp s₀ H₀ =>
 YI (X:=QD X ([x,y] ++ caps) scope cl C fp s₀ H₀) hc (QF (Qy (i:=0) O.nd rfl (.inl (lookup_relabel_local (O.lx x (29:)))) (.inr (lookup_relabel_local (O.lx x (29:)))))
  (QF (Qy (i:=1) O.nd rfl (.inl (lookup_relabel_local (O.lx y (29:)))) (.inr (lookup_relabel_local (O.lx y (29:))))) ZT))
end
theorem UU {k:NameKind} {y:Str}:∀ {l:List (Str × NameKind)},l.lookup y=some k→(y,k) ∈ l
 | [],h=>by simp at h
 | (n,j) :: r,h=>by
  cases hx:y == n with
  | true =>
   simp only [List.lookup_cons,hx] at h
   have:y=n:=by simpa using hx
   cases h
   rw [this];exact List.mem_cons_self
  | false =>
   simp only [List.lookup_cons,hx] at h
   exact List.mem_cons_of_mem _ (UU h)
theorem Uq {y:Str} {c:Addr}:∀ {l:List (Str × Addr)},l.lookup y=some c→(y,c) ∈ l
 | [],h=>by simp at h
 | (n,j) :: r,h=>by
  cases hx:y == n with
  | true =>
   simp only [List.lookup_cons,hx] at h
   have:y=n:=by simpa using hx
   cases h
   rw [this];exact List.mem_cons_self
  | false =>
   simp only [List.lookup_cons,hx] at h
   exact List.mem_cons_of_mem _ (Uq h)
theorem Us {y:Str} {c:Addr}:∀ {l:List (Str × Addr)},(y,c) ∈ l→∃ c',l.lookup y=some c'
 | [],h=>by cases h
 | (n,j) :: r,h=>by
  cases hx:y == n with
  | true=>exact ⟨j,by simp only [List.lookup_cons,hx]⟩
  | false =>
   simp only [List.lookup_cons,hx]
   rcases List.mem_cons.mp h with z | z
   ·have:y=n:=congrArg Prod.fst z
    rw [this] at hx
    simp at hx
   ·exact Us z
theorem Yp {env:Env} {y:Str} (hf:env.scope.kind=.function) (hy:env.kindOf y=some .cell):∀ {names:List (Str × NameKind)},names.lookup y=some .free →
 (names.map fun (n,k)=>if (k == NameKind.free && env.scope.kind == .function && env.kindOf n == some .cell) then (n,NameKind.cell) else (n,k)).lookup y=some .cell
 | [],h=>by simp at h
 | (n,k) :: r,h=>by
  show List.lookup y ((if (k == NameKind.free && env.scope.kind == .function && env.kindOf n == some .cell)=true then (n,NameKind.cell) else (n,k)) :: _)=_
  cases hx:y == n with
  | true =>
   simp only [List.lookup_cons,hx] at h
   have e:y=n:=by simpa using hx
   cases h
   rw [← e,hf,hy]
   simp
  | false =>
   simp only [List.lookup_cons,hx] at h
   have ih:=Yp hf hy h
   split
   ·simp only [List.lookup_cons,hx];exact ih
   ·simp only [List.lookup_cons,hx];exact ih
def UF (names:List (Str × NameKind)):List Str:=names.filterMap fun z=>if z.2 == NameKind.free then some z.1 else none
theorem Z2 {env:Env}:∀ (names:List (Str × NameKind)) (caps:List Str) (cs:List Addr) (acc:List (Str × Addr)),UF names=caps→caps.map (fun y=>env.cells.lookup y)=cs.map some →
 (forIn names acc fun (x:Str × NameKind) (r:List (Str × Addr))=>(if (x.2 == NameKind.free)=true then do let a ← cellOf env x.1;pure (ForInStep.yield ((x.1,a) :: r)) else pure (ForInStep.yield r):Sem (ForInStep (List (Str × Addr)))))=(pure ((caps.zip cs).reverse ++ acc):Sem (List (Str × Addr)))
 | [],caps,cs,acc,h1,h2=>by
  have:caps=[]:=h1.symm
  subst this
  simp
 | (n,k) :: r,caps,cs,acc,h1,h2=>by
  rw [List.forIn_cons]
  by_cases hk:(k == NameKind.free)=true
  ·have e1:caps=n :: UF r:=by
    rw [← h1];unfold UF
    rw [List.filterMap_cons]
    simp only [hk,if_true]
   subst e1
   cases cs with
   | nil=>simp at h2
   | cons c cs =>
    simp only [List.map_cons,List.cons.injEq] at h2
    have hcell:cellOf env n=pure c:=by unfold cellOf;rw [h2.1]
    simp only [hk,if_true,hcell,pure_bind]
    rw [Z2 r _ cs ((n,c) :: acc) rfl h2.2]
    simp
  ·have e1:caps=UF r:=by
    rw [← h1];unfold UF
    rw [List.filterMap_cons]
    simp only [hk]
    rfl
   subst e1
   simp only [hk,if_false,pure_bind]
   exact Z2 r _ cs acc rfl h2
theorem YZ {env:Env} {scope:Scope} {caps:List Str} {cs:List Addr} (hf:UF scope.names=caps) (hc:caps.map (fun y=>env.cells.lookup y)=cs.map some):closureFor scope env=pure (caps.zip cs).reverse:=by
 have h:=Z2 (env:=env) scope.names caps cs [] hf hc
 rw [List.append_nil] at h
 unfold closureFor
 simp only [bind_pure]
 exact h
theorem CompG.many {X:Cx} {xs caps:List Str} {cap:List Nat} {cs:List Addr} {scope:Scope} (hk:scope.kind=.function) (hf:X.env.scope.kind=.function) (hfr:UF scope.names=caps)
 (hnc:∀ z ∈ scope.names,z.2≠.cell) (hl:∀ y ∈ scope.names,y.2=.local→scope.names.lookup y.1=some .local) (hlx:∀ x ∈ xs,scope.names.lookup x=some .local) (hnd:(xs ++ caps).Nodup)
 (hfl:∀ y ∈ caps,scope.names.lookup y=some .free) (hce:caps.map (fun y=>X.env.scope.names.lookup y)=caps.map fun _=>some .cell) (hcs:caps.map (fun y=>X.env.cells.lookup y)=cs.map some)
 (hN:cap.map (fun j=>X.N[j]?)=caps.map some):CompG X xs caps cap scope (caps.zip cs).reverse:=by
 have hlen:caps.length=cs.length:=by simpa using congrArg List.length hcs
 have at_cs:∀ (i:Nat) (y:Str),caps[i]?=some y→∃ c,cs[i]?=some c∧X.env.cells.lookup y=some c:=fun i y h=>by
  have e:=congrArg (fun l=>l[i]?) hcs
  simp only [List.getElem?_map,h] at e
  cases q:cs[i]? with
  | none=>rw [q] at e;simp at e
  | some c=>rw [q] at e;exact ⟨c,rfl,by simpa using e⟩
 refine ⟨YZ hfr hcs,hnc,hk,hl,hlx,hnd,fun y c h=>?_,fun y h=>?_,?_,fun i y h=>?_⟩
 ·have hm:=Uq h
  rw [List.mem_reverse] at hm
  obtain ⟨i,hi,e⟩:=List.getElem_of_mem hm
  have hi1:i < caps.length:=by rw [List.length_zip] at hi;lia
  have hi2:i < cs.length:=by rw [List.length_zip] at hi;lia
  rw [List.getElem_zip] at e
  obtain ⟨c',e1,e2⟩:=at_cs i caps[i] (List.getElem?_eq_getElem hi1)
  have e3:caps[i]=y:=congrArg Prod.fst e
  have e4:cs[i]=c:=congrArg Prod.snd e
  rw [List.getElem?_eq_getElem hi2,e4] at e1
  cases e1
  rw [← e3];exact e2
 ·have hm:y ∈ caps:=by
   have aux:∀ k:NameKind,(k=.cell∨k=.free)→(relabel scope X.env).names.lookup y=some k→y ∈ caps:=fun k hk h=>by
    have h1:=UU h
    obtain ⟨z,hz,e⟩:=List.mem_map.mp h1
    obtain ⟨n,kk⟩:=z
    have hfree:kk=.free∧n=y:=by
     dsimp only at e
     split at e
     ·rename_i q
      simp only [Bool.and_eq_true] at q
      exact ⟨by simpa using q.1.1,congrArg Prod.fst e⟩
     ·have e2:kk=k:=congrArg Prod.snd e
      refine ⟨?_,congrArg Prod.fst e⟩
      rcases hk with z | z
      ·exact absurd (e2.trans z) (hnc _ hz)
      ·exact e2.trans z
    rw [← hfr]
    refine List.mem_filterMap.mpr ⟨(n,kk),hz,?_⟩
    rw [hfree.1,hfree.2];rfl
   rcases h with h | h
   ·exact aux _ (.inl rfl) h
   ·exact aux _ (.inr rfl) h
  obtain ⟨i,hi,e⟩:=List.getElem_of_mem hm
  have hi2:i < cs.length:=by lia
  refine Us (c:=cs[i]) ?_
  rw [List.mem_reverse]
  have hiz:i < (caps.zip cs).length:=by rw [List.length_zip];lia
  have:=List.getElem_mem hiz
  rw [List.getElem_zip,e] at this
  exact this
 ·have:=congrArg List.length hN
  simpa using this
 ·have e:=congrArg (fun l=>l[i]?) hN
  simp only [List.getElem?_map,h] at e
  have hm:=List.mem_of_getElem? h
  cases q:cap[i]? with
  | none=>rw [q] at e;simp at e
  | some j =>
   rw [q] at e
   have hcell:X.env.scope.names.lookup y=some .cell:=by
    have e2:=congrArg (fun l=>l[i]?) hce
    simpa only [List.getElem?_map,h,Option.map_some,Option.some.injEq] using e2
   exact ⟨j,rfl,by simpa using e,hcell,Yp hf hcell (hfl y hm)⟩
theorem Zd {J:It} {n N:Nat} {cs:St} {g:TG} {tt:TT} {te:TE} {H1:Hp} {acc:Addr} {Q:Hp→Prop} (Pv:Nat→List V→Hp→Prop) (h0:Pv 0 [] (upd H1 acc (.lst [])))
 (hstop:∀ ys H,Pv N ys H→J.stop N H∧Q H)
 (hstep:∀ i ys H,i < N→Pv i ys H→J.go i H∧∀ x H3,J.yld i H x H3→∀ as:St,as.length=n→g x (as ++ cs) H3 fun σ4 H4=>(∃ bs:St,bs.length=n∧σ4=bs ++ cs)∧tt σ4 H4 fun ok H5=>if ok=true then te σ4 H5 (VO N Pv acc i (N - i)) else ∃ m',m' < N - i∧WC N Pv (i + 1) m' H5) :
 ∃ W:Nat→Nat→Hp→Prop,(∃ m,W 0 m (upd H1 acc (.lst [])))∧∀ i m H2,W i m H2 →
  (J.stop i H2∧Q H2)∨(J.go i H2∧∀ x H3,J.yld i H2 x H3→∀ as:St,as.length=n→g x (as ++ cs) H3 fun σ4 H4=>(∃ bs:St,bs.length=n∧σ4=bs ++ cs)∧tt σ4 H4 fun ok H5=>if ok=true then
   te σ4 H5 (36:)
   else ∃ m',m' < m∧W (i + 1) m' H5):=by
 refine ⟨WC N Pv,⟨N - 0,rfl,Nat.zero_le _,[],h0⟩,?_⟩
 rintro i m H2 ⟨rfl,hi,ys,p⟩
 by_cases h:i < N
 ·exact .inr (hstep i ys H2 h p)
 ·have e:i=N:=by lia
  subst e
  exact .inl (hstop ys H2 p)
abbrev Gs (N:Nat) (Pv:Nat→List V→Hp→Prop) (acc:Addr) (i:Nat) (te:TE) (σ:St):Bool→Hp→Prop:=fun ok H5=>if ok=true then te σ H5 (VO N Pv acc i (N - i)) else ∃ m',m' < N - i∧WC N Pv (i + 1) m' H5
abbrev U8 (J:It) (n:Nat) (cs:St) (g:TG) (tt:TT) (te:TE) (H1:Hp) (acc:Addr) (Q:Hp→Prop):Prop :=
 ∃ W:Nat→Nat→Hp→Prop,(∃ m,W 0 m (upd H1 acc (.lst [])))∧∀ i m H2,W i m H2 →
  (J.stop i H2∧Q H2)∨(J.go i H2∧∀ x H3,J.yld i H2 x H3→∀ as:St,as.length=n→g x (as ++ cs) H3 fun σ4 H4=>(∃ bs:St,bs.length=n∧σ4=bs ++ cs)∧tt σ4 H4 fun ok H5=>if ok=true then
   te σ4 H5 (36:)
   else ∃ m',m' < m∧W (i + 1) m' H5)
section
variable {K:PySem.W.Frag} {a b acc:Addr} {xs zs:List V} {tt:TT} {te:TE} {cs:St} {H1:Hp} {Q:Hp→Prop}
theorem X4 (Pv:Nat→List V→Hp→Prop) (h0:Pv 0 [] (upd H1 acc (.lst []))) (hl:∀ i ys H,i≤xs.length→Pv i ys H→SqL K H a xs)
 (hs:∀ i x ys H,i < xs.length→xs[i]?=some x→Pv i ys H→tt (some x :: cs) H (Gs xs.length Pv acc i te (some x :: cs))) (hd:∀ ys H,Pv xs.length ys H→Q H):U8 (Itl K a) 1 cs (Q8 0) tt te H1 acc Q:=by
 refine Zd Pv h0 (fun ys H p=>⟨⟨xs,hl _ _ _ (10:) p,Nat.le_refl _⟩,hd ys H p⟩) fun i ys H hi p=>⟨⟨xs,xs[i],hl _ _ _ (Nat.le_of_lt hi) p,List.getElem?_eq_getElem hi⟩,?_⟩
 rintro x H3 ⟨rfl,hx⟩ as has
 obtain ⟨a0,rfl⟩ : ∃ a0,as=[a0]:=List.length_eq_one_iff.mp has
 exact ⟨⟨[some x],rfl,rfl⟩,hs i x ys _ hi (hx xs (hl _ _ _ (Nat.le_of_lt hi) p)) p⟩
theorem Xm (Pv:Nat→List V→Hp→Prop) (h0:Pv 0 [] (upd H1 acc (.lst []))) (hl:∀ i ys H,i≤xs.length→Pv i ys H→SqT K H a xs)
 (hs:∀ i x ys H,i < xs.length→xs[i]?=some x→Pv i ys H→tt (some x :: cs) H (Gs xs.length Pv acc i te (some x :: cs))) (hd:∀ ys H,Pv xs.length ys H→Q H):U8 (Itt K a) 1 cs (Q8 0) tt te H1 acc Q:=by
 refine Zd Pv h0 (fun ys H p=>⟨⟨xs,hl _ _ _ (10:) p,Nat.le_refl _⟩,hd ys H p⟩) fun i ys H hi p=>⟨⟨xs,xs[i],hl _ _ _ (Nat.le_of_lt hi) p,List.getElem?_eq_getElem hi⟩,?_⟩
 rintro x H3 ⟨rfl,hx⟩ as has
 obtain ⟨a0,rfl⟩ : ∃ a0,as=[a0]:=List.length_eq_one_iff.mp has
 exact ⟨⟨[some x],rfl,rfl⟩,hs i x ys _ hi (hx xs (hl _ _ _ (Nat.le_of_lt hi) p)) p⟩
theorem J9 {lo:Int} {n:Nat} (Pv:Nat→List V→Hp→Prop) (h0:Pv 0 [] (upd H1 acc (.lst [])))
 (hs:∀ i ys H,i < n→Pv i ys H→tt (some (.int (lo + i)) :: cs) H (Gs n Pv acc i te (some (.int (lo + i)) :: cs))) (hd:∀ ys H,Pv n ys H→Q H):U8 (Itr lo n) 1 cs (Q8 0) tt te H1 acc Q:=by
 refine Zd Pv h0 (fun ys H p=>⟨Nat.le_refl _,hd ys H p⟩) fun i ys H hi p=>⟨hi,?_⟩
 rintro x H3 ⟨rfl,rfl⟩ as has
 obtain ⟨a0,rfl⟩ : ∃ a0,as=[a0]:=List.length_eq_one_iff.mp has
 exact ⟨⟨[some _],rfl,rfl⟩,hs i ys _ hi p⟩
theorem Gr {as:St} (h:as.length=2):∃ a0 a1,as=[a0,a1]:=by
 match as,h with
 | [a0,a1],_=>exact ⟨a0,a1,rfl⟩
theorem X3 (Pv:Nat→List V→Hp→Prop) (h0:Pv 0 [] (upd H1 acc (.lst []))) (hl:∀ i ys H,i≤xs.length→Pv i ys H→SqL K H a xs)
 (hs:∀ i x ys H,i < xs.length→xs[i]?=some x→Pv i ys H→∃ p u v,x=.ref p∧SqT K H p [u,v]∧tt (some u :: some v :: cs) H (Gs xs.length Pv acc i te (some u :: some v :: cs))) (hd:∀ ys H,Pv xs.length ys H→Q H):U8 (Itl K a) 2 cs (Lp K 2 (UB (Q8 0) (UB (Q8 1) GH))) tt te H1 acc Q:=by
 refine Zd Pv h0 (fun ys H p=>⟨⟨xs,hl _ _ _ (10:) p,Nat.le_refl _⟩,hd ys H p⟩) fun i ys H hi p=>⟨⟨xs,xs[i],hl _ _ _ (Nat.le_of_lt hi) p,List.getElem?_eq_getElem hi⟩,?_⟩
 rintro x H3 ⟨rfl,hx⟩ as has
 obtain ⟨a0,a1,rfl⟩:=Gr has
 obtain ⟨q,u,v,rfl,hq,h⟩:=hs i x ys _ hi (hx xs (hl _ _ _ (Nat.le_of_lt hi) p)) p
 exact ⟨q,[u,v],rfl,hq,rfl,u,[v],rfl,v,[],rfl,rfl,⟨[some u,some v],rfl,rfl⟩,h⟩
end
end L2
namespace L2
open PySem PySem.Spec PyProof.Rows
section
variable {κ:Type} [DecidableEq κ]
def ZE (kvs:List (κ × V)) (k:κ):Option V:=(kvs.find? fun kv=>decide (kv.1=k)).map (·.2)
def Yu (kvs:List (κ × V)) (k:κ) (v:V):List (κ × V) :=
 if (kvs.any fun kv=>decide (kv.1=k))=true then kvs.map (fun kv=>if kv.1=k then (kv.1,v) else kv) else kvs ++ [(k,v)]
theorem ZK {p:κ × V} {r:List (κ × V)} {k:κ} (e:p.1=k):ZE (p :: r) k=some p.2:=by simp [ZE,List.find?_cons,e]
theorem ZJ {p:κ × V} {r:List (κ × V)} {k:κ} (e:¬ p.1=k):ZE (p :: r) k=ZE r k:=by simp [ZE,List.find?_cons,e]
theorem Ux (k:κ):∀ kvs:List (κ × V),(kvs.any fun kv=>decide (kv.1=k))=(ZE kvs k).isSome
 | []=>rfl
 | p :: r=>by
  rw [List.any_cons]
  by_cases e:p.1=k
  ·simp only [ZK e,decide_eq_true e,Bool.true_or,Option.isSome_some]
  ·rw [ZJ e,decide_eq_false e,Bool.false_or];exact Ux k r
theorem YL (kvs:List (κ × V)) (k:κ) (v:V):(Yu kvs k v).length≤kvs.length + 1:=by
 unfold Yu
 split
 ·rw [List.length_map];lia
 ·rw [List.length_append,List.length_cons,List.length_nil];lia
theorem Gk {kvs:List (κ × V)} {k:κ} (v:V) (h:ZE kvs k=none):Yu kvs k v=kvs ++ [(k,v)]:=by
 unfold Yu
 rw [Ux,h]
 exact if_neg (13:)
theorem RelO.isSome_eq {o:Option V} {u:Option Value} (r:RelO o u):o.isSome=u.isSome:=by
 cases o with
 | none=>cases u with
  | none=>rfl
  | some _=>exact (show False from r).elim
 | some _=>cases u with
  | none=>exact (show False from r).elim
  | some _=>rfl
theorem RelO.getD {o:Option V} {u:Option Value} {d:V} {d':Value} (r:RelO o u) (rd:RelV d d'):RelV (o.getD d) (u.getD d'):=by
 cases o with
 | none=>cases u with
  | none=>exact rd
  | some _=>exact (show False from r).elim
 | some _=>cases u with
  | none=>exact (show False from r).elim
  | some _=>exact r
theorem KV.val {kvs:List (κ × V)} {vs:List (κ × Value)} (r:KV kvs vs) (k:κ):RelO (ZE kvs k) (valueAt vs k):=by
 unfold KV at r
 induction r with
 | nil=>exact True.intro
 | @cons p q ps qs h t ih =>
  obtain ⟨h1,h2⟩:=h
  by_cases e:p.1=k
  ·have e':q.1=k:=h1.symm.trans e
   have b:valueAt (q :: qs) k=some q.2:=by simp [valueAt,List.find?_cons,e']
   rw [ZK e,b];exact h2
  ·have e':¬ q.1=k:=fun z=>e (h1.trans z)
   have b:valueAt (q :: qs) k=valueAt qs k:=by simp [valueAt,List.find?_cons,e']
   rw [ZJ e,b];exact ih
theorem KV.any {kvs:List (κ × V)} {vs:List (κ × Value)} (r:KV kvs vs) (k:κ):(kvs.any fun kv=>decide (kv.1=k))=vs.any fun kv=>decide (kv.1=k):=by
 unfold KV at r
 induction r with
 | nil=>rfl
 | cons h t ih=>rw [List.any_cons,List.any_cons,ih,h.1]
theorem KV.repl {kvs:List (κ × V)} {vs:List (κ × Value)} (r:KV kvs vs) (k:κ) {y:V} {u:Value} (ry:RelV y u) :
 KV (kvs.map fun kv=>if kv.1=k then (kv.1,y) else kv) (vs.map fun kv=>if kv.1=k then (kv.1,u) else kv):=by
 unfold KV at r ⊢
 induction r with
 | nil=>exact .nil
 | @cons p q ps qs h t ih =>
  rw [List.map_cons,List.map_cons]
  refine .cons ?_ ih
  obtain ⟨h1,h2⟩:=h
  by_cases e:p.1=k
  ·rw [if_pos e,if_pos (h1.symm.trans e)];exact ⟨h1,ry⟩
  ·rw [if_neg e,if_neg (fun z=>e (h1.trans z))];exact ⟨h1,h2⟩
theorem KV.put {kvs:List (κ × V)} {vs:List (κ × Value)} (r:KV kvs vs) (k:κ) {y:V} {u:Value} (ry:RelV y u):KV (Yu kvs k y) (stored vs k u):=by
 unfold Yu stored
 rw [r.any k]
 by_cases e:(vs.any fun kv=>decide (kv.1=k))=true
 ·rw [if_pos e,if_pos e];exact r.repl k ry
 ·rw [if_neg e,if_neg e];exact Paired.snoc r ⟨rfl,ry⟩
theorem KV.length {kvs:List (κ × V)} {vs:List (κ × Value)} (r:KV kvs vs):kvs.length=vs.length:=Paired.length r
end
theorem Y9 {P:Program} {w:World} {k:Key} {u:Value} (r:RelV (kV k) u):(Qt P w).is k u=true:=by
 cases k with
 | inl i=>obtain ⟨t,e⟩:=(show ∃ t,u=Value.int i t from r);subst e;exact JY P w i t
 | inr x=>obtain ⟨t,e⟩:=(show ∃ t,u=Value.str x t from r);subst e;exact J3 P w x t
theorem U2 {P:Program} {w:World}:∀ {ks:List Key} {us:List Value},Vals (ks.map kV) us→ItemsAre (Qt P w) ks us
 | [],_,r=>by rw [List.map_nil] at r;cases r;exact .nil
 | k :: ks,_,r=>by
  rw [List.map_cons] at r
  cases r with
  | cons h t=>exact .cons (Y9 h) (U2 t)
abbrev KT (H:Hp):List (List Key × V)→List (List Key × Addr × Value)→Prop:=Paired fun p q=>p.1=q.1∧H q.2.1=some (.tup (p.1.map kV))∧RelV p.2 q.2.2
theorem KT.val {H:Hp} {kvs:List (List Key × V)} {xs:List (List Key × Addr × Value)} (r:KT H kvs xs) (k:List Key):RelO (ZE kvs k) ((atKey xs k).map (·.2)):=by
 induction r with
 | nil=>exact True.intro
 | @cons p q ps qs h t ih =>
  obtain ⟨h1,_,h2⟩:=h
  by_cases e:p.1=k
  ·have e':q.1=k:=h1.symm.trans e
   have b:atKey (q :: qs) k=some q.2:=by simp [atKey,List.find?_cons,e']
   rw [ZK e,b];exact h2
  ·have e':¬ q.1=k:=fun z=>e (h1.trans z)
   have b:atKey (q :: qs) k=atKey qs k:=by simp [atKey,List.find?_cons,e']
   rw [ZJ e,b];exact ih
theorem KT.repl {H:Hp} {kvs:List (List Key × V)} {xs:List (List Key × Addr × Value)} (r:KT H kvs xs) (k:List Key) {y:V} {u:Value} (ry:RelV y u) :
 KT H (kvs.map fun kv=>if kv.1=k then (kv.1,y) else kv) (xs.map (putAt k u)):=by
 induction r with
 | nil=>exact .nil
 | @cons p q ps qs h t ih =>
  rw [List.map_cons,List.map_cons]
  refine .cons ?_ ih
  obtain ⟨h1,h2,h3⟩:=h
  unfold putAt
  by_cases e:p.1=k
  ·rw [if_pos e,if_pos (h1.symm.trans e)];exact ⟨h1,h2,ry⟩
  ·rw [if_neg e,if_neg (fun z=>e (h1.trans z))];exact ⟨h1,h2,h3⟩
theorem KT.put {H:Hp} {kvs:List (List Key × V)} {xs:List (List Key × Addr × Value)} (r:KT H kvs xs) (k:List Key) {b:Addr} {y:V} {u:Value} (hb:H b=some (.tup (k.map kV))) (ry:RelV y u) :
 KT H (Yu kvs k y) (storedH xs k b u):=by
 have e:(kvs.any fun kv=>decide (kv.1=k))=(atKey xs k).isSome:=by
  rw [Ux,(r.val k).isSome_eq,Option.isSome_map]
 unfold Yu storedH
 rw [e]
 by_cases q:(atKey xs k).isSome=true
 ·rw [if_pos q,if_pos q];exact r.repl k ry
 ·rw [if_neg q,if_neg q];exact Paired.snoc r ⟨rfl,hb,ry⟩
theorem KT.keeps {H H':Hp} {kvs:List (List Key × V)} {xs:List (List Key × Addr × Value)} (r:KT H kvs xs) (ht:∀ b ys,H b=some (.tup ys)→H' b=some (.tup ys)):KT H' kvs xs :=
 Paired.mapP r fun _ _ z=>⟨z.1,ht _ _ z.2.1,z.2.2⟩
section
variable {P:Program} {w:World} {H:Hp} {h:Heap} {a:Addr}
theorem LQ {u:HO} (ok:HOk P w H h) (e:Rd H a u):ObjOk P w H h a u:=e.ok ok
theorem UJ {kvs:List (Key × V)} (ok:HOk P w H h) (e:Rd H a (.dK kvs)):kvs.length≤sizeLine∧(a == sysModules)=false∧∃ vs,KV kvs vs∧h.DictOf (Qt P w) a vs :=
 show ObjOk P w H h a (.dK kvs) from LQ ok e
theorem Nv {kvs:List (Key × V)} (ok:HOk P w H h) (e:H a=some (.dK kvs)):kvs.length≤sizeLine∧(a == sysModules)=false∧∃ vs,KV kvs vs∧h.DictOf (Qt P w) a vs:=UJ ok (.inl e)
theorem Yw {ks:List Key} (ok:HOk P w H h) (e:H a=some (.tup (ks.map kV))):(tupleKind (Qt P w)).is h ks a:=by
 obtain ⟨_,its,r,o,h1,h2,n,h3⟩:=(show ObjOk P w H h a (.tup (ks.map kV)) from ok a _ e)
 exact ⟨o,its.toArray,n,h1,h2,h3,by simpa using U2 r⟩
theorem UH {kvs:List (List Key × V)} (ok:HOk P w H h) (e:Rd H a (.dT kvs)):kvs.length≤sizeLine∧(a == sysModules)=false ∧
 ∃ xs,KT H kvs xs∧h.DictOfH (tupleKind (Qt P w)) a xs:=by
 obtain ⟨z,y,xs,r,o,es,ep,h1,h2,h3,h4,h5⟩:=(show ObjOk P w H h a (.dT kvs) from LQ ok e)
 refine ⟨z,y,xs,r,o,es,ep,h1,h2,h3,h4,fun x hx=>?_,h5⟩
 have all:∀ {l:List (List Key × V)} {m:List (List Key × Addr × Value)},KT H l m→∀ x ∈ m,(tupleKind (Qt P w)).is h x.1 x.2.1:=by
  intro l m q
  induction q with
  | nil=>intro x hx;exact nomatch hx
  | @cons p q ps qs hq t ih =>
   intro x hx
   rcases List.mem_cons.mp hx with e | hx
   ·subst e
    exact Yw ok (by rw [← hq.1];exact hq.2.1)
   ·exact ih x hx
 exact all r x hx
theorem Lz {kvs:List (List Key × V)} (ok:HOk P w H h) (e:H a=some (.dT kvs)):kvs.length≤sizeLine∧(a == sysModules)=false ∧
 ∃ xs,KT H kvs xs∧h.DictOfH (tupleKind (Qt P w)) a xs:=UH ok (.inl e)
end
def DGet (H:Hp) (a:Addr) (y:V) (r:Option V):Prop :=
 (∃ kvs k,Rd H a (.dK kvs)∧y=kV k∧r=ZE kvs k)∨∃ kvs k b,Rd H a (.dT kvs)∧y=.ref b∧H b=some (.tup (k.map kV))∧r=ZE kvs k
def DPut (H:Hp) (a:Addr) (y v:V) (H':Hp):Prop :=
 (∃ kvs k,H a=some (.dK kvs)∧y=kV k∧kvs.length < sizeLine∧H'=upd H a (.dK (Yu kvs k v))) ∨
 ∃ kvs k b,H a=some (.dT kvs)∧y=.ref b∧H b=some (.tup (k.map kV))∧kvs.length < sizeLine∧H'=upd H a (.dT (Yu kvs k v))
theorem DGet.k {H:Hp} {a:Addr} {kvs:List (Key × V)} {k:Key} (e:H a=some (.dK kvs)):DGet H a (kV k) (ZE kvs k):=.inl ⟨kvs,k,.inl e,rfl,rfl⟩
theorem DGet.t {H:Hp} {a b:Addr} {kvs:List (List Key × V)} {k:List Key} (e:H a=some (.dT kvs)) (eb:H b=some (.tup (k.map kV))):DGet H a (.ref b) (ZE kvs k):=.inr ⟨kvs,k,b,.inl e,rfl,eb,rfl⟩
theorem DPut.t {H:Hp} {a b:Addr} {kvs:List (List Key × V)} {k:List Key} {v:V} (e:H a=some (.dT kvs)) (eb:H b=some (.tup (k.map kV))) (hl:kvs.length < sizeLine) :
 DPut H a (.ref b) v (upd H a (.dT (Yu kvs k v))):=.inr ⟨kvs,k,b,e,rfl,eb,hl,rfl⟩
section
variable {X:Cx} {pins:List (7:)} {σ:St} {H:Hp} {s:Shared} {a:Addr} {y v:V} {u r:Value} {o:Option V} {A:Around} {E:Value→Shared→Prop}
theorem Inv.big (I:Inv X pins σ H s):sysModules < s.heap.objs.size:=by
 have h:mainGlobals < s.heap.objs.size:=(I.mod.glob.keeps I.bk).lt
 exact Nat.lt_trans (13:) h
theorem WH {Q:Value→Shared→Prop} (hu:A.units + 1 < cLine) (I:Inv X pins σ H s) (g:DGet H a y (some v)) (ry:RelV y u) (h:∀ w' s',Inv X pins σ H s'→RelV v w'→Q w' s') :
 wpAny (6:) A (getItem (.ref a) u) Q E s:=by
 rcases g with ⟨kvs,k,e,ey,l⟩ | ⟨kvs,k,b,e,ey,eb,l⟩
 ·subst ey
  obtain ⟨z,hd,vs,rel,dd⟩:=UJ I.hok e
  obtain ⟨w',hw,rw'⟩:=RelO.some_of (v:=v) (o:=valueAt vs k) (by rw [l];exact rel.val k)
  exact wpAny_getItem_of (Y9 ry) dd.mapOf hw (h w' _ (I.tok _) rw')
 ·subst ey
  cases (show u=Value.ref b from ry)
  obtain ⟨z,hd,xs,rel,dd⟩:=UH I.hok e
  obtain ⟨w',hw,rw'⟩:=RelO.some_of (v:=v) (o:=(atKey xs k).map (·.2)) (by rw [l];exact rel.val k)
  obtain ⟨p,hp,hp2⟩:=Option.map_eq_some_iff.mp hw
  refine wpAny_getItem_heap (tupleKind_room_in1 hu) (Yw I.hok eb) dd hp ?_
  rw [hp2]
  exact h w' _ (I.tok _) rw'
theorem Gw {Q:Value→Shared→Prop} (hu:A.units + 1 < cLine) (I:Inv X pins σ H s) (g:DGet H a y o) (ry:RelV y u) (h:∀ s',Inv X pins σ H s'→Q (.bool (!o.isSome)) s') :
 wpAny (6:) A (compareOp .NotIn u (.ref a)) Q E s:=by
 rcases g with ⟨kvs,k,e,ey,l⟩ | ⟨kvs,k,b,e,ey,eb,l⟩
 ·subst ey
  obtain ⟨z,hd,vs,rel,dd⟩:=UJ I.hok e
  refine wpAny_notIn_of (Y9 ry) hd dd.mapOf ?_
  rw [← (rel.val k).isSome_eq,← l]
  exact h _ (I.tok _)
 ·subst ey
  cases (show u=Value.ref b from ry)
  obtain ⟨z,hd,xs,rel,dd⟩:=UH I.hok e
  refine wpAny_notIn_heap (tupleKind_room_in1 hu) (Yw I.hok eb) hd dd ?_
  have q:=(rel.val k).isSome_eq
  rw [Option.isSome_map] at q
  rw [← q,← l]
  exact h _ (I.tok _)
theorem Wt {h':Heap} {t':Nat} {ob:HO} (I:Inv X pins σ H s) (mu:Mut (H a)) (hs:Heap.SameBut a s.heap h') (he:∃ q,h'.get? a=some q) (new:ObjOk X.prog X.w (upd H a ob) h' a ob) :
 Inv X pins σ (upd H a ob) { s with heap:=h',toks:=t' } :=
 I.write (x:=a) (e:=a) mu (.inl rfl) (fun b q hb z=>(hs.2 b hb).trans z) he new
theorem Vm {P:Program} {w:World} {H':Hp} {h':Heap} {kvs:List (Key × V)} {vs:List (Key × Value)} (z:kvs.length≤sizeLine) (hd:(a == sysModules)=false) (rel:KV kvs vs) (dd:h'.DictOf (Qt P w) a vs) :
 ObjOk P w H' h' a (.dK kvs):=⟨z,hd,vs,rel,dd⟩
theorem WS {H':Hp} {Q:Unit→Shared→Prop} (hu:A.units + 1 < cLine) (I:Inv X pins σ H s) (g:DPut H a y v H') (ry:RelV y u) (rv:RelV v r) (h:∀ s',Inv X pins σ H' s'→Q () s') :
 wpAny (6:) A (setItem (.ref a) u r) Q E s:=by
 rcases g with ⟨kvs,k,e,ey,l,eH⟩ | ⟨kvs,k,b,e,ey,eb,l,eH⟩
 ·subst ey eH
  obtain ⟨z,hd,vs,rel,dd⟩:=Nv I.hok e
  have hz:vs.length≤sizeLine:=by rw [← rel.length];exact z
  have hl:(Yu kvs k v).length≤sizeLine:=by have:=YL kvs k v;lia
  refine wpAny_setItem_pairs (hsz:=hz) (Y9 ry) dd fun h' dd' hs=>h _ ?_
  have he:∃ q,h'.get? a=some q:=let ⟨q,_,_,hq,_⟩:=dd';⟨q,hq⟩
  exact Wt I (by rw [e];exact True.intro) hs he (Vm hl hd (rel.put k rv) dd')
 ·subst ey eH
  cases (show u=Value.ref b from ry)
  obtain ⟨z,hd,xs,rel,dd⟩:=Lz I.hok e
  have hz:xs.length≤sizeLine:=by rw [← Paired.length rel];exact z
  have hl:(Yu kvs k v).length≤sizeLine:=by have:=YL kvs k v;lia
  refine wpAny_setItem_heap (hsz:=hz) (tupleKind_room_in1 hu) (Yw I.hok eb) dd fun h' dd' hs=>h _ ?_
  obtain ⟨q,es,ep,hq,h2,h3,h4,_,h5⟩:=dd'
  refine Wt I (by rw [e];exact True.intro) hs ⟨q,hq⟩ ⟨hl,hd,_,(rel.put k eb rv).keeps fun c ys ec=>?_,q,es,ep,hq,h2,h3,h4,h5⟩
  rw [Qi (ne_of ec e (37:))]
  exact ec
end
section
variable {X:Cx} {pins:List (7:)} {σ:St} {H:Hp} {s:Shared} {a:Addr} {kvs:List (Key × V)} {k:Key} {u:Value} {A:Around} {E:Value→Shared→Prop}
end
def N6 (i:Expr):Prop:=∀ ov iv,subscripted i false ov iv=operate [ov,iv] (getItem ov iv)
theorem GG {prog:Program} {w:World} {A:Around} {E:Value→Shared→Prop} {s:Shared} {env:Env} {value slice:Expr} {pos:Pos} {T id:String} {Q:Value→Shared→Prop}
 (hl:typeLookup (.type T) "__getitem__" = pure (some (.builtin id))) (hs:N6 slice)
 (h:wpAny (19:) A (eval value env) (fun o s₁=>wpAny (19:) A (eval slice env) (fun i s₂=>s₂.TypeIs o T∧wpAny (19:) A (getItem o i) Q E s₂) E s₁) E s) :
 wpAny (19:) A (eval (.Subscript value slice pos) env) Q E s:=by
 refine Subscript_ (wpAny_mono h (fun o s₁ h₁=>wpAny_mono h₁ (fun i s₂ h₂=>?_) fun _ _ x=>x) fun _ _ x=>x)
 obtain ⟨hT,h₂⟩:=h₂
 unfold subscriptTail
 refine wpAny_bind ?_
 rw [getitemInPython_of_ne hT.not_modules]
 refine wpAny_bind (wpAny_specialOf hT hl ?_)
 have fin:wpAny (19:) A (subscripted slice false o i) (fun r s₃=>wpAny (19:) A (letTemporaryGo value o r >>= fun _=>pure r) Q E s₃) E s₂:=by
  rw [hs o i]
  exact wpAny_operating (wpAny_mono h₂ (fun r s₃ h₃=>wpAny_bind (wpAny_letTemporaryGo (wpAny_pure h₃))) fun _ _ x=>x)
 first
  | exact wpAny_pure (wpAny_bind fin)
  | exact wpAny_bind (wpAny_pure (wpAny_bind fin))
  | exact wpAny_bind fin
theorem JR {X:Cx} {pins:List (7:)} {σ:St} {H:Hp} {s:Shared} {a:Addr} {y:V} {o:Option V} (I:Inv X pins σ H s) (g:DGet H a y o):s.TypeIs (.ref a) "dict" := by
 rcases g with ⟨kvs,k,e,_,_⟩ | ⟨kvs,k,b,e,_,_,_⟩
 ·obtain ⟨_,_,vs,_,dd⟩:=UJ I.hok e
  exact dd.typeIs
 ·obtain ⟨_,_,xs,_,dd⟩:=UH I.hok e
  exact dd.typeIs
def NP (td ty:TE):TE:=fun σ H Q=>td σ H fun x H1=>ty σ H1 fun y H2=>∃ a v,x=.ref a∧DGet H2 a y (some v)∧Q v H2
def GM (ty td:TE):TE:=fun σ H Q=>ty σ H fun y H1=>td σ H1 fun x H2=>∃ a o,x=.ref a∧DGet H2 a y o∧Q (.bl (!o.isSome)) H2
def N9 (td ty tv:TE):TS:=fun D σ H=>tv σ H fun v H1=>td σ H1 fun x H2=>ty σ H2 fun y H3=>∃ a H4,x=.ref a∧DPut H3 a y v H4∧D.nx σ H4
section
variable {X:Cx} {o i e value:Expr} {pos pos' tpos:Pos} {td ty tv:TE}
theorem Jw (hu:X.A.units + 1 < cLine) (ho:PE X o td) (hi:PE X i ty) (hs:N6 i):PE X (.Subscript o i pos) (NP td ty):=by
 intro pins s σ H Q I h
 refine GG PySem.F.slot_dict_getitem.lookup hs (thn (ho pins s σ H _ I h) fun u s1 ⟨x,H1,I1,rx,q1⟩=>thn (hi pins s1 σ H1 _ I1 q1) fun iv s2 ⟨y,H2,I2,ry,a,v,ex,g,q2⟩=>?_)
 subst ex
 obtain rfl:u=Value.ref a:=rx
 exact ⟨JR I2 g,WH hu I2 g ry fun w' s3 I3 rw'=>⟨v,H2,I3,rw',q2⟩⟩
theorem WJ (hu:X.A.units + 1 < cLine) (hi:PE X i ty) (ho:PE X o td):PC X .NotIn i o (GM ty td):=by
 intro pins s σ H Q I h
 refine thn (hi pins s σ H _ I h) fun iv s1 ⟨y,H1,I1,ry,q1⟩=>thn (ho pins s1 σ H1 _ I1 q1) fun u s2 ⟨x,H2,I2,rx,a,ov,ex,g,q2⟩=>?_
 subst ex
 obtain rfl:u=Value.ref a:=rx
 exact Gw hu I2 g ry fun s3 I3=>⟨.bl (!ov.isSome),H2,I3,rfl,q2⟩
theorem GY (hu:X.A.units + 1 < cLine) (ho:PE X o td) (hi:PE X i ty) (hv:PE X value tv) (hs:swapsWith value (some (.Subscript o i pos')) pos.line X.env=pure false) :
 PS X (.Assign [.Subscript o i pos'] value pos) (N9 td ty tv):=by
 intro pins s σ H D I h
 refine wpAny_Assign_Subscript (thn (hv pins s σ H _ I h) fun r s1 ⟨v,H1,I1,rv,q1⟩=>thn (ho pins s1 σ H1 _ I1 q1) fun u s2 ⟨x,H2,I2,rx,q2⟩=>thn (hi pins s2 σ H2 _ I2 q2) fun iv s3 ⟨y,H3,I3,ry,a,H4,ex,g,q3⟩=>?_) hs
 subst ex
 obtain rfl:u=Value.ref a:=rx
 exact WS hu I3 g ry rv fun s4 I4=>⟨σ,H4,I4,q3⟩
end
theorem Vb {P:Program} {w:World} {H:Hp} (h:Heap) (hb:sysModules < h.objs.size):ObjOk P w H (h.push { cls:=.type "dict", data:=.dict #[] }) h.objs.size (.dT []) :=
 ⟨Nat.zero_le _,beq_eq_false_iff_ne.mpr (Ne.symm (Nat.ne_of_lt hb)),[],.nil,_,#[],0,Heap.get?_push_size _ rfl,⟨rfl,rfl,rfl⟩,rfl,rfl,List.nodup_nil⟩
def Mn:TE:=fun _ H Q=>∀ p,H p=none→Q (.ref p) (upd H p (.dT []))
section
variable {X:Cx} {pos:Pos}
theorem Xk:PE X (.Dict [] [] pos) Mn:=fun pins s σ H Q I h =>
 wpAny_Dict_empty ⟨.ref s.heap.objs.size,_,I.laid (a:=s.heap.objs.size) (o:=.dT []) (t':=s.toks) (fun _ _ q=>Heap.get?_push_of_some _ q) (10:) (Vb s.heap I.big),rfl,h _ (I.hok.fresh (10:))⟩
end
structure M1 (X:Cx) (o:Expr) (m:Str) (apos:Pos) (e:Expr) (cpos:Pos):Prop where
 base:attributeBase o m X.env (eval o X.env)=eval o X.env
 few:((backTo cpos (starEach [e] X.env)).all (fun x=>!x.1) && (backToKw cpos (keywordEach [] X.env)).all (fun x=>x.1.isSome)
  && decide (([e]:List Expr).length + ([]:List Keyword).length + (if ([]:List Keyword).isEmpty then 0 else 1) < 30))=true
 line:(apos.endLine == cpos.line)=true
 trees:backTo cpos (starEach [e] X.env)=[(54:)]
structure M2 (X:Cx) (o:Expr) (m:Str) (apos:Pos) (e f:Expr) (cpos:Pos):Prop where
 base:attributeBase o m X.env (eval o X.env)=eval o X.env
 few:((backTo cpos (starEach [e,f] X.env)).all (fun x=>!x.1) && (backToKw cpos (keywordEach [] X.env)).all (fun x=>x.1.isSome)
  && decide (([e,f]:List Expr).length + ([]:List Keyword).length + (if ([]:List Keyword).isEmpty then 0 else 1) < 30))=true
 line:(apos.endLine == cpos.line)=true
 trees:backTo cpos (starEach [e,f] X.env)=[(54:),(false,eval f X.env)]
def IsD (H:Hp) (a:Addr):Prop:=(∃ kvs,Rd H a (.dK kvs))∨∃ kvs,Rd H a (.dT kvs)
theorem Vf {X:Cx} {pins:List (7:)} {σ:St} {H:Hp} {s:Shared} {a:Addr} (I:Inv X pins σ H s) (d:IsD H a) :
 s.TypeIs (.ref a) "dict" ∧ (∀ b,Value.ref a=.ref b→∃ ob,s.heap.get? b=some ob∧ob.dict=none)∧(a == sysModules)=false:=by
 rcases d with ⟨kvs,e⟩ | ⟨kvs,e⟩
 ·obtain ⟨_,hd,vs,_,dd⟩:=UJ I.hok e
  refine ⟨dd.typeIs,fun b q=>?_,hd⟩
  cases q
  obtain ⟨ob,_,_,h1,h2,_⟩:=dd
  exact ⟨ob,h1,h2.2.1⟩
 ·obtain ⟨_,hd,xs,_,dd⟩:=UH I.hok e
  refine ⟨dd.typeIs,fun b q=>?_,hd⟩
  cases q
  obtain ⟨ob,_,_,h1,h2,_⟩:=dd
  exact ⟨ob,h1,h2.2.1⟩
section
variable {X:Cx} {pins:List (7:)} {σ:St} {H:Hp} {s:Shared} {a:Addr} {y d:V} {u r:Value} {o:Option V} {A:Around} {E:Value→Shared→Prop}
theorem Mi {Q:Value→Shared→Prop} (hu:A.units + 1 < cLine) (I:Inv X pins σ H s) (g:DGet H a y o) (ry:RelV y u) (h:∀ w' s',Inv X pins σ H s'→RelV (o.getD .non) w'→Q w' s') :
 wpAny (6:) A (call (.builtin "dict.get") [.ref a,u]) Q E s:=by
 rcases g with ⟨kvs,k,e,ey,l⟩ | ⟨kvs,k,b,e,ey,eb,l⟩
 ·subst ey
  obtain ⟨z,hd,vs,rel,dd⟩:=UJ I.hok e
  refine call_meetsIn PySem.F.slot_dict_get dd.typeIs PySem.F.entry_dict_get (PySem.F.args_dict_get_2 _ _) (meets_dict_get (Qt X.prog X.w) a (Y9 ry) hd) ⟨_,dd.mapOf,h _ _ (I.tok _) ?_⟩
  rw [l]
  exact (rel.val k).getD rfl
 ·subst ey
  cases (show u=Value.ref b from ry)
  obtain ⟨z,hd,xs,rel,dd⟩:=UH I.hok e
  refine call_meetsIn PySem.F.slot_dict_get dd.typeIs PySem.F.entry_dict_get (PySem.F.args_dict_get_2 _ _) (meetsH_dict_get (tupleKind (Qt X.prog X.w)) a b hd) ⟨tupleKind_room_in1 hu,k,xs,Yw I.hok eb,dd,h _ _ (I.tok _) ?_⟩
  rw [l]
  exact (rel.val k).getD rfl
theorem MU {Q:Value→Shared→Prop} (hu:A.units + 1 < cLine) (I:Inv X pins σ H s) (g:DGet H a y o) (ry:RelV y u) (rd:RelV d r) (h:∀ w' s',Inv X pins σ H s'→RelV (o.getD d) w'→Q w' s') :
 wpAny (6:) A (call (.builtin "dict.get") [.ref a,u,r]) Q E s:=by
 rcases g with ⟨kvs,k,e,ey,l⟩ | ⟨kvs,k,b,e,ey,eb,l⟩
 ·subst ey
  obtain ⟨z,hd,vs,rel,dd⟩:=UJ I.hok e
  refine call_meetsIn PySem.F.slot_dict_get dd.typeIs PySem.F.entry_dict_get (PySem.F.args_dict_get_3 _ _ _) (meets_dict_get_default (Qt X.prog X.w) a (Y9 ry) hd r) ⟨_,dd.mapOf,h _ _ (I.tok _) ?_⟩
  rw [l]
  exact (rel.val k).getD rd
 ·subst ey
  cases (show u=Value.ref b from ry)
  obtain ⟨z,hd,xs,rel,dd⟩:=UH I.hok e
  refine call_meetsIn PySem.F.slot_dict_get dd.typeIs PySem.F.entry_dict_get (PySem.F.args_dict_get_3 _ _ _) (meetsH_dict_get_default (tupleKind (Qt X.prog X.w)) a b hd r) ⟨tupleKind_room_in1 hu,k,xs,Yw I.hok eb,dd,h _ _ (I.tok _) ?_⟩
  rw [l]
  exact (rel.val k).getD rd
end
def Ml (td ty:TE):TE:=fun σ H Q=>td σ H fun x H1=>∃ a,x=.ref a∧IsD H1 a∧ty σ H1 fun y H2=>∃ o,DGet H2 a y o∧Q (o.getD .non) H2
def M0 (td ty tx:TE):TE:=fun σ H Q=>td σ H fun x H1=>∃ a,x=.ref a∧IsD H1 a∧ty σ H1 fun y H2=>tx σ H2 fun z H3=>∃ o,DGet H3 a y o∧Q (o.getD z) H3
section
variable {X:Cx} {o e f:Expr} {apos cpos:Pos} {td ty tx:TE}
theorem VM (hu:X.A.units + 1 < cLine) (ho:PE X o td) (he:PE X e ty) (m:M1 X o "get" apos e cpos):PE X (.Call (.Attribute o "get" apos) [e] [] cpos) (Ml td ty):=by
 intro pins s σ H Q I h
 refine wpAny_Call_method m.base m.few m.line PySem.F.plainAttrs_dict PySem.F.slot_dict_get PySem.F.type_dict_get (thn (ho pins s σ H _ I h) fun u s1 ⟨x,H1,I1,rx,a,ex,d,q1⟩=>?_)
 subst ex
 obtain rfl:u=Value.ref a:=rx
 obtain ⟨t1,t2,_⟩:=Vf I1 d
 refine ⟨t1,t2,?_⟩
 rw [m.trees]
 refine Calls.callWith_builtin rfl (Calls.evalArgs_plain (Calls.spliced_cons (thn (he pins s1 σ H1 _ I1 q1) fun iv s2 ⟨y,H2,I2,ry,ov,g,q2⟩=>Calls.spliced_nil ?_)))
 exact Mi hu I2 g ry fun w' s3 I3 rw'=>⟨_,H2,I3,rw',q2⟩
theorem VC (hu:X.A.units + 1 < cLine) (ho:PE X o td) (he:PE X e ty) (hf:PE X f tx) (m:M2 X o "get" apos e f cpos):PE X (.Call (.Attribute o "get" apos) [e,f] [] cpos) (M0 td ty tx):=by
 intro pins s σ H Q I h
 refine wpAny_Call_method m.base m.few m.line PySem.F.plainAttrs_dict PySem.F.slot_dict_get PySem.F.type_dict_get (thn (ho pins s σ H _ I h) fun u s1 ⟨x,H1,I1,rx,a,ex,d,q1⟩=>?_)
 subst ex
 obtain rfl:u=Value.ref a:=rx
 obtain ⟨t1,t2,_⟩:=Vf I1 d
 refine ⟨t1,t2,?_⟩
 rw [m.trees]
 refine Calls.callWith_builtin rfl (Calls.evalArgs_plain (Calls.spliced_cons (thn (he pins s1 σ H1 _ I1 q1) fun iv s2 ⟨y,H2,I2,ry,q2⟩ =>
  Calls.spliced_cons (thn (hf pins s2 σ H2 _ I2 q2) fun fv s3 ⟨z,H3,I3,rz,ov,g,q3⟩=>Calls.spliced_nil ?_))))
 exact MU hu I3 g ry rz fun w' s4 I4 rw'=>⟨_,H3,I4,rw',q3⟩
end
section
variable {X:Cx} {pins:List (7:)} {σ:St} {H:Hp} {s:Shared} {a:Addr} {kvs:List (Key × V)} {A:Around} {E:Value→Shared→Prop}
end
section
variable {X:Cx} {pins:List (7:)} {σ:St} {H:Hp} {s:Shared} {a:Addr} {y:V} {u:Value} {A:Around} {E:Value→Shared→Prop}
end
end L2
namespace Srt
open PySem PySem.W PyProof.Rows
variable {α β:Type} {O:KeyOrd} {key:Nat→O.α} {n:Nat}
def Ok (O:KeyOrd) (key:Nat→O.α) (n:Nat) (Q:α→Prop):KasT α→Prop
 | .ret a=>Q a
 | .ask i j k=>i < n∧j < n∧Ok O key n Q (k (O.blt (key i) (key j)))
theorem Ok.bind {t:KasT α} {f:α→KasT β} {Q:β→Prop}:Ok O key n (fun a=>Ok O key n Q (f a)) t→Ok O key n Q (t.bind f):=by
 induction t with
 | ret a=>exact id
 | ask i j k ih=>exact fun h=>⟨h.1,h.2.1,ih _ h.2.2⟩
theorem Ok.wp {cmp:Nat→Nat→(Bool→Shared→Prop)→Shared→Prop} {s:Shared} (hc:∀ i j C,i < n→j < n→C (O.blt (key i) (key j)) s→cmp i j C s) {G:α→Shared→Prop} {Q:α→Prop} (hq:∀ a,Q a→G a s) {t:KasT α}:Ok O key n Q t→t.kasWp cmp G s:=by
 induction t with
 | ret a=>exact hq a
 | ask i j k ih=>exact fun h=>hc i j _ h.1 h.2.1 (ih _ h.2.2)
def Pm (n:Nat) (p:Array Nat):Prop:=p.toList.Perm (List.range n)
theorem Pm.size {p:Array Nat} (h:Pm n p):p.size=n:=by
 have:=h.length_eq
 simpa using this
theorem Pm.lt {p:Array Nat} (h:Pm n p) {i:Nat} (hi:i < n):p.getD i 0 < n:=by
 have hs:i < p.size:=by rw [h.size];exact hi
 have e:p.getD i 0=p[i]:=by simp [Array.getD,hs]
 rw [e]
 have:p[i] ∈ p.toList:=by simp
 exact List.mem_range.mp (h.mem_iff.mp this)
theorem Pm.of {p q:Array Nat} (h:Pm n p) (e:q.Perm p):Pm n q:=(Array.perm_iff_toList_perm.mp e).trans h
variable (key) in
def kk (p:Array Nat) (i:Nat):O.α:=key (p.getD i 0)
theorem ZM {p q:Array Nat} {i j:Nat} (h:p[i]?=q[j]?):kk key p i=kk key q j:=by
 unfold kk
 rw [Array.getD_eq_getD_getElem?,Array.getD_eq_getD_getElem?,h]
variable (key) in
def Up (p:Array Nat) (k:Nat):Prop:=∀ i j,i≤j→j < k→O.kle (kk key p i) (kk key p j)
variable (key) in
def WV (p:Array Nat) (k:Nat):Prop:=∀ i j,i≤j→j < k→O.kle (kk key p j) (kk key p i)
theorem XC {p:Array Nat} {i j:Nat} (hj:j≤p.size) (k:Nat):kk key (kas_rev p i j) k=if i≤k∧k < j then kk key p (i + j - 1 - k) else kk key p k:=by
 have e:=getElem?_mirror_all (xs:=p) (i:=i) hj k
 unfold kas_rev
 by_cases h:i≤k∧k < j
 ·rw [if_pos h] at e ⊢;exact ZM e
 ·rw [if_neg h] at e ⊢;exact ZM e
theorem UI {p:Array Nat} {i j:Nat} (hj:j≤p.size) (heq:∀ k,i≤k→k < j→kk key p k=kk key p (j - 1)) (k:Nat):kk key (kas_rev p i j) k=kk key p k:=by
 rw [XC hj]
 by_cases h:i≤k∧k < j
 ·rw [if_pos h,heq _ (12:) (12:),heq k h.1 h.2]
 ·rw [if_neg h]
theorem Pm.rev {p:Array Nat} (h:Pm n p) (i j:Nat):Pm n (kas_rev p i j):=h.of (mirror_perm _ _ _ _)
theorem GT {p:Array Nat} {m:Nat} (h1:1≤m) (hs:Up key p m) (h:O.kle (kk key p (m - 1)) (kk key p m)):Up key p (m + 1):=fun i j hij hj=>by
 by_cases hjm:j < m
 ·exact hs i j hij hjm
 ·have:j=m:=by lia
  subst this
  by_cases hi:i=j
  ·subst hi;exact KeyOrd.kle_refl _
  ·exact KeyOrd.kle_trans (hs i (j - 1) (12:) (12:)) h
theorem ZR {p:Array Nat} {m:Nat} (h1:1≤m) (hs:WV key p m) (h:O.kle (kk key p m) (kk key p (m - 1))):WV key p (m + 1):=fun i j hij hj=>by
 by_cases hjm:j < m
 ·exact hs i j hij hjm
 ·have:j=m:=by lia
  subst this
  by_cases hi:i=j
  ·subst hi;exact KeyOrd.kle_refl _
  ·exact KeyOrd.kle_trans h (hs i (j - 1) (12:) (12:))
theorem XT {p:Array Nat} (hP:Pm n p) {Q:Nat→Prop}:∀ (f m:Nat),1≤m→m + f≤n→Up key p m→(∀ m',m≤m'→m'≤m + f→Up key p m'→(m'=m + f∨O.klt (kk key p m') (kk key p (m' - 1)))→Q m')→Ok O key n Q (kas_asc p f m)
 | 0,m,_,_,hs,h=>h m (10:) (10:) hs (.inl rfl)
 | f + 1,m,h1,hn,hs,h=>by
  refine ⟨hP.lt (12:),hP.lt (12:),?_⟩
  show Ok O key n Q (if O.blt (kk key p m) (kk key p (m - 1))=true then .ret m else kas_asc p f (m + 1))
  cases hb:O.blt (kk key p m) (kk key p (m - 1)) with
  | true =>
   rw [if_pos rfl]
   exact h m (10:) (12:) hs (.inr hb)
  | false =>
   rw [if_neg Bool.false_ne_true]
   exact XT hP f (m + 1) (12:) (12:) (GT h1 hs hb) fun m' a b c d=>h m' (12:) (12:) c (by rcases d with d | d;exact .inl (12:);exact .inr d)
variable (key) in
def Mc (p:Array Nat) (m q:Nat):Prop:=q + 1≤m∧∀ i,m - (q + 1)≤i→i < m→kk key p i=kk key p (m - 1)
theorem Y6 {Q:Array Nat × Nat × Nat→Prop}:∀ (f:Nat) (p:Array Nat) (m q:Nat),Pm n p→1≤m→m + f≤n→WV key p m→Mc key p m q →
 (∀ p' m' q',Pm n p'→m≤m'→m'≤m + f→WV key p' m'→Mc key p' m' q'→Q (p',m',q'))→Ok O key n Q (kas_desc f p m q)
 | 0,p,m,q,hP,_,_,hs,ht,h=>h p m q hP (10:) (10:) hs ht
 | f + 1,p,m,q,hP,h1,hn,hs,ht,h=>by
  have hsz:=hP.size
  refine ⟨hP.lt (12:),hP.lt (12:),?_⟩
  show Ok O key n Q (if O.blt (kk key p m) (kk key p (m - 1))=true then (if q > 0 then kas_desc f (kas_rev p (m - (q + 1)) m) (m + 1) 0 else kas_desc f p (m + 1) 0)
   else .ask (p.getD (m - 1) 0) (p.getD m 0) fun d=>if d=true then .ret (p,m,q) else kas_desc f p (m + 1) (q + 1))
  have one:∀ p':Array Nat,Mc key p' (m + 1) 0:=fun p'=>⟨by lia,fun i a b=>by congr 1;lia⟩
  cases hb:O.blt (kk key p m) (kk key p (m - 1)) with
  | true =>
   rw [if_pos rfl]
   have hd:=ZR h1 hs (KeyOrd.kle_of_klt hb)
   by_cases hq:q > 0
   ·rw [if_pos hq]
    have e:=UI (key:=key) (p:=p) (i:=m - (q + 1)) (j:=m) (12:) ht.2
    refine Y6 f _ (m + 1) 0 (hP.rev _ _) (12:) (12:) (fun i j a b=>by rw [e,e];exact hd i j a b) (one _) fun p' m' q' a b c d g=>h p' m' q' a (12:) (12:) d g
   ·rw [if_neg hq]
    exact Y6 f p (m + 1) 0 hP (12:) (12:) hd (one _) fun p' m' q' a b c d g=>h p' m' q' a (12:) (12:) d g
  | false =>
   rw [if_neg Bool.false_ne_true]
   refine ⟨hP.lt (12:),hP.lt (12:),?_⟩
   show Ok O key n Q (if O.blt (kk key p (m - 1)) (kk key p m)=true then .ret (p,m,q) else kas_desc f p (m + 1) (q + 1))
   cases hc:O.blt (kk key p (m - 1)) (kk key p m) with
   | true =>
    rw [if_pos rfl]
    exact h p m q hP (10:) (12:) hs ht
   | false =>
    rw [if_neg Bool.false_ne_true]
    have he:kk key p m=kk key p (m - 1):=KeyOrd.kle_antisymm hc hb
    refine Y6 f p (m + 1) (q + 1) hP (12:) (12:) (ZR h1 hs hc) ⟨by have:=ht.1;lia,fun i a b=>?_⟩ fun p' m' q' a b c d g=>h p' m' q' a (12:) (12:) d g
    rw [Nat.add_sub_cancel]
    by_cases hi:i=m
    ·rw [hi]
    ·rw [he];exact ht.2 i (12:) (12:)
theorem X5 {p:Array Nat} {m:Nat} (hP:Pm n p) (h1:1≤m) (hm:m≤n) (hs:WV key p m) {Q:Nat × Array Nat→Prop} (h:∀ m' p',Pm n p'→1≤m'→m'≤n→Up key p' m'→Q (m',p')):Ok O key n Q (kas_tail3 m n p):=by
 have hsz:=hP.size
 refine Ok.bind (XT (hP.rev 0 m) (n - m) m h1 (12:) (fun i j hij hj=>?_) fun m' a b c _=>h m' _ (hP.rev 0 m) (12:) (12:) c)
 rw [XC (12:),XC (12:),if_pos (12:),if_pos (12:)]
 exact hs _ _ (12:) (12:)
theorem YK {p:Array Nat} {m:Nat} (hP:Pm n p) (h1:1≤m) (hm:m + 1≤n) (hs:WV key p (m + 1)) {Q:Nat × Array Nat→Prop} (h:∀ m' p',Pm n p'→1≤m'→m'≤n→Up key p' m'→Q (m',p')):Ok O key n Q (kas_descPart m n p):=by
 refine Ok.bind (Y6 (n - (m + 1)) p (m + 1) 0 hP (12:) (12:) hs ⟨by lia,fun i a b=>by congr 1;lia⟩ fun p' m' q' a b c d g=>?_)
 have hsz:=a.size
 show Ok O key n Q (if q' > 0 then kas_tail3 m' n (kas_rev p' (m' - (q' + 1)) m') else kas_tail3 m' n p')
 by_cases hq:q' > 0
 ·rw [if_pos hq]
  have e:=UI (key:=key) (p:=p') (i:=m' - (q' + 1)) (j:=m') (12:) g.2
  exact X5 (a.rev _ _) (12:) (12:) (fun i j x y=>by rw [e,e];exact d i j x y) h
 ·rw [if_neg hq]
  exact X5 a (12:) (12:) d h
theorem Gg {p:Array Nat} (hP:Pm n p) (h1:1≤n) {Q:Nat × Array Nat→Prop} (h:∀ m' p',Pm n p'→1≤m'→m'≤n→Up key p' m'→Q (m',p')):Ok O key n Q (kas_count n p):=by
 have hsz:=hP.size
 refine Ok.bind (XT hP (n - 1) 1 (10:) (12:) (fun i j a b=>?_) fun m a b c d=>?_)
 ·have:i=j:=by lia
  subst this;exact KeyOrd.kle_refl _
 ·show Ok O key n Q (if (m == n)=true then .ret (m,p) else if m > 1 then .ask (p.getD 0 0) (p.getD (m - 1) 0) fun c=>if c=true then .ret (m,p) else kas_descPart m n (kas_rev p 0 m) else kas_descPart m n p)
  by_cases hm:m=n
  ·rw [if_pos (by simpa using hm)]
   exact h m p hP a (12:) c
  ·rw [if_neg (by simpa using hm)]
   have hlt:O.klt (kk key p m) (kk key p (m - 1)):=by
    rcases d with d | d
    ·exact absurd (12:) hm
    ·exact d
   by_cases hg:m > 1
   ·rw [if_pos hg]
    refine ⟨hP.lt (12:),hP.lt (12:),?_⟩
    show Ok O key n Q (if O.blt (kk key p 0) (kk key p (m - 1))=true then .ret (m,p) else kas_descPart m n (kas_rev p 0 m))
    cases hb:O.blt (kk key p 0) (kk key p (m - 1)) with
    | true =>
     rw [if_pos rfl]
     exact h m p hP a (12:) c
    | false =>
     rw [if_neg Bool.false_ne_true]
     have hall:∀ k,0≤k→k < m→kk key p k=kk key p (m - 1):=fun k _ hk =>
      KeyOrd.kle_antisymm (c k (m - 1) (12:) (12:)) (KeyOrd.kle_trans hb (c 0 k (12:) hk))
     have e:=UI (key:=key) (p:=p) (i:=0) (j:=m) (12:) hall
     refine YK (hP.rev _ _) (12:) (12:) (ZR (12:) (fun i j x y=>?_) ?_) h
     ·rw [e,e,hall i (12:) (12:),hall j (12:) y];exact KeyOrd.kle_refl _
     ·rw [e,e];exact KeyOrd.kle_of_klt hlt
   ·rw [if_neg hg]
    have:m=1:=by lia
    subst this
    refine YK hP (10:) (12:) (ZR (10:) (fun i j x y=>?_) (KeyOrd.kle_of_klt hlt)) h
    have:i=j:=by lia
    subst this;exact KeyOrd.kle_refl _
theorem Uz {p:Array Nat} {k:Nat} (hP:Pm n p) (hk:k < n) (hs:Up key p k) {Q:Nat→Prop}
 (h:∀ l,l≤k→(∀ i,i < l→O.kle (kk key p i) (kk key p k))→(∀ i,l≤i→i < k→O.klt (kk key p k) (kk key p i))→Q l):∀ (f l r:Nat),l≤r→r≤k→r - l≤f →
  (∀ i,i < l→O.kle (kk key p i) (kk key p k))→(∀ i,r≤i→i < k→O.klt (kk key p k) (kk key p i))→Ok O key n Q (kas_place p k f l r)
 | 0,l,r,a,b,c,d,e=>by
  have:l=r:=by lia
  subst this
  exact h l b d e
 | f + 1,l,r,a,b,c,d,e=>by
  show Ok O key n Q (if l ≥ r then .ret l else .ask (p.getD k 0) (p.getD ((l + r) / 2) 0) fun c=>if c=true then kas_place p k f l ((l + r) / 2) else kas_place p k f ((l + r) / 2 + 1) r)
  by_cases hge:l ≥ r
  ·rw [if_pos hge]
   have:l=r:=by lia
   subst this
   exact h l b d e
  ·rw [if_neg hge]
   refine ⟨hP.lt hk,hP.lt (12:),?_⟩
   show Ok O key n Q (if O.blt (kk key p k) (kk key p ((l + r) / 2))=true then kas_place p k f l ((l + r) / 2) else kas_place p k f ((l + r) / 2 + 1) r)
   cases hb:O.blt (kk key p k) (kk key p ((l + r) / 2)) with
   | true =>
    rw [if_pos rfl]
    exact Uz hP hk hs h f l ((l + r) / 2) (12:) (12:) (12:) d fun i x y=>KeyOrd.klt_of_klt_of_kle hb (hs _ _ x y)
   | false =>
    rw [if_neg Bool.false_ne_true]
    exact Uz hP hk hs h f ((l + r) / 2 + 1) r (12:) b (12:) (fun i x=>KeyOrd.kle_trans (hs i ((l + r) / 2) (12:) (12:)) hb) e
theorem US {p:Array Nat} {k d:Nat} (hs:k < p.size) (hd:d≤k) (i:Nat):kk key (bubble p k d) i=if i=k - d then kk key p k else if k - d < i∧i≤k then kk key p (i - 1) else kk key p i:=by
 have e:=getElem?_bubble hs d hd i
 by_cases h1:i=k - d
 ·rw [if_pos h1] at e ⊢;exact ZM e
 ·rw [if_neg h1] at e ⊢
  by_cases h2:k - d < i∧i≤k
  ·rw [if_pos h2] at e ⊢;exact ZM e
  ·rw [if_neg h2] at e ⊢;exact ZM e
theorem V4 {Q:Array Nat→Prop}:∀ (f:Nat) (p:Array Nat) (k:Nat),Pm n p→1≤k→k + f=n→Up key p k→(∀ p',Pm n p'→Up key p' n→Q p')→Ok O key n Q (kas_bin f p k)
 | 0,p,k,hP,_,hn,hs,h=>h p hP (by rw [← hn];exact hs)
 | f + 1,p,k,hP,h1,hn,hs,h=>by
  have hsz:=hP.size
  have hk:k < n:=by lia
  refine Ok.bind (Uz hP hk hs (fun l a b c=>?_) k 0 k (Nat.zero_le _) (10:) (12:) (fun i x=>by lia) fun i x y=>by lia)
  refine V4 f _ (k + 1) (hP.of (bubble_perm _ _ _)) (12:) (12:) (fun i j hij hj=>?_) h
  rw [US (12:) (12:),US (12:) (12:),show k - (k - l)=l by lia]
  repeat' split
  all_goals first
   | (exfalso;lia)
   | exact KeyOrd.kle_refl _
   | exact b _ (12:)
   | exact KeyOrd.kle_of_klt (c _ (12:) (12:))
   | exact hs _ _ (12:) (12:)
theorem sort_ok (h1:1≤n) {Q:Array Nat→Prop} (h:∀ p,Pm n p→Up key p n→Q p):Ok O key n Q (kas_sort n):=by
 have hP:Pm n (List.toArray (List.range n)):=List.Perm.refl _
 refine Ok.bind (Gg hP h1 fun m p a b c d=>?_)
 show Ok O key n Q (if m < n then kas_bin (n - max m 1) p (max m 1) else .ret p)
 have hm:max m 1=m:=by lia
 by_cases hlt:m < n
 ·rw [if_pos hlt,hm]
  exact V4 (n - m) p m a b (12:) d h
 ·rw [if_neg hlt]
  have:m=n:=by lia
  subst this
  exact h p a d
end Srt
namespace L2
open PySem PySem.Spec PyProof.Rows PySem.W
section
variable {prog:Program} {w:World} {A:Around} {E:Value→Shared→Prop} {s:Shared}
end
section
variable {X:Cx}
end
end L2
namespace L2
open PySem PySem.Spec PyProof.Rows PySem.W
section
variable {prog:Program} {w:World} {A:Around} {E:Value→Shared→Prop} {s:Shared}
theorem VV {a:Addr} {vs:List Value} {n:Nat} {P:PySem.Fin→Shared→Prop} (O:KeyOrd) (key:Nat→O.α) (κ:SortKind) (ho:s.heap.get? a=some (seqObj "list" vs.toArray n)) (h64:vs.length < 64)
 (hk:∀ (s':Shared) (Q:SortKind→Shared→Prop),(∀ b o,b≠a→s.heap.get? b=some o→s'.heap.get? b=some o)→2≤vs.length→Q κ s'→wpAny (19:) A (keyKind' vs.toArray) Q E s')
 (hc:∀ (s':Shared) (i j:Nat) (C:Bool→Shared→Prop),(∀ b o,b≠a→s.heap.get? b=some o→s'.heap.get? b=some o)→i < vs.length→j < vs.length→C (O.blt (key i) (key j)) s'→wpAny (19:) A (keyLt' κ (vs.getD i Value.none) (vs.getD j Value.none)) C (fun _ _=>False) s')
 (h:∀ p:Array Nat,Srt.Pm vs.length p→Srt.Up (O:=O) key p vs.length→P (.done (.ret .none)) { s with heap:=sortedHeap s.heap a vs (p.toList.map fun i=>vs.getD i Value.none).toArray }) :
 wpAny (19:) A (Builtin.«list.sort» ⟨[.ref a],[]⟩) P E s:=by
 have hal:a < s.heap.objs.size:=Heap.lt_size ho
 rw [list_sort_plain]
 refine wpAny_bind (listItems_at ho rfl ?_)
 refine wpAny_bind (listUpdate_at ho rfl ?_ (by rw [List.size_toArray,sizeLine_eq];lia) (Nat.zero_le _))
 obtain ⟨e1,ho1⟩ : ∃ e1,(s.heap.update a (Obj.mapSeq fun _=>(#[]:Array Value))).get? a=some (seqObj "list" #[] e1):=⟨_,get?_update_seq ho fun _=>#[]⟩
 refine wpAny_bind (seqEpoch_at ho1 rfl (wpAny_bind (wpAny_newTuple ?_ (by show vs.length≤_;rw [sizeLine_eq];lia))))
 refine wpAny_bind (wpAny_newList (wpAny_holding ?_) (Nat.zero_le _))
 have keep:∀ b o,b≠a→s.heap.get? b=some o→((14:).push (56:)).get? b=some o:=fun b o hb e =>
  Heap.get?_push_of_some _ (Heap.get?_push_of_some _ ((Heap.get?_update_ne _ _ _ _ hb).trans e))
 have ho6:((14:).push (56:)).get? a=some (seqObj "list" #[] e1):=Heap.get?_push_of_some _ (Heap.get?_push_of_some _ ho1)
 show wpAny (19:) A _ P E { s with heap:=(14:).push (56:) }
 dsimp only
 have hz:vs.toArray.size=vs.length:=List.size_toArray
 by_cases h2:vs.toArray.size < 2
 ·rw [if_pos h2,if_pos h2]
  refine wpAny_bind (wpAny_pure ?_)
  rw [StateT.run_pure]
  refine wpAny_bind (wpAny_pure ?_)
  dsimp only
  refine wpAny_bind (seqEpoch_at ho6 rfl ?_)
  have e2:(arrOf (SortSt.mk' general' (vs.toArray.zip vs.toArray) #[] 7 none)).map (·.2)=vs.toArray:=by
   show (vs.toArray.zip vs.toArray).map (·.2)=vs.toArray
   apply Array.toList_inj.mp
   rw [Array.toList_map,Array.toList_zip]
   exact List.map_snd_zip (10:)
  rw [e2]
  refine wpAny_bind (listUpdate_at ho6 rfl ?_ (hsz2:=by show vs.toArray.size≤_;rw [sizeLine_eq];lia))
  simp only [bne_self_eq_false,Bool.false_eq_true,if_false]
  have:=h (List.range vs.length).toArray (List.Perm.refl _) (fun i j hij hj=>by
   have:i=j:=by lia
   subst this
   exact O.irrefl _)
  have e3:((List.range vs.length).toArray.toList.map fun i=>vs.getD i Value.none)=vs:=by
   apply List.ext_getElem (29:)
   intro i a b
   simp at a
   simp [a]
  rw [e3] at this
  exact wpAny_pure this
 ·rw [if_neg h2,if_neg h2]
  refine wpAny_bind ?_
  refine hk { s with heap:=(14:).push (56:) } _ keep (12:) ?_
  refine wpAny_bind (wpAny_mono (kat_run (Q:=fun st' s'=>∃ p:Array Nat,Srt.Pm vs.length p∧Srt.Up (O:=O) key p vs.length∧(arrOf st').map (·.2)=(p.toList.map fun i=>vs.getD i Value.none).toArray∧failedOf st'=none ∧
   s'={ s with heap:=(14:).push (56:) })
   (G:=fun p s'=>Srt.Pm vs.length p∧Srt.Up (O:=O) key p vs.length∧s'={ s with heap:=(14:).push (56:) })
   (vs:=vs) (ks:=vs) rfl (12:) (12:) (fun p st' s' hsz har hfl hg=>?_) ?_) (fun r s' hq=>?_) fun _ _ e=>e)
  ·obtain ⟨hP,hU,es⟩:=hg
   exact ⟨p,hP,hU,kat_snds rfl har,hfl,es⟩
  ·refine Srt.Ok.wp (O:=O) (key:=key) (n:=vs.length) (fun i j C hi hj hC=>?_) (Q:=fun p=>Srt.Pm vs.length p∧Srt.Up (O:=O) key p vs.length) (fun p hp=>⟨hp.1,hp.2,rfl⟩) (Srt.sort_ok (12:) fun p a b=>⟨a,b⟩)
   exact hc { s with heap:=(14:).push (56:) } i j C keep hi hj hC
  ·obtain ⟨p,o1,o2,o3,o4,rfl⟩:=hq
   obtain ⟨⟨⟩,st'⟩:=r
   dsimp only at o3 o4 ⊢
   refine wpAny_bind (seqEpoch_at ho6 rfl ?_)
   rw [o3]
   refine wpAny_bind (listUpdate_at ho6 rfl ?_ (hsz2:=by show (p.toList.map fun i=>vs.getD i Value.none).toArray.size≤_;rw [List.size_toArray,List.length_map,o1.length_eq,List.length_range,sizeLine_eq];lia))
   rw [o4]
   simp only [bne_self_eq_false,Bool.false_eq_true,if_false]
   exact wpAny_pure (h p o1 o2)
theorem Xp {l:Addr} {vs:List Value} {Q:Value→Shared→Prop} (O:KeyOrd) (key:Nat→O.α) (κ:SortKind) (hl:s.heap.IsList l vs.toArray) (h64:vs.length < 64)
 (hk:∀ (s':Shared) (E':Value→Shared→Prop) (Q:SortKind→Shared→Prop),(∀ b o,s.heap.get? b=some o→s'.heap.get? b=some o)→2≤vs.length→Q κ s'→wpAny (19:) A.in1.in1 (keyKind' vs.toArray) Q E' s')
 (hc:∀ (s':Shared) (i j:Nat) (C:Bool→Shared→Prop),(∀ b o,s.heap.get? b=some o→s'.heap.get? b=some o)→i < vs.length→j < vs.length→C (O.blt (key i) (key j)) s'→wpAny (19:) A.in1.in1 (keyLt' κ (vs.getD i Value.none) (vs.getD j Value.none)) C (fun _ _=>False) s')
 (h:∀ p:Array Nat,Srt.Pm vs.length p→Srt.Up (O:=O) key p vs.length→Q (.ref (24:)) { s with heap:=sortedAll s.heap vs (p.toList.map fun i=>vs.getD i Value.none).toArray }) :
 wpAny (19:) A (call (.builtin "sorted") [.ref l]) Q E s:=by
 refine Calls.call_function_entry kind_sorted plain_sorted entry_sorted (args_sorted1 _) ?_
 unfold Builtin.«sorted»
 refine wpAny_bind (m:=checkCount "sorted" 1 1 _) (wpAny_pure ?_)
 refine wpAny_bind (collect_list hl ?_ (by rw [sizeLine_eq];lia))
 refine wpAny_bind (wpAny_newList ?_ (by rw [sizeLine_eq];lia))
 have hsz:((s.heap.push (56:)).update s.heap.objs.size (Obj.mapSeq (· ++ vs.toArray))).objs.size=s.heap.objs.size + 1:=by rw [Heap.size_update,size_push']
 have hoL:(((s.heap.push (56:)).update s.heap.objs.size (Obj.mapSeq (· ++ vs.toArray))).push (seqObj "list" vs.toArray 0)).get? (24:)=some (seqObj "list" vs.toArray 0):=by
  rw [← hsz];exact Heap.get?_push_size _ rfl
 have keep:∀ b o,s.heap.get? b=some o→(((s.heap.push (56:)).update s.heap.objs.size (Obj.mapSeq (· ++ vs.toArray))).push (seqObj "list" vs.toArray 0)).get? b=some o:=fun b o e=>by
  have hlt:b < s.heap.objs.size:=Heap.lt_size e
  exact Heap.get?_push_of_some _ ((Heap.get?_update_ne _ _ _ _ (Nat.ne_of_lt hlt)).trans (Heap.get?_push_of_some _ e))
 show wpAny _ _ _ _ _ { s with heap:=((s.heap.push (56:)).update s.heap.objs.size (Obj.mapSeq (· ++ vs.toArray))).push (seqObj "list" vs.toArray 0) }
 rw [hsz]
 refine wpAny_bind (wpAny_holding (wpAny_call_entry slot_list_sort ⟨_,hoL,rfl⟩ entry_list_sort ?_ (args_list_sort _)))
 have old:∀ (s':Shared),(∀ b o,b≠s.heap.objs.size + 1→(((s.heap.push (56:)).update s.heap.objs.size (Obj.mapSeq (· ++ vs.toArray))).push (seqObj "list" vs.toArray 0)).get? b=some o→s'.heap.get? b=some o)→∀ b o,s.heap.get? b=some o→s'.heap.get? b=some o:=fun s' h b o e=>by
  have hlt:b < s.heap.objs.size:=Heap.lt_size e
  exact h b o (fun z=>by rw [z] at hlt;exact absurd hlt (Nat.not_lt.mpr (Nat.le_succ _))) (keep b o e)
 refine VV (A:=A.in1.in1) O key κ hoL h64 (fun s' Q' hs h2 hq=>hk s' _ Q' (old s' hs) h2 hq) (fun s' i j C hs hi hj hC=>hc s' i j C (old s' hs) hi hj hC) fun p o1 o2=>⟨_,rfl,wpAny_pure ⟨_,rfl,h p o1 o2⟩⟩
theorem GI {x y:Addr} {fx sx fy sy:Value} {b:Bool} {C:Bool→Shared→Prop} (hx:s.heap.IsTuple x [fx,sx].toArray) (hy:s.heap.IsTuple y [fy,sy].toArray)
 (hne:x≠y→SeqAt.EqAt A s fx fy false∧wpAny (19:) A (oneLt' b fx fy) C (fun _ _=>False) s) (heq:x=y→SeqAt.EqAt A s fx fx true∧SeqAt.EqAt A s sx sx true∧C false s) :
 wpAny (19:) A (keyLt' (tuples' b) (.ref x) (.ref y)) C E s:=by
 obtain ⟨ox,gx,cx,nx,dx⟩:=hx
 obtain ⟨oy,gy,cy,ny,dy⟩:=hy
 refine kat_lt gx dx gy dy ?_
 by_cases h:x=y
 ·subst h
  obtain rfl:=Option.some.inj (gx.symm.trans gy)
  rw [dx] at dy
  injection dy with e1 e2
  have e3:[fx,sx]=[fy,sy]:=by simpa using congrArg Array.toList e1
  injection e3 with e4 e5
  injection e5 with e6 e7
  subst e4 e6
  obtain ⟨q1,q2,q3⟩:=heq rfl
  show KatLex prog w A b _ C [(fx,fx),(sx,sx)] 0 s
  refine kat_cons (q1 _ _ _ _ (kat_yes (kat_cons (q2 _ _ _ _ (kat_yes (kat_nil ?_))))))
  exact q3
 ·obtain ⟨q1,q2⟩:=hne h
  show KatLex prog w A b _ C [(fx,fy),(sx,sy)] 0 s
  refine kat_cons (q1 _ _ _ _ (kat_no ?_))
  have:(b && (0:Nat) == 0)=b:=by simp
  rw [this]
  exact q2
end
theorem Ld {α:Type} {O:KeyOrd} {ts:List α} {d:α} {key:α→O.α} {p:Array Nat} (hP:Srt.Pm ts.length p) (hU:Srt.Up (O:=O) (fun i=>key (ts.getD i d)) p ts.length) :
 (p.toList.map fun i=>ts.getD i d).Perm ts∧(p.toList.map fun i=>ts.getD i d).Pairwise fun x y=>O.blt (key y) (key x)=false:=by
 constructor
 ·have h1:=List.Perm.map (fun i=>ts.getD i d) hP
  have e:(List.range ts.length).map (fun i=>ts.getD i d)=ts:=by
   apply List.ext_getElem (29:)
   intro i a b
   simp at a
   simp [a]
  rwa [e] at h1
 ·rw [List.pairwise_iff_getElem]
  intro i j hi hj hij
  have hsz:=hP.size
  simp only [List.length_map,Array.length_toList] at hi hj
  have:=hU i j (Nat.le_of_lt hij) (12:)
  unfold KeyOrd.kle Srt.kk at this
  have ei:p.getD i 0=p[i]:=by simp [Array.getD,hi]
  have ej:p.getD j 0=p[j]:=by simp [Array.getD,hj]
  rw [ei,ej] at this
  simpa using this
theorem IsTuple.keeps {h h':Heap} {a:Addr} {xs:Array Value} (k:∀ b o,h.get? b=some o→h'.get? b=some o) (x:h.IsTuple a xs):h'.IsTuple a xs:=by
 obtain ⟨o,e,r⟩:=x
 exact ⟨o,k _ _ e,r⟩
section
variable {prog:Program} {w:World} {A:Around} {E:Value→Shared→Prop} {s:Shared}
end
section
variable {X:Cx}
theorem YF {α:Type} {f:α→Addr}:∀ {ts:List α} {us:List Value},Vals (ts.map fun t=>V.ref (f t)) us→us=ts.map fun t=>Value.ref (f t)
 | [],_,.nil=>rfl
 | t :: ts,_,.cons r rr=>by
  have e:_=Value.ref (f t):=r
  rw [List.map_cons,← YF rr,← e]
theorem UY {α:Type} {f:α→Addr}:∀ ts:List α,Vals (ts.map fun t=>V.ref (f t)) (ts.map fun t=>Value.ref (f t))
 | []=>.nil
 | t :: ts=>.cons rfl (UY ts)
end
end L2
namespace L2
open PySem PySem.Spec PyProof.Rows
theorem QW:plainId "dict.update.loop" = true:=by decide +kernel
theorem ZC:entryFor table "dict.update.loop" = some Builtin.«dict.update.loop»:=entryFor_of_tree (by kernel_rfl)
theorem Uw:typeLookup (.type "list") "keys" = pure none:=by rw [typeLookup_type,builtinLookup_eq_fast];kernel_rfl
section
variable {prog:Program} {w:World} {A:Around} {E:Value→Shared→Prop} {s:Shared}
theorem W0 {a:Addr} {xs:Array Value} {k:Nat} {sl:Array (Option Value)} {Q:Option Value→Shared→Prop} (hx:s.heap.get? a=some { cls:=.type "list", dict:=none,data:=.seq xs k,slots:=sl }) (hA:A.handled=none)
 (h:∀ h' tk,(∀ b o,s.heap.get? b=some o→h'.get? b=some o)→Q none { s with heap:=h',toks:=tk }):wpAny (19:) A (getAttr? (.ref a) "keys") Q E s:=by
 obtain ⟨hp,g,d,tk,os⟩:=s
 have hT:∀ tk',(⟨hp,g,d,tk',os⟩ : Shared).TypeIs (.ref a) "list" := fun _=>⟨_,hx,rfl⟩
 have f1:=sub_AttributeError
 have f3:=F.slot_list_getattribute.lookup
 have f4:=F.slot_list_getattribute.bind (.ref a)
 have f5:=am_list_getattr_none
 unfold getAttr? getAttrBy? getAttrBy
 repeat (any_goals (first | assumption | exact hT _ | ((with_reducible show wpAny _ _ (call (Value.builtin "list.__getattribute__") _ _) _ _ _);refine call_meets F.slot_list_getattribute (hT _) am_entry_list_getattribute (F.args_list_getattribute_2 _ _) (meets_getattribute_miss_list a xs k sl "keys" _ Uw (1:)) ⟨hx,hA,fun h' tk' e hx'=>?_⟩) | wp_step))
 obtain ⟨t',u',he⟩:=hx'.there
 show wpAny _ _ (getattributeRaised _ _ _ _ _ _ _) _ _ _
 unfold getattributeRaised
 repeat (any_goals (first | assumption | wp_step))
 exact h _ _ hx'.keeps
theorem Ub {h:Heap} {a b:Addr} {o u:Obj} (ha:h.get? a=some o) (hb:h.get? b=some u) (hc:o.cls≠u.cls):a≠b:=fun e=>by
 subst e
 rw [ha] at hb
 exact hc (congrArg Obj.cls (Option.some.inj hb))
def Zt (kvs:List (Key × Value)):List (Key × Value)→List (Key × Value)
 | []=>kvs
 | p :: r=>Zt (stored kvs p.1 p.2) r
theorem JT {R:Result→Shared→Prop} {l d it:Addr} {items:Array Value} (hA:A.handled=none) (hli:l≠it) (hd0:(d == sysModules)=false):∀ (ps:List (Key × Value)) (i:Nat) (s:Shared) (kvs:List (Key × Value)),i + ps.length=items.size→s.heap.IsListIter it l i→s.heap.IsList l items→s.heap.DictOf (Qt prog w) d kvs→kvs.length + ps.length≤sizeLine →
 (∀ (j:Nat) (q:Key × Value),ps[j]?=some q→∃ p u,items[i + j]?=some (.ref p)∧(Qt prog w).is q.1 u=true∧s.heap.IsTuple p #[u,q.2]) →
 (∀ h' tk,h'.DictOf (Qt prog w) d (Zt kvs ps)→(∀ b o,b≠it→b≠d→s.heap.get? b=some o→h'.get? b=some o)→R (.ok (.ret .none)) { s with heap:=h',toks:=tk }) →
 codeAny (19:) A (.builtin "dict.update.loop" ⟨[.ref d,.ref it,rawInt (i:Int),.none],[]⟩) R s
 | [],i,s,kvs,hk,hit,hL,hD,hz,hp,hR=>by
  have W:=Walks.list (prog:=prog) (w:=w) (A:=A.in1) hA it l hli items
  have hin:i=items.size:=by simpa using hk
  subst hin
  refine codeAny_builtin ZC ?_
  rw [Around.under_plainId QW _]
  show wpAny _ A.in1 (pyNext (.ref it) >>= _) _ _ s
  refine wpAny_bind (W.done s _ _ ⟨hit,hL⟩ fun h' tk hk'=>?_)
  show wpAny _ A.in1 (Builtin.Dict.addKeywords d [] >>= _) _ _ _
  refine wpAny_bind (wpAny_pure (wpAny_pure ?_))
  have hdi:d≠it:=by
   obtain ⟨o,es,ep,ho,hc,_⟩:=hD
   obtain ⟨o2,ho2,hc2,_⟩:=hit
   exact Ub ho ho2 (by rw [hc.1,hc2];intro z;injection z with z;exact absurd z (13:))
  exact hR h' tk (hD.extBut (b:=it) (fun a o hne e=>hk' a o (by simpa using hne) e) hdi) (fun b o h1 _ e=>hk' b o (by simpa using h1) e)
 | q :: ps,i,s,kvs,hk,hit,hL,hD,hz,hp,hR=>by
  have W:=Walks.list (prog:=prog) (w:=w) (A:=A.in1) hA it l hli items
  obtain ⟨p,u,hip,hku,hpt⟩:=hp 0 q rfl
  rw [Nat.add_zero] at hip
  have hlt:i < items.size:=by rw [List.length_cons] at hk;lia
  have hdi:d≠it:=by
   obtain ⟨o,es,ep,ho,hc,_⟩:=hD
   obtain ⟨o2,ho2,hc2,_⟩:=hit
   exact Ub ho ho2 (by rw [hc.1,hc2];intro z;injection z with z;exact absurd z (13:))
  have hdl:d≠l:=by
   obtain ⟨o,es,ep,ho,hc,_⟩:=hD
   obtain ⟨o2,ho2,hc2,_⟩:=hL
   exact Ub ho ho2 (by rw [hc.1,hc2];intro z;injection z with z;exact absurd z (13:))
  have hpi:∀ {p:Addr} {xs:Array Value},s.heap.IsTuple p xs→p≠it∧p≠d:=fun {p xs} ht=>by
   obtain ⟨o,ho,hc,_⟩:=ht
   obtain ⟨o2,ho2,hc2,_⟩:=id hit
   obtain ⟨o3,es,ep,ho3,hc3,_⟩:=id hD
   exact ⟨Ub ho ho2 (by rw [hc,hc2];intro z;injection z with z;exact absurd z (13:)),Ub ho ho3 (by rw [hc,hc3.1];intro z;injection z with z;exact absurd z (13:))⟩
  refine codeAny_builtin ZC ?_
  rw [Around.under_plainId QW _]
  show wpAny _ A.in1 (pyNext (.ref it) >>= _) _ _ s
  refine wpAny_bind (W.item i s _ _ hlt ⟨hit,hL⟩ fun v h' tk hP hst' hk'=>?_)
  obtain rfl:v=.ref p:=Option.some.inj ((show items[i]?=some v from hP).symm.trans hip)
  have hk2:∀ b o,b≠it→s.heap.get? b=some o→h'.get? b=some o:=fun b o hb e=>hk' b o (by simpa using hb) e
  have hpt':h'.IsTuple p #[u,q.2]:=by
   obtain ⟨o,ho,r⟩:=id hpt
   exact ⟨o,hk2 _ _ (hpi hpt).1 ho,r⟩
  obtain ⟨o,ho,hc,n,hdat⟩:=id hpt'
  refine wpAny_bind (wpAny_holding ?_)
  refine wpAny_bind (wpAny_tryCatch ?_)
  unfold Builtin.Dict.pairItems
  refine wpAny_bind (wpAny_typeOf (T:="tuple") (s:={ s with heap:=h',toks:=tk }) ⟨o,ho,hc⟩ ?_)
  rw [if_pos (1:)]
  refine wpAny_bind ?_
  show wpAny _ A.in1 (load p >>= _) _ _ _
  refine wpAny_bind (wpAny_load ho ?_)
  rw [hdat]
  refine wpAny_pure (wpAny_pure ?_)
  have hD':h'.DictOf (Qt prog w) d kvs:=hD.extBut (b:=it) (fun a o hne e=>hk2 a o hne e) hdi
  refine wpAny_holding (wpAny_dictSet_pairs (s:={ s with heap:=h',toks:=tk }) hku hD' (fun h'' hD'' hs=>?_) (by rw [List.length_cons] at hz;lia))
  have hit2:h''.IsListIter it l (i + 1):=by
   obtain ⟨o,ho,r⟩:=hst'.1
   exact ⟨o,(hs.2 it (Ne.symm hdi)).trans ho,r⟩
  have hL2:h''.IsList l items:=by
   obtain ⟨o,ho,r⟩:=hst'.2
   exact ⟨o,(hs.2 l (Ne.symm hdl)).trans ho,r⟩
  have keep2:∀ b o,b≠it→b≠d→s.heap.get? b=some o→h''.get? b=some o:=fun b o h1 h2 e=>(hs.2 b h2).trans (hk2 b o h1 e)
  have hlen:(stored kvs q.1 q.2).length≤kvs.length + 1:=by
   unfold stored
   split
   ·rw [List.length_map];lia
   ·rw [List.length_append];simp
  refine wpAny_pure ⟨plainId_quiet QW _,?_⟩
  refine JT hA hli hd0 ps (i + 1) _ (stored kvs q.1 q.2) (by rw [List.length_cons] at hk;lia) hit2 hL2 hD'' (by rw [List.length_cons] at hz;lia) (fun j r hj=>?_) fun h3 tk3 hD3 hk3=>?_
  ·obtain ⟨p',u',e1,e2,e3⟩:=hp (j + 1) r (by simpa using hj)
   refine ⟨p',u',by rw [← e1];congr 1;lia,e2,?_⟩
   obtain ⟨o,ho,rr⟩:=id e3
   exact ⟨o,keep2 _ _ (hpi e3).1 (hpi e3).2 ho,rr⟩
  ·exact hR h3 tk3 hD3 fun b o h1 h2 e=>hk3 b o h1 h2 (keep2 b o h1 h2 e)
theorem Xs {l:Addr} {items:Array Value} {ps:List (Key × Value)} {Q:Value→Shared→Prop} (hA:A.handled=none) (hb:sysModules < s.heap.objs.size) {ol:Obj} {nl:Nat} (hl:s.heap.get? l=some ol) (hlc:ol.cls=.type "list") (hld:ol.dict=none) (hlt:ol.data=.seq items nl) (hz:ps.length≤sizeLine) (hn:ps.length=items.size)
 (hp:∀ (j:Nat) (q:Key × Value),ps[j]?=some q→∃ p u,items[j]?=some (.ref p)∧(Qt prog w).is q.1 u=true∧s.heap.IsTuple p #[u,q.2])
 (h:∀ h' tk,h'.DictOf (Qt prog w) s.heap.objs.size (Zt [] ps)→(∀ b o,s.heap.get? b=some o→h'.get? b=some o)→Q (.ref s.heap.objs.size) { s with heap:=h',toks:=tk }) :
 wpAny (19:) A (call (.type "dict") [.ref l]) Q E s:=by
 refine callType_codes (Q₁:=fun obj s₁=>obj=.ref s.heap.objs.size∧s₁={ s with heap:=s.heap.push { cls:=.type "dict", data:=.dict #[] } }) F.kt_called_dict (F.kt_typeCall_dict_1 _) F.entry_dict_init (kt_code_dict_new _ ⟨rfl,rfl⟩) ?_
 rintro obj s₁ ⟨rfl,rfl⟩
 have hnew:(s.heap.push { cls:=.type "dict", data:=.dict #[] }).DictOf (Qt prog w) s.heap.objs.size []:=Heap.DictOf.new s.heap
 have hl1:(s.heap.push { cls:=.type "dict", data:=.dict #[] }).get? l=some ol:=Heap.get?_push_of_some _ hl
 have hT:({ s with heap:=s.heap.push { cls:=.type "dict", data:=.dict #[] } }:Shared).TypeIs (.ref l) "list" := ⟨_,hl1,hlc⟩
 obtain ⟨c1,d1,t1,s1⟩:=ol
 simp only at hlc hld hlt
 subst hlc hld hlt
 refine ⟨hnew.typeIs,F.args_dict_init_2 _ _,?_⟩
 unfold Builtin.«dict.__init__»
 refine wpAny_bind ?_
 unfold Builtin.Dict.selfAndRest
 refine wpAny_bind (wpAny_notOrdered_dict hnew.typeIs ?_)
 show wpAny _ _ (pure (s.heap.objs.size,[Value.ref l])) _ _ _
 refine wpAny_pure ?_
 show wpAny _ _ (Builtin.Dict.updateFrom "dict.__init__" s.heap.objs.size (.ref l) [] .none) _ _ _
 unfold Builtin.Dict.updateFrom
 refine wpAny_bind (wpAny_typeOf hT ?_)
 rw [if_pos (13:)]
 refine wpAny_bind (W0 hl1 hA fun h2 tk2 hk2=>?_)
 simp only [Option.isNone_none,if_true]
 refine wpAny_bind (wpAny_rule ?_)
 have hL2:h2.IsList l items:=⟨_,hk2 _ _ hl1,rfl,nl,rfl⟩
 refine wpAny_bind (wpAny_pyIter_list (s:={ s with heap:=h2,toks:=tk2 }) hL2 ?_)
 have hlt2:l < h2.objs.size:=Heap.lt_size (hk2 _ _ hl1)
 have hsz2:s.heap.objs.size < h2.objs.size:=by
  obtain ⟨o,es,ep,ho,_⟩:=id hnew
  exact Heap.lt_size (hk2 _ _ ho)
 have hD2:h2.DictOf (Qt prog w) s.heap.objs.size []:=by
  obtain ⟨o,es,ep,ho,r⟩:=id hnew
  exact ⟨o,es,ep,hk2 _ _ ho,r⟩
 have old:∀ b o,s.heap.get? b=some o→h2.get? b=some o:=fun b o e=>hk2 b o (Heap.get?_push_of_some _ e)
 refine wpAny_pure ⟨plainId_quiet QW _,JT (A:=A.in1) (it:=h2.objs.size) (l:=l) (items:=items) hA (Nat.ne_of_lt hlt2) (beq_eq_false_iff_ne.mpr (Ne.symm (Nat.ne_of_lt hb))) ps 0 _ [] (by simpa using hn) ⟨_,Heap.get?_push_size _ rfl,rfl,rfl⟩ (hL2.push _) (hD2.push _) (by simpa using hz) (fun j q hq=>?_) fun h' tk hD hk=>⟨rfl,?_⟩⟩
 ·obtain ⟨p,u,e1,e2,o,ho,r⟩:=hp j q hq
  exact ⟨p,u,by rw [Nat.zero_add];exact e1,e2,o,Heap.get?_push_of_some _ (old _ _ ho),r⟩
 ·refine h h' tk hD fun b o e=>hk b o ?_ ?_ (Heap.get?_push_of_some _ (old b o e))
  ·exact Nat.ne_of_lt (Heap.lt_size (old b o e))
  ·exact Nat.ne_of_lt (57:)
end
theorem XV {kvs:List (Key × Value)} {k:Key} {v:Value} (h:k ∉ kvs.map (·.1)):stored kvs k v=kvs ++ [(k,v)]:=by
 unfold stored
 rw [if_neg]
 intro z
 obtain ⟨kv,h1,h2⟩:=List.any_eq_true.mp z
 exact h (List.mem_map.mpr ⟨kv,h1,of_decide_eq_true h2⟩)
theorem Ym:∀ (ps kvs:List (Key × Value)),((kvs ++ ps).map (·.1)).Nodup→Zt kvs ps=kvs ++ ps
 | [],kvs,_=>by simp [Zt]
 | p :: r,kvs,h=>by
  have hn:p.1 ∉ kvs.map (·.1):=fun hm=>by
   rw [List.map_append,List.nodup_append] at h
   exact h.2.2 _ hm _ (29:) rfl
  show Zt (stored kvs p.1 p.2) r=_
  rw [XV hn]
  have e:kvs ++ [(p.1,p.2)] ++ r=kvs ++ p :: r:=by simp
  rw [Ym r _ (by rw [e];exact h),e]
theorem Xh {X:Cx} {pins:List (7:)} {σ:St} {H:Hp} {s:Shared} (I:Inv X pins σ H s):∀ ts:List (Addr × Str × V),(∀ t ∈ ts,SqT X.K H t.1 [.str t.2.1,t.2.2]) →
 ∃ ps:List (Key × Value),KV (ts.map fun t=>(58:)) ps∧∀ (j:Nat) (q:Key × Value),ps[j]?=some q→∃ p u,(ts.map fun t=>Value.ref t.1)[j]?=some (.ref p)∧(Qt X.prog X.w).is q.1 u=true∧s.heap.IsTuple p #[u,q.2]
 | [],_=>⟨[],.nil,fun j q h=>by simp at h⟩
 | t :: r,h=>by
  obtain ⟨ps,h1,h2⟩:=Xh I r fun u hu=>h u (List.mem_cons_of_mem _ hu)
  obtain ⟨its,rv,p,_⟩:=I.tuple (h t List.mem_cons_self)
  obtain ⟨u,v,rfl,ru,rv'⟩:=rv.two
  refine ⟨(Sum.inr t.2.1,v) :: ps,.cons ⟨rfl,rv'⟩ h1,fun j q hj=>?_⟩
  cases j with
  | zero =>
   have:q=(Sum.inr t.2.1,v):=by simpa using hj.symm
   subst this
   exact ⟨t.1,u,rfl,Y9 (k:=Sum.inr t.2.1) ru,p⟩
  | succ j =>
   obtain ⟨p',u',e1,e2,e3⟩:=h2 j q (by simpa using hj)
   exact ⟨p',u',by simpa using e1,e2,e3⟩
theorem KV.keys' {kvs:List (Key × V)} {ps:List (Key × Value)} (r:KV kvs ps):ps.map (·.1)=kvs.map (·.1):=by
 induction r with
 | nil=>rfl
 | cons h _ ih=>rw [List.map_cons,List.map_cons,ih,h.1]
section
variable {X:Cx}
theorem Z8 (hc:X.calm=true):Zc X (.type "dict") (fun xs H Q=>∃ (l:Addr) (ts:List (Addr × Str × V)),xs=[.ref l]∧SqL X.K H l (ts.map fun t=>V.ref t.1)∧(∀ t ∈ ts,SqT X.K H t.1 [.str t.2.1,t.2.2])∧(ts.map fun t=>t.2.1).Nodup∧ts.length≤1000 ∧
 ∀ d,H d=none→Q (.ref d) (upd H d (.dK (ts.map fun t=>(58:))))):=by
 intro pins s σ H xs us Q I r h
 obtain ⟨l,ts,rfl,hl,ht,hnd,hz,q⟩:=h
 cases r with
 | cons r rr =>
  cases rr
  obtain rfl:_=Value.ref l:=r
  obtain ⟨its,rv,⟨o,n,e,c,dn,dt⟩,_⟩:=I.list hl
  obtain rfl:=YF rv
  obtain ⟨ps,hkv,hps⟩:=Xh I ts ht
  have hlen:ps.length=ts.length:=by have:=hkv.length;rw [List.length_map] at this;exact this.symm
  have hz1:ps.length≤sizeLine:=by rw [hlen,sizeLine_eq];lia
  refine Xs (I.ok.hd hc) I.big e c dn dt hz1 (by rw [List.size_toArray,List.length_map];exact hlen) (fun j q hq=>by simpa using hps j q hq) fun h' tk hD hk=>?_
  have hk1:((([]:List (Key × Value)) ++ ps).map (·.1)).Nodup:=by
   rw [List.nil_append,KV.keys' hkv,List.map_map]
   have e2:(ts.map ((fun x:Key × V=>x.1) ∘ fun t=>(58:)))=(ts.map fun t=>t.2.1).map (Sum.inr:Str→Key):=by rw [List.map_map];rfl
   rw [e2]
   exact List.Pairwise.map _ (fun a b hne z=>hne (by injection z)) hnd
  rw [Ym ps [] hk1,List.nil_append] at hD
  have hfr:=I.hok.fresh (Nat.le_refl s.heap.objs.size)
  refine ⟨.ref s.heap.objs.size,_,I.laid (a:=s.heap.objs.size) (o:=.dK (ts.map fun t=>(58:))) (t':=tk) hk (10:) (Vm (by rw [List.length_map,sizeLine_eq];lia) (beq_eq_false_iff_ne.mpr (Ne.symm (Nat.ne_of_lt I.big))) hkv hD),rfl,q _ hfr⟩
end
end L2
namespace L2
open PySem PySem.Spec PyProof.Rows
section
variable {X:Cx} {tg:Expr}
end
end L2
namespace TM
inductive Tree (α:Type) where
 | node (name:α) (mark:Int) (bs:List (Tree α))
variable {α:Type}
def Tree.bs:Tree α→List (Tree α)
 | .node _ _ bs=>bs
def atT:Tree α→List Int→Option (Tree α)
 | t,[]=>some t
 | t,i :: r=>if 0≤i then (match t.bs[i.toNat]? with
  | some b=>atT b r
  | none=>none) else none
theorem Y3 (t:Tree α):atT t []=some t:=by cases t;rfl
theorem Zs (t:Tree α) (i:Int) (r:List Int):atT t (i :: r)=if 0≤i then (match t.bs[i.toNat]? with
 | some b=>atT b r
 | none=>none) else none:=by cases t;rfl
theorem Z0:∀ (p q:List Int) (t:Tree α),atT t (p ++ q)=(atT t p).bind fun u=>atT u q
 | [],q,t=>by rw [List.nil_append,Y3];rfl
 | i :: p,q,t=>by
  rw [List.cons_append,Zs,Zs]
  by_cases h:0≤i
  ·rw [if_pos h,if_pos h]
   cases t.bs[i.toNat]? with
   | none=>rfl
   | some b=>exact Z0 p q b
  ·rw [if_neg h,if_neg h];rfl
def putB:Tree α→List Int→Tree α→Tree α
 | _,[],o=>o
 | .node a m bs,i :: r,o=>match bs[i.toNat]? with
  | some b=>.node a m (bs.set i.toNat (putB b r o))
  | none=>.node a m bs
theorem JP (t o:Tree α):putB t [] o=o:=by cases t;rfl
theorem Ja (a:α) (m:Int) (bs:List (Tree α)) (i:Int) (r:List Int) (o b:Tree α) (h:bs[i.toNat]?=some b):putB (.node a m bs) (i :: r) o=.node a m (bs.set i.toNat (putB b r o)):=by
 show (match bs[i.toNat]? with
  | some b=>Tree.node a m (bs.set i.toNat (putB b r o))
  | none=>.node a m bs)=_
 rw [h]
structure Rows (α:Type) where
 n:Nat
 nm:Nat→α
 mr:Nat→Int
 up:Nat→Nat
variable {R:Rows α}
section
variable {K:Nat→List Int} {B:Nat→Tree α} {o0:Tree α}
def it (R:Rows α):Nat→Nat→Nat
 | 0,s=>s
 | j + 1,s=>R.up (it R j s)
variable {B':Nat→Tree α} {o:Tree α} {s:Nat}
end
end TM
namespace L2
open PySem PySem.Spec PyProof.Rows TM
mutual
inductive TrV (K:PySem.W.Frag) (H:Hp):V→Tree Str→Prop where
 | mk {a b:Addr} {vs:List V} {ts:List (Tree Str)} {name:Str} {mark:Int}:SqT K H a [.str name,.int mark,.ref b]→SqT K H b vs→TrAll K H vs ts→vs.length≤1000→TrV K H (.ref a) (.node name mark ts)
inductive TrAll (K:PySem.W.Frag) (H:Hp):List V→List (Tree Str)→Prop where
 | nil:TrAll K H [] []
 | cons {v:V} {vs:List V} {t:Tree Str} {ts:List (Tree Str)}:TrV K H v t→TrAll K H vs ts→TrAll K H (v :: vs) (t :: ts)
end
mutual
theorem TrV.mono {K:PySem.W.Frag} {H H':Hp} (k:∀ a xs,SqT K H a xs→SqT K H' a xs):∀ {v:V} {t:Tree Str},TrV K H v t→TrV K H' v t
 | _,_,.mk h1 h2 h3 h4=>.mk (k _ _ h1) (k _ _ h2) (TrAll.mono k h3) h4
theorem TrAll.mono {K:PySem.W.Frag} {H H':Hp} (k:∀ a xs,SqT K H a xs→SqT K H' a xs):∀ {vs:List V} {ts:List (Tree Str)},TrAll K H vs ts→TrAll K H' vs ts
 | _,_,.nil=>.nil
 | _,_,.cons h t=>.cons (TrV.mono k h) (TrAll.mono k t)
end
theorem TrAll.length {K:PySem.W.Frag} {H:Hp}:∀ {vs:List V} {ts:List (Tree Str)},TrAll K H vs ts→vs.length=ts.length
 | _,_,.nil=>rfl
 | _,_,.cons _ t=>by rw [List.length_cons,List.length_cons,TrAll.length t]
theorem TrAll.get {K:PySem.W.Frag} {H:Hp}:∀ {vs:List V} {ts:List (Tree Str)} {i:Nat} {t:Tree Str},TrAll K H vs ts→ts[i]?=some t→∃ v,vs[i]?=some v∧TrV K H v t
 | _,_,_,_,.nil,e=>by simp at e
 | _,_,0,_,.cons h _,e=>by simp at e;subst e;exact ⟨_,rfl,h⟩
 | _,_,i + 1,t,.cons _ r,e=>by
  obtain ⟨v,h1,h2⟩:=TrAll.get (i:=i) (t:=t) r (by simpa using e)
  exact ⟨v,by simpa using h1,h2⟩
theorem TrAll.append {K:PySem.W.Frag} {H:Hp}:∀ {vs ws:List V} {ts us:List (Tree Str)},TrAll K H vs ts→TrAll K H ws us→TrAll K H (vs ++ ws) (ts ++ us)
 | _,_,_,_,.nil,h=>h
 | _,_,_,_,.cons a t,h=>.cons a (TrAll.append t h)
theorem TrAll.take {K:PySem.W.Frag} {H:Hp}:∀ {vs:List V} {ts:List (Tree Str)} (n:Nat),TrAll K H vs ts→TrAll K H (vs.take n) (ts.take n)
 | _,_,0,_=>.nil
 | _,_,_ + 1,.nil=>.nil
 | _,_,n + 1,.cons a t=>.cons a (TrAll.take n t)
theorem TrAll.drop {K:PySem.W.Frag} {H:Hp}:∀ {vs:List V} {ts:List (Tree Str)} (n:Nat),TrAll K H vs ts→TrAll K H (vs.drop n) (ts.drop n)
 | _,_,0,h=>h
 | _,_,_ + 1,.nil=>.nil
 | _,_,n + 1,.cons _ t=>TrAll.drop n t
theorem SqT.put {K:PySem.W.Frag} {H:Hp} {a d:Addr} {xs ys:List V} {o:HO} (h:SqT K H a xs) (hd:H d=some (.lst ys)):SqT K (upd H d o) a xs:=by
 rcases h with (h | ⟨ob,h⟩) | h
 ·exact .inl (.inl (by rw [Qi (ne_of h hd (18:))];exact h))
 ·exact .inl (.inr ⟨ob,by rw [Qi (ne_of h hd (18:))];exact h⟩)
 ·exact .inr h
end L2
namespace TM
variable {α:Type}
mutual
def sz:Tree α→Nat
 | .node _ _ bs=>1 + szs bs
def szs:List (Tree α)→Nat
 | []=>0
 | t :: r=>sz t + szs r
end
mutual
def lv:Tree α→Nat
 | .node _ _ bs=>1 + lvs bs
def lvs:List (Tree α)→Nat
 | []=>0
 | t :: r=>max (lv t) (lvs r)
end
mutual
def pl:Tree α→List (List Int)
 | .node _ _ bs=>[] :: pls 0 bs
def pls:Nat→List (Tree α)→List (List Int)
 | _,[]=>[]
 | i,t :: r=>(pl t).map (List.cons (i:Int)) ++ pls (i + 1) r
end
open HT (Lx)
variable {R:Rows α} {K:Nat→List Int} {B:Nat→Tree α} {o0:Tree α}
end TM
namespace TT
open TM PySem
inductive Lab where
 | call (m b:Int)
 | put (nm:Str) (kept:Bool) (add:Int)
abbrev Tm:=Tree Lab
def Zu (m b:Int):Tm:=.node (.call m b) 0 []
def lcl:Lab→List (Int × Int)
 | .call m b=>[(m,b)]
 | .put _ _ _=>[]
def lab:Tm→Lab
 | .node l _ _=>l
mutual
def cls:Tm→List (Int × Int)
 | .node l _ bs=>lcl l ++ N7 bs
def N7:List Tm→List (Int × Int)
 | []=>[]
 | t :: r=>cls t ++ N7 r
end
def hdF (f:Int→Int→Tm):Lab→List Tm→Tm
 | .call m b,_=>f m b
 | .put n k a,ts=>.node (.put n k a) 0 ts
mutual
def sub (f:Int→Int→Tm):Tm→Tm
 | .node l _ bs=>hdF f l (ND f bs)
def ND (f:Int→Int→Tm):List Tm→List Tm
 | []=>[]
 | t :: r=>sub f t :: ND f r
end
def look (t:Tm) (p:List Int):List (Int × Int):=match atT t p with
 | some u=>lcl (lab u)
 | none=>[]
variable {R:Rows Lab}
variable {B B':Nat→Tm} {f:Int→Int→Tm}
end TT
namespace L2
open PySem PyProof.Rows TM TT
abbrev CALL:Str:=Str.ofString "call"
abbrev PUT:Str:=Str.ofString "put"
mutual
inductive TmV (K:PySem.W.Frag) (H:Hp):V→Tm→Prop where
 | call {a:Addr} {m b:Int}:SqT K H a [.str CALL,.int m,.int b]→TmV K H (.ref a) (.node (.call m b) 0 [])
 | put {a b:Addr} {vs:List V} {ts:List Tm} {n:Str} {k:Bool} {ad:Int}:SqT K H a [.str PUT,.str n,.bl k,.int ad,.ref b]→SqT K H b vs→TmAll K H vs ts→vs.length≤1000→TmV K H (.ref a) (.node (.put n k ad) 0 ts)
inductive TmAll (K:PySem.W.Frag) (H:Hp):List V→List Tm→Prop where
 | nil:TmAll K H [] []
 | cons {v:V} {vs:List V} {t:Tm} {ts:List Tm}:TmV K H v t→TmAll K H vs ts→TmAll K H (v :: vs) (t :: ts)
end
mutual
theorem TmV.mono {K:PySem.W.Frag} {H H':Hp} (k:∀ a xs,SqT K H a xs→SqT K H' a xs):∀ {v:V} {t:Tm},TmV K H v t→TmV K H' v t
 | _,_,.call h=>.call (k _ _ h)
 | _,_,.put h1 h2 h3 h4=>.put (k _ _ h1) (k _ _ h2) (TmAll.mono k h3) h4
theorem TmAll.mono {K:PySem.W.Frag} {H H':Hp} (k:∀ a xs,SqT K H a xs→SqT K H' a xs):∀ {vs:List V} {ts:List Tm},TmAll K H vs ts→TmAll K H' vs ts
 | _,_,.nil=>.nil
 | _,_,.cons h t=>.cons (TmV.mono k h) (TmAll.mono k t)
end
theorem TmAll.length {K:PySem.W.Frag} {H:Hp}:∀ {vs:List V} {ts:List Tm},TmAll K H vs ts→vs.length=ts.length
 | _,_,.nil=>rfl
 | _,_,.cons _ t=>by rw [List.length_cons,List.length_cons,TmAll.length t]
theorem TmAll.get {K:PySem.W.Frag} {H:Hp}:∀ {vs:List V} {ts:List Tm} {i:Nat} {t:Tm},TmAll K H vs ts→ts[i]?=some t→∃ v,vs[i]?=some v∧TmV K H v t
 | _,_,_,_,.nil,e=>by simp at e
 | _,_,0,_,.cons h _,e=>by simp at e;subst e;exact ⟨_,rfl,h⟩
 | _,_,i + 1,t,.cons _ r,e=>by
  obtain ⟨v,h1,h2⟩:=TmAll.get (i:=i) (t:=t) r (by simpa using e)
  exact ⟨v,by simpa using h1,h2⟩
theorem Lc:PyData.strOk PUT=true:=by decide +kernel
end L2
namespace L2
open PySem PySem.Spec PyProof.Rows PySem.W
section
variable {X:Cx}
end
@[reducible] def strOrd:KeyOrd:=⟨List Nat,fun a b=>decide (a < b),fun a=>strKind.irrefl a,fun a b c=>strKind.trans a b c,fun a b c=>strKind.negTrans a b c,fun a b=>strKind.total a b⟩
abbrev PNx:=Addr × Str × Addr × List Str
def PairN (h:Heap) (t:PNx):Prop:=∃ (tk:Tok) (as:List Addr),h.IsTuple t.1 [Value.str t.2.1 tk,Value.ref t.2.2.1].toArray∧Reads h (.ref t.2.2.1) (.tuple (t.2.2.2.map PyData.str)) as
theorem PairN.keeps {h h':Heap} {t:PNx} (k:∀ b o,h.get? b=some o→h'.get? b=some o) (x:PairN h t):PairN h' t:=by
 obtain ⟨tk,as,h1,h2⟩:=x
 exact ⟨tk,as,IsTuple.keeps k h1,Reads.keeps k h2⟩
theorem Jt {K:PySem.W.Frag} {H:Hp}:∀ p:List Str,RdAll K H (p.map V.str) (p.map PyData.str)
 | []=>.nil
 | i :: r=>.cons (.str i) (Jt r)
theorem Uc:∀ p:List Str,(∀ x ∈ p,PyData.strOk x=true)→PyData.canLayAll0 (p.map PyData.str)=true
 | [],_=>by simp [PyData.canLayAll0]
 | i :: r,h=>by simp only [List.map_cons,PyData.canLayAll0,PyData.canLay0,Uc r fun x hx=>h x (List.mem_cons_of_mem _ hx),h i List.mem_cons_self,Bool.and_self]
theorem Uj {h:Heap}:∀ {ts:List PNx},(∀ t ∈ ts,PairN h t)→∃ fs:List Value,KatTups h (ts.map fun t=>Value.ref t.1) fs∧(∀ v ∈ fs,∃ x t,v=Value.str x t)∧fs.length=ts.length
 | [],_=>⟨[],KatTups.nil,fun v hv=>(nomatch hv),rfl⟩
 | t :: r,ht=>by
  obtain ⟨tk,as,⟨o,go,gc,n,gd⟩,_⟩:=ht t List.mem_cons_self
  obtain ⟨fs,h1,h2,h3⟩:=Uj fun u hu=>ht u (List.mem_cons_of_mem _ hu)
  refine ⟨Value.str t.2.1 tk :: fs,KatTups.cons go gc gd rfl h1,fun v hv=>?_,by simp [h3]⟩
  rcases List.mem_cons.mp hv with rfl | hv
  ·exact ⟨_,_,rfl⟩
  ·exact h2 v hv
section
variable {prog:Program} {w:World} {A:Around} {E:Value→Shared→Prop} {s:Shared}
theorem Gn {t u:PNx} {C:Bool→Shared→Prop} (ht:PairN s.heap t) (hu:PairN s.heap u) (hok:∀ x ∈ t.2.2.2,PyData.strOk x=true) (hd:t.1≠u.1→t.2.1≠u.2.1) (hA:A.units + 2 < cLine) (h:C (decide (t.2.1.cps.toList < u.2.1.cps.toList)) s):wpAny (19:) A (keyLt' (tuples' true) (.ref t.1) (.ref u.1)) C E s:=by
 obtain ⟨tk,as,h1,h4⟩:=ht
 obtain ⟨tk2,as2,g1,g4⟩:=hu
 have lay:(PyData.tuple (t.2.2.2.map PyData.str)).canLay0=true:=by simp only [PyData.canLay0];exact Uc _ hok
 have dep:(PyData.tuple (t.2.2.2.map PyData.str)).depth≤1:=by simp only [PyData.depth,ZY];lia
 refine GI h1 g1 (fun hne=>?_) (fun heq=>?_)
 ·refine ⟨?_,oneLt_str h⟩
  have e:=(eqGives_str t.2.1 u.2.1 tk tk2).at A s
  have:(t.2.1 == u.2.1)=false:=by simpa using hd hne
  rw [this] at e
  exact e
 ·refine ⟨?_,?_,?_⟩
  ·have e:=(eqGives_str t.2.1 t.2.1 tk tk).at A s
   simpa using e
  ·have e:=SeqAt.eqAt_reads _ _ A s _ _ _ _ h4 h4 lay lay (12:)
   rw [ZG _ lay] at e
   exact e
  ·have e1:t.2.1=u.2.1:=by
    obtain ⟨o,e,_,n,d⟩:=h1
    obtain ⟨o2,e2,_,n2,d2⟩:=g1
    rw [heq,e2] at e
    cases e
    rw [d] at d2
    injection d2 with z1 z2
    have z3:[Value.str t.2.1 tk,Value.ref t.2.2.1]=[Value.str u.2.1 tk2,Value.ref u.2.2.1]:=by simpa using congrArg Array.toList z1
    injection z3 with z4 z5
    injection z4
   rw [← e1,decide_eq_false (List.lt_irrefl _)] at h
   exact h
end
section
variable {X:Cx}
theorem Yn (hu:X.A.units + 4 < cLine):Zc X (.builtin "sorted") (fun xs H Q=>∃ (l:Addr) (ts:List PNx),xs=[.ref l]∧SqL X.K H l (ts.map fun t=>V.ref t.1)∧(∀ t ∈ ts,SqT X.K H t.1 [.str t.2.1,.ref t.2.2.1]∧SqT X.K H t.2.2.1 (t.2.2.2.map V.str)∧∀ x ∈ t.2.2.2,PyData.strOk x=true)∧(ts.map fun t=>t.2.1).Nodup∧ts.length < 64 ∧
 ∀ (out:List PNx) p,out.Perm ts→(out.Pairwise fun x y=>¬ y.2.1.cps.toList < x.2.1.cps.toList)→H p=none→Q (.ref p) (upd H p (.lst (out.map fun t=>V.ref t.1)))):=by
 intro pins s σ H xs us Q I r h
 obtain ⟨l,ts,rfl,hl,ht,hnd,h64,q⟩:=h
 cases r with
 | cons r rr =>
  cases rr
  obtain rfl:_=Value.ref l:=r
  obtain ⟨its,rv,p,_⟩:=I.list hl
  obtain rfl:=YF rv
  have hP:∀ t ∈ ts,PairN s.heap t:=fun t htm=>by
   obtain ⟨h1,h2,_⟩:=ht t htm
   obtain ⟨its1,r1,p1,_⟩:=I.tuple h1
   obtain ⟨u,v,rfl,ru,rv⟩:=r1.two
   cases (show v=Value.ref _ from rv)
   obtain ⟨tk,rfl⟩:=(show ∃ tk,u=Value.str _ tk from ru)
   obtain ⟨as,q4⟩:=(RdV.tup h2 (Jt _)).reads I (show RelV (.ref t.2.2.1) (.ref t.2.2.1) from rfl)
   exact ⟨tk,as,p1,q4⟩
  let d:PNx:=(0,⟨#[]⟩,0,[])
  have gd:∀ i,i < ts.length→(ts.map fun t=>Value.ref t.1).getD i Value.none=.ref (ts.getD i d).1:=fun i hi=>by simp [List.getD_eq_getElem?_getD,hi]
  have md:∀ i,i < ts.length→ts.getD i d ∈ ts:=fun i hi=>by simp [List.getD_eq_getElem?_getD,hi]
  have ek:(Value.type "str" != Value.type "tuple")=true:=by decide +kernel
  refine Xp strOrd (fun i=>(ts.getD i d).2.1.cps.toList) (tuples' true) p.isList (by simpa using h64) (fun s' E' Q' hs h2 hq=>?_) (fun s' i j C hs hi hj hC=>?_) fun pp o1 o2=>?_
  ·obtain ⟨fs,f1,f2,f3⟩:=Uj (h:=s'.heap) fun t htm=>(hP t htm).keeps hs
   refine kat_kind (T:=.type "str") f1 (by rw [f3];rw [List.length_map] at h2;lia) (fun v hv=>?_) (1:) (by rw [ek];exact hq)
   obtain ⟨x,t,rfl⟩:=f2 v hv
   exact .now
  ·rw [List.length_map] at hi hj
   rw [gd i hi,gd j hj]
   refine Gn ((hP _ (md i hi)).keeps hs) ((hP _ (md j hj)).keeps hs) (ht _ (md i hi)).2.2 (fun hne he=>hne ?_) (by show X.A.units + 1 + 1 + 2 < cLine;lia) hC
   have hij:i=j:=by
    have a1:(ts.map fun t=>t.2.1)[i]'(by simpa using hi)=(ts.getD i d).2.1:=by simp [List.getD_eq_getElem?_getD,hi]
    have a2:(ts.map fun t=>t.2.1)[j]'(by simpa using hj)=(ts.getD j d).2.1:=by simp [List.getD_eq_getElem?_getD,hj]
    exact (List.getElem_inj hnd).mp (a1.trans (he.trans a2.symm))
   rw [hij]
  ·rw [List.length_map] at o1 o2
   obtain ⟨w1,w2⟩:=Ld (O:=strOrd) (ts:=ts) (d:=d) (key:=fun t=>t.2.1.cps.toList) o1 o2
   have em:(pp.toList.map fun i=>(ts.map fun t=>Value.ref t.1).getD i Value.none)=(pp.toList.map fun i=>ts.getD i d).map fun t=>Value.ref t.1:=by
    rw [List.map_map]
    refine List.map_congr_left fun i hi=>?_
    exact gd i (List.mem_range.mp (o1.mem_iff.mp hi))
   rw [em]
   generalize pp.toList.map (fun i=>ts.getD i d)=out at w1 w2
   obtain ⟨e,he⟩:=sortedAll_at s.heap (ts.map fun t=>Value.ref t.1) (out.map fun t=>Value.ref t.1).toArray
   have hfr:H (24:)=none:=I.hok.fresh (Nat.le_succ _)
   refine ⟨.ref (24:),_,I.laid (t':=s.toks) (o:=.lst (out.map fun t=>V.ref t.1)) (fun b o g=>sortedAll_old g) (Nat.le_succ _) ?_,rfl,q out _ w1 (w2.imp fun h=>by simpa using h) hfr⟩
   exact ⟨by rw [List.length_map,w1.length_eq,sizeLine_eq];lia,_,e,UY out,he⟩
end
end L2
namespace L2
open PySem PySem.Spec PyProof.Rows
section
variable {prog:Program} {w:World} {A:Around} {E:Value→Shared→Prop} {s:Shared} {it t:Addr} {i:Nat} {its:Array Value} {x:Value} {Q:Value→Shared→Prop}
theorem Js (hi:s.heap.IsTupleIter it t i) (ht:s.heap.IsTuple t its) (hx:its[i]?=some x) (q:∀ h',h'.IsTupleIter it t (i + 1)→Heap.SameBut it s.heap h'→Q x { s with heap:=h' }) :
 wpAny (19:) A (Builtin.SmallTypes.nextOf (.ref it)) Q E s:=by
 obtain ⟨oi,gi,ci,di⟩:=id hi
 obtain ⟨ot,gt,_,nt,dt⟩:=ht
 unfold Builtin.SmallTypes.nextOf
 refine wpAny_bind (wpAny_callSpecial?_slot (name:=Str.ofString "__next__") hi.typeIs F.slot_tuple_iterator_next (wpAny_call_entry F.slot_tuple_iterator_next hi.typeIs F.entry_tuple_iterator_next ?_ (F.args_tuple_iterator_next_1 _)))
 show wpAny _ _ (field (.ref it) 0 >>= _) _ _ s
 refine wpAny_bind (wpAny_field gi di (x:=.ref t) rfl ?_)
 show wpAny _ _ (if (Value.ref t == Value.none)=true then _ else _) _ _ s
 rw [if_neg (show ¬ ((Value.ref t == Value.none)=true) from Bool.false_ne_true)]
 show wpAny _ _ (field (.ref it) 1 >>= _) _ _ s
 refine wpAny_bind (wpAny_field gi di (x:=.int i 0) rfl ?_)
 show wpAny _ _ (seqItems? (.ref t) >>= _) _ _ s
 refine wpAny_bind (wpAny_seqItems gt dt ?_)
 simp only [Int.toNat_natCast,hx]
 refine wpAny_bind (wpAny_setField gi di (29:) (wpAny_pure ⟨x,rfl,wpAny_pure (q _ ⟨_,Heap.get?_update_self _ gi (Obj.isFreed_of_fields (Obj.data_mapFields di _)),(Obj.cls_mapFields ..).trans ci,?_⟩ (Heap.SameBut.update ..))⟩))
 rw [Obj.data_mapFields di];simp [rawInt]
theorem YQ (hh:A.handled=none) (hi:s.heap.IsTupleIter it t i) (ht:s.heap.IsTuple t its) (hx:its[i]?=none)
 (q:∀ h' e,Heap.ExtBut it s.heap h'→(∃ o,h'.get? e=some o∧o.cls=.type "StopIteration")→E (.ref e) { s with heap:=h' }):wpAny (19:) A (Builtin.SmallTypes.nextOf (.ref it)) Q E s:=by
 obtain ⟨oi,gi,ci,di⟩:=id hi
 obtain ⟨ot,gt,_,nt,dt⟩:=ht
 unfold Builtin.SmallTypes.nextOf
 refine wpAny_bind (wpAny_callSpecial?_slot (name:=Str.ofString "__next__") hi.typeIs F.slot_tuple_iterator_next (wpAny_call_entry F.slot_tuple_iterator_next hi.typeIs F.entry_tuple_iterator_next ?_ (F.args_tuple_iterator_next_1 _)))
 show wpAny _ _ (field (.ref it) 0 >>= _) _ _ s
 refine wpAny_bind (wpAny_field gi di (x:=.ref t) rfl ?_)
 show wpAny _ _ (if (Value.ref t == Value.none)=true then _ else _) _ _ s
 rw [if_neg (show ¬ ((Value.ref t == Value.none)=true) from Bool.false_ne_true)]
 show wpAny _ _ (field (.ref it) 1 >>= _) _ _ s
 refine wpAny_bind (wpAny_field gi di (x:=.int i 0) rfl ?_)
 show wpAny _ _ (seqItems? (.ref t) >>= _) _ _ s
 refine wpAny_bind (wpAny_seqItems gt dt ?_)
 simp only [Int.toNat_natCast,hx]
 refine wpAny_bind (wpAny_rule (wpAny_bind (wpAny_setField gi di (29:) ?_)))
 show wpAny _ _ (newExc (.type "StopIteration") [] >>= _) _ _ _
 simp only [newExc,newTuple]
 refine wpAny_bind (wpAny_bind (wpAny_newObj_type (wpAny_bind (m:=firstArgMember _ _) (wpAny_of_eq (a:=Value.none) (by first | rfl | (simp only [firstArgMember];rfl)) (wpAny_newObj_type ?_ (by size_fits)))) (by size_fits)))
 simp only [raiseNew]
 refine wpAny_bind (wpAny_handled ?_)
 first | rw [show A.in1.handled=none from hh] | rw [hh]
 exact wpAny_bind (wpAny_pure (wpAny_throw (q _ _ (((Heap.SameBut.update ..).extBut.push _).push _) ⟨_,Heap.get?_push_size _ rfl,rfl⟩)))
theorem WI (hh:A.handled=none) (hne:t≠it):Draws prog w A it [it,t] its.size (fun i v=>its[i]?=some v) (fun i h=>h.IsTupleIter it t i∧h.IsTuple t its) where
 live:=fun _ _ st=>let ⟨o,ho,_⟩:=st.1;⟨o,ho⟩
 frame:=fun _ _ _ st hk=>⟨st.1.at fun o e=>hk it (29:) o e,let ⟨o,ho,r⟩:=st.2;⟨o,hk t (29:) o ho,r⟩⟩
 item:=fun i s Q E hi st hQ=>Js st.1 st.2 (x:=its[i]) (by simp [hi]) fun h' hit' hs'=>hQ _ h' s.toks (by simp [hi]) ⟨hit',st.2.extBut hs'.extBut hne⟩ hs'
 done:=fun s Q E st hE=>YQ hh st.1 st.2 (29:) hE
end
theorem WX (t:Addr) (its:Array Value) (n:Nat) (dct:Option Addr) (sl:Array (Option Value)) :
 Meets (Builtin.«enumerate.__new__» ⟨[.type "enumerate", .ref t],[]⟩) (fun _ R s=>s.heap.get? t=some { cls:=.type "tuple", dict:=dct,data:=.seq its n,slots:=sl } ∧
  R (.ok (.ret (.ref (38:).objs.size)))
   { s with heap:=(38:).push { cls:=.type "enumerate", data:=.fields #[.none,.bool false,.ref s.heap.objs.size,rawInt 0,.none,.none] } }) :=
 .of_wp fun prog w A R s h=>by
  obtain ⟨hp,g,d,tk,os⟩:=s
  obtain ⟨hl,h⟩:=h
  have hsub:=sub_enumerate
  have hT:Heap.IsTuple (Shared.heap ⟨hp,g,d,tk,os⟩) t its:=⟨_,hl,rfl,n,rfl⟩
  wp_walk using AutoSeq1.wpAny_loadPart' hl
  refine wpAny_stack_any fun st=>wpAny_pure ?_
  split
  ·rename_i c _ _ _ _ _
   cases (c == Value.type "enumerate") <;> (wp_walk using AutoSeq1.wpAny_loadPart' hl,wpAny_pyIter_tuple hT;exact ⟨_,rfl,h⟩)
  ·wp_walk using AutoSeq1.wpAny_loadPart' hl,wpAny_pyIter_tuple hT
   exact ⟨_,rfl,h⟩
theorem XE {prog:Program} {w:World} {A:Around} {E:Value→Shared→Prop} {s:Shared} {t:Addr} {its:Array Value} {Q:Value→Shared→Prop} (hT:s.heap.IsTuple t its)
 (h:∀ h',IsEnum h' (24:) s.heap.objs.size 0 .none→h'.IsTupleIter s.heap.objs.size t 0→h'.objs.size=s.heap.objs.size + 2 →
  (∀ b o,s.heap.get? b=some o→h'.get? b=some o)→Q (.ref (24:)) { s with heap:=h' }) :
 wpAny (19:) A (call (.type "enumerate") [.ref t]) Q E s:=by
 obtain ⟨⟨c,dct,dt,sl⟩,hl,hc,n,hd⟩:=hT
 simp only at hc hd
 subst hc hd
 refine callType_new F.called_enumerate (13:) (F.typeCall_enumerate_1 _) (F.newCall_enumerate_1 _) (fun obj=>F.args_object_init_2 obj _) F.entry_enumerate_new (WX t its n dct sl) ⟨hl,?_⟩
 have hz:(38:).objs.size=s.heap.objs.size + 1:=Heap.size_push ..
 have he:=Heap.get?_push_size (38:) (o:={ cls:=.type "enumerate", data:=.fields #[.none,.bool false,.ref s.heap.objs.size,rawInt 0,.none,.none] }) rfl
 show _∧_
 rw [hz] at he ⊢
 exact ⟨⟨_,he,rfl⟩,h _ he ⟨_,Heap.get?_push_of_some _ (Heap.get?_push_size _ rfl),rfl,rfl⟩ (by rw [Heap.size_push,hz]) fun b o y=>Heap.get?_push_of_some _ (Heap.get?_push_of_some _ y)⟩
def Ite (K:PySem.W.Frag) (a:Addr):It :=
 ⟨fun i H=>∃ xs x,SqT K H a xs∧xs[i]?=some x,fun i H x H'=>∃ p v,H p=none∧x=.ref p∧H'=upd H p (.tup [.int (i:Int),v])∧∀ xs,SqT K H a xs→xs[i]?=some v,fun i H=>∃ xs,SqT K H a xs∧xs.length≤i⟩
theorem WQ {P:Program} {w:World} {K:PySem.W.Frag} {elts:List Expr} {k1:Nat} {pos:Pos} (a e it:Addr) (hei:e≠it) :
 Turn P w K (.Tuple elts k1 pos) (Ite K a) [e,it] e (fun i h=>(∃ old,IsEnum h e it (i:Nat) old)∧h.IsTupleIter it a i) where
 mem:=by simp
 obj:=fun i h st c hc=>by
  obtain ⟨⟨old,he⟩,hi⟩:=st
  simp only [List.mem_cons,List.mem_nil_iff,or_false] at hc
  rcases hc with rfl | rfl
  ·exact ⟨_,he,fun v z=>by have z':Data.fields _=Data.cell v:=z;cases z'⟩
  ·obtain ⟨o,g,c,d⟩:=hi;exact ⟨o,g,fun v z=>by rw [d] at z;cases z⟩
 keep:=fun i h h' st k=>by
  obtain ⟨⟨old,he⟩,hi⟩:=st
  exact ⟨⟨old,k e (29:) _ he⟩,hi.at fun o g=>k it (29:) o g⟩
 item:=by
  intro X hP hw hK hc i pins s σ H E I hf st hg
  subst hP hw hK
  obtain ⟨⟨old,he⟩,hi⟩:=st
  obtain ⟨xs,x,hq,hx⟩:=hg
  obtain ⟨its,rv,p,hz⟩:=I.tuple hq
  obtain ⟨u,hu,ru⟩:=rv.get hx
  have pt:s.heap.IsTuple a its.toArray:=p
  obtain ⟨oa,ga,ca,na,da⟩:=id pt
  have hae:a≠e:=fun z=>by
   subst z
   have hE:s.heap.get? a=some _:=he
   rw [hE] at ga
   cases ga
   exact absurd (Value.type.inj ca) (13:)
  have hai:a≠it:=fun z=>by
   subst z
   obtain ⟨o,g,c,d⟩:=hi
   rw [g] at ga
   cases ga
   rw [c] at ca
   exact absurd (Value.type.inj ca) (13:)
  have hlt:i < its.toArray.size:=by
   have:=(List.getElem?_eq_some_iff.mp hu).1
   simpa using this
  refine wpAny_pyNext_enum_itemD (WI (prog:=X.prog) (w:=X.w) (A:=X.A.in1) (it:=it) (t:=a) (its:=its.toArray) (I.ok.hd hc) hai) he ⟨hi,pt⟩ hlt hei (by simp only [List.mem_cons,List.mem_nil_iff,or_false,not_or];exact ⟨hei,Ne.symm hae⟩) fun y h' tk hy ho hst ht hsz hk=>?_
  have hyu:y=u:=by
   have:its.toArray[i]?=some u:=by simpa using hu
   exact Option.some.inj (hy.symm.trans this)
  subst hyu
  refine ⟨.ref s.heap.objs.size,rfl,wpAny_letOwnedTupleGo_enum (s:={ s with heap:=h',toks:=tk + 1 }) ho fun h'' he'' hs'=>?_⟩
  have lt:∀ {c o},s.heap.get? c=some o→c≠s.heap.objs.size:=fun g=>Nat.ne_of_lt (Heap.lt_size g)
  have hse:s.heap.objs.size≠e:=Ne.symm (lt he)
  have hch:∀ c ∈ [e,it],YW X pins H c:=hf
  have I2:Inv X pins σ (upd H s.heap.objs.size (.tup [.int (i:Int),x])) { s with heap:=h'',toks:=tk + 1 }:=by
   refine I.turnedNew (ch:=[e,it]) (fun c o hc g=>?_) hch (10:) ⟨by show 2≤sizeLine;decide,[.int (i:Int) tk,y],.cons ⟨tk,rfl⟩ (.cons ru .nil),⟨_,(hs'.2 _ hse).trans ht,rfl,_,rfl⟩⟩
   simp only [List.mem_cons,List.mem_nil_iff,or_false,not_or] at hc
   exact (hs'.2 c hc.1).trans (hk c o hc.1 hc.2 g)
  have hfr:∀ c ∈ [e,it],upd H s.heap.objs.size (.tup [.int (i:Int),x]) c=none:=fun c hc=>by
   have:c≠s.heap.objs.size:=by
    have hc':=hc
    simp only [List.mem_cons,List.mem_nil_iff,or_false] at hc'
    rcases hc' with rfl | rfl
    ·exact lt he
    ·obtain ⟨o,g,_⟩:=hi;exact lt g
   rw [Qi this];exact (hf c hc).1
  exact ⟨.ref s.heap.objs.size,_,I2,rfl,⟨s.heap.objs.size,x,I.fresh,rfl,rfl,fun ys hys=>by rw [I.tuple_inj hys hq];exact hx⟩,⟨⟨_,he''⟩,hst.1.extBut hs'.extBut (Ne.symm hei)⟩,hfr⟩
 done:=by
  intro X hP hw hK hc i pins s σ H E I hf st hg
  subst hP hw hK
  obtain ⟨⟨old,he⟩,hi⟩:=st
  obtain ⟨xs,hq,hx⟩:=hg
  obtain ⟨its,rv,p,hz⟩:=I.tuple hq
  have pt:s.heap.IsTuple a its.toArray:=p
  have hlen:=rv.length
  have hn:its.toArray.size≤i:=by simp;lia
  have hT:s.TypeIs (.ref e) "enumerate" := ⟨_,he,rfl⟩
  unfold pyNext
  refine wpAny_bind (wpAny_attempt (wpAny_callSpecial?_slot (name:=Str.ofString "__next__") hT F.slot_enumerate_next (wpAny_call_entry F.slot_enumerate_next hT F.entry_enumerate_next ?_ (F.args_enumerate_next_1 _))))
  show wpAny _ _ (field (.ref e) 2 >>= _) _ _ _
  refine wpAny_bind (wpAny_field he rfl (x:=.ref it) rfl ?_)
  refine wpAny_bind (YQ (A:=X.A.in1) (I.ok.hd hc) hi pt (Array.getElem?_eq_none hn) fun h' y he' hy=>?_)
  obtain ⟨o,ho,hcl⟩:=hy
  refine wpAny_bind (wpAny_isInstance (T:="StopIteration") (b:=true) ⟨o,ho,hcl⟩ isSubtype_stop ?_)
  refine wpAny_pure ⟨rfl,I.turnedL (t':=s.toks) (ch:=[e,it]) (fun c u hc' g=>he' c u (fun z=>hc' (by rw [z];simp)) g) hf⟩
 self:=fun _ _ _ _ _ st h=>wpAny_pyIter_enum st.1.choose_spec h
section
variable {X:Cx} {elts:List Expr} {k1:Nat} {tpos:Pos}
def NQ (K:PySem.W.Frag) (ta:TA):TI:=fun σ H R=>ta σ H fun vs H1=>∃ a xs,vs=[.ref a]∧SqT K H1 a xs∧R (Ite K a) H1
theorem Lb {e1:Expr} {ta:TA} {p pos:Pos} (hg:Gl X "enumerate") (hm:X.mg "enumerate" = none) (ha:PA X [e1] ta) (hb:bootBuiltins "enumerate" = some (.type "enumerate"):=by decide +kernel) (hs:starEach [e1] X.env=[(false,eval e1 X.env)]:=by rfl) :
 PI X (.Tuple elts k1 tpos) (.Call (.Name "enumerate" p) [e1] [] pos) (NQ X.K ta):=by
 intro pins s σ H R I h
 refine Call_ (Z5 I hg hm hb (46:))
 obtain ⟨a,xs,e,hq,q⟩:=q1
 subst e
 cases r1 with
 | cons r rr =>
  cases rr
  obtain rfl:_=Value.ref a:=r
  obtain ⟨its,rv,pt,_⟩:=I1.tuple hq
  refine XE (show s1.heap.IsTuple a its.toArray from pt) fun h' he hi hsz hk=>?_
  refine wpAny_pyIter_enum he ?_
  have I2:Inv X pins σ H1 { s1 with heap:=h' }:=I1.kept (t':=s1.toks) hk
  refine ⟨s1.heap.objs.size + 1,[s1.heap.objs.size + 1,s1.heap.objs.size],_,_,H1,rfl,I2,WQ a (s1.heap.objs.size + 1) s1.heap.objs.size (nne (12:)),⟨⟨_,he⟩,hi⟩,fun c hc=>?_,q⟩
  have hle:@LE.le Nat _ s1.heap.objs.size c:=by
   simp only [List.mem_cons,List.mem_nil_iff,or_false] at hc
   rcases hc with rfl | rfl <;> lia
  exact I1.fpOk hle (I1.hok.fresh hle)
theorem Vh {K:PySem.W.Frag} {a:Addr} {xs:List V} {g:TG} {tb:TS} {D:Ends} {σ:St} {H:Hp} (Pv:Nat→St→Hp→Prop) (h0:Pv 0 σ H) (hl:∀ i σ H,i≤xs.length→Pv i σ H→SqT K H a xs)
 (hs:∀ i v p σ H,xs[i]?=some v→H p=none→Pv i σ H→g (.ref p) σ (upd H p (.tup [.int (i:Int),v])) fun σ2 H2=>tb { D with nx:=Pv (i + 1),ct:=Pv (i + 1),bk:=D.nx } σ2 H2) (hd:∀ σ H,Pv xs.length σ H→D.nx σ H) :
 ∃ W:Nat→Nat→St→Hp→Prop,(∃ m,W 0 m σ H)∧∀ i m σ H,W i m σ H →
  ((Ite K a).stop i H∧D.nx σ H)∨((Ite K a).go i H∧∃ N:St→Hp→Prop,(28:)∧∀ x H',(Ite K a).yld i H x H'→g x σ H' fun σ2 H2=>tb { D with nx:=N,ct:=N,bk:=D.nx } σ2 H2):=by
 refine ⟨fun i m σ H=>m=xs.length - i∧i≤xs.length∧Pv i σ H,⟨xs.length - 0,rfl,Nat.zero_le _,h0⟩,?_⟩
 rintro i m σ H ⟨rfl,hi,p⟩
 have hq:=hl i σ H hi p
 by_cases h:i < xs.length
 ·refine .inr ⟨⟨xs,xs[i],hq,List.getElem?_eq_getElem h⟩,Pv (i + 1),fun σ' H' p'=>⟨xs.length - (i + 1),by lia,rfl,h,p'⟩,?_⟩
  rintro x H' ⟨p',v,hp,rfl,rfl,hv⟩
  exact hs i v p' σ H (hv xs hq) hp p
 ·have e:i=xs.length:=by lia
  subst e
  exact .inl ⟨⟨xs,hq,Nat.le_refl _⟩,hd σ H p⟩
end
end L2
namespace L2
open PySem PySem.Spec PyProof.Rows
section
variable {prog:Program} {w:World} {A:Around} {E:Value→Shared→Prop} {s:Shared}
end
section
variable {X:Cx} {elts:List Expr} {k1:Nat} {tpos:Pos}
end
end L2
namespace L2
open PySem PySem.Spec PyProof.Rows
theorem LJ (xs:List V) (k:Nat):cutV xs none (some (k:Int))=xs.take k:=by
 unfold cutV
 rw [HT.sIx_none,HT.sIx_nat,List.drop_zero,Nat.sub_zero]
 by_cases h:k≤xs.length
 ·rw [Nat.min_eq_left h]
 ·rw [Nat.min_eq_right (12:),List.take_of_length_le (10:),List.take_of_length_le (12:)]
theorem Gv {n k:Nat} (h:k < n):ixN n (k:Int)=some k:=by
 unfold ixN
 rw [if_pos (12:),if_pos (12:)];simp
theorem QB:sizeLine=16777216:=by decide
theorem Yf {n:Nat} (h:n≤5000):n≤sizeLine:=by rw [QB];lia
end L2
namespace K9
open PySem L2 TM
mutual
def isT (f:Str→Str→Option (List Str)):Tree Str→Str→Bool
 | .node n _ bs,k=>match f k n with
  | none=>false
  | some ss=>decide (ss.length=bs.length) && Nl f bs ss
def Nl (f:Str→Str→Option (List Str)):List (Tree Str)→List Str→Bool
 | [],ss=>ss.isEmpty
 | b :: bs,ss=>match ss with
  | []=>false
  | s :: r=>isT f b s && Nl f bs r
end
mutual
def td:Tree Str→PyData
 | .node n m bs=>.tuple [.str n,.int m,.tuple (tds bs)]
def tds:List (Tree Str)→List PyData
 | []=>[]
 | t :: r=>td t :: tds r
end
abbrev KdT:=Addr × Str × Addr × List PNx
def RowAt (K:PySem.W.Frag) (H:Hp) (t:PNx):Prop:=SqT K H t.1 [.str t.2.1,.ref t.2.2.1]∧SqT K H t.2.2.1 (t.2.2.2.map V.str)
def RowsL (K:PySem.W.Frag) (H:Hp) (lr:Addr) (rs:List PNx):Prop:=SqL K H lr (rs.map fun t=>V.ref t.1)∧∀ t ∈ rs,RowAt K H t
def WoodAt (K:PySem.W.Frag) (H:Hp) (w:Addr) (ks:List KdT):Prop:=SqL K H w (ks.map fun k=>V.ref k.1)∧∀ k ∈ ks,SqT K H k.1 [.str k.2.1,.ref k.2.2.1]∧RowsL K H k.2.2.1 k.2.2.2
theorem RowAt.same {K:PySem.W.Frag} {H H':Hp} {t:PNx} (g:Same H H') (h:RowAt K H t):RowAt K H' t:=⟨g.seqT h.1,g.seqT h.2⟩
theorem RowsL.same {K:PySem.W.Frag} {H H':Hp} {lr:Addr} {rs:List PNx} (g:Same H H') (h:RowsL K H lr rs):RowsL K H' lr rs:=⟨g.seq h.1,fun t ht=>(h.2 t ht).same g⟩
theorem WoodAt.same {K:PySem.W.Frag} {H H':Hp} {w:Addr} {ks:List KdT} (g:Same H H') (h:WoodAt K H w ks):WoodAt K H' w ks:=⟨g.seq h.1,fun k hk=>⟨g.seqT (h.2 k hk).1,(h.2 k hk).2.same g⟩⟩
structure RowsOk (rs:List PNx):Prop where
 nd:(rs.map fun t=>t.2.1).Nodup
 len:rs.length≤10
 nm:∀ r ∈ rs,PyData.strOk r.2.1=true
 kn:∀ r ∈ rs,∀ x ∈ r.2.2.2,PyData.strOk x=true
 kl:∀ r ∈ rs,r.2.2.2.length≤4
structure WoodOk (ks:List KdT):Prop where
 nd:(ks.map fun k=>k.2.1).Nodup
 len:ks.length≤10
 rows:∀ k ∈ ks,RowsOk k.2.2.2
def rowsK (ks:List KdT) (kind:Str):List PNx:=((ks.find? fun k=>decide (k.2.1=kind)).map fun k=>k.2.2.2).getD []
def rowK (ks:List KdT) (kind name:Str):Option (List Str):=((rowsK ks kind).find? fun r=>decide (r.2.1=name)).map fun r=>r.2.2.2
theorem Y5 {α:Type} (f:α→Str) (g:α→V) (z:Str):∀ l:List α,ZE (l.map fun x=>((Sum.inr (f x):Key),g x)) (Sum.inr z)=(l.find? fun x=>decide (f x=z)).map g
 | []=>rfl
 | x :: r=>by
  rw [List.map_cons,List.find?_cons]
  by_cases e:f x=z
  ·rw [ZK (p:=((Sum.inr (f x):Key),g x)) (by rw [e]),decide_eq_true e];rfl
  ·rw [ZJ (p:=((Sum.inr (f x):Key),g x)) (fun q=>e (by injection q)),decide_eq_false e]
   exact Y5 f g z r
def Oi (K:PySem.W.Frag) (H:Hp) (v:V):Option (List Str)→Prop
 | none=>v=.non
 | some ss=>∃ b,v=.ref b∧SqT K H b (ss.map V.str)
theorem Yc {K:PySem.W.Frag} {H:Hp} {v:V} {t:Tree Str} (h:TrV K H v t):∃ a b vs name mark,v=.ref a∧t=.node name mark t.bs∧SqT K H a [.str name,.int mark,.ref b]∧SqT K H b vs∧TrAll K H vs t.bs∧vs.length≤1000:=by
 cases h with
 | mk h1 h2 h3 h4=>exact ⟨_,_,_,_,_,rfl,rfl,h1,h2,h3,h4⟩
end K9
namespace K11
open PySem L2 TM TT K9
def kpl:Lab→Bool
 | .call _ _=>false
 | .put _ k _=>k
mutual
def kp:Tm→Bool
 | .node l _ bs=>kpl l || kps bs
def kps:List Tm→Bool
 | []=>false
 | t :: r=>kp t || kps r
end
end K11
namespace L2
open PySem PySem.Spec PyProof.Rows PySem.W
section
variable {prog:Program} {w:World} {A:Around} {E:Value→Shared→Prop} {s:Shared}
end
section
variable {X:Cx}
end
end L2
namespace L2
open PySem PySem.Spec PyProof.Rows
section
variable {prog:Program} {w:World} {A:Around} {E:Value→Shared→Prop} {s:Shared}
end
section
variable {X:Cx} {elts:List Expr} {k1:Nat} {tpos:Pos}
end
end L2
namespace L2
open PySem PySem.Spec PyProof.Rows PySem.W
theorem Yi:∀ {ss:List Str} {us:List Value},Vals (ss.map V.str) us→StrsAre us ss
 | [],_,.nil=>.nil
 | x :: r,_,.cons h t=>by
  obtain ⟨k,rfl⟩:=(show ∃ t,_=Value.str x t from h)
  exact .cons x k (Yi t)
section
variable {X:Cx}
theorem Wv:MtR X "str.join" (fun x vs H Q=>∃ (sep:Str) (l:Addr) (ss:List Str),x=.str sep∧vs=[.ref l]∧SqL X.K H l (ss.map V.str)∧(ss.map (·.length)).sum + ss.length * sep.length≤16777216∧Q (.str (Txt.join sep ss)) H):=by
 intro pins s σ H x xs v us Q I rx rv h
 obtain ⟨sep,l,ss,rfl,rfl,hl,hz,q⟩:=h
 obtain ⟨t,rfl⟩:=(show ∃ t,v=Value.str sep t from rx)
 obtain ⟨u,rfl,ru⟩:=rv.one
 obtain rfl:u=Value.ref l:=ru
 obtain ⟨its,r,p,_⟩:=I.list hl
 exact join_list p.isList (Yi r) hz fun t' k=>⟨.str _,H,I.tok _,(53:),q⟩
end
section
variable {prog:Program} {w:World} {A:Around} {E:Value→Shared→Prop} {s:Shared}
end
section
variable {X:Cx} {tg:Expr}
end
end L2
namespace K63
open PySem L2 TM TT K9 K11
def top (i:Nat):Stmt:=PySem.Challenge.pw_turnery_k63_rings_that_stray.main.body.getD i (.Pass ⟨0,0,0,0⟩)
abbrev L8:Stmt:=top 5
abbrev UD:Stmt:=top 6
abbrev sWM:Stmt:=top 7
abbrev sWP:Stmt:=top 8
abbrev sAt:Stmt:=top 10
abbrev Xn:Stmt:=top 11
abbrev VS:Stmt:=top 12
abbrev Xe:Stmt:=top 13
abbrev sOW:Stmt:=top 15
abbrev Jg:Stmt:=top 16
abbrev Ve:Stmt:=top 17
abbrev Xv:Stmt:=top 19
abbrev Xu:Stmt:=top 20
abbrev Jj:Stmt:=top 21
abbrev Y7:Stmt:=top 24
abbrev Mo:Stmt:=top 25
abbrev Mb:Stmt:=top 26
abbrev sAM:Stmt:=top 29
abbrev sNC:Stmt:=top 30
abbrev ZS:Stmt:=top 38
abbrev VJ:Stmt:=top 42
abbrev XU:Stmt:=top 43
abbrev XW:Stmt:=top 44
abbrev XR:Stmt:=top 45
abbrev Xz:Stmt:=top 46
abbrev Xr:Stmt:=top 47
abbrev Lg:Stmt:=top 48
abbrev Xy:Stmt:=top 49
abbrev Jy:Stmt:=top 50
abbrev Md:Stmt:=top 51
abbrev Xi:Stmt:=top 52
structure Gm (mg:Str→Option Value):Prop where
 len:mg "len" = none
 isi:mg "isinstance" = none
 int:mg "int" = none
 boo:mg "bool" = none
 str:mg "str" = none
 tup:mg "tuple" = none
 lst:mg "list" = none
 rng:mg "range" = none
 zip:mg "zip" = none
 dct:mg "dict" = none
 srt:mg "sorted" = none
 rev:mg "reversed" = none
 enu:mg "enumerate" = none
 max:mg "max" = none
theorem Gx {K:PySem.W.Frag} {H:Hp} {v:V} {t:Tm} (h:TmV K H v t):(∃ a m b,v=.ref a∧t=Zu m b∧SqT K H a [.str CALL,.int m,.int b]) ∨
 ∃ a b vs n k ad,v=.ref a∧t=.node (.put n k ad) 0 t.bs∧SqT K H a [.str PUT,.str n,.bl k,.int ad,.ref b]∧SqT K H b vs∧TmAll K H vs t.bs∧vs.length≤1000:=by
 cases h with
 | call h=>exact .inl ⟨_,_,_,rfl,rfl,h⟩
 | put h1 h2 h3 h4=>exact .inr ⟨_,_,_,_,_,_,rfl,rfl,h1,h2,h3,h4⟩
def Yl (K:PySem.W.Frag):Sp:=fun vs H Q _=>∃ (a:Addr) (z:Str) (r:List V),vs=[.ref a]∧SqT K H a (.str z :: r)∧Q (.bl (decide (z=CALL))) H
def ZF (K:PySem.W.Frag):Sp:=fun vs H Q _=>∃ (w:Addr) (kind:Str) (ks:List KdT) (k:KdT),vs=[.ref w,.str kind]∧WoodAt K H w ks∧WoodOk ks∧ks.find? (fun k=>decide (k.2.1=kind))=some k∧∀ (H':Hp),Same H H'→Q (.ref k.2.2.1) H'
def Ju (K:PySem.W.Frag):Sp:=fun vs H Q _=>∃ (a:Addr) (ns:List Int) (k:Int),vs=[.ref a,.int k]∧0≤k∧SqL K H a (ns.map V.int)∧∀ c:Int,Q (.int c) H
abbrev MM:Int:=2147483647
def Jp:Sp:=fun vs H Q _=>∃ (c k:Int),vs=[.int c,.int k]∧0≤k∧k < 1000000∧∀ x:Int,0≤x→x < MM→Q (.int x) H
def JI:Sp:=fun vs H Q _=>∃ c:Int,vs=[.int c]∧∀ x:Int,Q (.int x) H
def JD:Sp:=fun vs H Q _=>∃ i:Int,vs=[.int i]∧Q (.bl true) H
section
variable {P:Program} {w:World} {K:PySem.W.Frag} {mg:Str→Option Value} {base:Heap} {f:Addr} {fd:FuncData}
theorem NI:FnScope ["term"] ["term"] (defScope L8):=(0:)
theorem MF (F:Fun K "is_call" "is_call" L8 f fd):FnOk P w K mg base CX0 1 f fd ["term"] (Yl K):=by
 refine F.ok NI (8:) (2:)
 ·obtain ⟨a,z,r,rfl,_⟩:=h
  rfl
 obtain ⟨a,z,r,rfl,h1,q⟩:=h
 refine ⟨_,(Qg (Qn (Zf ZB (40:) QJ (Qr _)))),?_⟩
 refine ⟨_,rfl,a,_,0,.str z,rfl,rfl,h1,QH (j:=0) rfl,rfl,?_⟩
 show Q (.bl (decide (V.str z=V.str CALL))) H
 by_cases e:z=CALL
 ·rw [decide_eq_true e] at q
  rw [decide_eq_true (by rw [e])];exact q
 ·rw [decide_eq_false e] at q
  rw [decide_eq_false (fun h=>e (by injection h))];exact q
theorem V2:FnScope ["wood", "kind"] ["wood", "kind"] (defScope Jg):=(0:)
theorem WZ (F:Fun K "rows_of" "rows_of" Jg f fd) (G:Gm mg):FnOk P w K mg base CX0 1 f fd ["wood", "kind"] (ZF K):=by
 refine F.ok V2 (8:) (2:)
 ·obtain ⟨w,kind,ks,k,rfl,_⟩:=h
  rfl
 obtain ⟨wd,kind,ks,k0,rfl,hW,hO,hk0,q⟩:=h
 refine ⟨_,(Qg (Qn (VC (Um hr) (QI (Z8 rfl) rfl G.dct PyProof.Rows.boot_dict (Qa (pv 0) Qc)) (pv 1) (QK Qc) ⟨rfl,rfl,rfl,rfl⟩))),?_⟩
 have hlen:=hO.len
 refine ⟨_,rfl,wd,ks.map (fun k=>(k.1,k.2.1,V.ref k.2.2.1)),rfl,(by rw [List.map_map];exact hW.1),fun t ht=>?_,(by rw [List.map_map];exact hO.nd),(by rw [List.length_map];lia),fun d hd=>⟨d,rfl,.inl ⟨_,.inl Qb⟩,_,rfl,(21:),fun p hp=>⟨_,DGet.k (k:=Sum.inr kind) ((Qd hp _) _ _ Qb),?_⟩⟩⟩
 ·obtain ⟨k,hk,rfl⟩:=List.mem_map.mp ht
  exact (hW.2 k hk).1
 ·have g1:=Qd hd (.dK ((ks.map (fun k=>(k.1,k.2.1,V.ref k.2.2.1))).map fun t=>(58:)))
  have g2:=Qd hp (.lst [])
  have g12:=g1.trans g2
  have ev:ZE ((ks.map (fun k=>(k.1,k.2.1,V.ref k.2.2.1))).map fun t=>(58:)) (Sum.inr kind)=(ks.find? fun k=>decide (k.2.1=kind)).map fun k=>V.ref k.2.2.1:=by
   rw [List.map_map]
   exact Y5 (fun k:KdT=>k.2.1) (fun k=>V.ref k.2.2.1) kind ks
  rw [ev]
  rw [hk0]
  exact q _ g12
theorem MO:FnScope ["_law_script", "_law_k"] ["_law_script", "_law_k"] (defScope VJ):=(0:)
theorem GJ (F:Fun K "_law_cell_at" "_law_cell_at" VJ f fd) (G:Gm mg):FnOk P w K mg base CX0 1 f fd ["_law_script", "_law_k"] (Ju K):=by
 refine F.ok MO (8:) (2:)
 ·obtain ⟨a,ns,k,rfl,_⟩:=h
  rfl
 obtain ⟨a,ns,k,rfl,hk0,hS,q⟩:=h
 obtain ⟨j,rfl⟩ : ∃ j:Nat,k=(j:Int):=⟨k.toNat,by lia⟩
 refine ⟨_,(Qe (Qz (Qs YT (pv 1) (Qp Qw rfl G.len PySem.boot_len (Qa (pv 0) Qc)) (Qr _)) (Qg (Qn (Qj Qx (pv 0) (pv 1) (4:)))) Qq)
  (Qg (Qn Qf))),?_⟩
 refine ⟨_,rfl,_,rfl,a,_,rfl,.inl hS,_,_,rfl,rfl,_,rfl,XM (fun c=>?_) (fun c=>?_)⟩
 ·have c':(j:Int) < (((ns.map V.int).length:Nat):Int):=of_decide_eq_true c
  rw [List.length_map] at c'
  have hk:j < ns.length:=by lia
  exact ⟨_,rfl,_,rfl,a,_,j,.int ns[j],rfl,rfl,hS,QH (by rw [List.getElem?_map,List.getElem?_eq_getElem hk];rfl),q _⟩
 ·exact q 0
theorem Gy:FnScope ["_law_found"] ["_law_found"] (defScope Xz):=(0:)
theorem Vk (F:Fun K "_law_whole" "_law_whole" Xz f fd) (G:Gm mg):FnOk P w K mg base CX0 1 f fd ["_law_found"] JD:=by
 refine F.ok Gy (8:) (2:)
 ·obtain ⟨i,rfl,_⟩:=h
  rfl
 obtain ⟨i,rfl,q⟩:=h
 refine ⟨_,(Qg (Qn (Zw (Qp ZN rfl G.isi PyProof.Rows.boot_isinstance (Qa (pv 0) (Qa (Zb (v:=.ty "int") rfl G.int PyProof.Rows.boot_int rfl) Qc))) (Ys (UG (Qp ZN rfl G.isi PyProof.Rows.boot_isinstance (Qa (pv 0) (Qa (Zb (v:=.ty "bool") rfl G.boo PyProof.Rows.boot_bool rfl) Qc)))))))),?_⟩
 exact ⟨_,rfl,_, "int", _,true,rfl,.int _,rfl,_,rfl,Zl ⟨_,rfl,_, "bool", _,false,rfl,.int _,rfl,_,rfl,q⟩⟩
theorem JA:FnScope ["_law_cell", "_law_k", "_law_number"] ["_law_cell", "_law_k"] (defScope XU):=(0:)
theorem Vl (F:Fun K "_law_mixed" "_law_mixed" XU f fd):FnOk P w K mg base CX0 1 f fd ["_law_cell", "_law_k"] Jp:=by
 refine F.ok JA (8:) (2:)
 ·obtain ⟨c,k,rfl,_⟩:=h
  rfl
 obtain ⟨c,k,rfl,k0,k1,q⟩:=h
 refine ⟨_,(Qe (Ql (i:=2) JA.nd rfl (11:) (Qo QC (Qo QE (pv 0) Qf) (Qo Z1 Qf (Qo QC (pv 1) Qf))))
  (Qe (Ql (i:=2) JA.nd rfl (11:) (Qo QE (Qo QC (Qo Z1 (pv 2) (pv 2)) (Qo Z1 Qf (pv 1))) Qf))
  (Qg (Qn (Qo QE (Qo QC (Qo QC (Qo Z1 (pv 2) (pv 2)) (Qo Z1 Qf (pv 1))) Qf) Qf))))),?_⟩
 refine ⟨_,rfl,_,_,rfl,rfl,(by show (0:Int) < 2147483647;decide),_,rfl,_,_,rfl,rfl,_,_,rfl,rfl,.inl ⟨by decide,by decide⟩,_,_,rfl,rfl,?_⟩
 dsimp only
 have a0:0≤c % 2147483647:=Int.emod_nonneg _ (13:)
 have a1:c % 2147483647 < 2147483647:=Int.emod_lt_of_pos _ (13:)
 generalize hx:c % 2147483647 + 48271 * (k + 1)=x
 refine ⟨_,rfl,_,rfl,_,_,rfl,rfl,.inl ⟨by lia,by lia⟩,_,rfl,_,_,rfl,rfl,.inl ⟨by decide,by decide⟩,_,_,rfl,rfl,_,_,rfl,rfl,(by show (0:Int) < 2147483647;decide),?_⟩
 dsimp only
 generalize hy:(x * x + 69621 * k) % 2147483647=y
 have b0:0≤y:=by rw [← hy];exact Int.emod_nonneg _ (13:)
 have b1:y < 2147483647:=by rw [← hy];exact Int.emod_lt_of_pos _ (13:)
 refine ⟨_,rfl,_,rfl,_,_,rfl,rfl,.inl ⟨by lia,by lia⟩,_,rfl,_,_,rfl,rfl,.inl ⟨by decide,by decide⟩,_,_,rfl,rfl,_,_,rfl,rfl,_,_,rfl,rfl,(by show (0:Int) < 2147483647;decide),?_⟩
 exact q _ (Int.emod_nonneg _ (13:)) (Int.emod_lt_of_pos _ (13:))
theorem Lm:FnScope ["_law_cell"] ["_law_cell"] (defScope XR):=(0:)
theorem Vj (F:Fun K "_law_great" "_law_great" XR f fd):FnOk P w K mg base CX0 1 f fd ["_law_cell"] JI:=by
 refine F.ok Lm (8:) (2:)
 ·obtain ⟨c,rfl,_⟩:=h
  rfl
 obtain ⟨c,rfl,q⟩:=h
 refine ⟨_,(Qg (Qn (Qo LV (Qo QE (pv 0) (Qo QC (Qo Z1 Qf (Qo VW Qf Qf)) Qf)) (Qo VW Qf Qf)))),?_⟩
 exact ⟨_,rfl,_,_,rfl,rfl,⟨by decide,by decide,by decide⟩,_,_,rfl,rfl,.inl ⟨by decide,by decide⟩,_,_,rfl,rfl,_,_,rfl,rfl,(by show (0:Int) < 2 * 10 ^ 59 + 1;decide),_,_,rfl,rfl,⟨by decide,by decide,by decide⟩,_,_,rfl,rfl,q _⟩
end
end K63
namespace K63
open PySem L2 TM TT K9 K11
theorem JN (cs:List Nat):Txt.join (S []) (cs.map fun c=>S [c])=S cs:=by
 unfold Txt.join
 cases cs with
 | nil=>rfl
 | cons x r =>
  have h:∀ (r:List Nat) (a:List Nat),(r.map fun c=>S [c]).foldl (fun acc p=>acc ++ (S []).cps ++ p.cps) (S a).cps=(S (a ++ r)).cps:=by
   intro r
   induction r with
   | nil=>intro a;simp
   | cons y r ih =>
    intro a
    rw [List.map_cons,List.foldl_cons]
    have e:(S a).cps ++ (S []).cps ++ (S [y]).cps=(S (a ++ [y])).cps:=by simp [S]
    rw [e,ih,List.append_assoc];rfl
  have:=h r [x]
  show (⟨(r.map fun c=>S [c]).foldl (fun acc p=>acc ++ (S []).cps ++ p.cps) (S [x]).cps⟩ : Str)=_
  rw [this];rfl
abbrev Jm:Str:=Str.ofString "abcdefghijklmnopqrstuvwxyz"
def Zn:List Nat:=[97,98,99,100,101,102,103,104,105,106,107,108,109,110,111,112,113,114,115,116,117,118,119,120,121,122]
theorem W9:Jm=S Zn:=by decide +kernel
theorem GK:Jm.cps.toList=Zn:=by rw [W9,VD]
theorem JL:Str.ofString "" = S []:=by decide +kernel
def Nm (z:Str):Prop:=PyData.strOk z=true
theorem Nm.of {u:List Nat} (h:∀ c ∈ u,c < 128):Nm (S u):=by
 unfold Nm PyData.strOk
 rw [Array.all_eq_true_iff_forall_mem]
 intro c hc
 have:c ∈ u:=by simpa [S] using hc
 have:=h c this
 simp;lia
theorem Vd {i j:Nat} (hi:i < 26) (hj:j < 26) (e:Zn.getD i 0=Zn.getD j 0):i=j:=by
 have hn:Zn.Nodup:=by decide
 have h1:Zn.getD i 0=Zn[i]'hi:=by rw [List.getD_eq_getElem?_getD,List.getElem?_eq_getElem (show i < Zn.length from hi)];rfl
 have h2:Zn.getD j 0=Zn[j]'hj:=by rw [List.getD_eq_getElem?_getD,List.getElem?_eq_getElem (show j < Zn.length from hj)];rfl
 rw [h1,h2] at e
 exact (List.getElem_inj hn).mp e
theorem JZ {i:Nat} (hi:i < 26):Zn.getD i 0 ∈ Zn∧Zn[i]?=some (Zn.getD i 0):=by
 have hl:i < Zn.length:=hi
 have e:Zn.getD i 0=Zn[i]:=by rw [List.getD_eq_getElem?_getD,List.getElem?_eq_getElem hl];rfl
 rw [e]
 exact ⟨List.getElem_mem hl,List.getElem?_eq_getElem hl⟩
theorem Xo:∀ c ∈ Zn,c < 128:=by decide
def code (j:Nat):Nat:=Zn.getD j 0
abbrev LL (K:PySem.W.Frag):V→List V→Hp→VK→Prop:=fun x vs H Q=>∃ (sep:Str) (l:Addr) (ss:List Str),x=.str sep∧vs=[.ref l]∧SqL K H l (ss.map V.str)∧(ss.map (·.length)).sum + ss.length * sep.length≤16777216∧Q (.str (Txt.join sep ss)) H
abbrev NV (bs:List Nat):List V:=bs.map fun (b:Nat)=>V.int (b:Int)
theorem L6 {X:Cx} {K:PySem.W.Frag} {o e:Expr} {es:List Expr} {to:TE} {t:TA} {name:Str} {apos cpos:Pos} {T id:String} {r:V→List V→Hp→VK→Prop} (hK:X.K=K) (pa:PlainAttrs T) (slot:Slot T name id) (hty:typeOf (.builtin id)=pure (.type "method_descriptor")) (hm:MtR X id r) (ho:PE X o to) (ha:PA X (e :: es) t)
 (hbase:attributeBase o name X.env (eval o X.env)=eval o X.env:=by rfl)
 (hfew:((backTo cpos (starEach (e :: es) X.env)).all (fun x=>!x.1) && (backToKw cpos (keywordEach [] X.env)).all (fun x=>x.1.isSome)
  && decide ((e :: es).length + ([]:List Keyword).length + (if ([]:List Keyword).isEmpty then 0 else 1) < 30))=true:=by rfl)
 (hline:(apos.endLine == cpos.line)=true:=by rfl) (hs:starEach (e :: es) X.env=(54:) :: starEach es X.env:=by rfl) (hplain:(backTo cpos (starEach es X.env)).any (·.1)=false:=by rfl) :
 PE X (.Call (.Attribute o name apos) (e :: es) [] cpos) (tBM K T r to t):=by
 subst hK
 exact YJ pa slot hty hm ho ha hbase hfew hline hs hplain
theorem Gi {X:Cx} {K:PySem.W.Frag} {tg l:Expr} {tl:TE} (hK:X.K=K) (hl:PE X l tl):PI X tg l (LK K tl):=by
 subst hK
 exact Zz hl
theorem UW {α:Type} (g:Nat→α) (n:Nat) (h:∀ i j,i < n→j < n→g i=g j→i=j):((List.range n).map g).Nodup:=by
 rw [List.Nodup,List.pairwise_map]
 refine (List.nodup_range (n:=n)).imp_of_mem fun {a b} ha hb hne e=>hne (h a b (List.mem_range.mp ha) (List.mem_range.mp hb) e)
theorem Wl {bs:List Nat} (h:∀ b ∈ bs,b < 26):PyData.strOk (S (bs.map code))=true:=Nm.of fun c hc=>by
 obtain ⟨b,hb,rfl⟩:=List.mem_map.mp hc
 exact Xo _ (JZ (h b hb)).1
theorem UA {cs:List Nat} (h:cs.length≤8):((cs.map fun c=>S [c]).map (·.length)).sum + (cs.map fun c=>S [c]).length * (S []).length≤16777216:=by
 have e:((cs.map fun c=>S [c]).map (·.length))=cs.map fun _=>1:=by
  rw [List.map_map]
  exact List.map_congr_left fun c _=>by simp [Vu]
 have e2:(cs.map fun _=>1).sum=cs.length:=by
  clear e h
  induction cs with
  | nil=>rfl
  | cons x r ih=>rw [List.map_cons,List.sum_cons,ih,List.length_cons];lia
 rw [e,e2,Vu]
 simp only [List.length_nil,Nat.mul_zero]
 lia
theorem MJ {y:Nat} (hy:y < 26):atI Jm.cps.toList ((y:Nat):Int)=some (code y):=by rw [GK];exact QH (JZ hy).2
def Jz (K:PySem.W.Frag):Sp:=fun vs H Q _=>∃ c:Int,vs=[.int c]∧∀ (l:Addr) (H':Hp) (ns:List Str),Same H H'→H' l=some (.lst (ns.map V.str))→ns.length=8→ns.Nodup→(∀ n ∈ ns,PyData.strOk n=true)→Q (.ref l) H'
section
variable {P:Program} {w:World} {K:PySem.W.Frag} {mg:Str→Option Value} {base:Heap} {f:Addr} {fd:FuncData}
theorem Ze:FnScope ["_law_cell", "_law_letters", "_law_base", "_law_width", "_law_spot", "_law_names_here", "_law_k", "_law_moved"] ["_law_cell"] (defScope XW):=(0:)
theorem Gb (F:Fun K "_law_names" "_law_names" XW f fd) (G:Gm mg) (RM:Fn P w K mg base 1 "_law_mixed" ["_law_cell", "_law_k"] Jp):FnOk P w K mg base CX0 2 f fd ["_law_cell"] (Jz K):=by
 refine F.ok Ze (8:) (2:)
 ·obtain ⟨c,rfl,_⟩:=h
  rfl
 obtain ⟨c,rfl,q⟩:=h
 refine ⟨_,(Qe (Ql (i:=1) Ze.nd rfl (Or.inr rfl) QJ)
  (Qe (Ql (i:=2) Ze.nd rfl (Or.inr rfl) (QO (CompG.many (xs:=["_law_j"]) (caps:=["_law_cell"]) (cap:=[0]) (cs:=[_]) rfl rfl (1:) (1:) (1:) (1:) (1:) (1:) rfl rfl rfl) rfl (QY rfl G.rng (Qa (Qf) Qc)) (YS (CompG.many (xs:=["_law_j"]) (caps:=["_law_cell"]) (cap:=[0]) (cs:=[_]) rfl rfl (1:) (1:) (1:) (1:) (1:) (1:) rfl rfl rfl)) (fun _ _ _ _=>Zj) (fun _ _ _ _=>Qo (r:=rI (fun _ j=>0 < j) fun i j=>.int (i % j)) QE (Qv RM hr (Qa (pv 1) (Qa (pv 0) Qc))) Qf)))
  (Qe (Qz (Qs ZB (Qo QE (Qo Yk (pv 0) Qf) Qf) Qf (Qr _)) (Qg (Qn (QO (CompG.many (xs:=["_law_k"]) (caps:=["_law_base", "_law_letters"]) (cap:=[2,1]) (cs:=[_,_]) rfl rfl (1:) (1:) (1:) (1:) (1:) (1:) rfl rfl rfl) rfl (QY rfl G.rng (Qa (Qf) Qc)) (YS (CompG.many (xs:=["_law_k"]) (caps:=["_law_base", "_law_letters"]) (cap:=[2,1]) (cs:=[_,_]) rfl rfl (1:) (1:) (1:) (1:) (1:) (1:) rfl rfl rfl)) (fun _ _ _ _=>Zj)
   (fun _ _ _ _=>L6 (K:=K) (r:=LL K) rfl PySem.F.plainAttrs_str PySem.F.slot_str_join PySem.F.type_str_join Wv QJ (Qa (QO (CompG.many (xs:=["_law_j"]) (caps:=["_law_letters"]) (cap:=[2]) (cs:=[_]) rfl rfl (1:) (1:) (1:) (1:) (1:) (1:) rfl rfl rfl) rfl (Gi (K:=K) rfl (ZQ (r:=Ob K) X9 (pv 1) Ya (Z9 (Qo (r:=rI0 fun i j=>.int (i + j)) QC (pv 0) Qf)))) (YS (CompG.many (xs:=["_law_j"]) (caps:=["_law_letters"]) (cap:=[2]) (cs:=[_]) rfl rfl (1:) (1:) (1:) (1:) (1:) (1:) rfl rfl rfl)) (fun _ _ _ _=>Zj) (fun _ _ _ _=>Qj Ge (pv 1) (pv 0) (4:))) Qc))))) Qq)
  (Qe (Ql (i:=3) Ze.nd rfl (11:) (Qo QC Qf (Qo QE (pv 0) Qf)))
  (Qe (Ql (i:=4) Ze.nd rfl (11:) (Qo QE (Qo Yk (pv 0) Qf) (pv 3)))
  (Qe (Ql (i:=5) Ze.nd rfl (11:) (QK Qc))
  (Qe (Q1 PassesOwn.never rfl (QY rfl G.rng (Qa (Qf) Qc)) (Qy (i:=6) Ze.nd rfl (11:)) (Qe (Ql (i:=7) Ze.nd rfl (11:) (ZQ X9 (pv 2) Ya (Z9 (pv 3))))
  (Qe (MR (Qo QE (Qo QC (Qj Qx (pv 7) (pv 4) (4:)) (pv 6)) Qf) (MT (pv 7) (pv 4) Vo))
  (Qg (QL (YJ PySem.F.plainAttrs_list PySem.F.slot_list_append PySem.F.type_list_append Q5 (pv 5) (Qa (YJ (r:=LL K) PySem.F.plainAttrs_str PySem.F.slot_str_join PySem.F.type_str_join Wv QJ (Qa (QO (CompG.many (xs:=["_law_j"]) (caps:=["_law_letters"]) (cap:=[1]) (cs:=[_]) rfl rfl (1:) (1:) (1:) (1:) (1:) (1:) rfl rfl rfl) rfl (Zz (pv 7)) (YS (CompG.many (xs:=["_law_j"]) (caps:=["_law_letters"]) (cap:=[1]) (cs:=[_]) rfl rfl (1:) (1:) (1:) (1:) (1:) (1:) rfl rfl rfl)) (fun _ _ _ _=>Zj) (fun _ _ _ _=>Qj Ge (pv 1) (pv 0) (4:))) Qc)) Qc)))))))
  (Qg (Qn (pv 5)))))))))),?_⟩
 have eL:Str.ofString "abcdefghijklmnopqrstuvwxyz" = Jm:=rfl
 refine ⟨8,rfl,by decide,by decide,fun lb hlb=>?_⟩
 refine J9 (lo:=0) (n:=8) (cs:=[some (.int c)]) (tt:=fun _ H Q=>Q true H) (fun j ys H'=>∃ bs:List Nat,ys=NV bs∧bs.length=j∧(∀ b ∈ bs,b < 26)∧H' lb=some (.lst ys)∧Same H H')
  ⟨[],rfl,rfl,fun b hb=>(nomatch hb),Qb,Qd hlb _⟩ ?_ ?_
 ·rintro j ys H' hj ⟨bs,rfl,hbl,hb26,hy,g⟩
  refine Zl ⟨_,rfl,_,rfl,c,0 + (j:Int),rfl,by lia,by lia,fun x x0 x1=>⟨_,_,rfl,rfl,(by show (0:Int) < 26;decide),?_⟩⟩
  have y0:0≤x % 26:=Int.emod_nonneg _ (13:)
  have y1:x % 26 < 26:=Int.emod_lt_of_pos _ (13:)
  refine Q6 hj hy (by rw [List.length_map];lia) ⟨bs ++ [(x % 26).toNat],?_,by rw [List.length_append,List.length_singleton,hbl],fun b hb=>?_,Qb,fun z u e=>?_⟩
  ·unfold NV
   rw [List.map_append]
   show _ ++ [V.int (x % 26)]=_ ++ [V.int (((x % 26).toNat:Nat):Int)]
   rw [Int.toNat_of_nonneg y0]
  ·rcases List.mem_append.mp hb with hb | hb
   ·exact hb26 b hb
   ·have:b=(x % 26).toNat:=by simpa using hb
    rw [this];lia
  ·rw [Qi (Qh e hlb)];exact g _ _ e
 rintro ys H1 ⟨bs,rfl,hbl,hb26,hlb1,g1⟩
 have word:∀ (us:List Nat) (l2 lu:Addr) (Hx:Hp) (R:Hp→Prop),Hx l2=none→Hx lu=some (.lst (NV us))→us.length≤8→(∀ b ∈ us,b < 26) →
  (∀ H',Same Hx H'→H' l2=some (.lst (((us.map code).map fun c=>S [c]).map V.str))→R H')→U8 (Itl K lu) 1 [some (.str Jm)] (Q8 0) (fun _ H Q=>Q true H) (tOp Oa (YV 1) (YV 0)) Hx l2 R:=by
  intro us l2 lu Hx R h2 hu hul hu26 hR
  have hne:lu≠l2:=fun z=>by rw [z,h2] at hu;cases hu
  refine X4 (K:=K) (xs:=NV us) (cs:=[some (.str Jm)]) (fun m ys H'=>ys=(((us.take m).map code).map fun c=>S [c]).map V.str∧H' l2=some (.lst ys)∧Same Hx H')
   ⟨rfl,Qb,Qd h2 _⟩ ?_ ?_ ?_
  ·rintro m ys H' _ ⟨_,_,g⟩
   exact SqL.of (g _ _ hu)
  ·rintro m x ys H' hm hx ⟨rfl,hy,g⟩
   have hml:m < us.length:=by simpa using hm
   obtain rfl:x=.int ((us[m]:Nat):Int):=by
    rw [List.getElem?_map,List.getElem?_eq_getElem hml] at hx
    exact (Option.some.inj hx).symm
   have hlt:=hu26 _ (List.getElem_mem hml)
   refine Zl ⟨_,rfl,_,rfl,Jm,_,_,rfl,rfl,(by rw [W9,Vu];exact Yf (13:)),MJ hlt,?_⟩
   refine Q6 hm hy (by simp only [List.length_map,List.length_take];lia) ⟨?_,Qb,fun z u e=>?_⟩
   ·rw [List.take_add_one,List.getElem?_eq_getElem hml]
    simp only [Option.toList_some,List.map_append,List.map_cons,List.map_nil]
    rfl
   ·rw [Qi (Qh e h2)];exact g _ _ e
  ·rintro ys H' ⟨rfl,hy,g⟩
   rw [List.length_map,List.take_length] at hy
   exact hR H' g hy
 refine ⟨_,rfl,_,_,rfl,rfl,⟨by decide,by decide⟩,_,_,rfl,rfl,(by show (0:Int) < 4;decide),rfl,_,rfl,XM (fun _=>?_) (fun _=>?_)⟩
 ·refine ⟨8,rfl,by decide,by decide,fun ln hln=>?_⟩
  refine J9 (lo:=0) (n:=8) (cs:=[some (.ref lb),some (.str Jm)]) (tt:=fun _ H Q=>Q true H) (fun j ys H'=>ys=((List.range j).map fun k=>S ((bs.take (k + 1)).map code)).map V.str∧H' ln=some (.lst ys)∧Same H1 H')
   ⟨rfl,Qb,Qd hln _⟩ ?_ ?_
  ·rintro j ys H' hj ⟨rfl,hy,g⟩
   refine Zl ⟨rfl,_,rfl,_,rfl,_,_,rfl,rfl,_,rfl,lb,_,rfl,SqL.of (g _ _ hlb1),fun ps hps=>⟨ps,rfl,⟨_,SqL.of Qb⟩,fun l2 hl2=>?_⟩⟩
   have ecut:cutV (NV bs) none (some (0 + (j:Int)+1))=NV (bs.take (j + 1)):=by
    rw [show (0:Int)+(j:Int)+1=((j + 1:Nat):Int) by lia,LJ];unfold NV;rw [List.map_take]
   have kp:=Qd hps (.lst (cutV (NV bs) none (some (0 + (j:Int)+1))))
   refine word (bs.take (j + 1)) l2 ps _ _ hl2 (by rw [← ecut];exact Qb) (by rw [List.length_take];lia) (fun b hb=>hb26 b (List.mem_of_mem_take hb)) fun H3 g3 h3=>?_
   have k3:=kp.trans g3
   refine ⟨S [],l2,_,by rw [← JL],rfl,SqL.of h3,UA (by rw [List.length_map,List.length_take];lia),?_⟩
   rw [JN]
   refine Q6 hj (k3 _ _ hy) (by simp only [List.length_map,List.length_range];lia) ⟨?_,Qb,fun z u e=>?_⟩
   ·rw [List.range_succ,List.map_append,List.map_append];rfl
   ·rw [Qi (Qh e hln)];exact k3 _ _ (g _ _ e)
  ·rintro ys H' ⟨rfl,hy,g⟩
   refine q ln H' _ (g1.trans g) hy (29:) (UW _ 8 fun i j hi hj e=>?_) fun x hx=>?_
   ·have:=congrArg List.length (LO e)
    simp only [List.length_map,List.length_take] at this
    lia
   ·obtain ⟨k,_,rfl⟩:=List.mem_map.mp hx
    exact Wl fun b hb=>hb26 b (List.mem_of_mem_take hb)
 have w0:0≤c % 8:=Int.emod_nonneg _ (13:)
 have w1:c % 8 < 8:=Int.emod_lt_of_pos _ (13:)
 refine ⟨_,rfl,_,_,rfl,rfl,(by show (0:Int) < 8;decide),_,_,rfl,rfl,?_⟩
 dsimp only
 obtain ⟨wi,hwi⟩ : ∃ wi:Nat,1 + c % 8=(wi:Int):=⟨(1 + c % 8).toNat,by lia⟩
 rw [hwi]
 have hwi0:0 < wi:=by lia
 have hwi8:wi≤8:=by lia
 refine ⟨_,rfl,_,_,rfl,rfl,⟨by decide,by decide⟩,_,rfl,_,_,rfl,rfl,(by show (0:Int) < (wi:Int);lia),?_⟩
 dsimp only
 have s0:0≤c / 8 % (wi:Int):=Int.emod_nonneg _ (12:)
 have s1:c / 8 % (wi:Int) < (wi:Int):=Int.emod_lt_of_pos _ (12:)
 obtain ⟨sp,hsp⟩ : ∃ sp:Nat,c / 8 % (wi:Int)=(sp:Int):=⟨(c / 8 % (wi:Int)).toNat,by lia⟩
 rw [hsp]
 have hspw:sp < wi:=by lia
 obtain ⟨bw,hbw⟩ : ∃ bw,bw=bs.take wi:=(53:)
 have hbwl:bw.length=wi:=by rw [hbw,List.length_take];lia
 have hbw26:∀ b ∈ bw,b < 26:=fun b hb=>hb26 b (List.mem_of_mem_take (by rw [← hbw];exact hb))
 have hspl:sp < bw.length:=by lia
 refine ⟨(21:),fun ln hln=>?_⟩
 refine ⟨8,rfl,by decide,by decide,?_⟩
 refine Zp (lo:=0) (n:=8) (fun j σ H'=>∃ c6 c7:Option V,σ=[some (.int c),some (.str Jm),some (.ref lb),some (.int (wi:Int)),some (.int (sp:Int)),some (.ref ln),c6,c7]∧Same H1 H'∧H' ln=some (.lst (((List.range j).map fun k=>S ((bw.set sp ((bw[sp]+k) % 26)).map code)).map V.str)))
  ⟨none,none,rfl,Qd hln _,Qb⟩ ?_ ?_
 ·rintro j σ H' hj ⟨c6,c7,rfl,g,hy⟩
  refine ⟨_,rfl,_,rfl,_,rfl,lb,_,rfl,SqL.of (g _ _ hlb1),fun lm hlm=>?_⟩
  have ecut:cutV (NV bs) none (some (wi:Int))=NV bw:=by rw [LJ,hbw];unfold NV;rw [List.map_take]
  have km:=Qd hlm (.lst (cutV (NV bs) none (some (wi:Int))))
  have hlm2:upd H' lm (.lst (cutV (NV bs) none (some (wi:Int)))) lm=some (.lst (NV bw)):=by rw [← ecut];exact Qb
  have hlnm:ln≠lm:=fun z=>by rw [← z,hy] at hlm;cases hlm
  generalize upd H' lm (.lst (cutV (NV bs) none (some (wi:Int))))=H2 at km hlm2
  have hat:atI (NV bw) (sp:Int)=some (.int ((bw[sp]:Nat):Int)):=QH (by rw [List.getElem?_map,List.getElem?_eq_getElem hspl];rfl)
  refine ⟨_,rfl,_,rfl,lm,_,_,_,rfl,rfl,SqL.of hlm2,hat,_,rfl,_,_,rfl,rfl,_,_,rfl,rfl,(by show (0:Int) < 26;decide),_,rfl,_,rfl,lm,NV bw,(sp:Int),sp,rfl,rfl,hlm2,Gv (by rw [List.length_map];exact hspl),?_⟩
  have hset:(NV bw).set sp (.int ((((bw[sp]:Nat):Int)+(0 + (j:Int))) % 26))=NV (bw.set sp ((bw[sp]+j) % 26)):=by
   unfold NV
   rw [List.map_set]
   congr 2
   lia
  rw [hset]
  have hln3:upd H2 lm (.lst (NV (bw.set sp ((bw[sp]+j) % 26)))) ln=some (.lst (((List.range j).map fun k=>S ((bw.set sp ((bw[sp]+k) % 26)).map code)).map V.str)):=by rw [Qi hlnm];exact km _ _ hy
  refine ⟨_,rfl,.inl ⟨rfl,_,SqL.of hln3⟩,rfl,_,rfl,lm,rfl,⟨_,SqL.of Qb⟩,fun l2 hl2=>?_⟩
  have hml:∀ b ∈ bw.set sp ((bw[sp]+j) % 26),b < 26:=fun b hb=>by
   rcases List.mem_or_eq_of_mem_set hb with hb | hb
   ·exact hbw26 b hb
   ·rw [hb];exact Nat.mod_lt _ (13:)
  refine word _ l2 lm _ _ hl2 Qb (by rw [List.length_set];lia) hml fun H4 g4 h4=>?_
  refine ⟨S [],l2,_,by rw [← JL],rfl,SqL.of h4,UA (by rw [List.length_map,List.length_set];lia),?_⟩
  rw [JN]
  refine ⟨ln,_,_,rfl,rfl,g4 _ _ hln3,by simp only [List.length_map,List.length_range,QB];lia,_,_,rfl,fun z u e=>?_,?_⟩
  ·rw [Qi (Qh e hln)]
   refine g4 _ _ ?_
   have hz:z≠lm:=fun y=>by rw [y] at e;rw [g _ _ e] at hlm;cases hlm
   rw [Qi hz]
   exact km _ _ (g _ _ e)
  ·rw [Qb,List.range_succ,List.map_append,List.map_append];rfl
 ·rintro σ H' ⟨c6,c7,rfl,g,hy⟩
  refine ⟨_,rfl,q ln H' _ (g1.trans g) hy (29:) (UW _ 8 fun i j hi hj e=>?_) fun x hx=>?_⟩
  ·have e2:=congrArg (fun l=>l[sp]?) (LO e)
   simp only [List.getElem?_map,List.getElem?_set_self hspl,Option.map_some] at e2
   have e3:=Vd (Nat.mod_lt _ (13:)) (Nat.mod_lt _ (13:)) (Option.some.inj e2)
   lia
  ·obtain ⟨k,_,rfl⟩:=List.mem_map.mp hx
   refine Wl fun b hb=>?_
   rcases List.mem_or_eq_of_mem_set hb with hb | hb
   ·exact hbw26 b hb
   ·rw [hb];exact Nat.mod_lt _ (13:)
end
end K63
namespace L2
open PySem
def SameX (x:Addr) (H H':Hp):Prop:=∀ b u,b≠x→H b=some u→H' b=some u
theorem SameX.trans {x:Addr} {H H1 H2:Hp} (a:SameX x H H1) (b:SameX x H1 H2):SameX x H H2:=fun c u n e=>b c u n (a c u n e)
theorem SameX.of {x:Addr} {H H':Hp} (h:Same H H'):SameX x H H':=fun b u _ e=>h b u e
theorem SameX.upd {x:Addr} {H:Hp} {o:HO}:SameX x H (upd H x o):=fun b u n e=>by rw [Qi n];exact e
structure InsAt (H:Hp) (x:Addr):Prop where
 ex:∃ C dx fs,H x=some (.ins C dx fs)
theorem InsAt.seqT {K:PySem.W.Frag} {x:Addr} {H H':Hp} {a:Addr} {xs:List V} (i:InsAt H x) (g:SameX x H H') (h:SqT K H a xs):SqT K H' a xs:=by
 obtain ⟨C,dx,fs,hx⟩:=i.ex
 rcases h with (h | ⟨o,h⟩) | h
 ·exact .inl (.inl (g _ _ (ne_of h hx (18:)) h))
 ·exact .inl (.inr ⟨o,g _ _ (ne_of h hx (18:)) h⟩)
 ·exact .inr h
theorem InsAt.seq {K:PySem.W.Frag} {x:Addr} {H H':Hp} {a:Addr} {xs:List V} (i:InsAt H x) (g:SameX x H H') (h:SqL K H a xs):SqL K H' a xs:=by
 obtain ⟨C,dx,fs,hx⟩:=i.ex
 rcases h with (h | ⟨o,h⟩) | h
 ·exact .inl (.inl (g _ _ (ne_of h hx (18:)) h))
 ·exact .inl (.inr ⟨o,g _ _ (ne_of h hx (18:)) h⟩)
 ·exact .inr h
theorem InsAt.dK {x:Addr} {H H':Hp} {a:Addr} {xs:List (Key × V)} (i:InsAt H x) (g:SameX x H H') (h:H a=some (.dK xs)):H' a=some (.dK xs):=by
 obtain ⟨C,dx,fs,hx⟩:=i.ex
 exact g _ _ (ne_of h hx (18:)) h
theorem QP {f g:Str} {v y:V} {r:List (Str × V)} (h:¬ g=f):QS f v ((g,y) :: r)=(g,y) :: QS f v r:=by
 show (if g=f then _ else _)=_
 rw [if_neg h]
theorem XY {f:Str} {v y:V} {r:List (Str × V)}:QS f v ((f,y) :: r)=(f,v) :: r:=by
 show (if f=f then _ else _)=_
 rw [if_pos rfl]
end L2
namespace K63
open PySem L2 TM TT K9 K11
def Y1 (K:PySem.W.Frag):Sp:=fun vs H Q _=>∃ (w:Addr) (ks:List KdT) (k0:KdT),vs=[.ref w]∧WoodAt K H w ks∧ks[0]?=some k0∧∀ (p b:Addr) (H':Hp),Same H H'→SqT K H' p [.str (S []),.ref b]→SqT K H' b [.str k0.2.1]→Q (.ref p) H'
def Nq (K:PySem.W.Frag) (H:Hp) (sp:Addr) (L:Int):Prop:=∃ (n:Int) (vd:V) (row kk:Addr) (nm:Str) (xs:List V),SqT K H sp [.int n,vd,.ref row]∧SqT K H row [.str nm,.ref kk]∧SqT K H kk xs∧L=n + (if 0 < xs.length then 1 else 0)
def J1 (K:PySem.W.Frag):Sp:=fun vs H Q _=>∃ (fa sp:Addr) (y:V) (L:Int),vs=[.ref fa]∧SqT K H fa [.ref sp,y]∧Nq K H sp L∧Q (.int L) H
abbrev Xb:Stmt:=inClass (top 27) 0
abbrev Yh:Stmt:=inClass (top 27) 1
abbrev UT:Stmt:=inClass (top 27) 2
abbrev sMD:Stmt:=inClass (top 27) 3
abbrev sMF:Stmt:=inClass (top 27) 4
abbrev sTP:Stmt:=inClass (top 27) 5
def Yr (tu kb st wt:Addr) (fv:V):List (Str × V):=[("turning", .ref tu),("kinds_below", .ref kb),("steps", .ref st),("waiting", .ref wt),("fault", fv)]
theorem Xj (tu kb st wt:Addr) (fv v:V):QS "fault" v (Yr tu kb st wt fv)=Yr tu kb st wt v:=by
 unfold Yr
 rw [QP (1:),QP (1:),QP (1:),QP (1:),XY]
def KbAt (K:PySem.W.Frag) (H:Hp) (kb:Addr) (ks:List KdT):Prop:=∃ l:List (KdT × Addr),l.map (·.1)=ks∧H kb=some (.dK (l.map fun q=>((Sum.inr q.1.2.1:Key),V.ref q.2))) ∧
 ∀ q ∈ l,H q.2=some (.dK (q.1.2.2.2.map fun r=>((Sum.inr r.2.1:Key),V.ref r.2.2.1)))∧∀ r ∈ q.1.2.2.2,SqT K H r.2.2.1 (r.2.2.2.map V.str)
theorem KbAt.insX {K:PySem.W.Frag} {H H':Hp} {x kb:Addr} {ks:List KdT} (i:InsAt H x) (g:SameX x H H') (h:KbAt K H kb ks):KbAt K H' kb ks:=by
 obtain ⟨l,e,h1,h2⟩:=h
 exact ⟨l,e,i.dK g h1,fun q hq=>⟨i.dK g (h2 q hq).1,fun r hr=>i.seqT g ((h2 q hq).2 r hr)⟩⟩
theorem KbAt.same {K:PySem.W.Frag} {H H':Hp} {kb:Addr} {ks:List KdT} (g:Same H H') (h:KbAt K H kb ks):KbAt K H' kb ks:=by
 obtain ⟨l,e,h1,h2⟩:=h
 exact ⟨l,e,g _ _ h1,fun q hq=>⟨g _ _ (h2 q hq).1,fun r hr=>g.seqT ((h2 q hq).2 r hr)⟩⟩
theorem KbAt.get {K:PySem.W.Frag} {H:Hp} {kb:Addr} {ks:List KdT} (h:KbAt K H kb ks) {kind:Str} (hk:∃ k ∈ ks,k.2.1=kind) (name:Str):∃ (d:Addr) (o:Option V),DGet H kb (.str kind) (some (.ref d))∧IsD H d∧DGet H d (.str name) o∧Oi K H (o.getD .non) (rowK ks kind name):=by
 obtain ⟨l,e,h1,h2⟩:=h
 have ef:ks.find? (fun k=>decide (k.2.1=kind))=(l.find? fun q=>decide (q.1.2.1=kind)).map (·.1):=by rw [← e,List.find?_map];rfl
 cases eq:l.find? fun q=>decide (q.1.2.1=kind) with
 | none =>
  rw [eq] at ef
  obtain ⟨k,hk,ek⟩:=hk
  have:=List.find?_eq_none.mp ef k hk
  simp [ek] at this
 | some q =>
  rw [eq] at ef
  obtain ⟨g1,g2⟩:=h2 q (List.mem_of_find?_eq_some eq)
  have v1:=DGet.k (k:=Sum.inr kind) h1
  rw [Y5 (fun q:KdT × Addr=>q.1.2.1) (fun q=>V.ref q.2) kind l,eq] at v1
  have v2:=DGet.k (k:=Sum.inr name) g1
  rw [Y5 (fun r:PNx=>r.2.1) (fun r=>V.ref r.2.2.1) name q.1.2.2.2] at v2
  refine ⟨q.2,_,v1,.inl ⟨_,.inl g1⟩,v2,?_⟩
  have er:rowsK ks kind=q.1.2.2.2:=by unfold rowsK;rw [ef];rfl
  unfold rowK
  rw [er]
  cases eq2:q.1.2.2.2.find? fun r=>decide (r.2.1=name) with
  | none=>exact rfl
  | some r=>exact ⟨_,rfl,g2 r (List.mem_of_find?_eq_some eq2)⟩
structure DmT (K:PySem.W.Frag) (mg:Str→Option Value) (C:Addr):Prop where
 cl:Cls K C
 nT:NoAttr K C "turning"
 nK:NoAttr K C "kinds_below"
 nS:NoAttr K C "steps"
 nW:NoAttr K C "waiting"
 nF:NoAttr K C "fault"
 mgC:mg "Demands" = some (.ref C)
section
variable {P:Program} {w:World} {K:PySem.W.Frag} {mg:Str→Option Value} {base:Heap} {f:Addr} {fd:FuncData}
theorem GN:FnScope ["wood"] ["wood"] (defScope Xu):=(0:)
theorem Vn (F:Fun K "row_above" "row_above" Xu f fd):FnOk P w K mg base CX0 1 f fd ["wood"] (Y1 K):=by
 refine F.ok GN (8:) (2:)
 ·obtain ⟨w,ks,k0,rfl,_⟩:=h
  rfl
 obtain ⟨wd,ks,k0,rfl,hW,hk0,q⟩:=h
 refine ⟨_,(Qg (Qn (Qm (Qa (QJ) (Qa ((Qm (Qa (Qj Qk (Qj Qx (pv 0) Qf (4:)) Qf (4:)) Qc))) Qc))))),?_⟩
 have hat:atI (ks.map fun k=>V.ref k.1) 0=some (.ref k0.1):=QH (j:=0) (by rw [List.getElem?_map,hk0];rfl)
 refine ⟨_,rfl,wd,_,0,_,rfl,rfl,hW.1,hat,k0.1,_,0,_,rfl,rfl,(hW.2 k0 (List.mem_of_getElem? hk0)).1,rfl,(30:),fun b hb=>⟨(17:),fun p hp=>?_⟩⟩
 have k1:=Qd hb (.tup [.str k0.2.1])
 have k2:=Qd hp (.tup [.str (Str.ofString ""),.ref b])
 refine q p b _ (k1.trans k2) ?_ (k2.seqT (39:))
 rw [← JL]
 exact SqT.of Qb
theorem LA:FnScope ["fault", "spot"] ["fault"] (defScope Mb):=(0:)
theorem ML (F:Fun K "levels_needed" "levels_needed" Mb f fd) (G:Gm mg):FnOk P w K mg base CX0 1 f fd ["fault"] (J1 K):=by
 refine F.ok LA (8:) (2:)
 ·obtain ⟨fa,sp,y,L,rfl,_⟩:=h
  rfl
 obtain ⟨fa,sp,y,L,rfl,hfa,⟨n,vd,row,kk,nm,xs,h1,h2,h3,rfl⟩,q⟩:=h
 refine ⟨_,(Qe (Ql (i:=1) LA.nd rfl (11:) (40:))
  (Qg (Qn (Qo QC (35:) (JM (Qs Wr (Qp Qw rfl G.len PySem.boot_len (Qa (Qj Qk (35:) Qf (4:)) Qc)) Qf (Qr _)) Qf Qf))))),?_⟩
 refine ⟨_,rfl,fa,_,0,_,rfl,rfl,hfa,rfl,?_⟩
 refine ⟨_,rfl,sp,_,0,_,rfl,rfl,h1,rfl,_,rfl,sp,_,2,_,rfl,rfl,h1,rfl,row,_,1,_,rfl,rfl,h2,rfl,kk,xs,rfl,.inr h3,_,_,rfl,rfl,_,rfl,?_⟩
 by_cases hx:0 < xs.length
 ·rw [if_pos hx] at q
  refine YA (show (((xs.length:Nat):Int) > 0) by lia) ⟨_,_,rfl,rfl,q⟩
 ·rw [if_neg hx] at q
  refine Zo (show ¬ (((xs.length:Nat):Int) > 0) by lia) ⟨_,_,rfl,rfl,q⟩
end
end K63
namespace K63
open PySem L2 TM TT K9 K11
abbrev RK:=Str→Str→Option (List Str)
abbrev Dd:=Int × Str
abbrev Rw:=Str × List Str
structure Spot where
 n:Nat
 dm:Option Dd
 row:Rw
structure Stp where
 sp:Spot
 pl:List Int
 br:Int
structure Stt where
 ss:List (Dd × Stp)
 ft:Option (Spot × List Int)
def Spot.lv (s:Spot):Nat:=s.n + (if 0 < s.row.2.length then 1 else 0)
def Stt.ds (s:Stt):List Dd:=s.ss.map (·.1)
def UE (d:Dd) (p:Stp) (s:Stt):Stt:=if d ∈ s.ds then s else ⟨s.ss ++ [(d,p)],s.ft⟩
def ZP (sp:Spot) (pl:List Int) (s:Stt):Stt:=match s.ft with
 | none=>⟨s.ss,some (sp,pl)⟩
 | some f=>if sp.lv < f.1.lv then ⟨s.ss,some (sp,pl)⟩ else s
abbrev It:=List Int × Option (Int × Int × Str)
def its (f:RK):Nat→Tm→Str→List Int→List It
 | 0,_,_,_=>[]
 | n + 1,t,k,p=>match lab t with
  | .call m b=>[(p,some (m,b,k))]
  | .put nm _ _=>match f k nm with
   | some ss=>if ss.length=t.bs.length then (t.bs.zip ss).zipIdx.flatMap fun q=>its f n q.1.1 q.1.2 (p ++ [(q.2:Int)]) else [(p,none)]
   | none=>[(p,none)]
def act (sp:Spot) (s:Stt) (i:It):Stt:=match i.2 with
 | some c=>UE (c.1,c.2.2) ⟨sp,i.1,c.2.1⟩ s
 | none=>ZP sp i.1 s
def Xc (sp:Spot) (s:Stt) (l:List It):Stt:=l.foldl (act sp) s
theorem V3 (sp:Spot) (s:Stt) (l r:List It):Xc sp s (l ++ r)=Xc sp (Xc sp s l) r:=List.foldl_append ..
def TmB (nm:Nat):Nat→Tm→Prop
 | 0,_=>False
 | d + 1,t=>(∀ m b,lab t=.call m b→0≤m∧m < (nm:Int))∧t.bs.length≤100∧∀ b ∈ t.bs,TmB nm d b
structure WG (ks:List KdT):Prop where
 ok:WoodOk ks
 cl:∀ k ∈ ks,∀ r ∈ k.2.2.2,∀ s ∈ r.2.2.2,∃ k' ∈ ks,k'.2.1=s
theorem V9 {ks:List KdT} (hW:WG ks) {kind name s:Str} {ss:List Str} (e:rowK ks kind name=some ss) (hs:s ∈ ss):∃ k ∈ ks,k.2.1=s:=by
 unfold rowK at e
 cases er:(rowsK ks kind).find? fun r=>decide (r.2.1=name) with
 | none=>rw [er] at e;cases e
 | some r =>
  rw [er] at e
  have h1:r.2.2.2=ss:=by simpa using e
  have hm:=List.mem_of_find?_eq_some er
  unfold rowsK at hm
  cases ek:ks.find? fun k=>decide (k.2.1=kind) with
  | none=>rw [ek] at hm;cases hm
  | some k =>
   rw [ek] at hm
   exact hW.cl k (List.mem_of_find?_eq_some ek) r hm s (by rw [h1];exact hs)
def DOk (nm:Nat) (ks:List KdT) (d:Dd):Prop:=0≤d.1∧d.1 < (nm:Int)∧∃ k ∈ ks,k.2.1=d.2
theorem Vt {α:Type} [DecidableEq α]:∀ {l r:List α},l.Nodup→(∀ x ∈ l,x ∈ r)→l.length≤r.length
 | [],_,_,_=>Nat.zero_le _
 | x :: l,r,hn,hs=>by
  rw [List.nodup_cons] at hn
  have h1:=hs x List.mem_cons_self
  have h2:l.length≤(r.erase x).length:=Vt hn.2 fun y hy=>by
   have hy':=hs y (List.mem_cons_of_mem _ hy)
   have ne:y≠x:=fun e=>hn.1 (by rw [← e];exact hy)
   exact (List.mem_erase_of_ne ne).mpr hy'
  rw [List.length_erase_of_mem h1] at h2
  have:=List.length_pos_of_mem h1
  simp only [List.length_cons];lia
theorem YG {nm:Nat} {ks:List KdT} {ds:List Dd} (hn:ds.Nodup) (h:∀ d ∈ ds,DOk nm ks d):ds.length≤nm * ks.length:=by
 have:=Vt (l:=ds) (r:=(List.range nm).flatMap fun i=>ks.map fun k=>(((i:Nat):Int),k.2.1)) hn fun d hd=>by
  obtain ⟨h1,h2,k,hk,e⟩:=h d hd
  refine List.mem_flatMap.mpr ⟨d.1.toNat,List.mem_range.mpr (12:),List.mem_map.mpr ⟨k,hk,?_⟩⟩
  rw [e,Int.toNat_of_nonneg h1]
 have e:∀ n:Nat,((List.range n).flatMap fun i=>ks.map fun k=>(((i:Nat):Int),k.2.1)).length=n * ks.length:=fun n=>by
  induction n with
  | zero=>simp
  | succ n ih=>rw [List.range_succ,List.flatMap_append,List.length_append,ih,Nat.succ_mul];simp
 rw [e] at this
 exact this
def SameD (x st wt:Addr) (H H':Hp):Prop:=∀ b u,b≠x→b≠st→b≠wt→H b=some u→H' b=some u
theorem SameD.refl (x st wt:Addr) (H:Hp):SameD x st wt H H:=fun _ _ _ _ _ e=>e
theorem SameD.trans {x st wt:Addr} {H H1 H2:Hp} (a:SameD x st wt H H1) (b:SameD x st wt H1 H2):SameD x st wt H H2:=fun c u n1 n2 n3 e=>b c u n1 n2 n3 (a c u n1 n2 n3 e)
theorem SameD.of {x st wt:Addr} {H H':Hp} (h:Same H H'):SameD x st wt H H':=fun b u _ _ _ e=>h b u e
def Kp (K:PySem.W.Frag) (H H':Hp):Prop:=(∀ a xs,H a=some (.tup xs)→H' a=some (.tup xs))∧∀ a xs,SqT K H a xs→SqT K H' a xs
theorem Kp.of {K:PySem.W.Frag} {H H':Hp} (g:Same H H'):Kp K H H':=⟨fun _ _ e=>g _ _ e,fun _ _=>g.seqT⟩
def RwAt (K:PySem.W.Frag) (H:Hp) (a:Addr) (r:Rw):Prop:=∃ kk,SqT K H a [.str r.1,.ref kk]∧SqT K H kk (r.2.map V.str)
def DdV (H:Hp) (v:V):Option Dd→Prop
 | none=>v=.non
 | some d=>∃ a,v=.ref a∧H a=some (.tup [.int d.1,.str d.2])
def SpAt (K:PySem.W.Frag) (H:Hp) (a:Addr) (s:Spot):Prop:=∃ vd ra,SqT K H a [.int (s.n:Int),vd,.ref ra]∧DdV H vd s.dm∧RwAt K H ra s.row
def StAt (K:PySem.W.Frag) (H:Hp) (v:V) (p:Stp):Prop:=∃ a sp pl,v=.ref a∧SqT K H a [.ref sp,.ref pl,.int p.br]∧SpAt K H sp p.sp∧SqT K H pl (p.pl.map V.int)
def FtAt (K:PySem.W.Frag) (H:Hp) (v:V):Option (Spot × List Int)→Prop
 | none=>v=.non
 | some f=>∃ a sp pl,v=.ref a∧SqT K H a [.ref sp,.ref pl]∧SpAt K H sp f.1∧SqT K H pl (f.2.map V.int)
theorem DdV.kp {K:PySem.W.Frag} {H H':Hp} {v:V} (k:Kp K H H'):∀ {o:Option Dd},DdV H v o→DdV H' v o
 | none,h=>h
 | some d,⟨a,e,h⟩=>⟨a,e,k.1 _ _ h⟩
theorem RwAt.kp {K:PySem.W.Frag} {H H':Hp} {a:Addr} {r:Rw} (k:Kp K H H'):RwAt K H a r→RwAt K H' a r
 | ⟨kk,h1,h2⟩=>⟨kk,k.2 _ _ h1,k.2 _ _ h2⟩
theorem SpAt.kp {K:PySem.W.Frag} {H H':Hp} {a:Addr} {s:Spot} (k:Kp K H H'):SpAt K H a s→SpAt K H' a s
 | ⟨vd,ra,h1,h2,h3⟩=>⟨vd,ra,k.2 _ _ h1,h2.kp k,h3.kp k⟩
theorem StAt.kp {K:PySem.W.Frag} {H H':Hp} {v:V} {p:Stp} (k:Kp K H H'):StAt K H v p→StAt K H' v p
 | ⟨a,sp,pl,e,h1,h2,h3⟩=>⟨a,sp,pl,e,k.2 _ _ h1,h2.kp k,k.2 _ _ h3⟩
theorem FtAt.kp {K:PySem.W.Frag} {H H':Hp} {v:V} (k:Kp K H H'):∀ {o:Option (Spot × List Int)},FtAt K H v o→FtAt K H' v o
 | none,h=>h
 | some f,⟨a,sp,pl,e,h1,h2,h3⟩=>⟨a,sp,pl,e,k.2 _ _ h1,h2.kp k,k.2 _ _ h3⟩
theorem SpAt.lvAt {K:PySem.W.Frag} {H:Hp} {a:Addr} {s:Spot}:SpAt K H a s→Nq K H a (s.lv:Int)
 | ⟨vd,ra,h1,h2,kk,h3,h4⟩=>⟨_,vd,ra,kk,_,_,h1,h3,h4,by
  unfold Spot.lv
  rw [List.length_map]
  split <;> simp⟩
abbrev KvK (kvs:List ((Dd × Stp) × V)):List (List Key × V):=kvs.map fun q=>([Sum.inl q.1.1.1,Sum.inr q.1.1.2],q.2)
structure DmS (K:PySem.W.Frag) (C:Addr) (nm:Nat) (ks:List KdT) (H:Hp) (x dx tu kb st wt:Addr) (fv:V) (s:Stt):Prop where
 hx:H x=some (.ins C dx (Yr tu kb st wt fv))
 hst:∃ kvs:List ((Dd × Stp) × V),kvs.map (·.1)=s.ss∧H st=some (.dT (KvK kvs))∧∀ q ∈ kvs,StAt K H q.2 q.1.2
 hwt:∃ ws:List (Addr × Dd),ws.map (·.2)=s.ds∧H wt=some (.lst (ws.map fun q=>V.ref q.1))∧∀ q ∈ ws,H q.1=some (.tup [.int q.2.1,.str q.2.2])
 nd:s.ds.Nodup
 dk:∀ d ∈ s.ds,DOk nm ks d
 fo:FtAt K H fv s.ft
section
variable {K:PySem.W.Frag} {C:Addr} {nm:Nat} {ks:List KdT} {H H':Hp} {x dx tu kb st wt:Addr} {fv:V} {s:Stt}
theorem DmS.tup (D:DmS K C nm ks H x dx tu kb st wt fv s) (g:SameD x st wt H H') {a:Addr} {xs:List V} (h:H a=some (.tup xs)):H' a=some (.tup xs):=by
 obtain ⟨kvs,_,h1,_⟩:=D.hst
 obtain ⟨ws,_,h2,_⟩:=D.hwt
 exact g _ _ (ne_of h D.hx (18:)) (ne_of h h1 (by intro z;cases z)) (ne_of h h2 (by intro z;cases z)) h
theorem DmS.dKs (D:DmS K C nm ks H x dx tu kb st wt fv s) (g:SameD x st wt H H') {a:Addr} {xs:List (Key × V)} (h:H a=some (.dK xs)):H' a=some (.dK xs):=by
 obtain ⟨kvs,_,h1,_⟩:=D.hst
 obtain ⟨ws,_,h2,_⟩:=D.hwt
 exact g _ _ (ne_of h D.hx (18:)) (ne_of h h1 (by intro z;cases z)) (ne_of h h2 (by intro z;cases z)) h
theorem DmS.seqT (D:DmS K C nm ks H x dx tu kb st wt fv s) (g:SameD x st wt H H') {a:Addr} {xs:List V} (h:SqT K H a xs):SqT K H' a xs:=by
 obtain ⟨kvs,_,h1,_⟩:=D.hst
 obtain ⟨ws,_,h2,_⟩:=D.hwt
 rcases h with (h | ⟨o,h⟩) | h
 ·exact .inl (.inl (D.tup g h))
 ·exact .inl (.inr ⟨o,g _ _ (ne_of h D.hx (18:)) (ne_of h h1 (by intro z;cases z)) (ne_of h h2 (by intro z;cases z)) h⟩)
 ·exact .inr h
theorem DmS.kbAt (D:DmS K C nm ks H x dx tu kb st wt fv s) (g:SameD x st wt H H') {kb':Addr} {ks':List KdT} (h:KbAt K H kb' ks'):KbAt K H' kb' ks':=by
 obtain ⟨l,e,h1,h2⟩:=h
 exact ⟨l,e,D.dKs g h1,fun q hq=>⟨D.dKs g (h2 q hq).1,fun r hr=>D.seqT g ((h2 q hq).2 r hr)⟩⟩
theorem DmS.kp (D:DmS K C nm ks H x dx tu kb st wt fv s) (g:SameD x st wt H H'):Kp K H H':=⟨fun _ _=>D.tup g,fun _ _=>D.seqT g⟩
theorem DmS.same (D:DmS K C nm ks H x dx tu kb st wt fv s) (g:Same H H'):DmS K C nm ks H' x dx tu kb st wt fv s:=by
 obtain ⟨kvs,a1,a2,a3⟩:=D.hst
 obtain ⟨ws,b1,b2,b3⟩:=D.hwt
 exact ⟨g _ _ D.hx,⟨kvs,a1,g _ _ a2,fun q hq=>(a3 q hq).kp (.of g)⟩,⟨ws,b1,g _ _ b2,fun q hq=>g _ _ (b3 q hq)⟩,D.nd,D.dk,D.fo.kp (.of g)⟩
theorem DmS.fault (D:DmS K C nm ks H x dx tu kb st wt fv s) {fv':V} {o:Option (Spot × List Int)} (h:FtAt K H fv' o):DmS K C nm ks (upd H x (.ins C dx (Yr tu kb st wt fv'))) x dx tu kb st wt fv' ⟨s.ss,o⟩∧SameD x st wt H (upd H x (.ins C dx (Yr tu kb st wt fv'))):=by
 have g:SameD x st wt H (upd H x (.ins C dx (Yr tu kb st wt fv'))):=fun b u n _ _ e=>by rw [Qi n];exact e
 obtain ⟨kvs,a1,a2,a3⟩:=id D.hst
 obtain ⟨ws,b1,b2,b3⟩:=id D.hwt
 refine ⟨⟨Qb,⟨kvs,a1,?_,fun q hq=>(a3 q hq).kp (D.kp g)⟩,⟨ws,b1,?_,fun q hq=>D.tup g (b3 q hq)⟩,D.nd,D.dk,h.kp (D.kp g)⟩,g⟩
 ·rw [Qi (ne_of a2 D.hx (18:))];exact a2
 ·rw [Qi (ne_of b2 D.hx (18:))];exact b2
end
theorem G5 {d e:Dd} (h:([Sum.inl d.1,Sum.inr d.2]:List Key)=[Sum.inl e.1,Sum.inr e.2]):d=e:=by
 injection h with h1 h2
 injection h2 with h2
 injection h1 with h1
 injection h2 with h2
 exact Prod.ext h1 h2
theorem JJ (d:Dd):∀ kvs:List ((Dd × Stp) × V),ZE (KvK kvs) [Sum.inl d.1,Sum.inr d.2]=(kvs.find? fun q=>decide (q.1.1=d)).map (·.2)
 | []=>rfl
 | q :: r=>by
  rw [KvK,List.map_cons,List.find?_cons]
  by_cases e:q.1.1=d
  ·rw [ZK (p:=(([Sum.inl q.1.1.1,Sum.inr q.1.1.2]:List Key),q.2)) (by rw [e]),decide_eq_true e];rfl
  ·rw [ZJ (p:=(([Sum.inl q.1.1.1,Sum.inr q.1.1.2]:List Key),q.2)) (fun z=>e (G5 z)),decide_eq_false e]
   exact JJ d r
def GQ (K:PySem.W.Frag) (C:Addr):Sp:=fun vs H Q _=>∃ (nm:Nat) (ks:List KdT) (x dx tu kb st wt sp fa pl:Addr) (fv:V) (s:Stt) (S:Spot) (p:List Int),vs=[.ref x,.ref fa]∧DmS K C nm ks H x dx tu kb st wt fv s∧SqT K H fa [.ref sp,.ref pl]∧SpAt K H sp S∧SqT K H pl (p.map V.int) ∧
 ∀ (H':Hp) (fv':V),SameD x st wt H H'→DmS K C nm ks H' x dx tu kb st wt fv' (ZP S p s)→Q .non H'
def MK (K:PySem.W.Frag) (C:Addr):Sp:=fun vs H Q _=>∃ (nm:Nat) (ks:List KdT) (x dx tu kb st wt dp:Addr) (sv fv:V) (s:Stt) (d:Dd) (p:Stp),vs=[.ref x,.ref dp,sv]∧DmS K C nm ks H x dx tu kb st wt fv s∧H dp=some (.tup [.int d.1,.str d.2])∧StAt K H sv p∧DOk nm ks d∧nm * ks.length≤1000 ∧
 ∀ (H':Hp),SameD x st wt H H'→DmS K C nm ks H' x dx tu kb st wt fv (UE d p s)→Q .non H'
section
variable {P:Program} {w:World} {K:PySem.W.Frag} {mg:Str→Option Value} {base:Heap} {f:Addr} {fd:FuncData} {C:Addr}
theorem OM:FnScope ["self", "fault"] ["self", "fault"] (defScope sMF):=(0:)
theorem Nw (F:Fun K "meet_fault" "Demands.meet_fault" sMF f fd) (T:DmT K mg C) (RL:Fn P w K mg base 1 "levels_needed" ["fault"] (J1 K)):FnOk P w K mg base CX0 2 f fd ["self", "fault"] (GQ K C):=by
 refine F.ok OM (8:) (2:)
 ·obtain ⟨nm,ks,x,dx,tu,kb,st,wt,sp,fa,pl,fv,s,S,p,rfl,_⟩:=h
  rfl
 obtain ⟨nm,ks,x,dx,tu,kb,st,wt,sp,fa,pl,fv,s,S,p,rfl,D,hfa,hS,hp,hQ⟩:=h
 refine ⟨_,(Qg (Qz (PW.pt (pw_or (Yy (YB (QG (pv 0) rfl))) (pw_or1 (Qs YT (Qv RL hr (Qa (pv 1) Qc)) (Qv RL hr (Qa (QG (pv 0) rfl) Qc)) (Qr _))))) (Qg (ZD (pv 0) (pv 1) rfl)) Qq)),?_⟩
 have hx:=D.hx
 refine ⟨_,rfl,x,C,dx,_,_,rfl,hx,T.cl,T.nF,rfl,_,rfl,?_⟩
 have new:=D.fault (fv':=.ref fa) (o:=some (S,p)) ⟨fa,sp,pl,rfl,hfa,hS,hp⟩
 have fo:=D.fo
 unfold ZP at hQ
 cases ef:s.ft with
 | none =>
  rw [ef] at fo hQ
  obtain rfl:fv=.non:=fo
  refine YA rfl ⟨_,rfl,_,rfl,x,C,dx,_,rfl,hx,T.cl,T.nF,(by show 5 < 1000;decide),?_⟩
  rw [Xj]
  exact hQ _ _ new.2 new.1
 | some o =>
  rw [ef] at fo hQ
  dsimp only at hQ
  obtain ⟨fa',sp',pl',rfl,h1,h2,h3⟩:=fo
  refine Zo (37:) ⟨_,rfl,fa,sp,_,_,rfl,hfa,hS.lvAt,_,rfl,x,C,dx,_,_,rfl,hx,T.cl,T.nF,rfl,fa',sp',_,_,rfl,h1,h2.lvAt,_,_,rfl,rfl,_,rfl,XM (fun c=>?_) (fun c=>?_)⟩
  ·have c':(S.lv:Int) < (o.1.lv:Int):=of_decide_eq_true c
   rw [if_pos (12:)] at hQ
   refine ⟨_,rfl,_,rfl,x,C,dx,_,rfl,hx,T.cl,T.nF,(by show 5 < 1000;decide),?_⟩
   rw [Xj]
   exact hQ _ _ new.2 new.1
  ·have c':¬ (S.lv:Int) < (o.1.lv:Int):=fun z=>c (decide_eq_true z)
   rw [if_neg (12:)] at hQ
   exact hQ H _ (SameD.refl _ _ _ _) D
theorem OC:FnScope ["self", "demand", "step"] ["self", "demand", "step"] (defScope sMD):=(0:)
theorem Nf (F:Fun K "meet_demand" "Demands.meet_demand" sMD f fd) (T:DmT K mg C):FnOk P w K mg base CX0 2 f fd ["self", "demand", "step"] (MK K C):=by
 refine F.ok OC (8:) (2:)
 ·obtain ⟨nm,ks,x,dx,tu,kb,st,wt,dp,sv,fv,s,d,p,rfl,_⟩:=h
  rfl
 obtain ⟨nm,ks,x,dx,tu,kb,st,wt,dp,sv,fv,s,d,p,rfl,D,hdp,hsv,hd,hnm,hQ⟩:=h
 refine ⟨_,(Qg (Qz (Yy (WJ (Um hr) (pv 1) (QG (pv 0) rfl))) (Qe (GY (Um hr) (QG (pv 0) rfl) (pv 1) (pv 2) rfl)
  (Qg (QL (YJ PySem.F.plainAttrs_list PySem.F.slot_list_append PySem.F.type_list_append Q5 (QG (pv 0) rfl) (Qa (pv 1) Qc))))) Qq)),?_⟩
 have hx:=D.hx
 obtain ⟨kvs,a1,a2,a3⟩:=id D.hst
 obtain ⟨ws,b1,b2,b3⟩:=id D.hwt
 have hlen:=YG D.nd D.dk
 have hds:s.ds=kvs.map fun q=>q.1.1:=by unfold Stt.ds;rw [← a1,List.map_map];rfl
 have hkl:kvs.length=s.ds.length:=by rw [hds,List.length_map]
 have hwl:ws.length=s.ds.length:=by rw [← b1,List.length_map]
 have hdp':H dp=some (.tup (([Sum.inl d.1,Sum.inr d.2]:List Key).map kV)):=hdp
 have ev:=JJ d kvs
 refine ⟨_,rfl,_,rfl,x,C,dx,_,_,rfl,hx,T.cl,T.nS,rfl,st,_,rfl,DGet.t a2 hdp',?_⟩
 rw [ev]
 unfold UE at hQ
 cases ef:kvs.find? fun q=>decide (q.1.1=d) with
 | some q =>
  have hin:d ∈ s.ds:=by
   rw [hds]
   refine List.mem_map.mpr ⟨q,List.mem_of_find?_eq_some ef,?_⟩
   simpa using List.find?_some ef
  refine ⟨_,rfl,ZW ?_⟩
  refine hQ H (SameD.refl _ _ _ _) ?_
  rw [if_pos hin]
  exact D
 | none =>
  have hni:d ∉ s.ds:=fun z=>by
   rw [hds] at z
   obtain ⟨q,hq,e⟩:=List.mem_map.mp z
   have:=List.find?_eq_none.mp ef q hq
   simp [e] at this
  rw [if_neg hni] at hQ
  have hvn:ZE (KvK kvs) [Sum.inl d.1,Sum.inr d.2]=none:=by rw [ev,ef];rfl
  have hput:=DPut.t (v:=sv) a2 hdp' (by rw [KvK,List.length_map,QB];lia)
  rw [Gk sv hvn] at hput
  have ekv:KvK kvs ++ [([Sum.inl d.1,Sum.inr d.2],sv)]=KvK (kvs ++ [((d,p),sv)]):=by rw [KvK,KvK,List.map_append];rfl
  rw [ekv] at hput
  have nxs:x≠st:=(ne_of hx a2 (18:))
  have nws:wt≠st:=(ne_of b2 a2 (18:))
  have nwx:wt≠x:=(ne_of b2 hx (18:))
  refine ⟨_,rfl,Zl ⟨_,rfl,_,rfl,x,C,dx,_,_,rfl,hx,T.cl,T.nS,rfl,_,rfl,st,_,rfl,hput,?_⟩⟩
  generalize hH1:upd H st (.dT (KvK (kvs ++ [((d,p),sv)])))=H1
  have hx1:H1 x=some (.ins C dx (Yr tu kb st wt fv)):=by rw [← hH1,Qi nxs];exact hx
  have hw1:H1 wt=some (.lst (ws.map fun q=>V.ref q.1)):=by rw [← hH1,Qi nws];exact b2
  have hs1:H1 st=some (.dT (KvK (kvs ++ [((d,p),sv)]))):=by rw [← hH1];exact Qb
  have g1:SameD x st wt H H1:=fun b u _ n _ e=>by rw [← hH1,Qi n];exact e
  refine ⟨_,rfl,x,C,dx,_,_,rfl,hx1,T.cl,T.nW,rfl,.inl ⟨rfl,_,SqL.of hw1⟩,_,rfl,wt,_,_,rfl,rfl,hw1,(by rw [List.length_map,QB];lia),?_⟩
  have g2:SameD x st wt H (upd H1 wt (.lst (ws.map (fun q=>V.ref q.1) ++ [.ref dp]))):=fun b u n1 n2 n3 e=>by rw [Qi n3];exact g1 b u n1 n2 n3 e
  refine hQ _ g2 ?_
  have ead:(⟨s.ss ++ [(d,p)],s.ft⟩ : Stt).ds=s.ds ++ [d]:=by unfold Stt.ds;rw [List.map_append];rfl
  have nd:(s.ds ++ [d]).Nodup:=List.nodup_append.mpr ⟨D.nd,by simp,fun a ha b hb=>by
   have:b=d:=by simpa using hb
   subst this
   exact fun z=>hni (by rw [← z];exact ha)⟩
  refine ⟨by rw [Qi (Ne.symm nwx)];exact hx1,⟨kvs ++ [((d,p),sv)],by rw [List.map_append,a1];rfl,by rw [Qi (Ne.symm nws)];exact hs1,fun q hq=>?_⟩,⟨ws ++ [(dp,d)],by rw [List.map_append,b1,ead];rfl,by rw [Qb,List.map_append];rfl,fun q hq=>?_⟩,by rw [ead];exact nd,fun e he=>?_,D.fo.kp (D.kp g2)⟩
  ·rcases List.mem_append.mp hq with z | z
   ·exact (a3 q z).kp (D.kp g2)
   ·have:q=((d,p),sv):=by simpa using z
    rw [this]
    exact hsv.kp (D.kp g2)
  ·rcases List.mem_append.mp hq with z | z
   ·exact D.tup g2 (b3 q z)
   ·have:q=(dp,d):=by simpa using z
    rw [this]
    exact D.tup g2 hdp
  ·rw [ead] at he
   rcases List.mem_append.mp he with z | z
   ·exact D.dk e z
   ·have:e=d:=by simpa using z
    rw [this];exact hd
end
end K63
namespace K63
open PySem L2 TM TT K9 K11
def Z6 (K:PySem.W.Frag) (C:Addr) (n:Nat):Sp:=fun vs H Q _=>∃ (nm:Nat) (ks:List KdT) (x dx tu kb st wt sp pl:Addr) (fv v:V) (kind:Str) (p:List Int) (t:Tm) (S:Spot) (s:Stt),vs=[.ref x,.ref sp,.ref pl,v,.str kind]∧DmS K C nm ks H x dx tu kb st wt fv s∧KbAt K H kb ks∧WG ks∧SpAt K H sp S∧SqT K H pl (p.map V.int)∧p.length + n≤100∧TmV K H v t∧TmB nm n t∧(∃ k ∈ ks,k.2.1=kind)∧nm * ks.length≤1000 ∧
 ∀ (H':Hp) (fv':V),SameD x st wt H H'→DmS K C nm ks H' x dx tu kb st wt fv' (Xc S s (its (rowK ks) n t kind p))→Q .non H'
section
variable {P:Program} {w:World} {K:PySem.W.Frag} {mg:Str→Option Value} {base:Heap} {f:Addr} {fd:FuncData} {C:Addr}
theorem Jo:FnScope ["self", "spot", "place", "term", "kind", "kinds", "number", "part"] ["self", "spot", "place", "term", "kind"] (defScope UT):=(0:)
theorem G0 {n:Nat} (F:Fun K "look" "Demands.look" UT f fd) (G:Gm mg) (T:DmT K mg C) (RC:Fn P w K mg base 1 "is_call" ["term"] (Yl K)) {fM:Addr} {fdM:FuncData} (mM:Meth K C "meet_fault" fM) (FM:FnOk P w K mg base CX0 2 fM fdM ["self", "fault"] (GQ K C)) (bM:Binds K fdM ["self", "fault"] [])
 {fD:Addr} {fdD:FuncData} (mD:Meth K C "meet_demand" fD) (FD:FnOk P w K mg base CX0 2 fD fdD ["self", "demand", "step"] (MK K C)) (bD:Binds K fdD ["self", "demand", "step"] [])
 (mL:Meth K C "look" f) (FL:FnOk P w K mg base CX0 (n + 2) f fd ["self", "spot", "place", "term", "kind"] (Z6 K C n)) (bL:Binds K fd ["self", "spot", "place", "term", "kind"] []):FnOk P w K mg base CX0 (n + 3) f fd ["self", "spot", "place", "term", "kind"] (Z6 K C (n + 1)):=by
 refine F.ok Jo (8:) (2:)
 ·obtain ⟨nm,ks,x,dx,tu,kb,st,wt,sp,pl,fv,v,kind,p,t,S,s,rfl,_⟩:=h
  rfl
 obtain ⟨nm,ks,x,dx,tu,kb,st,wt,sp,pl,fv,v,kind,p,t,S,s,rfl,D,hkb,hWG,hS,hpl,hpn,hv,hB,hkind,hnk,hQ⟩:=h
 have hr2:Room 2 _:=hr.mono (12:)
 have hrn:Room (n + 2) _:=hr
 refine ⟨_,(Qe (Qz (Q0 (Qv RC hr (Qa (pv 3) Qc) (12:))) (Qe (QL (Za (pv 0) T.cl mD FD hr2 bD .nil Zq (Qa ((Qm (Qa (52:) (Qa (pv 4) Qc)))) (Qa ((Qm (Qa (pv 1) (Qa (pv 2) (Qa (52:) Qc))))) Qc))))
  (Qg (X0))) Qq)
  (Qe (Ql (i:=5) Jo.nd rfl (11:) (VM (Um hr) (Jw (Um hr) (QG (pv 0) rfl) (pv 4) (4:)) (52:) ⟨rfl,rfl,rfl,rfl⟩))
  (Qe (Qz (PW.pt (pw_or (Yy (YB (pv 5))) (pw_or1 (Qs U3 (Qp Qw rfl G.len PySem.boot_len (Qa (pv 5) Qc)) (Qp Qw rfl G.len PySem.boot_len (Qa (52:) Qc)) (Qr _))))) (Qe (QL (Za (pv 0) T.cl mM FM hr2 bM .nil Zq (Qa ((Qm (Qa (pv 1) (Qa (pv 2) Qc)))) Qc)))
  (Qg (X0))) Qq)
  (Qg (Q1 PassesOwn.never rfl (Lb rfl G.enu (Qa (52:) Qc)) (YI rfl (QF (Qy (i:=6) Jo.nd rfl (11:)) (QF (Qy (i:=7) Jo.nd rfl (11:)) ZT)))
   (Qg (QL (Za (pv 0) T.cl mL FL hrn bL .nil Zq (Qa (pv 1) (Qa (Qo Y0 (pv 2) (Qm (Qa (pv 6) Qc))) (Qa (pv 7) (Qa (Qj Qk (pv 5) (pv 6) (4:)) Qc)))))))))))),?_⟩
 have hx:=D.hx
 obtain ⟨hB1,hB2,hB3⟩:=hB
 rcases Gx hv with ⟨a,mo,b,rfl,rfl,h1⟩ | ⟨a,b,bs,nm',k',ad',rfl,et,h1,h2,h3,h4⟩
 ·refine ⟨_,rfl,a,CALL,_,rfl,h1,_,rfl,YA rfl ?_⟩
  refine ⟨_,rfl,x,dx,_,rfl,hx,rfl,_,rfl,a,_,1,_,rfl,rfl,h1,rfl,_,rfl,(17:),fun dp hdp=>?_⟩
  have g1:=Qd hdp (.tup [.int mo,.str kind])
  refine ⟨_,rfl,_,rfl,_,rfl,a,_,2,_,rfl,rfl,g1.seqT h1,rfl,(33:),fun sa hsa=>?_⟩
  have g2:=Qd hsa (.tup [.ref sp,.ref pl,.int b])
  have g12:=g1.trans g2
  refine ⟨nm,ks,x,dx,tu,kb,st,wt,dp,.ref sa,fv,s,(mo,kind),⟨S,p,b⟩,rfl,D.same g12,g2 _ _ Qb,⟨sa,sp,pl,rfl,SqT.of Qb,hS.kp (.of g12),g12.seqT hpl⟩,⟨(hB1 mo b rfl).1,(hB1 mo b rfl).2,hkind⟩,hnk,fun H' g D'=>?_⟩
  exact hQ H' fv ((SameD.of g12).trans g) D'
 have enl:lab t=.put nm' k' ad':=by rw [et];rfl
 refine ⟨_,rfl,a,PUT,_,rfl,h1,_,rfl,Zo (1:) ?_⟩
 have hlen:=h3.length
 obtain ⟨d,o,hd,hdD,hdo,hrow⟩:=hkb.get hkind nm'
 refine ⟨_,rfl,x,C,dx,_,_,rfl,hx,T.cl,T.nK,rfl,_,rfl,kb,.ref d,rfl,hd,d,rfl,hdD,_,rfl,a,_,1,_,rfl,rfl,h1,rfl,o,hdo,?_⟩
 have fault:its (rowK ks) (n + 1) t kind p=[(p,none)]→∀ pp,H pp=none→GQ K C (.ref x :: ([.ref pp] ++ [])) (upd H pp (.tup [.ref sp,.ref pl])) (fun _ H'=>Q .non H') E0:=fun hd0 pp hpp=>by
  have g:=Qd hpp (.tup [.ref sp,.ref pl])
  refine ⟨nm,ks,x,dx,tu,kb,st,wt,sp,pp,pl,fv,s,S,p,rfl,D.same g,SqT.of Qb,hS.kp (.of g),g.seqT hpl,fun H' fv' gx D'=>?_⟩
  refine hQ H' fv' ((SameD.of g).trans gx) ?_
  rw [hd0]
  exact D'
 cases er:rowK ks kind nm' with
 | none =>
  rw [er] at hrow
  have hd0:its (rowK ks) (n + 1) t kind p=[(p,none)]:=by rw [its,enl];dsimp only;rw [er]
  rw [show o.getD .non=.non from hrow]
  exact ⟨_,rfl,_,rfl,YA rfl ⟨_,rfl,x,dx,_,rfl,hx,rfl,_,rfl,_,rfl,(17:),fun pp hpp=>fault hd0 pp hpp⟩⟩
 | some ss =>
  rw [er] at hrow
  obtain ⟨kk,ekk,hkk⟩:=hrow
  rw [ekk]
  refine ⟨_,rfl,_,rfl,Zo (37:) ⟨_,rfl,kk,_,rfl,.inr hkk,_,rfl,a,_,4,_,rfl,rfl,h1,rfl,b,_,rfl,.inr h2,rfl,_,rfl,?_⟩⟩
  by_cases hl:ss.length=t.bs.length
  ·refine YR (by rw [List.length_map,hl,hlen]) ?_
   have edm:its (rowK ks) (n + 1) t kind p=(t.bs.zip ss).zipIdx.flatMap fun q=>its (rowK ks) n q.1.1 q.1.2 (p ++ [(q.2:Int)]):=by rw [its,enl];dsimp only;rw [er];dsimp only;rw [if_pos hl]
   rw [edm] at hQ
   refine ⟨_,rfl,a,_,4,_,rfl,rfl,h1,rfl,b,bs,rfl,h2,?_⟩
   refine Vh (K:=K) (xs:=bs) (fun i σ H'=>∃ (c6 c7:Option V) (fv':V),σ=[some (.ref x),some (.ref sp),some (.ref pl),some (.ref a),some (.str kind),some (.ref kk),c6,c7]∧SameD x st wt H H'∧DmS K C nm ks H' x dx tu kb st wt fv' (Xc S s (((t.bs.zip ss).zipIdx.take i).flatMap fun q=>its (rowK ks) n q.1.1 q.1.2 (p ++ [(q.2:Int)]))))
    ⟨none,none,fv,rfl,SameD.refl _ _ _ _,D⟩ ?_ ?_ ?_
   ·rintro i σ H' _ ⟨c6,c7,fv',_,g,_⟩
    exact D.seqT g h2
   ·rintro i u pp σ H' hu hpp ⟨c6,c7,fv',rfl,g,D'⟩
    have hib:i < bs.length:=(List.getElem?_eq_some_iff.mp hu).1
    have hit:i < t.bs.length:=by lia
    have his:i < ss.length:=by lia
    obtain ⟨cv,hcv,hct⟩:=h3.get (List.getElem?_eq_getElem hit)
    obtain rfl:cv=u:=Option.some.inj (hcv.symm.trans hu)
    have ez:(t.bs.zip ss).zipIdx[i]?=some ((t.bs[i],ss[i]),i):=by
     rw [List.getElem?_zipIdx,List.getElem?_eq_getElem (by rw [List.length_zip];lia),List.getElem_zip];simp
    have gp:=Qd hpp (.tup [.int (i:Int),cv])
    have g1:=g.trans (SameD.of gp)
    have hx1:=gp _ _ D'.hx
    refine ⟨pp,_,rfl,SqT.of Qb,rfl,_,_,rfl,_,_,rfl,rfl,?_⟩
    refine ⟨_,rfl,x,dx,_,rfl,hx1,rfl,_,rfl,_,rfl,_,rfl,(30:),fun p1 hp1=>?_⟩
    have g2':=Qd hp1 (.tup [.int (i:Int)])
    have g2:=g1.trans (SameD.of g2')
    refine ⟨pl,p1,p.map V.int,[.int (i:Int)],rfl,rfl,D.seqT g2 hpl,SqT.of Qb,(by rw [List.length_map,QB];simp only [List.length_singleton];lia),fun p2 H3 g3' hp2=>?_⟩
    have ecat:p.map V.int ++ [V.int (i:Int)]=(p ++ [(i:Int)]).map V.int:=by rw [List.map_append];rfl
    rw [ecat] at hp2
    have g3:=g2.trans (SameD.of g3')
    have gpp:=gp.trans (g2'.trans g3')
    refine ⟨_,rfl,_,rfl,_,rfl,kk,_,_,.str ss[i],rfl,rfl,D.seqT g3 hkk,QH (by rw [List.getElem?_map,List.getElem?_eq_getElem his];rfl),?_⟩
    refine ⟨nm,ks,x,dx,tu,kb,st,wt,sp,p2,fv',cv,ss[i],p ++ [(i:Int)],t.bs[i],S,_,rfl,D'.same gpp,D.kbAt g3 hkb,hWG,hS.kp (D.kp g3),hp2,by rw [List.length_append,List.length_singleton];lia,hct.mono fun _ _=>D.seqT g3,hB3 _ (List.getElem_mem hit),V9 hWG er (List.getElem_mem his),hnk,fun H4 fv4 g4 D4=>?_⟩
    refine ⟨_,_,fv4,rfl,g3.trans g4,?_⟩
    rw [List.take_add_one,ez,List.flatMap_append,V3]
    simpa using D4
   ·rintro σ H' ⟨c6,c7,fv',rfl,g,D'⟩
    have et2:(t.bs.zip ss).zipIdx.take bs.length=(t.bs.zip ss).zipIdx:=List.take_of_length_le (by rw [List.length_zipIdx,List.length_zip];lia)
    rw [et2] at D'
    exact hQ H' fv' g D'
  ·have hd0:its (rowK ks) (n + 1) t kind p=[(p,none)]:=by rw [its,enl];dsimp only;rw [er];dsimp only;rw [if_neg hl]
   have e2:(!decide (V.int (((ss.map V.str).length:Nat):Int)=V.int ((bs.length:Nat):Int)))=true:=by
    rw [List.length_map,decide_eq_false]
    ·rfl
    ·intro z
     injection z with z
     lia
   rw [e2]
   exact Zl ⟨_,rfl,x,dx,_,rfl,hx,rfl,_,rfl,_,rfl,(17:),fun pp hpp=>fault hd0 pp hpp⟩
theorem WD {k:Nat}:FnOk P w K mg base CX0 k f fd ["self", "spot", "place", "term", "kind"] (Z6 K C 0):=by
 have no:∀ vs H Q E,¬ Z6 K C 0 vs H Q E:=fun vs H Q E h=>by
  obtain ⟨nm,ks,x,dx,tu,kb,st,wt,sp,pl,fv,v,kind,p,t,S,s,_,_,_,_,_,_,_,_,h0,_⟩:=h
  exact h0
 exact ⟨fun vs H Q E h=>absurd h (no vs H Q E),fun A outer s H args us vs Q E _ _ _ _ h=>absurd h (no vs H Q E)⟩
theorem Xg (F:Fun K "look" "Demands.look" UT f fd) (G:Gm mg) (T:DmT K mg C) (RC:Fn P w K mg base 1 "is_call" ["term"] (Yl K)) {fM:Addr} {fdM:FuncData} (mM:Meth K C "meet_fault" fM) (FM:FnOk P w K mg base CX0 2 fM fdM ["self", "fault"] (GQ K C)) (bM:Binds K fdM ["self", "fault"] [])
 {fD:Addr} {fdD:FuncData} (mD:Meth K C "meet_demand" fD) (FD:FnOk P w K mg base CX0 2 fD fdD ["self", "demand", "step"] (MK K C)) (bD:Binds K fdD ["self", "demand", "step"] [])
 (mL:Meth K C "look" f) (bL:Binds K fd ["self", "spot", "place", "term", "kind"] []):∀ n:Nat,FnOk P w K mg base CX0 (n + 2) f fd ["self", "spot", "place", "term", "kind"] (Z6 K C n)
 | 0=>WD
 | n + 1=>G0 F G T RC mM FM bM mD FD bD mL (Xg F G T RC mM FM bM mD FD bD mL bL n) bL
end
end K63
namespace K63
open PySem L2 TM TT K9 K11
def fl1 (tu:Addr):List (Str × V):=[("turning", .ref tu)]
def fl2 (tu kb:Addr):List (Str × V):=[("turning", .ref tu),("kinds_below", .ref kb)]
def fl3 (tu kb st:Addr):List (Str × V):=[("turning", .ref tu),("kinds_below", .ref kb),("steps", .ref st)]
def fl4 (tu kb st wt:Addr):List (Str × V):=[("turning", .ref tu),("kinds_below", .ref kb),("steps", .ref st),("waiting", .ref wt)]
theorem f1 (tu:Addr):QS "turning" (.ref tu) []=fl1 tu:=rfl
theorem f2 (tu kb:Addr):QS "kinds_below" (.ref kb) (fl1 tu)=fl2 tu kb:=by
 unfold fl1
 rw [QP (1:)];rfl
theorem f3 (tu kb st:Addr):QS "steps" (.ref st) (fl2 tu kb)=fl3 tu kb st:=by
 unfold fl2
 rw [QP (1:),QP (1:)];rfl
theorem f4 (tu kb st wt:Addr):QS "waiting" (.ref wt) (fl3 tu kb st)=fl4 tu kb st wt:=by
 unfold fl3
 rw [QP (1:),QP (1:),QP (1:)];rfl
theorem f5 (tu kb st wt:Addr):QS "fault" .non (fl4 tu kb st wt)=Yr tu kb st wt .non:=by
 unfold fl4
 rw [QP (1:),QP (1:),QP (1:),QP (1:)];rfl
abbrev VX (K:PySem.W.Frag):List V→Hp→VK→Prop:=fun xs H Q=>∃ (l:Addr) (ts:List (Addr × Str × V)),xs=[.ref l]∧SqL K H l (ts.map fun t=>V.ref t.1)∧(∀ t ∈ ts,SqT K H t.1 [.str t.2.1,t.2.2])∧(ts.map fun t=>t.2.1).Nodup∧ts.length≤1000 ∧
 ∀ d,H d=none→Q (.ref d) (upd H d (.dK (ts.map fun t=>(58:))))
theorem WoodAt.insX {K:PySem.W.Frag} {H H':Hp} {x wd:Addr} {ks:List KdT} (i:InsAt H x) (g:SameX x H H') (h:WoodAt K H wd ks):WoodAt K H' wd ks :=
 ⟨i.seq g h.1,fun k hk=>⟨i.seqT g (h.2 k hk).1,i.seq g (h.2 k hk).2.1,fun t ht=>⟨i.seqT g ((h.2 k hk).2.2 t ht).1,i.seqT g ((h.2 k hk).2.2 t ht).2⟩⟩⟩
abbrev MoT:=Addr × Str × Addr × List V × List Tm
def Nn (K:PySem.W.Frag) (H:Hp) (m:MoT):Prop:=SqT K H m.1 [.str m.2.1,.ref m.2.2.1]∧SqL K H m.2.2.1 m.2.2.2.1∧TmAll K H m.2.2.2.1 m.2.2.2.2
structure TuAt (K:PySem.W.Frag) (H:Hp) (tu wd:Addr) (sv:V) (lm:Addr) (ks:List KdT) (t0:Tm) (ms:List MoT):Prop where
 tu:SqT K H tu [.ref wd,sv,.ref lm]
 wd:WoodAt K H wd ks
 st:TmV K H sv t0
 lm:SqL K H lm (ms.map fun m=>V.ref m.1)
 mo:∀ m ∈ ms,Nn K H m
theorem TuAt.insX {K:PySem.W.Frag} {H H':Hp} {x tu wd lm:Addr} {sv:V} {ks:List KdT} {t0:Tm} {ms:List MoT} (i:InsAt H x) (g:SameX x H H') (h:TuAt K H tu wd sv lm ks t0 ms):TuAt K H' tu wd sv lm ks t0 ms :=
 ⟨i.seqT g h.tu,WoodAt.insX i g h.wd,h.st.mono fun _ _=>i.seqT g,i.seq g h.lm,fun m hm=>⟨i.seqT g (h.mo m hm).1,i.seq g (h.mo m hm).2.1,(h.mo m hm).2.2.mono fun _ _=>i.seqT g⟩⟩
theorem TuAt.same {K:PySem.W.Frag} {H H':Hp} {tu wd lm:Addr} {sv:V} {ks:List KdT} {t0:Tm} {ms:List MoT} (g:Same H H') (h:TuAt K H tu wd sv lm ks t0 ms):TuAt K H' tu wd sv lm ks t0 ms :=
 ⟨g.seqT h.tu,h.wd.same g,h.st.mono fun _ _=>g.seqT,g.seq h.lm,fun m hm=>⟨g.seqT (h.mo m hm).1,g.seq (h.mo m hm).2.1,(h.mo m hm).2.2.mono fun _ _=>g.seqT⟩⟩
structure TuOk (ks:List KdT) (nm n:Nat) (t0:Tm) (ms:List MoT):Prop where
 wo:WoodOk ks
 cn:ms.length=nm
 st:TmB nm n t0
 kd:∀ m ∈ ms,∃ k ∈ ks,k.2.1=m.2.1
 ru:∀ m ∈ ms,(rowsK ks m.2.1).length=m.2.2.2.2.length
 tb:∀ m ∈ ms,∀ t ∈ m.2.2.2.2,TmB nm n t
theorem U7 {ks:List KdT} {kind:Str} (h:∃ k ∈ ks,k.2.1=kind):∃ k,ks.find? (fun k=>decide (k.2.1=kind))=some k∧rowsK ks kind=k.2.2.2∧k ∈ ks:=by
 cases e:ks.find? fun k=>decide (k.2.1=kind) with
 | none =>
  obtain ⟨k,hk,ek⟩:=h
  have:=List.find?_eq_none.mp e k hk
  simp [ek] at this
 | some k=>exact ⟨k,rfl,by unfold rowsK;rw [e];rfl,List.mem_of_find?_eq_some e⟩
def QU (ks:List KdT) (ms:List MoT) (d:Dd):List (Rw × Tm):=((ms[d.1.toNat]?).map fun m=>((rowsK ks m.2.1).zip m.2.2.2.2).map fun q=>((q.1.2.1,q.1.2.2.2),q.2)).getD []
def nOf (s:Stt) (d:Dd):Nat:=((s.ss.find? fun q=>decide (q.1=d)).map fun q=>q.2.sp.n).getD 0
def Wa (f:RK) (n N:Nat) (d:Dd) (l:List (Rw × Tm)) (s:Stt):Stt:=l.foldl (fun s r=>Xc ⟨N,some d,r.1⟩ s (its f n r.2 d.2 [])) s
def J2 (f:RK) (n:Nat) (rl:Dd→List (Rw × Tm)) (d:Dd) (s:Stt):Stt:=Wa f n (nOf s d + 1) d (rl d) s
def YX (f:RK) (n:Nat) (rl:Dd→List (Rw × Tm)):Nat→Nat→Stt→Stt
 | 0,_,s=>s
 | m + 1,j,s=>match s.ds[j]? with
  | some d=>YX f n rl m (j + 1) (J2 f n rl d s)
  | none=>s
def Yq (f:RK) (n:Nat) (t0:Tm) (k1 k0:Str):Stt:=Xc ⟨0,none,(S [],[k1])⟩ ⟨[],none⟩ (its f n t0 k0 [])
def NW (K:PySem.W.Frag) (C:Addr) (n:Nat):Sp:=fun vs H Q _=>∃ (nm:Nat) (ks ks1:List KdT) (x dx tu kb st wt dp wd lm:Addr) (sv fv:V) (t0:Tm) (ms:List MoT) (s:Stt) (d:Dd),vs=[.ref x,.ref dp]∧DmS K C nm ks H x dx tu kb st wt fv s∧KbAt K H kb ks∧WG ks∧H dp=some (.tup [.int d.1,.str d.2])∧d ∈ s.ds∧nm * ks.length≤1000∧n≤100∧TuOk ks1 nm n t0 ms∧(∀ H',SameD x st wt H H'→TuAt K H' tu wd sv lm ks1 t0 ms) ∧
 ∀ (H':Hp) (fv':V),SameD x st wt H H'→DmS K C nm ks H' x dx tu kb st wt fv' (J2 (rowK ks) n (QU ks1 ms) d s)→Q .non H'
def Vz (K:PySem.W.Frag) (C:Addr) (n:Nat):Sp:=fun vs H Q _=>∃ (nm:Nat) (x dx tu wd lm wo:Addr) (sv:V) (ks1 ks:List KdT) (k01 k00:KdT) (t0:Tm) (ms:List MoT),vs=[.ref x,.ref tu,.ref wo]∧H x=some (.ins C dx [])∧TuAt K H tu wd sv lm ks1 t0 ms∧TuOk ks1 nm n t0 ms∧ks1[0]?=some k01∧WoodAt K H wo ks∧WG ks∧ks[0]?=some k00∧nm * ks.length≤1000∧n≤100 ∧
 ∀ (H':Hp) (kb st wt:Addr) (fv:V),SameX x H H'→DmS K C nm ks H' x dx tu kb st wt fv (YX (rowK ks) n (QU ks1 ms) (nm * ks.length + 1) 0 (Yq (rowK ks) n t0 k01.2.1 k00.2.1))→Q .non H'
section
variable {P:Program} {w:World} {K:PySem.W.Frag} {mg:Str→Option Value} {base:Heap} {f:Addr} {fd:FuncData} {C:Addr}
theorem VZ:FnScope ["self", "demand", "names", "mode", "row", "rule"] ["self", "demand"] (defScope Yh):=(0:)
theorem NC {n:Nat} (F:Fun K "look_by" "Demands.look_by" Yh f fd) (G:Gm mg) (T:DmT K mg C) (RO:Fn P w K mg base 1 "rows_of" ["wood", "kind"] (ZF K)) {fL:Addr} {fdL:FuncData} (mL:Meth K C "look" fL) (FL:FnOk P w K mg base CX0 (n + 2) fL fdL ["self", "spot", "place", "term", "kind"] (Z6 K C n)) (bL:Binds K fdL ["self", "spot", "place", "term", "kind"] []) :
 FnOk P w K mg base CX0 (n + 3) f fd ["self", "demand"] (NW K C n):=by
 refine F.ok VZ (8:) (2:)
 ·obtain ⟨nm,ks,ks1,x,dx,tu,kb,st,wt,dp,wd,lm,sv,fv,t0,ms,s,d,rfl,_⟩:=h
  rfl
 obtain ⟨nm,ks,ks1,x,dx,tu,kb,st,wt,dp,wd,lm,sv,fv,t0,ms,s,d,rfl,D,hkb,hWG,hdp,hd,hnk,hn,hO,hT,hQ⟩:=h
 have hrn:Room (n + 2) _:=hr
 refine ⟨_,(Qe (Ql (i:=2) VZ.nd rfl (11:) (Qo QC (Qj Qk (Qj Qk (Jw (Um hr) (QG (pv 0) rfl) (pv 1) (4:)) Qf (4:)) Qf (4:)) Qf))
  (Qe (Ql (i:=3) VZ.nd rfl (11:) (Qj Qx (Qj Qk (QG (pv 0) rfl) Qf (4:)) (35:) (4:)))
  (Qg (Q1 PassesOwn.never rfl (Mu rfl G.zip (Qa (Qv RO hr (Qa (Qj Qk (QG (pv 0) rfl) Qf (4:)) (Qa (52:) Qc)) (12:)) (Qa (52:) Qc))) (YI rfl (QF (Qy (i:=4) VZ.nd rfl (11:)) (QF (Qy (i:=5) VZ.nd rfl (11:)) ZT)))
   (Qg (QL (Za (pv 0) T.cl mL FL hrn bL .nil Zq (Qa ((Qm (Qa (pv 2) (Qa (pv 1) (Qa (pv 4) Qc))))) (Qa (Qm Qc) (Qa (pv 5) (Qa (35:) Qc))))))))))),?_⟩
 have hx:=D.hx
 obtain ⟨kvs,a1,a2,a3⟩:=id D.hst
 have hdp':H dp=some (.tup (([Sum.inl d.1,Sum.inr d.2]:List Key).map kV)):=hdp
 have ev:=JJ d kvs
 have hdk:=D.dk d hd
 cases ef:kvs.find? fun q=>decide (q.1.1=d) with
 | none =>
  rw [Stt.ds,← a1,List.map_map] at hd
  obtain ⟨q,hq,e⟩:=List.mem_map.mp hd
  have:=List.find?_eq_none.mp ef q hq
  have e:q.1.1=d:=e
  simp [e] at this
 | some q =>
  obtain ⟨sa,sp0,pl0,eq2,s1,⟨vd0,row0,s2,_,_⟩,_⟩:=a3 q (List.mem_of_find?_eq_some ef)
  have en0:nOf s d=q.1.2.sp.n:=by
   unfold nOf
   rw [← a1,List.find?_map]
   show (((kvs.find? fun q=>decide (q.1.1=d)).map (·.1)).map fun q=>q.2.sp.n).getD 0=_
   rw [ef];rfl
  generalize hn0:q.1.2.sp.n=n0 at s2 en0
  rw [ef] at ev
  have hget:=DGet.t a2 hdp'
  rw [ev,show (some q).map (·.2)=some q.2 from rfl,eq2] at hget
  have hT0:=hT H (SameD.refl _ _ _ _)
  refine ⟨_,rfl,x,C,dx,_,_,rfl,hx,T.cl,T.nS,rfl,_,rfl,st,_,rfl,hget,sa,_,0,_,rfl,rfl,s1,rfl,sp0,_,0,_,rfl,rfl,s2,rfl,_,_,rfl,rfl,?_⟩
  obtain ⟨i,hi⟩ : ∃ i:Nat,d.1=(i:Int):=⟨d.1.toNat,(Int.toNat_of_nonneg hdk.1).symm⟩
  have hil:i < ms.length:=by have:=hdk.2.1;rw [hO.cn];lia
  have hmm:=List.getElem_mem hil
  have hat:atI (ms.map fun m=>V.ref m.1) d.1=some (.ref ms[i].1):=by rw [hi];exact QH (by rw [List.getElem?_map,List.getElem?_eq_getElem hil];rfl)
  refine ⟨_,rfl,x,C,dx,_,_,rfl,hx,T.cl,T.nT,rfl,tu,_,2,_,rfl,rfl,hT0.tu,rfl,_,rfl,dp,_,0,_,rfl,rfl,SqT.of hdp,rfl,lm,_,_,_,rfl,rfl,hT0.lm,hat,?_⟩
  obtain ⟨m1,m2,m3⟩:=hT0.mo _ hmm
  obtain ⟨kd,hkf,erow,hkm⟩:=U7 (hO.kd _ hmm)
  have hru:=hO.ru _ hmm
  rw [erow] at hru
  refine ⟨_,rfl,x,C,dx,_,_,rfl,hx,T.cl,T.nT,rfl,tu,_,0,_,rfl,rfl,hT0.tu,rfl,_,rfl,_,_,0,_,rfl,rfl,m1,rfl,wd,_,ks1,kd,rfl,hT0.wd,hO.wo,hkf,fun H1 g1=>?_⟩
  have hT1:=hT H1 (SameD.of g1)
  obtain ⟨m1',m2',m3'⟩:=hT1.mo _ hmm
  have hml:=m3'.length
  have hxl:(kd.2.2.2.map fun t=>V.ref t.1).length=ms[i].2.2.2.1.length:=by rw [List.length_map,hru,hml]
  refine ⟨_,rfl,_,_,1,_,rfl,rfl,m1',rfl,kd.2.2.1,ms[i].2.2.1,_,_,rfl,(hT1.wd.2 kd hkm).2.1,m2',?_⟩
  have em:QU ks1 ms d=(kd.2.2.2.zip ms[i].2.2.2.2).map fun q=>((q.1.2.1,q.1.2.2.2),q.2):=by unfold QU;rw [hi,Int.toNat_natCast,List.getElem?_eq_getElem hil];show List.map _ _=_;rw [erow]
  rw [J2,em,en0] at hQ
  refine G1 (K:=K) (xs:=kd.2.2.2.map fun t=>V.ref t.1) (ys:=ms[i].2.2.2.1) hxl (fun j σ H'=>∃ (c4 c5:Option V) (fv':V),σ=[some (.ref x),some (.ref dp),some (.int ((n0:Int)+1)),some (.ref ms[i].1),c4,c5]∧SameD x st wt H H'∧DmS K C nm ks H' x dx tu kb st wt fv' (Wa (rowK ks) n (n0 + 1) d (((kd.2.2.2.zip ms[i].2.2.2.2).map fun q=>((q.1.2.1,q.1.2.2.2),q.2)).take j) s))
   ⟨none,none,fv,rfl,SameD.of g1,D.same g1⟩ ?_ ?_ ?_
  ·rintro j σ H' _ ⟨c4,c5,fv',_,g,_⟩
   have hT':=hT H' g
   exact ⟨(hT'.wd.2 kd hkm).2.1,(hT'.mo _ hmm).2.1⟩
  ·rintro j u v p σ H' hu hv hp ⟨c4,c5,fv',rfl,g,D'⟩
   have hj:j < kd.2.2.2.length:=by
    have:=(List.getElem?_eq_some_iff.mp hu).1
    rwa [List.length_map] at this
   have hjt:j < ms[i].2.2.2.2.length:=by lia
   obtain rfl:u=.ref kd.2.2.2[j].1:=by
    rw [List.getElem?_map,List.getElem?_eq_getElem hj] at hu
    exact (Option.some.inj hu).symm
   have gp:=Qd hp (.tup [.ref kd.2.2.2[j].1,v])
   have g1':=g.trans (SameD.of gp)
   refine ⟨p,_,rfl,SqT.of Qb,rfl,_,_,rfl,_,_,rfl,rfl,?_⟩
   refine ⟨_,rfl,x,dx,_,rfl,gp _ _ D'.hx,rfl,_,rfl,_,rfl,_,rfl,(33:),fun sp hsp=>⟨(21:),fun pl hpl=>?_⟩⟩
   have g2':=Qd hsp (.tup [.int ((n0:Int)+1),.ref dp,.ref kd.2.2.2[j].1])
   have g3':=Qd hpl (.tup [])
   have gpp:=gp.trans (g2'.trans g3')
   have g3:=g.trans (SameD.of gpp)
   have hT3:=hT _ g3
   obtain ⟨r1,r2⟩:=(hT3.wd.2 kd hkm).2.2 _ (List.getElem_mem hj)
   obtain ⟨cv,hcv,hct⟩:=(hT3.mo _ hmm).2.2.get (List.getElem?_eq_getElem hjt)
   obtain rfl:cv=v:=Option.some.inj (hcv.symm.trans hv)
   refine ⟨_,rfl,_,rfl,dp,_,1,_,rfl,rfl,SqT.of (D.tup g3 hdp),rfl,?_⟩
   refine ⟨nm,ks,x,dx,tu,kb,st,wt,sp,pl,fv',cv,d.2,[],ms[i].2.2.2.2[j],⟨n0 + 1,some d,(kd.2.2.2[j].2.1,kd.2.2.2[j].2.2.2)⟩,_,rfl,D'.same gpp,D.kbAt g3 hkb,hWG,⟨.ref dp,kd.2.2.2[j].1,g3'.seqT (39:),⟨dp,rfl,D.tup g3 hdp⟩,_,r1,r2⟩,SqT.of Qb,by simpa using hn,hct,hO.tb _ hmm _ (List.getElem_mem hjt),hdk.2.2,hnk,fun H4 fv4 g4 D4=>?_⟩
   refine ⟨_,_,fv4,rfl,g3.trans g4,?_⟩
   have ez:((kd.2.2.2.zip ms[i].2.2.2.2).map fun q=>((q.1.2.1,q.1.2.2.2),q.2))[j]?=some ((kd.2.2.2[j].2.1,kd.2.2.2[j].2.2.2),ms[i].2.2.2.2[j]):=by
    rw [List.getElem?_map,List.getElem?_eq_getElem (by rw [List.length_zip];lia),List.getElem_zip];rfl
   rw [List.take_add_one,ez,Wa,List.foldl_append]
   exact D4
  ·rintro σ H' ⟨c4,c5,fv',rfl,g,D'⟩
   rw [List.length_map,List.take_of_length_le (by rw [List.length_map,List.length_zip];lia)] at D'
   exact hQ H' fv' g D'
end
end K63
namespace L2
open PySem
theorem Jd {c:TT} {tb:TS} {D:Ends} {σ:St} {H:Hp} (J:Nat→St→Hp→Prop) (m0:Nat) (h0:J m0 σ H)
 (hs:∀ m σ H,J m σ H→c σ H fun b H1=>if b=true then tb { D with nx:=fun σ' H'=>∃ m',m' < m∧J m' σ' H',ct:=fun σ' H'=>∃ m',m' < m∧J m' σ' H',bk:=D.nx } σ H1 else D.nx σ H1)
 (mono:∀ σ H (Q Q':Bool→Hp→Prop),(∀ b H1,Q b H1→Q' b H1)→c σ H Q→c σ H Q'):VB c tb D σ H:=by
 refine ⟨J,⟨m0,h0⟩,?_⟩
 intro m σ H p
 refine mono σ H _ _ (fun b H1 q=>?_) (hs m σ H p)
 cases b with
 | true=>exact ⟨_,fun σ' H' ⟨m',l,p'⟩=>⟨m',l,p'⟩,q⟩
 | false=>exact q
end L2
namespace K63
open PySem L2 TM TT K9 K11
section
variable {P:Program} {w:World} {K:PySem.W.Frag} {mg:Str→Option Value} {base:Heap} {f:Addr} {fd:FuncData} {C:Addr}
theorem XF:FnScope ["self", "turning", "wood", "done"] ["self", "turning", "wood"] (defScope Xb):=(0:)
theorem GO {n:Nat} (F:Fun K "__init__" "Demands.__init__" Xb f fd) (G:Gm mg) (T:DmT K mg C) (RA:Fn P w K mg base 1 "row_above" ["wood"] (Y1 K)) {fL:Addr} {fdL:FuncData} (mL:Meth K C "look" fL) (FL:FnOk P w K mg base CX0 (n + 2) fL fdL ["self", "spot", "place", "term", "kind"] (Z6 K C n)) (bL:Binds K fdL ["self", "spot", "place", "term", "kind"] [])
 {fB:Addr} {fdB:FuncData} (mB:Meth K C "look_by" fB) (FB:FnOk P w K mg base CX0 (n + 3) fB fdB ["self", "demand"] (NW K C n)) (bB:Binds K fdB ["self", "demand"] []) :
 FnOk P w K mg base CX0 (n + 4) f fd ["self", "turning", "wood"] (Vz K C n):=by
 refine F.ok XF (8:) (2:)
 ·obtain ⟨nm,x,dx,tu,wd,lm,wo,sv,ks1,ks,k01,k00,t0,ms,rfl,_⟩:=h
  rfl
 obtain ⟨nm,x,dx,tu,wd,lm,wo,sv,ks1,ks,k01,k00,t0,ms,rfl,hx,hTu,hO,hk01,hWo,hWF,hk00,hnk,hn,hQ⟩:=h
 have hr3:Room (n + 3) _:=hr
 have hrn:Room (n + 2) _:=hr3.mono (12:)
 have htu:=hTu.tu
 have hW1:=hTu.wd
 have hsv:=hTu.st
 refine ⟨_,(Qe (ZD (pv 0) (pv 1) rfl)
  (Qe (ZD (pv 0) (QI (Z8 rfl) rfl G.dct PyProof.Rows.boot_dict (Qa (QO (27:) rfl (Zz (pv 2)) (Ly (27:) rfl) (fun _ _ _ _=>Zj) (fun _ _ _ _=>(Qm (Qa (pv 0) (Qa (QI (r:=VX K) (Z8 rfl) rfl G.dct PyProof.Rows.boot_dict (Qa (pv 1) Qc)) Qc))))) Qc)) rfl)
  (Qe (ZD (pv 0) Xk rfl)
  (Qe (ZD (pv 0) (QK Qc) rfl)
  (Qe (ZD (pv 0) Zi rfl)
  (Qe (QL (Za (pv 0) T.cl mL FL hrn bL .nil Zq (Qa ((Qm (Qa (Qf) (Qa (Zi) (Qa (Qv RA hr (Qa (35:) Qc) (12:)) Qc))))) (Qa (Qm Qc) (Qa (35:) (Qa (Qj Qk (Qj Qx (pv 2) Qf (4:)) Qf (4:)) Qc))))))
  (Qe (Ql (i:=3) XF.nd rfl (11:) Qf)
  (Qg (Ul PassesOwn.never (Qs YT (pv 3) (Qp Qw rfl G.len PySem.boot_len (Qa (QG (pv 0) rfl) Qc)) (Qr _)) (Qe (QL (Za (pv 0) T.cl mB FB hr3 bB .nil Zq (Qa (Qj Qx (QG (pv 0) rfl) (pv 3) (4:)) Qc)))
  (Qg (Mz (i:=3) XF.nd rfl (11:) Qf M5)))))))))))),?_⟩
 have i0:InsAt H x:=⟨_,_,_,hx⟩
 refine ⟨_,rfl,_,rfl,x,C,dx,_,rfl,hx,T.cl,T.nT,(by show 0 < 1000;decide),?_⟩
 rw [f1]
 have g1:SameX x H (upd H x (.ins C dx (fl1 tu))):=SameX.upd
 generalize hH1:upd H x (.ins C dx (fl1 tu))=H1 at g1 ⊢
 have hx1:H1 x=some (.ins C dx (fl1 tu)):=by rw [← hH1];exact Qb
 have hWo1:=WoodAt.insX i0 g1 hWo
 have hnkd:=hWF.ok.nd
 have hkl:=hWF.ok.len
 refine ⟨_,rfl,wo,rfl,⟨_,hWo1.1⟩,fun acc hacc=>?_⟩
 refine X3 (K:=K) (xs:=ks.map fun k=>V.ref k.1) (cs:=[]) (tt:=fun _ H Q=>Q true H) (te:=La (ZA (YV 0) (ZA (tCB (VX K) (ZA (YV 1) Ua)) Ua))) (fun i ys H'=>∃ l:List (KdT × Addr × Addr),ys=l.map (fun q=>V.ref q.2.1)∧l.map (·.1)=ks.take i∧(∀ q ∈ l,SqT K H' q.2.1 [.str q.1.2.1,.ref q.2.2]∧H' q.2.2=some (.dK (q.1.2.2.2.map fun r=>((Sum.inr r.2.1:Key),V.ref r.2.2.1))))∧H' acc=some (.lst ys)∧Same H1 H')
  ⟨[],rfl,rfl,fun q hq=>(nomatch hq),Qb,Qd hacc _⟩ ?_ ?_ ?_
 ·rintro i ys H' _ ⟨l,_,_,_,_,g⟩
  exact g.seq hWo1.1
 ·rintro i y ys H' hi hy ⟨l,rfl,hl1,hl2,hya,g⟩
  have hik:i < ks.length:=by rw [List.length_map] at hi;exact hi
  obtain rfl:y=.ref ks[i].1:=by
   rw [List.getElem?_map,List.getElem?_eq_getElem hik] at hy
   exact (Option.some.inj hy).symm
  have hkm:=List.getElem_mem hik
  obtain ⟨hk1,hkr⟩:=(hWo1.same g).2 _ hkm
  have hro:=hWF.ok.rows _ hkm
  have hrl:=hro.len
  have hll:l.length=i:=by
   have:=congrArg List.length hl1
   rw [List.length_map,List.length_take] at this
   lia
  refine ⟨ks[i].1,_,_,rfl,hk1,Zl ⟨_,rfl,_,rfl,ks[i].2.2.1,ks[i].2.2.2.map (fun r=>(r.1,r.2.1,V.ref r.2.2.1)),rfl,(by rw [List.map_map];exact hkr.1),fun t ht=>?_,(by rw [List.map_map];exact hro.nd),(by rw [List.length_map];lia),fun d hd=>⟨(17:),fun p2 hp2=>?_⟩⟩⟩
  ·obtain ⟨r,hr,rfl⟩:=List.mem_map.mp ht
   exact (hkr.2 r hr).1
  have ed:(ks[i].2.2.2.map (fun r=>(r.1,r.2.1,V.ref r.2.2.1))).map (fun t=>(58:))=ks[i].2.2.2.map fun r=>((Sum.inr r.2.1:Key),V.ref r.2.2.1):=by rw [List.map_map];rfl
  rw [ed] at hp2 ⊢
  have e1:=Qd hd (.dK (ks[i].2.2.2.map fun r=>((Sum.inr r.2.1:Key),V.ref r.2.2.1)))
  have e2:=Qd hp2 (.tup [.str ks[i].2.1,.ref d])
  have e12:=e1.trans e2
  have hya2:=e12 _ _ hya
  have hda:d≠acc:=fun z=>by rw [z,hya] at hd;cases hd
  refine Q6 (ys:=l.map fun q=>V.ref q.2.1) hi hya2 (by rw [List.length_map];lia) ⟨l ++ [(ks[i],p2,d)],by simp,?_,fun q hq=>?_,Qb,fun b u e=>by rw [Qi (Qh e hacc)];exact e12 _ _ (g _ _ e)⟩
  ·rw [List.map_append,hl1,List.take_add_one,List.getElem?_eq_getElem hik];rfl
  ·rcases List.mem_append.mp hq with z | z
   ·obtain ⟨a1,a2⟩:=hl2 q z
    refine ⟨(e12.seqT a1).put hya2,?_⟩
    rw [Qi (ne_of (e12 _ _ a2) hya2 (18:))]
    exact e12 _ _ a2
   ·have:q=(ks[i],p2,d):=by simpa using z
    rw [this]
    refine ⟨SqT.put (39:) hya2,?_⟩
    show upd _ acc _ d=_
    rw [Qi hda]
    exact e2 _ _ Qb
 rintro ys H2 ⟨l,rfl,hl1,hl2,hya,g2⟩
 rw [List.length_map,List.take_length] at hl1
 have hll:l.length=ks.length:=by
  have:=congrArg List.length hl1
  rwa [List.length_map] at this
 refine ⟨acc,l.map (fun q=>(q.2.1,q.1.2.1,V.ref q.2.2)),rfl,(by rw [List.map_map];exact SqL.of hya),fun t ht=>?_,?_,(by rw [List.length_map];lia),fun kb hkb=>?_⟩
 ·obtain ⟨q,hq,rfl⟩:=List.mem_map.mp ht
  exact (hl2 q hq).1
 ·rw [List.map_map]
  have:(l.map ((fun t:Addr × Str × V=>t.2.1) ∘ fun q:KdT × Addr × Addr=>(q.2.1,q.1.2.1,V.ref q.2.2)))=ks.map fun k=>k.2.1:=by rw [← hl1,List.map_map];rfl
  rw [this]
  exact hnkd
 have ed:(l.map (fun q:KdT × Addr × Addr=>(q.2.1,q.1.2.1,V.ref q.2.2))).map (fun t=>(58:))=(l.map fun q=>(q.1,q.2.2)).map fun q=>((Sum.inr q.1.2.1:Key),V.ref q.2):=by rw [List.map_map,List.map_map];rfl
 rw [ed]
 have g3:=Qd hkb (.dK ((l.map fun q=>(q.1,q.2.2)).map fun q=>((Sum.inr q.1.2.1:Key),V.ref q.2)))
 have g13:=g2.trans g3
 have hkb3:KbAt K (upd H2 kb (.dK ((l.map fun q=>(q.1,q.2.2)).map fun q=>((Sum.inr q.1.2.1:Key),V.ref q.2)))) kb ks:=by
  refine ⟨l.map fun q=>(q.1,q.2.2),by rw [List.map_map];exact hl1,Qb,fun q hq=>?_⟩
  obtain ⟨q',hq',rfl⟩:=List.mem_map.mp hq
  refine ⟨g3 _ _ (hl2 q' hq').2,fun r hr=>?_⟩
  have hqk:q'.1 ∈ ks:=by rw [← hl1];exact List.mem_map.mpr ⟨q',hq',rfl⟩
  exact g13.seqT (((hWo1.2 _ hqk).2.2 r hr).2)
 generalize upd H2 kb (.dK ((l.map fun q=>(q.1,q.2.2)).map fun q=>((Sum.inr q.1.2.1:Key),V.ref q.2)))=H3 at g3 g13 hkb3 ⊢
 have hx3:=g13 _ _ hx1
 have i3:InsAt H3 x:=⟨_,_,_,hx3⟩
 refine ⟨_,rfl,x,C,dx,_,rfl,hx3,T.cl,T.nK,(by show 1 < 1000;decide),?_⟩
 rw [f2]
 have g4':SameX x H3 (upd H3 x (.ins C dx (fl2 tu kb))):=SameX.upd
 generalize hH4:upd H3 x (.ins C dx (fl2 tu kb))=H4 at g4' ⊢
 have hx4:H4 x=some (.ins C dx (fl2 tu kb)):=by rw [← hH4];exact Qb
 refine fun st hst=>⟨_,rfl,x,C,dx,_,rfl,(Qd hst _) _ _ hx4,T.cl,T.nS,(by show 2 < 1000;decide),?_⟩
 rw [f3]
 have g5:=Qd hst (.dT [])
 have g6':SameX x (upd H4 st (.dT [])) (upd (upd H4 st (.dT [])) x (.ins C dx (fl3 tu kb st))):=SameX.upd
 have g36:SameX x H3 (upd (upd H4 st (.dT [])) x (.ins C dx (fl3 tu kb st))):=g4'.trans ((SameX.of g5).trans g6')
 generalize hH6:upd (upd H4 st (.dT [])) x (.ins C dx (fl3 tu kb st))=H6 at g36 ⊢
 have hx6:H6 x=some (.ins C dx (fl3 tu kb st)):=by rw [← hH6];exact Qb
 refine ⟨(21:),fun wt hwt=>⟨_,rfl,x,C,dx,_,rfl,(Qd hwt _) _ _ hx6,T.cl,T.nW,(by show 3 < 1000;decide),?_⟩⟩
 rw [f4]
 have g7:=Qd hwt (.lst [])
 have hwx:wt≠x:=fun z=>by rw [z,hx6] at hwt;cases hwt
 have g8':SameX x (upd H6 wt (.lst [])) (upd (upd H6 wt (.lst [])) x (.ins C dx (fl4 tu kb st wt))):=SameX.upd
 have g38:SameX x H3 (upd (upd H6 wt (.lst [])) x (.ins C dx (fl4 tu kb st wt))):=g36.trans ((SameX.of g7).trans g8')
 have hwt8:upd (upd H6 wt (.lst [])) x (.ins C dx (fl4 tu kb st wt)) wt=some (.lst []):=by rw [Qi hwx];exact Qb
 generalize hH8:upd (upd H6 wt (.lst [])) x (.ins C dx (fl4 tu kb st wt))=H8 at g38 hwt8 ⊢
 have hx8:H8 x=some (.ins C dx (fl4 tu kb st wt)):=by rw [← hH8];exact Qb
 refine ⟨_,rfl,x,C,dx,_,rfl,hx8,T.cl,T.nF,(by show 4 < 1000;decide),?_⟩
 rw [f5]
 have g9':SameX x H8 (upd H8 x (.ins C dx (Yr tu kb st wt .non))):=SameX.upd
 have g39:=g38.trans g9'
 have hwt9:upd H8 x (.ins C dx (Yr tu kb st wt .non)) wt=some (.lst []):=by rw [Qi hwx];exact hwt8
 generalize hH9:upd H8 x (.ins C dx (Yr tu kb st wt .non))=H9 at g39 hwt9 ⊢
 have hx9:H9 x=some (.ins C dx (Yr tu kb st wt .non)):=by rw [← hH9];exact Qb
 have i9:InsAt H9 x:=⟨_,_,_,hx9⟩
 have g09:SameX x H H9:=g1.trans ((SameX.of g13).trans g39)
 refine ⟨_,rfl,x,dx,_,rfl,hx9,rfl,_,rfl,tu,_,0,_,rfl,rfl,i0.seqT g09 htu,rfl,wd,ks1,k01,rfl,WoodAt.insX i0 g09 hW1,hk01,fun rw kk H10 g10 hrw hkk=>⟨(33:),fun sp hsp=>⟨(21:),fun pl hpl=>?_⟩⟩⟩
 have g11:=Qd hsp (.tup [.int 0,.non,.ref rw])
 have g12:=Qd hpl (.tup [])
 have g9c:=g10.trans (g11.trans g12)
 have g0c:SameX x H _:=g09.trans (SameX.of g9c)
 have hat:atI (ks.map fun k=>V.ref k.1) 0=some (.ref k00.1):=QH (j:=0) (by rw [List.getElem?_map,hk00];rfl)
 have hWoc:=WoodAt.insX i0 g0c hWo
 refine ⟨_,rfl,tu,_,1,_,rfl,rfl,i0.seqT g0c htu,rfl,_,rfl,wo,_,0,_,rfl,rfl,hWoc.1,hat,k00.1,_,0,_,rfl,rfl,(hWoc.2 k00 (List.mem_of_getElem? hk00)).1,rfl,?_⟩
 have hspc:SqT K (upd (upd H10 sp (.tup [.int 0,.non,.ref rw])) pl (.tup [])) sp [.int 0,.non,.ref rw]:=g12.seqT (39:)
 have hrwc:=(g11.trans g12).seqT hrw
 have hkkc:=(g11.trans g12).seqT hkk
 have hst9:H9 st=some (.dT []):=by
  have n1:st≠x:=fun z=>by rw [z,hx4] at hst;cases hst
  have n2:st≠wt:=fun z=>by
   rw [← z,← hH6,Qi n1] at hwt
   rw [show upd H4 st (.dT []) st=some (.dT []) from Qb] at hwt
   cases hwt
  rw [← hH9,Qi n1,← hH8,Qi n1,Qi n2,← hH6,Qi n1]
  exact Qb
 have D0:DmS K C nm ks H9 x dx tu kb st wt .non ⟨[],none⟩:=⟨hx9,⟨[],rfl,hst9,fun q hq=>(nomatch hq)⟩,⟨[],rfl,hwt9,fun q hq=>(nomatch hq)⟩,List.nodup_nil,fun d hd=>(nomatch hd),rfl⟩
 have nSt:H st=none:=by
  cases e:H st with
  | none=>rfl
  | some u =>
   have n1:st≠x:=fun z=>by rw [z,hx4] at hst;cases hst
   have:=(g1.trans ((SameX.of g13).trans g4')) st u n1 e
   rw [hst] at this;cases this
 have nWt:H wt=none:=by
  cases e:H wt with
  | none=>rfl
  | some u =>
   have:=(g1.trans ((SameX.of g13).trans g36)) wt u hwx e
   rw [hwt] at this;cases this
 refine ⟨nm,ks,x,dx,tu,kb,st,wt,sp,pl,.non,sv,k00.2.1,[],t0,⟨0,none,(S [],[k01.2.1])⟩,⟨[],none⟩,rfl,D0.same g9c,(hkb3.insX i3 g39).same g9c,hWF,⟨.non,rw,hspc,rfl,kk,hrwc,hkkc⟩,SqT.of Qb,by simpa using hn,hsv.mono fun _ _=>i0.seqT g0c,hO.st,⟨k00,List.mem_of_getElem? hk00,rfl⟩,hnk,fun H' fv' gx D'=>?_⟩
 have D':DmS K C nm ks H' x dx tu kb st wt fv' (Yq (rowK ks) n t0 k01.2.1 k00.2.1):=D'
 have old:∀ {H''},SameD x st wt H' H''→SameX x H H'':=fun {H''} g b u nb e=>g b u nb (Qh e nSt) (Qh e nWt) (gx b u nb (Qh e nSt) (Qh e nWt) (g0c b u nb e))
 have stab:∀ {H''},SameD x st wt H' H''→∀ H3,SameD x st wt H'' H3→TuAt K H3 tu wd sv lm ks1 t0 ms:=fun {H''} g H3 g3=>hTu.insX i0 (old (g.trans g3))
 have hkb':=(D0.same g9c).kbAt gx ((hkb3.insX i3 g39).same g9c)
 generalize Yq (rowK ks) n t0 k01.2.1 k00.2.1=s0 at D' hQ
 refine Jd (fun m σ H''=>∃ (j:Nat) (fv:V) (s:Stt),σ=[some (.ref x),some (.ref tu),some (.ref wo),some (.int (j:Int))]∧SameD x st wt H' H''∧DmS K C nm ks H'' x dx tu kb st wt fv s∧m + j=nm * ks.length + 1∧YX (rowK ks) n (QU ks1 ms) m j s=YX (rowK ks) n (QU ks1 ms) (nm * ks.length + 1) 0 s0) (nm * ks.length + 1)
  ⟨0,fv',_,rfl,SameD.refl _ _ _ _,D',rfl,rfl⟩ ?_ ?_
 ·rintro m σ H'' ⟨j,fv,s,rfl,g,D,hm,hrun⟩
  obtain ⟨ws,b1,b2,b3⟩:=id D.hwt
  have hlen:=YG D.nd D.dk
  have hwl:ws.length=s.ds.length:=by rw [← b1,List.length_map]
  refine ⟨_,rfl,_,rfl,x,C,dx,_,_,rfl,D.hx,T.cl,T.nW,rfl,wt,_,rfl,.inl (SqL.of b2),_,_,rfl,rfl,_,rfl,XM (fun c=>?_) (fun c=>?_)⟩
  ·have c':(j:Int) < (((ws.map fun q=>V.ref q.1).length:Nat):Int):=of_decide_eq_true c
   rw [List.length_map] at c'
   have hjw:j < ws.length:=by lia
   have hjd:j < s.ds.length:=by lia
   have hdj:s.ds[j]?=some ws[j].2:=by rw [← b1,List.getElem?_map,List.getElem?_eq_getElem hjw];rfl
   refine ⟨_,rfl,x,dx,_,rfl,D.hx,rfl,_,rfl,x,C,dx,_,_,rfl,D.hx,T.cl,T.nW,rfl,_,rfl,wt,_,_,_,rfl,rfl,SqL.of b2,QH (by rw [List.getElem?_map,List.getElem?_eq_getElem hjw];rfl),?_⟩
   refine ⟨nm,ks,ks1,x,dx,tu,kb,st,wt,ws[j].1,wd,lm,sv,fv,t0,ms,s,ws[j].2,rfl,D,D'.kbAt g hkb',hWF,b3 _ (List.getElem_mem hjw),List.mem_of_getElem? hdj,hnk,hn,hO,stab g,fun H3 fv3 g3 D3=>?_⟩
   refine ⟨_,rfl,_,_,rfl,rfl,m - 1,by lia,j + 1,fv3,_,rfl,g.trans g3,D3,by lia,?_⟩
   obtain ⟨m',rfl⟩ : ∃ m',m=m' + 1:=⟨m - 1,by lia⟩
   rw [← hrun,YX,hdj]
   rfl
  ·have c':¬ ((j:Int) < (((ws.map fun q=>V.ref q.1).length:Nat):Int)):=fun z=>c (decide_eq_true z)
   rw [List.length_map] at c'
   have e0:YX (rowK ks) n (QU ks1 ms) m j s=s:=by
    cases m with
    | zero=>rfl
    | succ m=>rw [YX,List.getElem?_eq_none (12:)]
   rw [← hrun,e0] at hQ
   exact hQ H'' kb st wt fv (old g) D
 ·intro σ H Q Q' hm h
  obtain ⟨v1,h1,v2,h2,x1,x2,x3,x4,x5,h3,h4,h5,h6,h7,x6,x7,h8,h9,x8,x9,h10,h11,x10,h12,h13⟩:=h
  exact ⟨v1,h1,v2,h2,x1,x2,x3,x4,x5,h3,h4,h5,h6,h7,x6,x7,h8,h9,x8,x9,h10,h11,x10,h12,hm _ _ h13⟩
end
end K63
namespace L2
open PySem PySem.Spec PyProof.Rows
section
variable {prog:Program} {w:World} {A:Around} {E:Value→Shared→Prop} {s:Shared}
end
section
variable {X:Cx} {e:Expr} {te:TE} {p pos p2 pos2:Pos}
end
end L2
namespace L2
open PySem PySem.Spec PyProof.Rows
def Itv (K:PySem.W.Frag) (a:Addr) (n:Nat):It :=
 ⟨fun i H=>∃ xs x,SqL K H a xs∧xs.length=n∧i < n∧xs[n - 1 - i]?=some x,fun i H x H'=>H'=H∧∀ xs,SqL K H a xs→xs[n - 1 - i]?=some x,fun i H=>i=n⟩
theorem Ga {P:Program} {w:World} {K:PySem.W.Frag} {tg:Expr} (a it:Addr) (n:Nat):Turn P w K tg (Itv K a n) [it] it (fun i h=>h.IsRevIter it a ((n:Int) - 1 - (i:Int))) where
 mem:=by simp
 obj:=fun i h st b hb=>by
  have e:b=it:=by simpa using hb
  subst e
  obtain ⟨o,e,c,d⟩:=st
  exact ⟨o,e,fun v z=>by rw [d] at z;cases z⟩
 keep:=fun i h h' st k=>st.at fun o e=>k it (29:) o e
 item:=by
  intro X hP hw hK hc i pins s σ H E I hf st hg
  subst hP hw hK
  obtain ⟨xs,x,hq,hn,hi,hx⟩:=hg
  obtain ⟨its,rv,p,hz⟩:=I.list hq
  obtain ⟨u,hu,ru⟩:=rv.get hx
  obtain ⟨f0,f1,f2,f3,f4,f5⟩:=hf it (29:)
  have e0:(n:Int) - 1 - (i:Int)=((n - 1 - i:Nat):Int):=by lia
  have st2:s.heap.IsRevIter it a ((n - 1 - i:Nat):Int):=by rw [← e0];exact st
  refine wpAny_pyNext_rev_item st2 p.isList (x:=u) (by simpa using hu) fun h' st' sb=>?_
  have I1:Inv X pins σ H { s with heap:=h' }:=I.turned (t':=s.toks) (fun b o hb e=>(sb.2 b hb).trans e) f0 f1 f3 f4 f5
  obtain ⟨o,e,c,d⟩:=id st'
  have e1:((n - 1 - i:Nat):Int) - 1=(n:Int) - 1 - ((i + 1:Nat):Int):=by lia
  have st3:h'.IsRevIter it a ((n:Int) - 1 - ((i + 1:Nat):Int)):=by rw [← e1];exact st'
  exact ⟨u,rfl,X1 (s:={ s with heap:=h' }) e c d (13:) ⟨x,H,I1,ru,⟨rfl,fun ys hy=>by rw [I.list_inj hy hq];exact hx⟩,st3,fun b hb=>(hf b hb).1⟩⟩
 done:=by
  intro X hP hw hK hc i pins s σ H E I hf st hg
  subst hP hw hK
  have hi:i=n:=hg
  subst hi
  obtain ⟨f0,f1,f2,f3,f4,f5⟩:=hf it (29:)
  have e0:(i:Int) - 1 - (i:Int)=-1:=by lia
  have st2:s.heap.IsRevIter it a (-1):=by rw [← e0];exact st
  exact wpAny_pyNext_rev_end (I.ok.hd hc) st2 fun h' eb=>(43:)
 self:=fun _ _ _ _ _ st h=>wpAny_pyIter_revIter st h
section
variable {X:Cx} {tg:Expr}
def Nj (K:PySem.W.Frag) (ta:TA):TI:=fun σ H R=>ta σ H fun vs H1=>∃ (l:Addr) (ys:List V),vs=[.ref l]∧SqL K H1 l ys∧R (Itv K l ys.length) H1
theorem GD {a:Expr} {ta:TA} {p pos:Pos} (hg:Gl X "reversed") (hm:X.mg "reversed" = none) (ha:PA X [a] ta) (hs:starEach [a] X.env=[(false,eval a X.env)]:=by rfl):PI X tg (.Call (.Name "reversed" p) [a] [] pos) (Nj X.K ta):=by
 intro pins s σ H R I h
 refine Call_ (Z5 I hg hm boot_reversed (46:))
 obtain ⟨l,ys,e,hl,q⟩:=q1
 subst e
 cases r1 with
 | cons rr rr2 =>
  cases rr2
  obtain rfl:_=Value.ref l:=rr
  obtain ⟨its,rv,p,hz⟩:=I1.list hl
  refine call_reversed_list p.isList ?_
  have hlen:its.toArray.size=ys.length:=by rw [List.size_toArray];exact rv.length.symm
  have st:(s1.heap.push (revObj l ((its.toArray.size:Int) - 1))).IsRevIter s1.heap.objs.size l ((its.toArray.size:Int) - 1):=⟨_,Heap.get?_push_size _ rfl,rfl,rfl⟩
  refine wpAny_pyIter_revIter st ?_
  refine ⟨s1.heap.objs.size,[s1.heap.objs.size],_,_,H1,rfl,I1.kept (t':=s1.toks) fun b o e=>Heap.get?_push_of_some _ e,Ga l _ ys.length,?_,fun b hb=>?_,q⟩
  ·rw [hlen] at st
   have e0:(ys.length:Int) - 1 - ((0:Nat):Int)=(ys.length:Int) - 1:=by lia
   show Heap.IsRevIter _ _ _ ((ys.length:Int) - 1 - ((0:Nat):Int))
   rw [e0,hlen]
   exact st
  ·have e:b=s1.heap.objs.size:=by simpa using hb
   subst e
   exact I1.fpOk (10:) (I1.hok.fresh (10:))
end
theorem GP {K:PySem.W.Frag} {a:Addr} {xs:List V} {g:TG} {tb:TS} {D:Ends} {σ:St} {H:Hp} (Pv:Nat→St→Hp→Prop) (h0:Pv 0 σ H) (hl:∀ i σ H,i≤xs.length→Pv i σ H→SqL K H a xs)
 (hs:∀ i x σ H,i < xs.length→xs[xs.length - 1 - i]?=some x→Pv i σ H→g x σ H fun σ2 H2=>tb { D with nx:=Pv (i + 1),ct:=Pv (i + 1),bk:=D.nx } σ2 H2) (hd:∀ σ H,Pv xs.length σ H→D.nx σ H) :
 ∃ W:Nat→Nat→St→Hp→Prop,(∃ m,W 0 m σ H)∧∀ i m σ H,W i m σ H →
  ((Itv K a xs.length).stop i H∧D.nx σ H)∨((Itv K a xs.length).go i H∧∃ N:St→Hp→Prop,(28:)∧∀ x H',(Itv K a xs.length).yld i H x H'→g x σ H' fun σ2 H2=>tb { D with nx:=N,ct:=N,bk:=D.nx } σ2 H2):=by
 refine (44:)
 rintro i m σ H ⟨rfl,hi,p⟩
 have q:=hl i σ H hi p
 by_cases hlt:i < xs.length
 ·refine .inr ⟨⟨xs,xs[xs.length - 1 - i],q,rfl,hlt,List.getElem?_eq_getElem _⟩,Pv (i + 1),fun σ' H' p'=>⟨xs.length - (i + 1),by lia,rfl,hlt,p'⟩,fun x H' y=>?_⟩
  obtain ⟨e,y⟩:=y
  subst e
  exact hs i x σ _ hlt (y xs q) p
 ·have e:i=xs.length:=by lia
  subst e
  exact .inl ⟨rfl,hd σ H p⟩
end L2
namespace L2
open PySem PySem.Spec PyProof.Rows HT
section
variable {prog:Program} {w:World} {A:Around} {E:Value→Shared→Prop} {s:Shared}
end
section
variable {X:Cx}
end
end L2
namespace L2
open PySem PySem.Spec PyProof.Rows HT
section
variable {prog:Program} {w:World} {A:Around} {E:Value→Shared→Prop} {s:Shared}
end
section
variable {X:Cx} {e st:Expr} {te:TE} {ts:TO} {pos p2:Pos}
end
end L2
namespace K63
open PySem L2 TM TT K9 K11
def HasLeaf (ks:List KdT) (s:Str):Prop:=∃ r ∈ rowsK ks s,r.2.2.2=[]
def Vx (ks:List KdT) (s:Str):Str:=(((rowsK ks s).find? fun r=>r.2.2.2.isEmpty).map fun r=>r.2.1).getD (S [])
def QR (ks:List KdT) (s:Str):Tree Str:=.node (Vx ks s) 0 []
theorem HasLeaf.find {ks:List KdT} {s:Str} (h:HasLeaf ks s):∃ r,(rowsK ks s).find? (fun r=>r.2.2.2.isEmpty)=some r∧Vx ks s=r.2.1:=by
 obtain ⟨r0,h0,e0⟩:=h
 cases e:(rowsK ks s).find? fun r=>r.2.2.2.isEmpty with
 | none =>
  have:=List.find?_eq_none.mp e r0 h0
  rw [e0] at this
  exact absurd rfl this
 | some r=>exact ⟨r,rfl,by unfold Vx;rw [e];rfl⟩
def Jx (K:PySem.W.Frag):Sp:=fun vs H Q _=>∃ (w:Addr) (kind:Str) (ks:List KdT),vs=[.ref w,.str kind]∧WoodAt K H w ks∧WoodOk ks∧HasLeaf ks kind∧∀ (v:V) (H':Hp),Same H H'→TrV K H' v (QR ks kind)→Q v H'
def Ji (K:PySem.W.Frag):Sp:=fun vs H Q _=>∃ (w kb:Addr) (name:Str) (mark:Int) (ks:List KdT) (ss:List Str),vs=[.ref w,.str name,.int mark,.ref kb]∧WoodAt K H w ks∧WoodOk ks∧SqT K H kb (ss.map V.str)∧ss.length≤10∧(∀ s ∈ ss,HasLeaf ks s) ∧
 ∀ (v:V) (H':Hp),Same H H'→TrV K H' v (.node name mark (ss.map (QR ks)))→Q v H'
def QX (ks:List KdT) (r:Rw):Tree Str:=.node r.1 0 (r.2.map (QR ks))
def Z4 (ks:List KdT) (w:List (Rw × Int)) (r:Rw):Tree Str:=w.foldr (fun q t=>putB (QX ks q.1) [q.2] t) (QX ks r)
def UM (ks:List KdT) (r:Rw):Prop:=r.2.length≤10∧∀ s ∈ r.2,HasLeaf ks s
def Xl (q:Rw × Int):Prop:=∃ i:Nat,q.2=(i:Int)∧i < q.1.2.length
def WyAt (K:PySem.W.Frag) (H:Hp) (w:List (Addr × Rw × Int)):Prop:=∀ q ∈ w,∃ ra,SqT K H q.1 [.ref ra,.int 0,.int q.2.2]∧RwAt K H ra q.2.1
def Yg (K:PySem.W.Frag):Sp:=fun vs H Q _=>∃ (wd lw ra:Addr) (ks:List KdT) (w:List (Addr × Rw × Int)) (r:Rw) (u:Tree Str),vs=[.ref wd,.ref lw,.ref ra,.int 0]∧WoodAt K H wd ks∧WoodOk ks∧H lw=some (.lst (w.map fun q=>V.ref q.1))∧WyAt K H w∧RwAt K H ra r∧UM ks r∧(∀ q ∈ w,UM ks q.2.1∧Xl q.2)∧(Z4 ks (w.map (·.2)) r).bs[0]?=some u ∧
 ∀ (v:V) (H':Hp),Same H H'→TrV K H' v u→Q v H'
abbrev PI' (p:List Int):List V:=p.map V.int
def V8 (K:PySem.W.Frag):Sp:=fun vs H Q _=>∃ (b:Addr) (bs:List V) (i:Int),vs=[.ref b,.int i]∧SqT K H b bs∧Q (.bl (decide (0≤i∧i < (bs.length:Int)))) H
def L7 (K:PySem.W.Frag):Sp:=fun vs H Q _=>∃ (v:V) (t:Tree Str) (pl:Addr) (p:List Int),vs=[v,.ref pl]∧TrV K H v t∧SqT K H pl (PI' p)∧(∀ v' u,atT t p=some u→TrV K H v' u→Q v' H)∧(atT t p=none→Q .non H)
def Z7 (K:PySem.W.Frag) (n:Nat):Sp:=fun vs H Q _=>∃ (v:V) (t:Tree Str) (pl:Addr) (p:List Int) (o:V) (ot:Tree Str),vs=[v,.ref pl,o]∧TrV K H v t∧SqT K H pl (PI' p)∧TrV K H o ot∧p.length + 1≤n∧(∃ u,atT t p=some u) ∧
 ∀ v' H',Same H H'→TrV K H' v' (putB t p ot)→Q v' H'
def JC (K:PySem.W.Frag):Sp:=fun vs H Q _=>∃ (v:V) (t:Tree Str) (pl:Addr) (p:List Int) (o:V) (ot:Tree Str),vs=[v,.ref pl,o]∧TrV K H v t∧SqT K H pl (PI' p)∧TrV K H o ot∧p.length≤1∧(atT t p=none→Q .non H) ∧
 ((∃ u,atT t p=some u)→∀ v' H',Same H H'→TrV K H' v' (putB t p ot)→Q v' H')
theorem Yc {K:PySem.W.Frag} {H:Hp} {v:V} {t:Tree Str} (h:TrV K H v t):∃ a b vs name mark,v=.ref a∧t=.node name mark t.bs∧SqT K H a [.str name,.int mark,.ref b]∧SqT K H b vs∧TrAll K H vs t.bs∧vs.length≤1000:=by
 cases h with
 | mk h1 h2 h3 h4=>exact ⟨_,_,_,_,_,rfl,rfl,h1,h2,h3,h4⟩
theorem J8 {K:PySem.W.Frag} {H:Hp} {v:V} {t:Tree Str} (h:TrV K H v t):v≠.non:=by
 cases h with
 | mk _ _ _ _=>intro z;cases z
section
variable {P:Program} {w:World} {K:PySem.W.Frag} {mg:Str→Option Value} {base:Heap} {f:Addr} {fd:FuncData}
theorem Np:FnScope ["branches", "number"] ["branches", "number"] (defScope VS):=(0:)
theorem L3 (F:Fun K "has_number" "has_number" VS f fd) (G:Gm mg) (kb:PySem.W.kitOne K (.type "int") (.type "bool")=some false):FnOk P w K mg base CX0 1 f fd ["branches", "number"] (V8 K):=by
 refine F.ok Np (8:) (2:)
 ·obtain ⟨b,bs,i,rfl,_⟩:=h
  rfl
 obtain ⟨b,bs,i,rfl,h2,q⟩:=h
 refine ⟨_,Qe (Qz (Q0 (Qp ZN rfl G.isi PyProof.Rows.boot_isinstance (Qa (pv 1) (Qa (Zb (v:=.ty "bool") rfl G.boo PyProof.Rows.boot_bool rfl) Qc)))) (Qg (Qn ZO)) Qq)
  (Qg (Qn (V0 M8 YT Qf (pv 1) (Qp Qw rfl G.len PySem.boot_len (Qa (pv 0) Qc))))),?_⟩
 refine ⟨_,rfl,_, "bool", _,false,rfl,.int _,kb,_,rfl,ZW ?_⟩
 refine ⟨_,rfl,_,_,rfl,rfl,_,rfl,?_⟩
 refine XM (fun c=>?_) (fun c=>?_)
 ·have c':(0:Int)≤i:=of_decide_eq_true c
  refine ⟨_,rfl,b,bs,rfl,.inr h2,_,_,rfl,rfl,?_⟩
  have e:decide (i < ((bs.length:Nat):Int))=decide (0≤i∧i < (bs.length:Int)):=by simp [c']
  show Q (.bl (decide (i < ((bs.length:Nat):Int)))) H
  rw [e];exact q
 ·have c':¬ (0:Int)≤i:=of_decide_eq_false (Bool.eq_false_iff.mpr c)
  have e:false=decide (0≤i∧i < (bs.length:Int)):=by simp [c']
  rw [e];exact q
theorem GS:FnScope ["tree", "place", "here", "number"] ["tree", "place"] (defScope sAt):=(0:)
theorem Nu (F:Fun K "at" "at" sAt f fd) (R:Fn P w K mg base 1 "has_number" ["branches", "number"] (V8 K)):FnOk P w K mg base CX0 2 f fd ["tree", "place"] (L7 K):=by
 refine F.ok GS (8:) (2:)
 ·obtain ⟨v,t,pl,p,rfl,_⟩:=h
  rfl
 obtain ⟨v,t,pl,p,rfl,ht,hp,qs,qn⟩:=h
 refine ⟨_,Qe (Ql (i:=2) GS.nd rfl (11:) (pv 0))
  (Qe (Q1 PassesOwn.never rfl (Ui (pv 1)) (Qy (i:=3) GS.nd rfl (11:))
   (Qe (Qz (UK (Q0 (Qv R hr (Qa (Qj Qk (pv 2) Qf (4:)) (Qa (pv 3) Qc))))) (Qg (Qn Zi)) Qq)
   (Qg (Ql (i:=2) GS.nd rfl (11:) (Qj Qk (Qj Qk (pv 2) Qf (4:)) (pv 3) (4:))))))
  (Qg (Qn (pv 2)))),?_⟩
 refine ⟨_,rfl,_,rfl,pl,rfl,⟨_,hp⟩,?_⟩
 refine We (xs:=PI' p) (fun i σ H'=>∃ (v':V) (u:Tree Str) (nv:Option V),σ=[some v,some (.ref pl),some v',nv]∧H'=H∧TrV K H v' u∧atT t (p.take i)=some u)
  ⟨v,t,none,rfl,rfl,ht,by rw [List.take_zero,Y3]⟩ ?_ ?_ ?_
 ·rintro i σ H' _ ⟨v',u,nv,_,rfl,_,_⟩
  exact hp
 ·rintro i x σ H' hx ⟨v',u,nv,rfl,rfl,hv,hu⟩
  obtain ⟨n,hn,rfl⟩ : ∃ n:Int,p[i]?=some n∧x=.int n:=by
   rw [List.getElem?_map] at hx
   cases e:p[i]? with
   | none=>rw [e] at hx;cases hx
   | some n=>rw [e] at hx;exact ⟨n,rfl,(Option.some.inj hx).symm⟩
  have hil:i < p.length:=(List.getElem?_eq_some_iff.mp hn).1
  have hsplit:p=p.take i ++ n :: p.drop (i + 1):=by
   have e1:p.drop i=n :: p.drop (i + 1):=by rw [List.drop_eq_getElem_cons hil,(List.getElem?_eq_some_iff.mp hn).2]
   rw [← e1,List.take_append_drop]
  have hat:atT t p=atT u (n :: p.drop (i + 1)):=by
   conv=>lhs;rw [hsplit,Z0,hu]
   rfl
  have htk:p.take (i + 1)=p.take i ++ [n]:=by rw [List.take_add_one,hn];rfl
  obtain ⟨a,b,bs,name,mark,rfl,et,h1,h2,h3,hbl⟩:=Yc hv
  have hlen:=h3.length
  refine ⟨_,rfl,a,_,2,_,rfl,rfl,h1,rfl,_,rfl,b,bs,n,rfl,h2,_,rfl,?_⟩
  rw [hlen]
  by_cases hb:0≤n∧n < (u.bs.length:Int)
  ·rw [decide_eq_true hb]
   refine ZW ?_
   obtain ⟨c,hc⟩ : ∃ c,u.bs[n.toNat]?=some c:=⟨_,List.getElem?_eq_getElem (12:)⟩
   obtain ⟨cv,hcv,hct⟩:=h3.get hc
   have hcast:n=((n.toNat:Nat):Int):=by lia
   refine ⟨_,rfl,a,_,2,_,rfl,rfl,h1,rfl,_,rfl,b,bs,n,cv,rfl,rfl,h2,by rw [hcast];exact QH hcv,?_⟩
   refine ⟨cv,c,_,rfl,rfl,hct,?_⟩
   rw [htk,Z0,hu]
   show atT u [n]=some c
   rw [Zs,if_pos hb.1,hc];exact Y3 _
  ·rw [decide_eq_false hb]
   refine Zl ?_
   refine qn ?_
   rw [hat,Zs]
   by_cases h0:0≤n
   ·rw [if_pos h0,List.getElem?_eq_none (12:)]
   ·rw [if_neg h0]
 ·rintro σ H' ⟨v',u,nv,rfl,rfl,hv,hu⟩
  have hu':atT t p=some u:=by
   have:p.take (PI' p).length=p:=by rw [List.length_map,List.take_length]
   rw [this] at hu;exact hu
  exact ⟨_,rfl,qs v' u hu' hv⟩
theorem MX {xs:List V} {k:Nat} (h:k≤xs.length):cutV xs none (some (k:Int))=xs.take k:=by
 unfold cutV
 rw [HT.sIx_none,HT.sIx_nat,List.drop_zero,Nat.sub_zero,Nat.min_eq_left h]
theorem J7 {xs:List V} {k:Nat} (h:k≤xs.length):cutV xs (some (k:Int)) none=xs.drop k:=by
 unfold cutV
 rw [HT.sIx_none,HT.sIx_nat,Nat.min_eq_left h]
 exact List.take_of_length_le (by rw [List.length_drop];lia)
theorem Je:FnScope ["tree", "place", "other", "number", "branches", "changed"] ["tree", "place", "other"] (defScope Xe):=(0:)
theorem Lk {n:Nat} (F:Fun K "put_below" "put_below" Xe f fd) (G:Gm mg) (R:Fn P w K mg base n "put_below" ["tree", "place", "other"] (Z7 K n)):FnOk P w K mg base CX0 (n + 1) f fd ["tree", "place", "other"] (Z7 K (n + 1)):=by
 refine F.ok Je (8:) (2:)
 ·obtain ⟨v,t,pl,p,o,ot,rfl,_⟩:=h
  rfl
 obtain ⟨v,t,pl,p,o,ot,rfl,ht,hp,ho,hn,hat,q⟩:=h
 refine ⟨_,Qe (Qz (Qs ZB (Qp Qw rfl G.len PySem.boot_len (Qa (pv 1) Qc)) Qf (Qr _)) (Qg (Qn (pv 2))) Qq)
  (Qe (Ql (i:=3) Je.nd rfl (11:) (35:))
  (Qe (Ql (i:=4) Je.nd rfl (11:) (40:))
  (Qe (Ql (i:=5) Je.nd rfl (11:) (Qv R hr (Qa (Qj Qk (pv 4) (pv 3) (4:)) (Qa (ZQ XG (pv 1) (Z9 Qf) Ya) (Qa (pv 2) Qc))) (10:)))
  (Qg (Qn (Qm (Qa (40:) (Qa (40:)
   (Qa (Qo Y0 (Qo Y0 (ZQ XG (pv 4) Ya (Z9 (pv 3))) (Qm (Qa (pv 5) Qc))) (ZQ XG (pv 4) (Z9 (Qo QC (pv 3) Qf)) Ya)) Qc))))))))),?_⟩
 refine ⟨_,rfl,pl,_,rfl,.inr hp,rfl,_,rfl,?_⟩
 cases p with
 | nil =>
  refine YA (29:) ?_
  exact ⟨_,rfl,q o H (Same.refl H) (by rw [JP];exact ho)⟩
 | cons i r =>
  refine Zo (by simp;lia) ?_
  obtain ⟨u,hu⟩:=hat
  rw [Zs] at hu
  have h0:0≤i:=by
   by_cases z:0≤i
   ·exact z
   ·rw [if_neg z] at hu;cases hu
  rw [if_pos h0] at hu
  obtain ⟨a,b,bs,name,mark,rfl,et,h1,h2,h3,hbl⟩:=Yc ht
  have hlen:=h3.length
  cases hc:t.bs[i.toNat]? with
  | none=>rw [hc] at hu;cases hu
  | some c =>
   rw [hc] at hu
   have hil:i.toNat < t.bs.length:=(List.getElem?_eq_some_iff.mp hc).1
   obtain ⟨cv,hcv,hct⟩:=h3.get hc
   obtain ⟨k,rfl⟩:=Int.eq_ofNat_of_zero_le h0
   rw [Int.toNat_natCast] at hc hil hcv
   have hkb:k < bs.length:=by lia
   refine ⟨_,rfl,pl,_,0,.int (k:Int),rfl,rfl,hp,QH (j:=0) rfl,?_⟩
   refine ⟨_,rfl,a,_,2,_,rfl,rfl,h1,rfl,?_⟩
   refine ⟨_,rfl,_,rfl,b,bs,k,cv,rfl,rfl,h2,QH hcv,_,rfl,_,rfl,pl,_,rfl,hp,?_,fun p1 hp1=>?_⟩
   ·rw [HT.sIx_none,show (some (1:Int))=some ((1:Nat):Int) from rfl,HT.sIx_nat]
    simp
   have g1:Same H (upd H p1 (.tup (cutV (PI' ((k:Int) :: r)) (some 1) none))):=Qd hp1 _
   have ecut:cutV (PI' ((k:Int) :: r)) (some 1) none=PI' r:=by
    have:=J7 (xs:=PI' ((k:Int) :: r)) (k:=1) (29:)
    exact this
   refine ⟨_,rfl,cv,c,p1,r,o,ot,rfl,hct.mono (fun _ _=>g1.seqT),by rw [ecut];exact SqT.of Qb,ho.mono (fun _ _=>g1.seqT),by simp at hn;lia,⟨u,hu⟩,fun v' H' g2 hv'=>?_⟩
   have g12:=g1.trans g2
   refine ⟨_,rfl,a,_,0,_,rfl,rfl,g12.seqT h1,rfl,_,rfl,a,_,1,_,rfl,rfl,g12.seqT h1,rfl,?_⟩
   refine ⟨_,rfl,_,rfl,_,rfl,b,bs,rfl,g12.seqT h2,?_,fun p2 hp2=>?_⟩
   ·rw [HT.sIx_none,HT.sIx_nat];lia
   have g3:Same H' (upd H' p2 (.tup (cutV bs none (some (k:Int))))):=Qd hp2 _
   rw [MX (Nat.le_of_lt hkb)] at g3 ⊢
   refine ⟨_,rfl,(30:),fun p3 hp3=>?_⟩
   have g4:Same (upd H' p2 (.tup (bs.take k))) (upd (upd H' p2 (.tup (bs.take k))) p3 (.tup [v'])):=Qd hp3 _
   refine ⟨p2,p3,bs.take k,[v'],rfl,rfl,SqT.of (g4 _ _ Qb),SqT.of Qb,?_,fun p4 H4 g5 hp4=>?_⟩
   ·rw [List.length_take,List.length_singleton]
    exact Nat.le_of_lt (UZ (12:))
   have g15:=g12.trans (g3.trans (g4.trans g5))
   refine ⟨_,rfl,_,rfl,_,_,rfl,rfl,_,rfl,b,bs,rfl,g15.seqT h2,?_,fun p5 hp5=>?_⟩
   ·rw [HT.sIx_none,show ((k:Int)+1)=((k + 1:Nat):Int) from rfl,HT.sIx_nat];lia
   have ecut2:cutV bs (some ((k:Int)+1)) none=bs.drop (k + 1):=J7 (k:=k + 1) (12:)
   have g6:Same H4 (upd H4 p5 (.tup (cutV bs (some ((k:Int)+1)) none))):=Qd hp5 _
   rw [ecut2] at g6 ⊢
   refine ⟨p4,p5,_,_,rfl,rfl,g6.seqT hp4,SqT.of Qb,?_,fun p6 H6 g7 hp6=>?_⟩
   ·rw [List.length_append,List.length_take,List.length_singleton,List.length_drop]
    exact Nat.le_of_lt (UZ (12:))
   refine ⟨(33:),fun p7 hp7=>?_⟩
   have g8:=Qd hp7 (.tup [.str name,.int mark,.ref p6])
   have gall:=g15.trans (g6.trans (g7.trans g8))
   have gv:Same H' (upd H6 p7 (.tup [.str name,.int mark,.ref p6])):=g3.trans (g4.trans (g5.trans (g6.trans (g7.trans g8))))
   refine q (.ref p7) _ gall ?_
   rw [et,Ja _ _ _ _ _ _ c (by rw [Int.toNat_natCast];exact hc),Int.toNat_natCast]
   refine .mk (39:) (g8.seqT hp6) ?_ (by simp only [List.length_append,List.length_take,List.length_singleton,List.length_drop];lia)
   rw [List.set_eq_take_append_cons_drop,if_pos hil]
   have t1:TrAll K (upd H6 p7 (.tup [.str name,.int mark,.ref p6])) (bs.take k) (t.bs.take k):=(h3.take k).mono (fun _ _=>gall.seqT)
   have t2:TrAll K (upd H6 p7 (.tup [.str name,.int mark,.ref p6])) (bs.drop (k + 1)) (t.bs.drop (k + 1)):=(h3.drop (k + 1)).mono (fun _ _=>gall.seqT)
   have t3:=(t1.append (.cons (hv'.mono (fun _ _=>gv.seqT)) .nil)).append t2
   simpa using t3
theorem W1:FnOk P w K mg base CX0 0 f fd ["tree", "place", "other"] (Z7 K 0):=by
 have no:∀ vs H Q E,¬ Z7 K 0 vs H Q E:=fun vs H Q E h=>by
  obtain ⟨v,t,pl,p,o,ot,_,_,_,_,hn,_⟩:=h
  lia
 exact ⟨fun vs H Q E h=>absurd h (no vs H Q E),fun A outer s H args us vs Q E _ _ _ _ h=>absurd h (no vs H Q E)⟩
theorem JW (F:Fun K "put_below" "put_below" Xe f fd) (G:Gm mg) (hb:Binds K fd ["tree", "place", "other"] []) (hm:mg "put_below" = some (.ref f)):∀ n:Nat,FnOk P w K mg base CX0 n f fd ["tree", "place", "other"] (Z7 K n)
 | 0=>W1
 | n + 1=>Lk F G ⟨f,fd,JW F G hb hm n,hb,F.kp,hm⟩
theorem GF:FnScope ["tree", "place", "other"] ["tree", "place", "other"] (defScope Xn):=(0:)
theorem VY (F:Fun K "put_at" "put_at" Xn f fd) (RA:Fn P w K mg base 2 "at" ["tree", "place"] (L7 K)) (RP:Fn P w K mg base 2 "put_below" ["tree", "place", "other"] (Z7 K 2)):FnOk P w K mg base CX0 3 f fd ["tree", "place", "other"] (JC K):=by
 refine F.ok GF (8:) (2:)
 ·obtain ⟨v,t,pl,p,o,ot,rfl,_⟩:=h
  rfl
 obtain ⟨v,t,pl,p,o,ot,rfl,ht,hp,ho,hl,qn,qs⟩:=h
 refine ⟨_,Qe (Qz (Yy (YB (Qv RA hr (Qa (pv 0) (Qa (pv 1) Qc))))) (Qg (Qn Zi)) Qq)
  (Qg (Qn (Qv RP hr (Qa (pv 0) (Qa (pv 1) (Qa (pv 2) Qc)))))),?_⟩
 refine ⟨_,rfl,_,rfl,v,t,pl,p,rfl,ht,hp,fun v' u hu hv=>?_,fun hnone=>?_⟩
 ·refine ⟨_,rfl,Zo (J8 hv) ?_⟩
  exact ⟨_,rfl,_,rfl,_,rfl,v,t,pl,p,o,ot,rfl,ht,hp,ho,by lia,⟨u,hu⟩,qs ⟨u,hu⟩⟩
 ·exact ⟨_,rfl,YA rfl (qn hnone)⟩
theorem Xw:FnScope ["wood", "kind", "name", "branches"] ["wood", "kind"] (defScope Ve):=(0:)
theorem Gq (F:Fun K "leaf_of" "leaf_of" Ve f fd) (G:Gm mg) (RO:Fn P w K mg base 1 "rows_of" ["wood", "kind"] (ZF K)):FnOk P w K mg base CX0 2 f fd ["wood", "kind"] (Jx K):=by
 refine F.ok Xw (8:) (2:)
 ·obtain ⟨w,kind,ks,rfl,_⟩:=h
  rfl
 obtain ⟨wd,kind,ks,rfl,hW,hO,hL,q⟩:=h
 obtain ⟨r0,hr0,er0⟩:=hL.find
 unfold QR at q
 rw [er0] at q
 refine ⟨_,(Qe (Q1 PassesOwn.never rfl (Zz (Qv RO hr (Qa (pv 0) (Qa (pv 1) Qc)))) (YI rfl (QF (Qy (i:=2) Xw.nd rfl (11:)) (QF (Qy (i:=3) Xw.nd rfl (11:)) ZT))) (Qg (Qz (Qs ZB (Qp Qw rfl G.len PySem.boot_len (Qa (pv 3) Qc)) Qf (Qr _)) (Qg (Qn (Qm (Qa (pv 2) (Qa (Qf) (Qa (Qm Qc) Qc)))))) Qq)))
  (Qg (Qn Zi))),?_⟩
 obtain ⟨kd,hkf,erow⟩ : ∃ kd,ks.find? (fun k=>decide (k.2.1=kind))=some kd∧rowsK ks kind=kd.2.2.2:=by
  cases e:ks.find? fun k=>decide (k.2.1=kind) with
  | none=>unfold rowsK at hr0;rw [e] at hr0;cases hr0
  | some kd=>exact ⟨kd,rfl,by unfold rowsK;rw [e];rfl⟩
 refine ⟨_,rfl,_,rfl,wd,kind,ks,kd,rfl,hW,hO,hkf,fun H1 g1=>?_⟩
 have hR:RowsL K H1 kd.2.2.1 (rowsK ks kind):=by rw [erow];exact ((hW.same g1).2 kd (List.mem_of_find?_eq_some hkf)).2
 clear hL er0 erow
 generalize rowsK ks kind=rs at hr0 hR
 refine ⟨kd.2.2.1,rfl,⟨_,hR.1⟩,?_⟩
 refine Xf (K:=K) (xs:=rs.map fun t=>V.ref t.1) (fun i σ H'=>∃ c1 c2:Option V,σ=[some (.ref wd),some (.str kind),c1,c2]∧H'=H1∧(rs.drop i).find? (fun r=>r.2.2.2.isEmpty)=some r0) ⟨none,none,rfl,rfl,hr0⟩ ?_ ?_ ?_
 ·rintro i σ H' _ ⟨c1,c2,_,rfl,_⟩
  exact hR.1
 ·rintro i x σ H' hx ⟨c1,c2,rfl,rfl,hf⟩
  have hi:i < rs.length:=by
   have:=(List.getElem?_eq_some_iff.mp hx).1
   rwa [List.length_map] at this
  obtain rfl:x=.ref rs[i].1:=by
   rw [List.getElem?_map,List.getElem?_eq_getElem hi] at hx
   exact (Option.some.inj hx).symm
  obtain ⟨hr1,hr2⟩:=hR.2 _ (List.getElem_mem hi)
  rw [List.drop_eq_getElem_cons hi,List.find?_cons] at hf
  refine ⟨rs[i].1,_,rfl,hr1,rfl,_,_,rfl,_,_,rfl,rfl,?_⟩
  refine ⟨_,rfl,rs[i].2.2.1,_,rfl,.inr hr2,rfl,_,rfl,?_⟩
  cases hes:rs[i].2.2.2 with
  | nil =>
   rw [hes] at hf
   have e0:rs[i]=r0:=by simpa using hf
   refine YA (by rfl) ⟨_,rfl,(21:),fun p0 hp0=>⟨(33:),fun p1 hp1=>?_⟩⟩
   have k0:=Qd hp0 (.tup [])
   have k1:=Qd hp1 (.tup [.str rs[i].2.1,.int 0,.ref p0])
   refine q (.ref p1) _ (g1.trans (k0.trans k1)) ?_
   rw [← e0]
   exact .mk (39:) (k1.seqT (39:)) .nil (Nat.zero_le _)
  | cons y ys =>
   rw [hes] at hf
   refine Zo (fun z=>?_) ⟨_,_,rfl,rfl,by simpa using hf⟩
   injection z with z
   simp at z
   lia
 ·rintro σ H' ⟨c1,c2,rfl,rfl,hf⟩
  rw [List.length_map,List.drop_of_length_le (10:)] at hf
  cases hf
theorem GA:FnScope ["wood", "name", "mark", "kinds"] ["wood", "name", "mark", "kinds"] (defScope Xv):=(0:)
theorem V7 (F:Fun K "leafy" "leafy" Xv f fd) (G:Gm mg) (RL:Fn P w K mg base 2 "leaf_of" ["wood", "kind"] (Jx K)):FnOk P w K mg base CX0 3 f fd ["wood", "name", "mark", "kinds"] (Ji K):=by
 refine F.ok GA (8:) (2:)
 ·obtain ⟨w,kb,name,mark,ks,ss,rfl,_⟩:=h
  rfl
 obtain ⟨wd,kb,name,mark,ks,ss,rfl,hW,hO,hkb,hsl,hL,q⟩:=h
 refine ⟨_,(Qg (Qn (Qm (Qa (pv 1) (Qa (pv 2) (Qa (QI Zm rfl G.tup PyProof.Rows.boot_tuple (Qa (QO (CompG.many (xs:=["kind"]) (caps:=["wood"]) (cap:=[0]) (cs:=[_]) rfl rfl (1:) (1:) (1:) (1:) (1:) (1:) rfl rfl rfl) rfl (Ui (pv 3)) (YS (CompG.many (xs:=["kind"]) (caps:=["wood"]) (cap:=[0]) (cs:=[_]) rfl rfl (1:) (1:) (1:) (1:) (1:) (1:) rfl rfl rfl)) (fun _ _ _ _=>Zj) (fun _ _ _ _=>Qv RL hr (Qa (pv 1) (Qa (pv 0) Qc)))) Qc)) Qc)))))),?_⟩
 refine ⟨_,rfl,_,rfl,_,rfl,kb,rfl,⟨_,hkb⟩,fun acc hacc=>?_⟩
 refine Xm (K:=K) (xs:=ss.map V.str) (cs:=[some (.ref wd)]) (tt:=fun _ H Q=>Q true H) (te:=VG (Jx K) [] E0 (ZA (YV 1) (ZA (YV 0) Ua))) (fun i ys H'=>H' acc=some (.lst ys)∧Same H H'∧TrAll K H' ys ((ss.take i).map (QR ks)))
  ⟨Qb,Qd hacc _,.nil⟩ ?_ ?_ ?_
 ·rintro i ys H' _ ⟨_,g,_⟩
  exact g.seqT hkb
 ·rintro i y ys H' hi hy ⟨hya,g,hys⟩
  have his:i < ss.length:=by rw [List.length_map] at hi;exact hi
  obtain rfl:y=.str ss[i]:=by
   rw [List.getElem?_map,List.getElem?_eq_getElem his] at hy
   exact (Option.some.inj hy).symm
  have hyl:=hys.length
  rw [List.length_map,List.length_take] at hyl
  refine Zl ⟨_,rfl,_,rfl,wd,ss[i],ks,rfl,hW.same g,hO,hL _ (List.getElem_mem his),fun v H4 g4 hv=>?_⟩
  have hya4:=g4 _ _ hya
  refine Q6 (ys:=ys) hi hya4 (12:) ⟨Qb,fun b u e=>?_,?_⟩
  ·rw [Qi (Qh e hacc)];exact g4 _ _ (g _ _ e)
  ·rw [List.take_add_one,List.getElem?_eq_getElem his,List.map_append]
   exact TrAll.append (hys.mono fun _ _ h=>(g4.seqT h).put hya4) (.cons (hv.mono fun _ _ h=>h.put hya4) .nil)
 rintro ys H2 ⟨hya,g2,hys⟩
 rw [List.length_map,List.take_length] at hys
 have hyl:=hys.length
 rw [List.length_map] at hyl
 refine ⟨acc,_,rfl,.inl ⟨SqL.of hya,fun pb hpb=>⟨(33:),fun p hp=>?_⟩⟩⟩
 have k1:=Qd hpb (.tup ys)
 have k2:=Qd hp (.tup [.str name,.int mark,.ref pb])
 exact q (.ref p) _ (g2.trans (k1.trans k2)) (.mk (39:) (k2.seqT (39:)) (hys.mono fun _ _=>(k1.trans k2).seqT) (12:))
theorem Zr:FnScope ["wood", "way", "row", "mark", "tree", "above", "its_mark", "branch"] ["wood", "way", "row", "mark"] (defScope Jj):=(0:)
theorem WL (F:Fun K "tree_on" "tree_on" Jj f fd) (G:Gm mg) (RL:Fn P w K mg base 3 "leafy" ["wood", "name", "mark", "kinds"] (Ji K)) (RP:Fn P w K mg base 3 "put_at" ["tree", "place", "other"] (JC K)):FnOk P w K mg base CX0 4 f fd ["wood", "way", "row", "mark"] (Yg K):=by
 refine F.ok Zr (8:) (2:)
 ·obtain ⟨wd,lw,ra,ks,w,r,u,rfl,_⟩:=h
  rfl
 obtain ⟨wd,lw,ra,ks,w,r,u,rfl,hW,hO,hlw,hwy,hra,hrk,hqk,hu,q⟩:=h
 refine ⟨_,(Qe (Ql (i:=4) Zr.nd rfl (11:) (Qv RL hr (Qa (pv 0) (Qa (Qj Qk (pv 2) Qf (4:)) (Qa (pv 3) (Qa (Qj Qk (pv 2) Qf (4:)) Qc))))))
  (Qe (Q1 PassesOwn.never rfl (GD rfl G.rev (Qa (pv 1) Qc)) (YI rfl (QF (Qy (i:=5) Zr.nd rfl (11:)) (QF (Qy (i:=6) Zr.nd rfl (11:)) (QF (Qy (i:=7) Zr.nd rfl (11:)) ZT))))
   (Qg (Ql (i:=4) Zr.nd rfl (11:) (Qv RP hr (Qa (Qv RL hr (Qa (pv 0) (Qa (Qj Qk (pv 5) Qf (4:)) (Qa (pv 6) (Qa (Qj Qk (pv 5) Qf (4:)) Qc))))) (Qa ((Qm (Qa (pv 7) Qc))) (Qa (pv 4) Qc)))))))
  (Qg (Qn (Qj Qk (Qj Qk (pv 4) Qf (4:)) Qf (4:)))))),?_⟩
 obtain ⟨kk,h1,h2⟩:=hra
 refine ⟨_,rfl,_,rfl,ra,_,0,_,rfl,rfl,h1,rfl,_,rfl,_,rfl,ra,_,1,_,rfl,rfl,h1,rfl,wd,kk,r.1,0,ks,r.2,rfl,hW,hO,h2,hrk.1,hrk.2,fun v H1 g1 hv=>?_⟩
 refine ⟨_,rfl,lw,_,rfl,SqL.of (g1 _ _ hlw),?_⟩
 refine GP (K:=K) (xs:=w.map fun q=>V.ref q.1) (fun i σ H'=>∃ (c5 c6 c7:Option V) (v:V),σ=[some (.ref wd),some (.ref lw),some (.ref ra),some (.int 0),some v,c5,c6,c7]∧Same H H'∧TrV K H' v (Z4 ks ((w.drop (w.length - i)).map (·.2)) r)) ⟨none,none,none,v,rfl,g1,?_⟩ ?_ ?_ ?_
 ·rw [Nat.sub_zero,List.drop_of_length_le (10:)];exact hv
 ·rintro i σ H' _ ⟨_,_,_,_,_,g,_⟩
  exact SqL.of (g _ _ hlw)
 ·rintro i x σ H' hi hx ⟨c5,c6,c7,v,rfl,g,hv⟩
  rw [List.length_map] at hi hx
  have hj:w.length - 1 - i < w.length:=by lia
  obtain ⟨j,ej⟩ : ∃ j,j=w.length - 1 - i:=(53:)
  rw [← ej] at hx hj
  obtain rfl:x=.ref w[j].1:=by
   rw [List.getElem?_map,List.getElem?_eq_getElem hj] at hx
   exact (Option.some.inj hx).symm
  have hm:=List.getElem_mem hj
  obtain ⟨ra',w1,kk',w2,w3⟩:=hwy _ hm
  obtain ⟨⟨o1,o2⟩,b,eb,hb⟩:=hqk _ hm
  rw [eb] at w1
  have ed:w.drop (w.length - (i + 1))=w[j] :: w.drop (w.length - i):=by
   rw [show w.length - (i + 1)=j by lia,List.drop_eq_getElem_cons hj,show j + 1=w.length - i by lia]
  refine ⟨_,_,rfl,g.seqT w1,rfl,_,_,rfl,_,_,rfl,_,_,rfl,rfl,?_⟩
  refine ⟨_,rfl,_,rfl,ra',_,0,_,rfl,rfl,g.seqT w2,rfl,_,rfl,_,rfl,ra',_,1,_,rfl,rfl,g.seqT w2,rfl,wd,kk',_,0,ks,_,rfl,hW.same g,hO,g.seqT w3,o1,o2,fun v2 H2 g2 hv2=>?_⟩
  refine ⟨_,rfl,(30:),fun p1 hp1=>?_⟩
  have g3:=Qd hp1 (.tup [.int (b:Int)])
  have hat:(QX ks w[j].2.1).bs[b]?=some (QR ks w[j].2.1.2[b]):=by
   show (w[j].2.1.2.map (QR ks))[b]?=_
   rw [List.getElem?_map,List.getElem?_eq_getElem hb];rfl
  have hat':∃ u,atT (QX ks w[j].2.1) [(b:Int)]=some u:=⟨QR ks w[j].2.1.2[b],by
   rw [Zs,if_pos (12:),Int.toNat_natCast,hat];exact Y3 _⟩
  refine ⟨_,rfl,v2,QX ks w[j].2.1,p1,[(b:Int)],v,_,rfl,hv2.mono fun _ _=>g3.seqT,SqT.of Qb,hv.mono fun _ _=>(g2.trans g3).seqT,(by show 1≤1;decide),fun z=>?_,fun _ v3 H3 g4 hv3=>?_⟩
  ·obtain ⟨u',hu'⟩:=hat'
   rw [hu'] at z;cases z
  ·refine ⟨_,_,_,v3,rfl,g.trans (g2.trans (g3.trans g4)),?_⟩
   rw [ed,List.map_cons]
   show TrV K H3 v3 (putB (QX ks w[j].2.1) [w[j].2.2] _)
   rw [eb]
   exact hv3
 ·rintro σ H' ⟨c5,c6,c7,v,rfl,g,hv⟩
  rw [List.length_map,Nat.sub_self,List.drop_zero] at hv
  obtain ⟨a,b,vs,name,mk,rfl,et,t1,t2,t3,t4⟩:=Yc hv
  obtain ⟨c,hc,hct⟩:=t3.get hu
  exact ⟨_,rfl,a,_,2,_,rfl,rfl,t1,rfl,b,_,0,_,rfl,rfl,t2,QH (j:=0) hc,q c _ g hct⟩
end
end K63
namespace K63
open PySem L2 TM TT K9 K11
abbrev SI:=Spot × It
def actL (s:Stt) (L:List SI):Stt:=L.foldl (fun s q=>act q.1 s q.2) s
theorem VU (sp:Spot) (l:List It):∀ s,Xc sp s l=actL s (l.map fun i=>(sp,i)):=by
 induction l with
 | nil=>intro s;rfl
 | cons i l ih=>intro s;exact ih (act sp s i)
theorem VI (s:Stt) (L M:List SI):actL s (L ++ M)=actL (actL s L) M:=List.foldl_append ..
def Fl (o:Option (Spot × List Int)) (L:Nat):Prop:=∃ f,o=some f∧f.1.lv≤L
abbrev cI (q:Dd × Stp):SI:=(q.2.sp,(q.2.pl,some (q.1.1,q.2.br,q.1.2)))
structure Ac (L:List SI) (s s':Stt):Prop where
 pre:∃ r,s'.ss=s.ss ++ r∧∀ q ∈ r,cI q ∈ L
 nd:s.ds.Nodup→s'.ds.Nodup
 call:∀ i ∈ L,∀ c,i.2.2=some c→(c.1,c.2.2) ∈ s'.ds
 ft1:∀ k,Fl s.ft k→Fl s'.ft k
 ft2:∀ i ∈ L,i.2.2=none→Fl s'.ft i.1.lv
 ft3:∀ f,s'.ft=some f→s.ft=some f∨(f.1,(f.2,none)) ∈ L
theorem Wf {s s':Stt} {r:List (Dd × Stp)} (e:s'.ss=s.ss ++ r) {d:Dd} (h:d ∈ s.ds):d ∈ s'.ds:=by
 unfold Stt.ds at *
 rw [e,List.map_append]
 exact List.mem_append_left _ h
theorem Mf (sp:Spot) (i:It) (s:Stt):Ac [(sp,i)] s (act sp s i):=by
 obtain ⟨p,o⟩:=i
 cases o with
 | none =>
  have e:(act sp s (p,none)).ss=s.ss:=by
   show (ZP sp p s).ss=_
   unfold ZP
   split
   ·rfl
   ·split <;> rfl
  have hds:(act sp s (p,none)).ds=s.ds:=by unfold Stt.ds;rw [e]
  refine ⟨⟨[],by rw [e,List.append_nil],fun q hq=>nomatch hq⟩,fun h=>by rw [hds];exact h,fun i hi c hc=>?_,fun k hk=>?_,fun i hi _=>?_,fun f hf=>?_⟩
  ·obtain rfl:i=(sp,(p,none)):=by simpa using hi
   cases hc
  ·obtain ⟨f,h1,h2⟩:=hk
   show Fl (ZP sp p s).ft k
   unfold ZP
   rw [h1]
   dsimp only
   by_cases c:sp.lv < f.1.lv
   ·rw [if_pos c];exact ⟨_,rfl,by dsimp only;lia⟩
   ·rw [if_neg c];exact ⟨f,h1,h2⟩
  ·obtain rfl:i=(sp,(p,none)):=by simpa using hi
   show Fl (ZP sp p s).ft sp.lv
   unfold ZP
   cases h1:s.ft with
   | none=>exact ⟨_,rfl,Nat.le_refl _⟩
   | some f =>
    dsimp only
    by_cases c:sp.lv < f.1.lv
    ·rw [if_pos c];exact ⟨_,rfl,Nat.le_refl _⟩
    ·rw [if_neg c];exact ⟨f,h1,by lia⟩
  ·have hf:(ZP sp p s).ft=some f:=hf
   unfold ZP at hf
   cases h1:s.ft with
   | none =>
    rw [h1] at hf
    obtain rfl:=Option.some.inj hf
    exact .inr List.mem_cons_self
   | some g =>
    rw [h1] at hf
    dsimp only at hf
    by_cases c:sp.lv < g.1.lv
    ·rw [if_pos c] at hf
     obtain rfl:=Option.some.inj hf
     exact .inr List.mem_cons_self
    ·rw [if_neg c] at hf
     exact .inl (h1.symm.trans hf)
 | some c =>
  obtain ⟨m,b,k⟩:=c
  have ef:(act sp s (p,some (m,b,k))).ft=s.ft:=by
   show (UE (m,k) ⟨sp,p,b⟩ s).ft=_
   unfold UE
   split <;> rfl
  have hss:(act sp s (p,some (m,b,k))).ss=s.ss ++ (if (m,k) ∈ s.ds then [] else [((m,k),⟨sp,p,b⟩)]):=by
   show (UE (m,k) ⟨sp,p,b⟩ s).ss=_
   unfold UE
   split
   ·rw [List.append_nil]
   ·rfl
  have hds:(act sp s (p,some (m,b,k))).ds=s.ds ++ (if (m,k) ∈ s.ds then [] else [(m,k)]):=by
   unfold Stt.ds at hss ⊢
   rw [hss,List.map_append]
   split <;> rfl
  refine ⟨⟨_,hss,fun q hq=>?_⟩,fun h=>?_,fun i hi c hc=>?_,fun k hk=>by rw [ef];exact hk,fun i hi h=>?_,fun f hf=>.inl (by rw [← ef];exact hf)⟩
  ·split at hq
   ·cases hq
   ·obtain rfl:q=((m,k),⟨sp,p,b⟩):=by simpa using hq
    exact List.mem_cons_self
  ·rw [hds]
   split
   ·rw [List.append_nil];exact h
   ·rename_i hni
    exact List.nodup_append.mpr ⟨h,by simp,fun a ha b hb=>by
     have:b=(m,k):=by simpa using hb
     subst this
     exact fun z=>hni (by rw [← z];exact ha)⟩
  ·obtain rfl:i=(sp,(p,some (m,b,k))):=by simpa using hi
   obtain rfl:=Option.some.inj hc
   show (m,k) ∈ _
   rw [hds]
   by_cases h:(m,k) ∈ s.ds
   ·exact List.mem_append_left _ h
   ·rw [if_neg h];exact List.mem_append_right _ List.mem_cons_self
  ·obtain rfl:i=(sp,(p,some (m,b,k))):=by simpa using hi
   cases h
theorem Ac.trans {L M:List SI} {s s1 s2:Stt} (a:Ac L s s1) (b:Ac M s1 s2):Ac (L ++ M) s s2:=by
 obtain ⟨r,e,hr⟩:=a.pre
 obtain ⟨r',e',hr'⟩:=b.pre
 refine ⟨⟨r ++ r',by rw [e',e,List.append_assoc],fun q hq=>?_⟩,fun h=>b.nd (a.nd h),fun i hi c hc=>?_,fun k hk=>b.ft1 k (a.ft1 k hk),fun i hi h=>?_,fun f hf=>?_⟩
 ·rcases List.mem_append.mp hq with z | z
  ·exact List.mem_append_left _ (hr q z)
  ·exact List.mem_append_right _ (hr' q z)
 ·rcases List.mem_append.mp hi with z | z
  ·exact Wf e' (a.call i z c hc)
  ·exact b.call i z c hc
 ·rcases List.mem_append.mp hi with z | z
  ·exact b.ft1 _ (a.ft2 i z h)
  ·exact b.ft2 i z h
 ·rcases b.ft3 f hf with z | z
  ·exact (a.ft3 f z).imp id (List.mem_append_left _)
  ·exact .inr (List.mem_append_right _ z)
theorem Xx:∀ (L:List SI) (s:Stt),Ac L s (actL s L)
 | [],s=>⟨⟨[],(List.append_nil _).symm,fun q hq=>(nomatch hq)⟩,id,fun i hi=>(nomatch hi),fun _=>id,fun i hi=>(nomatch hi),fun f hf=>.inl hf⟩
 | q :: L,s=>(Mf q.1 q.2 s).trans (Xx L (act q.1 s q.2))
theorem Zy {s:Stt} (nd:s.ds.Nodup) {q:Dd × Stp} (h:q ∈ s.ss):nOf s q.1=q.2.sp.n:=by
 unfold nOf
 cases e:s.ss.find? fun x=>decide (x.1=q.1) with
 | none =>
  have:=List.find?_eq_none.mp e q h
  simp at this
 | some x =>
  have h1:x.1=q.1:=by simpa using List.find?_some e
  have h2:=List.mem_of_find?_eq_some e
  obtain ⟨i,hi,ei⟩:=List.getElem_of_mem h2
  obtain ⟨j,hj,ej⟩:=List.getElem_of_mem h
  have:i=j:=by
   have g:(s.ss.map (·.1))[i]?=(s.ss.map (·.1))[j]?:=by
    rw [List.getElem?_map,List.getElem?_map,List.getElem?_eq_getElem hi,List.getElem?_eq_getElem hj,ei,ej]
    show some x.1=some q.1
    rw [h1]
   exact (List.getElem?_inj (by show i < (s.ss.map (·.1)).length;rw [List.length_map];exact hi) nd).mp g
  subst this
  rw [← ei,ej];rfl
theorem Yt {s:Stt} {d:Dd} (h:d ∈ s.ds):∃ q ∈ s.ss,q.1=d:=List.mem_map.mp h
theorem G3 {s s':Stt} {r:List (Dd × Stp)} (e:s'.ss=s.ss ++ r) {d:Dd} (h:d ∈ s.ds):nOf s' d=nOf s d:=by
 unfold nOf
 rw [e,List.find?_append]
 cases e2:s.ss.find? fun x=>decide (x.1=d) with
 | some x=>rfl
 | none =>
  obtain ⟨q,hq,eq⟩:=Yt h
  have:=List.find?_eq_none.mp e2 q hq
  simp [eq] at this
section
variable (f:RK) (n:Nat) (rl:Dd→List (Rw × Tm)) (L0:List SI)
def LB (N:Nat) (d:Dd):List SI:=(rl d).flatMap fun r=>(its f n r.2 d.2 []).map fun i=>(⟨N,some d,r.1⟩,i)
theorem XZ (N:Nat) (d:Dd):∀ (l:List (Rw × Tm)) (s:Stt),Wa f n N d l s=actL s (l.flatMap fun r=>(its f n r.2 d.2 []).map fun i=>(⟨N,some d,r.1⟩,i))
 | [],s=>rfl
 | r :: l,s=>by
  rw [List.flatMap_cons,VI,← VU]
  exact XZ N d l _
theorem Go (d:Dd) (s:Stt):J2 f n rl d s=actL s (LB f n rl (nOf s d + 1) d):=XZ f n _ d _ s
theorem No {N:Nat} {d:Dd} {x:SI} (h:x ∈ LB f n rl N d):x.1.n=N∧x.1.dm=some d:=by
 obtain ⟨r,_,h⟩:=List.mem_flatMap.mp h
 obtain ⟨i,_,rfl⟩:=List.mem_map.mp h
 exact ⟨rfl,rfl⟩
structure Bf (j:Nat) (s:Stt):Prop where
 nd:s.ds.Nodup
 src:∀ q ∈ s.ss,cI q ∈ L0∨∃ d ∈ s.ds,cI q ∈ LB f n rl (nOf s d + 1) d
 st:∀ i ∈ L0,∀ c,i.2.2=some c→(c.1,c.2.2) ∈ s.ds∧nOf s (c.1,c.2.2)=0
 go:∀ (i:Nat) (d:Dd),i < j→s.ds[i]?=some d→∀ x ∈ LB f n rl (nOf s d + 1) d,∀ c,x.2.2=some c→(c.1,c.2.2) ∈ s.ds∧nOf s (c.1,c.2.2)≤nOf s d + 1
 f0:∀ i ∈ L0,i.2.2=none→Fl s.ft i.1.lv
 fg:∀ (i:Nat) (d:Dd),i < j→s.ds[i]?=some d→∀ x ∈ LB f n rl (nOf s d + 1) d,x.2.2=none→Fl s.ft x.1.lv
 fs:∀ g,s.ft=some g→(g.1,(g.2,none)) ∈ L0∨∃ d ∈ s.ds,(g.1,(g.2,none)) ∈ LB f n rl (nOf s d + 1) d
 pw:s.ss.Pairwise fun a b=>a.2.sp.n≤b.2.sp.n
 up:∀ d,s.ds[j]?=some d→∀ q ∈ s.ss,q.2.sp.n≤nOf s d + 1
variable {f n rl L0}
theorem Bf.start (h0:∀ i ∈ L0,i.1.n=0):Bf f n rl L0 0 (actL ⟨[],none⟩ L0):=by
 have A:=Xx L0 ⟨[],none⟩
 generalize actL ⟨[],none⟩ L0=s at A
 obtain ⟨r,e,hr⟩:=A.pre
 have hs:∀ q ∈ s.ss,cI q ∈ L0:=fun q hq=>by rw [e] at hq;exact hr q hq
 have hn0:∀ q ∈ s.ss,q.2.sp.n=0:=fun q hq=>h0 _ (hs q hq)
 have nd:=A.nd List.nodup_nil
 refine ⟨nd,fun q hq=>.inl (hs q hq),fun i hi c hc=>⟨A.call i hi c hc,?_⟩,fun i d hi=>absurd hi (Nat.not_lt_zero _),A.ft2,fun i d hi=>absurd hi (Nat.not_lt_zero _),fun g hg=>?_,?_,fun d _ q hq=>by rw [hn0 q hq];exact Nat.zero_le _⟩
 ·obtain ⟨q,hq,eq⟩:=Yt (A.call i hi c hc)
  rw [← eq,Zy nd hq,hn0 q hq]
 ·rcases A.ft3 g hg with z | z
  ·cases z
  ·exact .inl z
 ·rw [List.pairwise_iff_getElem]
  intro i j hi hj _
  rw [hn0 _ (List.getElem_mem hi)]
  exact Nat.zero_le _
theorem Bf.next {j:Nat} {s:Stt} {d:Dd} (B:Bf f n rl L0 j s) (hd:s.ds[j]?=some d):Bf f n rl L0 (j + 1) (J2 f n rl d s):=by
 rw [Go]
 have hdm:=List.mem_of_getElem? hd
 have A:=Xx (LB f n rl (nOf s d + 1) d) s
 have up0:=B.up d hd
 generalize hN:nOf s d + 1=N at A up0 ⊢
 generalize actL s (LB f n rl N d)=s' at A
 obtain ⟨r,e,hr⟩:=A.pre
 have nd:=A.nd B.nd
 have keep:∀ {d':Dd},d' ∈ s.ds→d' ∈ s'.ds:=fun h=>Wf e h
 have nk:∀ {d':Dd},d' ∈ s.ds→nOf s' d'=nOf s d':=fun h=>G3 e h
 have hrn:∀ q ∈ r,q.2.sp.n=N:=fun q hq=>(No f n rl (hr q hq)).1
 have eds:s'.ds=s.ds ++ r.map (·.1):=by unfold Stt.ds;rw [e,List.map_append]
 have allN:∀ q ∈ s'.ss,q.2.sp.n≤N:=fun q hq=>by
  rw [e] at hq
  rcases List.mem_append.mp hq with z | z
  ·exact up0 q z
  ·rw [hrn q z];exact Nat.le_refl _
 have leN:∀ {d':Dd},d' ∈ s'.ds→nOf s' d'≤N:=fun h=>by
  obtain ⟨q,hq,eq⟩:=Yt h
  rw [← eq,Zy nd hq]
  exact allN q hq
 have hjl:j < s.ds.length:=(List.getElem?_eq_some_iff.mp hd).1
 have pre:∀ i d',i < j + 1→s'.ds[i]?=some d'→s.ds[i]?=some d':=fun i d' hi h=>by
  rw [eds,List.getElem?_append_left (12:)] at h
  exact h
 refine ⟨nd,fun q hq=>?_,fun i hi c hc=>?_,fun i d' hi h x hx c hc=>?_,fun i hi h=>A.ft1 _ (B.f0 i hi h),fun i d' hi h x hx hc=>?_,fun g hg=>?_,?_,fun d' h q hq=>?_⟩
 ·rw [e] at hq
  rcases List.mem_append.mp hq with z | z
  ·rcases B.src q z with y | ⟨d',y1,y2⟩
   ·exact .inl y
   ·exact .inr ⟨d',keep y1,by rw [nk y1];exact y2⟩
  ·exact .inr ⟨d,keep hdm,by rw [nk hdm,hN];exact hr q z⟩
 ·obtain ⟨h1,h2⟩:=B.st i hi c hc
  exact ⟨keep h1,by rw [nk h1];exact h2⟩
 ·have h':=pre i d' hi h
  have hm:=List.mem_of_getElem? h'
  rw [nk hm] at hx ⊢
  rcases Nat.lt_or_ge i j with z | z
  ·obtain ⟨h1,h2⟩:=B.go i d' z h' x hx c hc
   exact ⟨keep h1,by rw [nk h1];exact h2⟩
  ·obtain rfl:i=j:=by lia
   obtain rfl:=Option.some.inj (h'.symm.trans hd)
   rw [hN] at hx ⊢
   have:=A.call x hx c hc
   exact ⟨this,leN this⟩
 ·have h':=pre i d' hi h
  have hm:=List.mem_of_getElem? h'
  rw [nk hm] at hx
  rcases Nat.lt_or_ge i j with z | z
  ·exact A.ft1 _ (B.fg i d' z h' x hx hc)
  ·obtain rfl:i=j:=by lia
   obtain rfl:=Option.some.inj (h'.symm.trans hd)
   rw [hN] at hx
   exact A.ft2 x hx hc
 ·rcases A.ft3 g hg with z | z
  ·rcases B.fs g z with y | ⟨d',y1,y2⟩
   ·exact .inl y
   ·exact .inr ⟨d',keep y1,by rw [nk y1];exact y2⟩
  ·exact .inr ⟨d,keep hdm,by rw [nk hdm,hN];exact z⟩
 ·rw [e,List.pairwise_append]
  refine ⟨B.pw,?_,fun a ha b hb=>by rw [hrn b hb];exact up0 a ha⟩
  rw [List.pairwise_iff_getElem]
  intro i j hi hj _
  rw [hrn _ (List.getElem_mem hi),hrn _ (List.getElem_mem hj)]
  exact Nat.le_refl _
 ·-- the next one has no fewer names
  have hd':nOf s d≤nOf s' d':=by
   rw [eds] at h
   have hk:j + 1 < (s.ds ++ r.map (·.1)).length:=(List.getElem?_eq_some_iff.mp h).1
   have hl:s'.ss.length=(s.ds ++ r.map (·.1)).length:=by rw [← eds];unfold Stt.ds;rw [List.length_map]
   have hj1:j + 1 < s'.ss.length:=by lia
   have hj0:j < s'.ss.length:=by lia
   have pw:s'.ss.Pairwise fun a b=>a.2.sp.n≤b.2.sp.n:=by
    rw [e,List.pairwise_append]
    refine ⟨B.pw,?_,fun a ha b hb=>by rw [hrn b hb];exact up0 a ha⟩
    rw [List.pairwise_iff_getElem]
    intro i j hi hj _
    rw [hrn _ (List.getElem_mem hi),hrn _ (List.getElem_mem hj)]
    exact Nat.le_refl _
   have:=(List.pairwise_iff_getElem.mp pw) j (j + 1) hj0 hj1 (12:)
   have e0:s'.ss[j].1=d:=by
    have h1:s'.ds[j]?=some d:=by rw [eds,List.getElem?_append_left hjl];exact hd
    unfold Stt.ds at h1
    rw [List.getElem?_map,List.getElem?_eq_getElem hj0] at h1
    exact Option.some.inj h1
   have e1:s'.ss[j + 1].1=d':=by
    rw [← eds] at h
    unfold Stt.ds at h
    rw [List.getElem?_map,List.getElem?_eq_getElem hj1] at h
    exact Option.some.inj h
   rw [← Zy nd (List.getElem_mem hj0),← Zy nd (List.getElem_mem hj1),e0,e1,nk hdm] at this
   exact this
  have:=allN q hq
  lia
theorem bfs:∀ (m j:Nat) (s:Stt),Bf f n rl L0 j s→∃ j',Bf f n rl L0 j' (YX f n rl m j s)∧((YX f n rl m j s).ds.length≤j'∨j'=j + m)
 | 0,j,s,B=>⟨j,B,.inr rfl⟩
 | m + 1,j,s,B=>by
  rw [YX]
  cases e:s.ds[j]? with
  | none=>exact ⟨j,B,.inl (List.getElem?_eq_none_iff.mp e)⟩
  | some d =>
   obtain ⟨j',h1,h2⟩:=bfs m (j + 1) _ (B.next e)
   exact ⟨j',h1,h2.imp id (12:)⟩
end
end K63
namespace K63
open PySem L2 TM TT K9 K11
def Q7 (s:Stt):Nat→Option Dd→List Int→List (Rw × Int)→List (Rw × Int) × List Int
 | 0,_,p,w=>(w,p)
 | _ + 1,none,p,w=>(w,p)
 | m + 1,some d,p,w=>match s.ss.find? fun q=>decide (q.1=d) with
  | some q=>Q7 s m q.2.sp.dm (q.2.pl ++ p) ((q.2.sp.row,q.2.br) :: w)
  | none=>(w,p)
def Le (ks:List KdT) (ab:Rw) (s:Stt) (sp:Spot):Prop:=UM ks sp.row∧(sp.dm=none→sp.n=0∧sp.row=ab)∧∀ d,sp.dm=some d→d ∈ s.ds∧sp.n=nOf s d + 1
structure Gd (ks:List KdT) (ab:Rw) (s:Stt):Prop where
 nd:s.ds.Nodup
 sp:∀ q ∈ s.ss,Le ks ab s q.2.sp∧q.2.pl.length≤100∧Xl (q.2.sp.row,q.2.br)
 ft:∀ f,s.ft=some f→Le ks ab s f.1∧f.2.length≤100
theorem Gd.find {ks:List KdT} {ab:Rw} {s:Stt} (g:Gd ks ab s) {d:Dd} (h:d ∈ s.ds):∃ q,s.ss.find? (fun q=>decide (q.1=d))=some q∧q ∈ s.ss∧q.1=d∧nOf s d=q.2.sp.n:=by
 cases e:s.ss.find? fun q=>decide (q.1=d) with
 | none =>
  obtain ⟨q,hq,eq⟩:=Yt h
  have:=List.find?_eq_none.mp e q hq
  simp [eq] at this
 | some q =>
  have hm:=List.mem_of_find?_eq_some e
  have hq:q.1=d:=by simpa using List.find?_some e
  exact ⟨q,rfl,hm,hq,by rw [← hq];exact Zy g.nd hm⟩
theorem Gj {ks:List KdT} {ab:Rw} {s:Stt} (g:Gd ks ab s):∀ (m:Nat) (sp:Spot) (p:List Int) (w:List (Rw × Int)),Le ks ab s sp→sp.n < m→(∀ q ∈ w,UM ks q.1∧Xl q) →
 ∃ w',(Q7 s m sp.dm p w).1=w' ++ w∧w'.length=sp.n∧(∀ q ∈ w' ++ w,UM ks q.1∧Xl q)∧(sp.n=0→sp.row=ab)∧∀ q,w'[0]?=some q→q.1=ab
 | 0,_,_,_,_,h,_=>absurd h (Nat.not_lt_zero _)
 | m + 1,sp,p,w,⟨h1,h2,h3⟩,hm,hw=>by
  cases e:sp.dm with
  | none =>
   obtain ⟨e0,er⟩:=h2 e
   exact ⟨[],rfl,by rw [e0];rfl,hw,fun _=>er,fun q hq=>by simp at hq⟩
  | some d =>
   obtain ⟨hd,hn⟩:=h3 d e
   obtain ⟨q,hf,hq,eq,en⟩:=g.find hd
   obtain ⟨s1,s2,s3⟩:=g.sp q hq
   have hw2:∀ x ∈ (q.2.sp.row,q.2.br) :: w,UM ks x.1∧Xl x:=fun x hx=>by
    rcases List.mem_cons.mp hx with z | z
    ·rw [z];exact ⟨s1.1,s3⟩
    ·exact hw x z
   obtain ⟨w',e1,e2,e3,e4,e5⟩:=Gj g m q.2.sp (q.2.pl ++ p) _ s1 (12:) hw2
   refine ⟨w' ++ [(q.2.sp.row,q.2.br)],?_,by rw [List.length_append,e2,List.length_singleton];lia,?_,fun z=>by lia,fun x hx=>?_⟩
   ·rw [Q7,hf]
    show (Q7 s m q.2.sp.dm (q.2.pl ++ p) _).1=_
    rw [e1,List.append_assoc];rfl
   ·rw [List.append_assoc];exact e3
   ·cases w' with
    | nil =>
     have:x=(q.2.sp.row,q.2.br):=by
      have:some (q.2.sp.row,q.2.br)=some x:=hx
      exact (Option.some.inj this).symm
     rw [this]
     exact e4 e2.symm
    | cons y r=>exact e5 x hx
theorem Jh (ks:List KdT) (s:Str):lv (QR ks s)=1:=rfl
theorem Ue (ks:List KdT):∀ ss:List Str,lvs (ss.map (QR ks))=if 0 < ss.length then 1 else 0
 | []=>rfl
 | s :: r=>by
  show max (lv (QR ks s)) (lvs (r.map (QR ks)))=_
  rw [Ue ks r,Jh]
  simp only [List.length_cons]
  rw [if_pos (Nat.succ_pos _)]
  split <;> rfl
theorem W7 (ks:List KdT) (r:Rw):lv (QX ks r)=1 + if 0 < r.2.length then 1 else 0:=by
 show 1 + lvs (r.2.map (QR ks))=_
 rw [Ue]
theorem Wi (ks:List KdT) (t:Tree Str) (ht:1≤lv t):∀ (ss:List Str) (i:Nat),i < ss.length→lvs ((ss.map (QR ks)).set i t)=lv t
 | [],i,h=>absurd h (Nat.not_lt_zero _)
 | s :: r,0,_=>by
  show max (lv t) (lvs (r.map (QR ks)))=_
  rw [Ue]
  split <;> lia
 | s :: r,i + 1,h=>by
  show max (lv (QR ks s)) (lvs ((r.map (QR ks)).set i t))=_
  rw [Wi ks t ht r i (by simpa using h),Jh]
  lia
theorem UO (ks:List KdT) {q:Rw × Int} (h:Xl q) (t:Tree Str):∃ i:Nat,q.2=(i:Int)∧i < q.1.2.length∧putB (QX ks q.1) [q.2] t=.node q.1.1 0 ((q.1.2.map (QR ks)).set i t):=by
 obtain ⟨i,e,hi⟩:=h
 refine ⟨i,e,hi,?_⟩
 rw [e]
 unfold QX
 rw [Ja (b:=QR ks q.1.2[i]) _ _ _ _ _ _ (by rw [Int.toNat_natCast,List.getElem?_map,List.getElem?_eq_getElem hi];rfl),JP,Int.toNat_natCast]
theorem V1 (ks:List KdT) (r:Rw):∀ w:List (Rw × Int),(∀ q ∈ w,UM ks q.1∧Xl q)→lv (Z4 ks w r)=w.length + 1 + if 0 < r.2.length then 1 else 0
 | [],_=>by
  show lv (QX ks r)=_
  rw [W7,List.length_nil]
 | q :: w,h=>by
  have ih:=V1 ks r w fun x hx=>h x (List.mem_cons_of_mem _ hx)
  obtain ⟨i,_,hi,e⟩:=UO ks (h q List.mem_cons_self).2 (Z4 ks w r)
  show lv (putB (QX ks q.1) [q.2] (Z4 ks w r))=_
  rw [e]
  show 1 + lvs _=_
  rw [Wi ks _ (12:) _ i hi,ih,List.length_cons]
  lia
theorem JS {ks:List KdT} {k1:Str} {s:Stt} (g:Gd ks (S [],[k1]) s) {sp:Spot} (h:Le ks (S [],[k1]) s sp) {m:Nat} (hm:sp.n < m) (p:List Int):∃ u,(Z4 ks (Q7 s m sp.dm p []).1 sp.row).bs[0]?=some u∧lv u=sp.lv∧(Q7 s m sp.dm p []).1.length=sp.n∧∀ q ∈ (Q7 s m sp.dm p []).1,UM ks q.1∧Xl q:=by
 obtain ⟨w',e1,e2,e3,e4,e5⟩:=Gj g m sp p [] h hm fun q hq=>(nomatch hq)
 rw [List.append_nil] at e1 e3
 rw [e1]
 cases w' with
 | nil =>
  have er:=e4 e2.symm
  have e0:sp.n=0:=e2.symm
  refine ⟨QR ks k1,?_,?_,e2,e3⟩
  ·rw [er];rfl
  ·rw [Jh];unfold Spot.lv;rw [er,e0];rfl
 | cons q r =>
  have eq:=e5 q rfl
  obtain ⟨i,ei,hi,ep⟩:=UO ks (e3 q List.mem_cons_self).2 (Z4 ks r sp.row)
  rw [eq] at hi
  obtain rfl:i=0:=by
   have:i < 1:=hi
   lia
  refine ⟨Z4 ks r sp.row,?_,?_,e2,e3⟩
  ·show (putB (QX ks q.1) [q.2] (Z4 ks r sp.row)).bs[0]?=_
   rw [ep,eq];rfl
  ·rw [V1 ks sp.row r fun x hx=>e3 x (List.mem_cons_of_mem _ hx)]
   unfold Spot.lv
   rw [← e2,List.length_cons]
end K63
namespace K63
open PySem L2 TM TT K9 K11
theorem WyAt.kp {K:PySem.W.Frag} {H H':Hp} {w:List (Addr × Rw × Int)} (k:Kp K H H') (h:WyAt K H w):WyAt K H' w:=fun q hq=>by
 obtain ⟨ra,h1,h2⟩:=h q hq
 exact ⟨ra,k.2 _ _ h1,h2.kp k⟩
theorem Kp.put {K:PySem.W.Frag} {H:Hp} {l:Addr} {xs:List V} {o:HO} (h:H l=some (.lst xs)):Kp K H (upd H l o):=⟨fun a ys e=>by rw [Qi (ne_of e h (18:))];exact e,fun a ys e=>e.put h⟩
def Nz (K:PySem.W.Frag) (C:Addr):Sp:=fun vs H Q _=>∃ (nm:Nat) (ks ks1:List KdT) (x dx tu kb st wt wd lm:Addr) (sv fv:V) (s:Stt) (k1:Str) (f:Spot × List Int) (u:Tree Str),vs=[.ref x]∧DmS K C nm ks H x dx tu kb st wt fv s∧SqT K H tu [.ref wd,sv,.ref lm]∧WoodAt K H wd ks1∧WoodOk ks1∧Gd ks1 (S [],[k1]) s∧s.ft=some f∧f.1.n≤900∧(Z4 ks1 (Q7 s (f.1.n + 1) f.1.dm f.2 []).1 f.1.row).bs[0]?=some u ∧
 ∀ (p qa:Addr) (v:V) (H':Hp),Same H H'→SqT K H' p [v,.ref qa]→TrV K H' v u→SqT K H' qa ((Q7 s (f.1.n + 1) f.1.dm f.2 []).2.map V.int)→Q (.ref p) H'
section
variable {P:Program} {w:World} {K:PySem.W.Frag} {mg:Str→Option Value} {base:Heap} {f:Addr} {fd:FuncData} {C:Addr}
theorem JX:FnScope ["self", "spot", "place", "demand", "way", "step"] ["self"] (defScope sTP):=(0:)
theorem Nk (F:Fun K "tree_and_place" "Demands.tree_and_place" sTP f fd) (G:Gm mg) (T:DmT K mg C) (RT:Fn P w K mg base 4 "tree_on" ["wood", "way", "row", "mark"] (Yg K)):FnOk P w K mg base CX0 5 f fd ["self"] (Nz K C):=by
 refine F.ok JX (8:) (2:)
 ·obtain ⟨nm,ks,ks1,x,dx,tu,kb,st,wt,wd,lm,sv,fv,s,k1,g,u,rfl,_⟩:=h
  rfl
 obtain ⟨nm,ks,ks1,x,dx,tu,kb,st,wt,wd,lm,sv,fv,s,k1,g,u,rfl,D,htu,hW,hO,hG,hft,hn9,hu,hQ⟩:=h
 refine ⟨_,(Qe (Ql (i:=1) JX.nd rfl (11:) (Qj Qk (QG (pv 0) rfl) Qf (4:)))
  (Qe (Ql (i:=2) JX.nd rfl (11:) (Qj Qk (QG (pv 0) rfl) Qf (4:)))
  (Qe (Ql (i:=3) JX.nd rfl (11:) (35:))
  (Qe (Ql (i:=4) JX.nd rfl (11:) (QK Qc))
  (Qe (Ul PassesOwn.never (Qs Wq (pv 3) Zi (Qr _)) (Qe (Ql (i:=5) JX.nd rfl (11:) (Jw (Um hr) (QG (pv 0) rfl) (pv 3) (4:)))
  (Qe (QL (YJ PySem.F.plainAttrs_list PySem.F.slot_list_insert PySem.F.type_list_insert XH (pv 4) (Qa (Qf) (Qa ((Qm (Qa (Qj Qk (Qj Qk (pv 5) Qf (4:)) Qf (4:)) (Qa (Qf) (Qa (Qj Qk (pv 5) Qf (4:)) Qc))))) Qc))))
  (Qe (Ql (i:=2) JX.nd rfl (11:) (Qo Y0 (Qj Qk (pv 5) Qf (4:)) (pv 2)))
  (Qg (Ql (i:=3) JX.nd rfl (11:) (Qj Qk (Qj Qk (pv 5) Qf (4:)) Qf (4:))))))))
  (Qg (Qn (Qm (Qa (Qv RT hr (Qa (Qj Qk (QG (pv 0) rfl) Qf (4:)) (Qa (pv 4) (Qa (35:) (Qa (Qf) Qc))))) (Qa (pv 2) Qc)))))))))),?_⟩
 have hx:=D.hx
 have fo:=D.fo
 rw [hft] at fo
 obtain ⟨fa,sp,pl,rfl,hfa,hsp,hpl⟩:=fo
 obtain ⟨vd,ra,p1,p2,p3⟩:=id hsp
 obtain ⟨gok,glen⟩:=hG.ft g hft
 refine ⟨_,rfl,x,C,dx,_,_,rfl,hx,T.cl,T.nF,rfl,fa,_,0,_,rfl,rfl,hfa,rfl,?_⟩
 refine ⟨_,rfl,x,C,dx,_,_,rfl,hx,T.cl,T.nF,rfl,fa,_,1,_,rfl,rfl,hfa,rfl,?_⟩
 refine ⟨_,rfl,sp,_,1,_,rfl,rfl,p1,rfl,(21:),fun lw hlw=>?_⟩
 have g1:=Qd hlw (.lst [])
 refine Jd (fun m σ H'=>∃ (c5:Option V) (pa:Addr) (q:List Int) (vd:V) (o:Option Dd) (wy:List (Addr × Rw × Int)),σ=[some (.ref x),some (.ref sp),some (.ref pa),some vd,some (.ref lw),c5]∧Same H H'∧H' lw=some (.lst (wy.map fun q=>V.ref q.1))∧WyAt K H' wy∧SqT K H' pa (q.map V.int)∧DdV H' vd o∧(∀ d,o=some d→d ∈ s.ds∧nOf s d + 1 < m)∧0 < m∧wy.length + m≤901∧q.length + 100 * m≤100 + 90100 ∧
  Q7 s m o q (wy.map (·.2))=Q7 s (g.1.n + 1) g.1.dm g.2 []) (g.1.n + 1)
  ⟨none,pl,g.2,vd,g.1.dm,[],rfl,g1,Qb,fun q hq=>(nomatch hq),g1.seqT hpl,p2.kp (K:=K) (.of g1),fun d hd=>⟨(gok.2.2 d hd).1,by have:=(gok.2.2 d hd).2;lia⟩,Nat.succ_pos _,by simp only [List.length_nil];lia,by lia,rfl⟩ ?_ ?_
 ·rintro m σ H' ⟨c5,pa,q,vd,o,wy,rfl,gs,hl,hwy,hpa,hvd,hod,hm0,hwl,hql,hway⟩
  obtain ⟨m,rfl⟩ : ∃ m',m=m' + 1:=⟨m - 1,by lia⟩
  cases o with
  | none =>
   obtain rfl:vd=.non:=hvd
   refine ⟨_,rfl,rfl,_,rfl,ZW ?_⟩
   have hw2:(wy.map (·.2),q)=Q7 s (g.1.n + 1) g.1.dm g.2 []:=hway
   rw [← hw2] at hu hQ
   obtain ⟨u',_,_,_,hqk⟩:=JS hG gok (Nat.lt_succ_self _) g.2
   rw [← hw2] at hqk
   refine ⟨_,rfl,x,C,dx,_,_,rfl,gs _ _ hx,T.cl,T.nT,rfl,tu,_,0,_,rfl,rfl,gs.seqT htu,rfl,_,rfl,_,rfl,sp,_,2,_,rfl,rfl,gs.seqT p1,rfl,wd,lw,ra,ks1,wy,g.1.row,u,rfl,hW.same gs,hO,hl,hwy,p3.kp (.of gs),gok.1,fun y hy=>hqk y.2 (List.mem_map_of_mem hy),hu,fun v H2 g2 hv=>⟨_,rfl,(17:),fun p hp=>?_⟩⟩
   have g3:=Qd hp (.tup [v,.ref pa])
   exact hQ p pa v _ (gs.trans (g2.trans g3)) (39:) (hv.mono fun _ _=>g3.seqT) ((g2.trans g3).seqT hpa)
  | some d =>
   obtain ⟨dp,rfl,hdp⟩:=hvd
   obtain ⟨hd,hnm⟩:=hod d rfl
   refine ⟨_,rfl,rfl,_,rfl,Zl ?_⟩
   have D':=D.same gs
   obtain ⟨kvs,a1,a2,a3⟩:=id D'.hst
   have ev:=JJ d kvs
   obtain ⟨e,hf,hq,eq,en⟩:=hG.find hd
   have ef:(kvs.find? fun q=>decide (q.1.1=d)).map (·.1)=some e:=by
    rw [← hf,← a1,List.find?_map];rfl
   cases ek:kvs.find? fun q=>decide (q.1.1=d) with
   | none=>rw [ek] at ef;cases ef
   | some z =>
    rw [ek] at ef ev
    have ez:z.1=e:=Option.some.inj ef
    obtain ⟨sa,sp',pl',ez2,z1,z2,z3⟩:=a3 z (List.mem_of_find?_eq_some ek)
    rw [ez] at z1 z2 z3
    obtain ⟨vd',ra',y1,y2,y3⟩:=id z2
    have hget:=DGet.t (k:=[Sum.inl d.1,Sum.inr d.2]) a2 hdp
    rw [ev,show (some z).map (·.2)=some z.2 from rfl,ez2] at hget
    obtain ⟨s1,s2,s3⟩:=hG.sp e hq
    refine ⟨_,rfl,x,C,dx,_,_,rfl,D'.hx,T.cl,T.nS,rfl,_,rfl,st,_,rfl,hget,?_⟩
    refine ⟨_,rfl,.inl ⟨rfl,_,SqL.of hl⟩,_,rfl,sa,_,0,_,rfl,rfl,z1,rfl,sp',_,2,_,rfl,rfl,y1,rfl,_,rfl,sa,_,2,_,rfl,rfl,z1,rfl,(33:),fun pt hpt=>?_⟩
    have g4:=Qd hpt (.tup [.ref ra',.int 0,.int e.2.br])
    refine ⟨lw,_,.ref pt,rfl,rfl,g4 _ _ hl,(by rw [List.length_map,QB];lia),?_⟩
    have k5:Kp K (upd H' pt (.tup [.ref ra',.int 0,.int e.2.br])) (47:):=Kp.put (g4 _ _ hl)
    have k45:Kp K H' (47:):=⟨fun a ys h=>k5.1 _ _ (g4 _ _ h),fun a ys h=>k5.2 _ _ (g4.seqT h)⟩
    have gs5:Same H (47:):=fun b o e=>by
     rw [Qi (Qh e hlw)]
     exact g4 _ _ (gs _ _ e)
    refine ⟨_,rfl,sa,_,1,_,rfl,rfl,k45.2 _ _ z1,rfl,_,rfl,pl',pa,_,_,rfl,rfl,k45.2 _ _ z3,k45.2 _ _ hpa,(by rw [List.length_map,List.length_map,QB];lia),fun p6 H6 g6 hp6=>?_⟩
    have k6:Kp K H' H6:=⟨fun a ys h=>g6 _ _ (k45.1 _ _ h),fun a ys h=>g6.seqT (k45.2 _ _ h)⟩
    refine ⟨_,rfl,sa,_,0,_,rfl,rfl,k6.2 _ _ z1,rfl,sp',_,1,_,rfl,rfl,k6.2 _ _ y1,rfl,?_⟩
    rw [← List.map_append] at hp6
    refine ⟨m,Nat.lt_succ_self _,_,p6,e.2.pl ++ q,vd',e.2.sp.dm,(pt,e.2.sp.row,e.2.br) :: wy,rfl,gs5.trans g6,g6 _ _ Qb,fun y hy=>?_,hp6,y2.kp k6,fun d' hd'=>?_,by lia,by simp only [List.length_cons];lia,by rw [List.length_append];lia,?_⟩
    ·rcases List.mem_cons.mp hy with z | z
     ·rw [z]
      exact ⟨ra',g6.seqT (k5.2 _ _ (39:)),y3.kp k6⟩
     ·exact hwy.kp k6 y z
    ·obtain ⟨h1,h2⟩:=s1.2.2 d' hd'
     exact ⟨h1,by lia⟩
    ·rw [← hway,Q7,hf];rfl
 ·intro σ H Q Q' hm h
  obtain ⟨v1,h1,h2,v2,h3,h4⟩:=h
  exact ⟨v1,h1,h2,v2,h3,hm _ _ h4⟩
end
end K63
namespace L2
open PySem PySem.Spec PyProof.Rows
def Lh (e:Expr):Arguments:=match e with
 | .Lambda a _ _ _=>a
 | _=>{ posonlyargs:=[],args:=[],vararg:=none,kwonlyargs:=[],kw_defaults:=[],kwarg:=none,defaults:=[] }
def Lo (e:Expr):Expr:=match e with
 | .Lambda _ b _ _=>b
 | _=>e
def VF (e:Expr):Scope:=match e with
 | .Lambda _ _ s _=>s
 | _=>{ kind:=.function,names:=[],isGenerator:=false,isCoroutine:=false }
def XD (e:Expr):Pos:=match e with
 | .Lambda _ _ _ p=>p
 | _=>⟨0,0,0,0⟩
def NE (s:Stmt):Expr:=match (defBody s).getLast? with
 | some (.Return (some e) _)=>e
 | _=>.Name "" ⟨0,0,0,0⟩
def Nr (e:Expr) (i:Nat):Expr:=match e with
 | .Call _ as _ _=>as.getD i e
 | _=>e
def WK (f:Addr) (fd:FuncData):HO:=.ext fun h=>h.get? f=some { cls:=.type "function", data:=.func fd }
def VE (c:Addr) (qual:Str):HO:=.ext fun h=>h.CodeRec (.ref c) qual
def TbS (H:Hp) (T:Addr) (pos:Pos) (qual:Str):Prop:=H T=some (.tbl #[])∨∃ c,H T=some (.tbl #[rawInt pos.line,rawInt pos.col,.ref c])∧H c=some (VE c qual)
theorem TbS.at {H:Hp} {T:Addr} {pos:Pos} {qual:Str} (h:TbS H T pos qual):∃ ps,H T=some (.tbl ps):=by
 rcases h with h | ⟨c,h,_⟩
 ·exact ⟨_,h⟩
 ·exact ⟨_,h⟩
theorem TbS.same {H H':Hp} {T:Addr} {pos:Pos} {qual:Str} (g:Same H H') (h:TbS H T pos qual):TbS H' T pos qual:=by
 rcases h with h | ⟨c,h,h2⟩
 ·exact .inl (g _ _ h)
 ·exact .inr ⟨c,g _ _ h,g _ _ h2⟩
def Jk (mg:Str→Option Value) (base:Heap):Prop:=∃ bm o,mg "__builtins__" = some (.ref bm)∧bm≠builtinsNs∧bm≠mainGlobals∧base.get? bm=some o∧o.cls=.type "module" ∧ o.dict=some builtinsNs∧o.data=.plain
section
variable {X:Cx}
theorem Wc {P:Program} {w:World} {H:Hp} {h:Heap} {f:Addr} {fd:FuncData} (e:h.get? f=some { cls:=.type "function", data:=.func fd }):ObjOk P w H h f (WK f fd):=⟨e,⟨_,e⟩,fun _ _ e1 k=>k _ e1⟩
theorem GB {P:Program} {w:World} {H:Hp} {h:Heap} {c:Addr} {qual:Str} (e:h.CodeRec (.ref c) qual):ObjOk P w H h c (VE c qual):=by
 refine ⟨e,?_,fun h1 h2 e1 k=>?_⟩
 ·obtain ⟨c',oc,vs,tq,z,hoc,_⟩:=e
  cases z
  exact ⟨_,hoc⟩
 ·obtain ⟨c',oc,vs,tq,z,hoc,r⟩:=e1
  cases z
  exact ⟨c,oc,vs,tq,rfl,k _ hoc,r⟩
end
end L2
namespace L2
open PySem PySem.Spec PyProof.Rows
section
variable {X:Cx}
end
section
variable {P:Program} {w:World} {K:PySem.W.Frag} {mg:Str→Option Value} {base:Heap}
theorem Lj {x:Str} {f c T:Addr} {oc:Value} {od:Option Addr} {fd:FuncData} {sl:Array (Option Value)} (hn:PySem.W.nsIn K mainGlobals x=some (some (.ref f))) (lk:K.lookup f=some ⟨oc,od,.func fd,sl⟩) (h:PySem.W.tabIn K x=some (c,T)):fd.code=.ref c:=by
 unfold PySem.W.tabIn at h
 rw [hn] at h
 simp only [lk] at h
 split at h
 ·rename_i c2 hc
  split at h
  ·split at h
   ·cases h;exact hc
   ·cases h
  ·cases h
 ·cases h
end
end L2
namespace L2
open PySem PySem.Spec PyProof.Rows
theorem WT {P:Program} {w:World} {K:PySem.W.Frag} {mg mb:Str→Option Value} {k:Nat} {fa a:Addr} {fd:FuncData} {x:Str} {sp:Sp} {s₁:Shared} {vs:List Value} {ns:List Int} {Ts:List Addr}
 (KX:K.In s₁.heap) (hns:s₁.heap.Ns mainGlobals mg) (hb:s₁.heap.Ns builtinsNs mb) (hbb:∀ x:Str,x ≠ "__name__" → mb x=bootBuiltins x) (hlim:s₁.heap.NoLimit) (hg:s₁.gens=#[]) (hbt:Jk mg s₁.heap)
 (hTs:∀ T ∈ Ts,s₁.heap.get? T=some { cls:=.none,data:=.fields #[] }∧isCodeTable s₁.heap T∧K.lookup T=none)
 (ha:s₁.heap.get? a=some { cls:=.type "list", data:=.seq vs.toArray }) (hi:IntsAre vs ns) (hl:ns.length≤sizeLine) (hr:Room k callerA)
 (F:∀ base:Heap,K.In base→base.Ns mainGlobals mg→Jk mg base→FnOk P w K mg base CX0 k fa fd [x] sp) (hbind:∀ (s:Shared) (u:Value),BindsTo s fd ⟨[u],[]⟩ [(x,u)])
 (hsp:∀ H:Hp,SqL K H a (ns.map V.int)→(∀ T ∈ Ts,H T=some (.tbl #[]))→sp [.ref a] H (fun v _=>v=.bl true) fun _ _ _=>False) :
 codeAny (model P w) callerA (.call (.ref fa) ⟨[.ref a],[]⟩) (23:) s₁:=by
 have rv:=YC hi
 have lenV:=hi.length
 have core:∀ H:Hp,(∀ b,H b=none∨(b=a∧K.lookup a=none∧∃ o xs,H b=some (.frz o (.lst xs)))∨(b ∈ Ts∧H b=some (.tbl #[])))→SqL K H a (ns.map V.int)→(∀ T ∈ Ts,H T=some (.tbl #[]))→HOk P w H s₁.heap →
  codeAny (model P w) callerA (.call (.ref fa) ⟨[.ref a],[]⟩) (23:) s₁:=by
  intro H hO hS hT hok
  have base_of:∀ {b:Addr} {o:Obj},s₁.heap.get? b=some o→H b=none→(ZZ s₁.heap H).get? b=some o:=fun e n=>Xd e n
  have noA:∀ {b:Addr} {o:Obj},s₁.heap.get? b=some o→(∀ xs n,o.data≠.seq xs n)→(∀ xs,o.data≠.fields xs)→H b=none:=fun {b o} e d1 d2=>by
   rcases hO b with z | ⟨rfl,_⟩ | ⟨z,_⟩
   ·exact z
   ·rw [ha] at e;cases e
    exact absurd rfl (d1 _ _)
   ·rw [(hTs b z).1] at e;cases e
    exact absurd rfl (d2 _)
  have nsK:∀ {b:Addr} {m:Str→Option Value},s₁.heap.Ns b m→(ZZ s₁.heap H).Ns b m:=fun {b m} ⟨o,es,ep,e,d,r⟩=>⟨o,es,ep,base_of e (noA e (fun _ _ z=>by rw [d] at z;cases z) (fun _ z=>by rw [d] at z;cases z)),d,r⟩
  have hKb:K.In (ZZ s₁.heap H):=fun b o e=>base_of (KX b o e) (by
   rcases hO b with z | ⟨rfl,hk,_⟩ | ⟨z,_⟩
   ·exact z
   ·rw [hk] at e;cases e
   ·rw [(hTs b z).2.2] at e;cases e)
  have hBt:Jk mg (ZZ s₁.heap H):=by
   obtain ⟨bm,o,b1,b2,b3,b4,b5,b6,b7⟩:=hbt
   exact ⟨bm,o,b1,b2,b3,base_of b4 (noA b4 (fun _ _ z=>by rw [b7] at z;cases z) (fun _ z=>by rw [b7] at z;cases z)),b5,b6,b7⟩
  have hM:Mod K mg (ZZ s₁.heap H):=⟨hKb,nsK hns,⟨mb,nsK hb,hbb⟩,let ⟨mc,h1,h2⟩:=hlim;⟨mc,nsK h1,h2⟩⟩
  have e0:Env0 P w K mg (ZZ s₁.heap H) callerA [] s₁ H:=⟨rfl,hM,fun b o e=>Wy e,Nat.le_of_eq (U4 _ _),trivial,fun b hb=>absurd (show b ∈ ([]:List Addr) from hb) (29:),hok,.of_eq hg⟩
  refine codeAny_mono ((F _ hKb (nsK hns) hBt).run callerA [] s₁ H ⟨[.ref a],[]⟩ [.ref a] [.ref a] _ _ hr e0 (hbind s₁ (.ref a)) (.cons rfl .nil) (hsp H hS hT)) fun r s' h=>?_
  cases r with
  | error e=>exact h.elim
  | ok fl =>
   cases fl with
   | next=>exact False.elim h
   | brk=>exact False.elim h
   | cont=>exact False.elim h
   | ret u =>
    obtain ⟨v,H',os,bare,un,hok',r',q⟩:=h
    have q':v=.bl true:=q
    subst q'
    obtain rfl:u=Value.bool true:=r'
    refine ⟨rfl,⟨fun b o e=>?_,fun b o e=>un.there b o e (29:)⟩,os,bare⟩
    rcases hO b with z | ⟨rfl,_,ob,xs,z⟩ | ⟨zT,z⟩
    ·exact .inl (un.keep b o e z (by intro z;exact absurd (show b ∈ ([]:List Addr) from z) (29:)) (29:))
    ·have z2:=un.frzs b ob _ z
     obtain ⟨e1,_⟩:=hok b _ z
     obtain ⟨e2,_⟩:=hok' b _ z2
     rw [e] at e1;cases e1
     exact .inl e2
    ·obtain ⟨more,z2⟩:=un.tbls b _ z
     have e2:s'.heap.get? b=some { cls:=.none,data:=.fields (#[] ++ more) }:=hok' b _ z2
     obtain ⟨t1,t2,_⟩:=hTs b zT
     rw [t1] at e;cases e
     exact .inr (.inl ⟨t2,rfl,#[],more,rfl,e2⟩)
 have haT:∀ T ∈ Ts,T≠a:=fun T hT z=>by
  have:=(hTs T hT).1
  rw [z,ha] at this;cases this
 cases hk:K.lookup a with
 | some o =>
  have e:=KX a o hk
  rw [ha] at e
  cases e
  refine core (fun b=>if b ∈ Ts then some (.tbl #[]) else none) (fun b=>?_) (.inr ⟨_,vs.toArray,_,hk,rfl,rfl,rfl,by rw [List.size_toArray,lenV];exact hl,by simpa using rv⟩) (fun T hT=>if_pos hT) (fun b u z=>?_)
  ·by_cases hb:b ∈ Ts
   ·exact .inr (.inr ⟨hb,if_pos hb⟩)
   ·exact .inl (if_neg hb)
  ·by_cases hb:b ∈ Ts
   ·have z':=(if_pos hb).symm.trans z
    cases z'
    exact (hTs b hb).1
   ·have z':=(if_neg hb).symm.trans z
    cases z'
 | none =>
  refine core (fun b=>if b=a then some (.frz { cls:=.type "list", data:=.seq vs.toArray } (.lst (ns.map V.int))) else if b ∈ Ts then some (.tbl #[]) else none) (fun b=>?_) (.inl (.inr ⟨{ cls:=.type "list", data:=.seq vs.toArray },if_pos rfl⟩)) (fun T hT=>(if_neg (haT T hT)).trans (if_pos hT)) (fun b u z=>?_)
  ·by_cases hb:b=a
   ·exact .inr (.inl ⟨hb,hk,_,_,if_pos hb⟩)
   ·by_cases hbT:b ∈ Ts
    ·exact .inr (.inr ⟨hbT,(if_neg hb).trans (if_pos hbT)⟩)
    ·exact .inl ((if_neg hb).trans (if_neg hbT))
  ·by_cases hb:b=a
   ·have z':=(if_pos hb).symm.trans z
    cases z'
    subst hb
    exact ⟨ha,by rw [List.length_map];exact hl,vs,_,rv,ha⟩
   ·have z1:=(if_neg hb).symm.trans z
    by_cases hbT:b ∈ Ts
    ·have z':=(if_pos hbT).symm.trans z1
     cases z'
     exact (hTs b hbT).1
    ·have z':=(if_neg hbT).symm.trans z1
     cases z'
structure TabAt (q:Program) (K:PySem.W.Frag) (x:Str) (c T:Addr):Prop where
 fnd:∃ d,(recsOf q).find? (fun e=>e.name == x)=some d
 tab:PySem.W.tabIn K x=some (c,T)
 hd:PySem.W.codeHdIn K c T=true
 no:K.lookup T=none
theorem walk_ofT {l:PySem.W.OpenLaw} {n k:Nat} {q:Program} {loose:List Str} {XP:(Str→Option Value)→Heap→Prop} {YP:World→Heap→Prop} {d:DefRec} {K:Params→PySem.W.Frag} {sp:World→Sp} {x:Str} {tabs:List (Str × Addr × Addr)}
 (hn:l.most=some n) (hn2:n≤sizeLine) (hdf:d.params.defaults=[]) (hr:Room k callerA)
 (hY:∀ (w:World) (h:Heap),YP w h→(K w.params).In h)
 (htab:∀ (w:World),∀ p ∈ tabs,TabAt q (K w.params) p.1 p.2.1 p.2.2)
 (F:∀ (w:World) (mg:Str→Option Value) (fa:Addr) (h:Heap),(K w.params).In h→h.Ns mainGlobals mg→mg d.name=some (.ref fa) →
  ∃ fd:FuncData,(∀ (s:Shared) (u:Value),BindsTo s fd ⟨[u],[]⟩ [(x,u)]) ∧
   ∀ base:Heap,(K w.params).In base→base.Ns mainGlobals mg→Jk mg base→FnOk l.prog w (K w.params) mg base CX0 k fa fd [x] (sp w))
 (hsp:∀ (w:World) (H:Hp) (a:Addr) (ns:List Int),ns.length≤n→SqL (K w.params) H a (ns.map V.int)→(∀ p ∈ tabs,H p.2.2=some (.tbl #[]))→sp w [.ref a] H (fun v _=>v=.bl true) fun _ _ _=>False) :
 PySem.W.WalkO q loose XP YP l.row.toRowW d [] (fun f vs=>PySem.call f vs):=by
 refine Att.attach_call hn hdf fun w s₀ s₁ mg mb fa o pm cd doc a vs ns G Y ho hd hcd hmg hobj hints hlen hg=>?_
 have KX:=hY w _ Y
 obtain ⟨fd,hb,hF⟩:=F w mg fa _ KX G.T.g hmg
 have hbt:Jk mg s₁.heap:=by
  obtain ⟨bm,ob,b1,b2,b3,b4,b5,b6⟩:=G.T.bmain
  have hbG:bm≠mainGlobals:=fun q=>by
   obtain ⟨o,es,ep,e,hd,_⟩:=G.T.g
   rw [q,e] at b3;cases b3;rw [hd] at b6;cases b6
  exact ⟨bm,ob,b1,b2,hbG,b3,b4,b5,b6⟩
 refine WT (Ts:=tabs.map fun p=>p.2.2) KX G.T.g G.T.b G.T.builtins G.T.nolimit hg hbt (fun T hT=>?_) hobj hints (Nat.le_trans hlen hn2) hr hF hb (fun H hS hT=>hsp w H a ns hlen hS fun p hp=>hT _ (List.mem_map.mpr ⟨p,hp,rfl⟩))
 obtain ⟨p,hp,rfl⟩:=List.mem_map.mp hT
 obtain ⟨⟨dd,hrec⟩,ht,_,hno⟩:=htab w p hp
 obtain ⟨hc,h0⟩:=PySem.W.tab_of G.T KX hrec ht
 exact ⟨h0,(hc.tab h0).isCodeTable,hno⟩
end L2
namespace L2
open PySem PySem.Spec PyProof.Rows
theorem ObjOk.there {P:Program} {w:World} {H:Hp} {h:Heap} {a:Addr} {o:HO} (x:ObjOk P w H h a o):∃ ob,h.get? a=some ob:=by
 cases o with
 | lst xs=>obtain ⟨_,_,_,_,e⟩:=x;exact ⟨_,e⟩
 | tup xs=>obtain ⟨_,_,_,_,e,_⟩:=x;exact ⟨_,e⟩
 | dK kvs=>obtain ⟨_,_,_,_,o,_,_,e,_⟩:=x;exact ⟨_,e⟩
 | dT kvs=>obtain ⟨_,_,_,_,o,_,_,e,_⟩:=x;exact ⟨_,e⟩
 | set S n=>obtain ⟨o,_,_,_,e,_⟩:=x;exact ⟨_,e⟩
 | ins C dx fs=>obtain ⟨_,_,_,e,_⟩:=x;exact ⟨_,e⟩
 | own y=>obtain ⟨_,e⟩:=x;exact ⟨_,e⟩
 | xd fs=>obtain ⟨_,⟨_,_,_,e,_⟩,_⟩:=x;exact ⟨_,e⟩
 | rng lo hi=>obtain ⟨_,_,_,e⟩:=x;exact ⟨_,e⟩
 | frz ob u=>obtain ⟨e,_⟩:=x;exact ⟨_,e⟩
 | tbl ps=>exact ⟨_,(show h.get? a=some _ from x)⟩
 | met f y=>exact ⟨_,(show h.get? a=some _ from x)⟩
 | ext φ=>obtain ⟨_,e,_⟩:=x;exact e
def Cov (B:Heap) (fs:List Addr) (H':Hp) (h h1:Heap):Prop:=∀ b o,h1.get? b=some o→(H' b≠none∨∃ o',h.get? b=some o')→b ∉ fs→B.get? b=some o
structure Flw (P:Program) (w:World) (outer:List Env) (H:Hp) (s:Shared) (a:Addr) (cls:Value) (H':Hp) (s':Shared):Prop where
 os:s'.os=s.os
 bare:AllBare s'.gens
 un:Un (frs outer) [] H H' s.heap s'.heap
 hok:HOk P w H' s'.heap
 fly:∃ B t,Heap.FlyingW B outer a cls (.ref t) s'.heap∧Cov B (frs outer) H' s.heap s'.heap
def CX1 (P:Program) (w:World):CXT:=fun outer H s E e s'=>∃ (a:Addr) (cls:Value) (H':Hp),e=.ref a∧Flw P w outer H s a cls H' s'∧E cls none H'
theorem MN {fs:List Addr} {H H':Hp} {h h1 h2 B:Heap} (u:Un fs [] H H' h h1) (cov:Cov B fs H' h h1) (st:B.StaysIn h2) (up:h1.UpToSlots h2) (hfs:∀ b ∈ fs,∀ o,h1.get? b=some o→∀ vs,o.data≠.fields vs):Un fs [] H H' h h2 where
 keep:=fun b o e n hb hx=>st _ _ (cov b o (u.keep b o e n hb hx) (.inr ⟨o,e⟩) hb)
 slot:=fun b o e n hb hx=>by
  obtain ⟨sl,e1⟩:=u.slot b o e n hb hx
  obtain ⟨sl2,e2⟩:=up b _ e1 (hfs b hb _ e1)
  exact ⟨sl2,e2⟩
 free:=u.free
 there:=fun b o e hx=>by
  obtain ⟨o1,e1⟩:=u.there b o e hx
  by_cases hb:b ∈ fs
  ·obtain ⟨sl2,e2⟩:=up b _ e1 (hfs b hb _ e1)
   exact ⟨_,e2⟩
  ·exact ⟨o1,st _ _ (cov b o1 e1 (.inr ⟨o,e⟩) hb)⟩
 tups:=u.tups
 frzs:=u.frzs
 tbls:=u.tbls
theorem Lv {P:Program} {w:World} {fs:List Addr} {H':Hp} {h h1 h2 B:Heap} (hok:HOk P w H' h1) (trk:∀ b ∈ fs,H' b=none) (cov:Cov B fs H' h h1) (st:B.StaysIn h2):HOk P w H' h2:=fun b u e=>by
 refine (hok b u e).stay (fun c v hc r=>?_) (fun _ r=>r) fun _ _ r=>r
 have hne:H' c≠none:=by
  rcases hc with rfl | hc
  ·rw [e];intro z;cases z
  ·rw [hc];intro z;cases z
 exact st _ _ (cov c v r (.inl hne) fun z=>hne (trk c z))
section
variable {X:Cx} {pins:List (7:)} {σ:St} {H H':Hp} {s s':Shared}
theorem Uk {B:Heap} {l:List Env} {h:Heap} (hl:h.FunFrames B l):∀ b ∈ frs l,∀ o,h.get? b=some o→∀ vs,o.data≠.fields vs:=fun b hb o e vs=>by
 obtain ⟨_,o',e',d⟩:=hl.mem hb
 rw [e] at e'
 cases e'
 exact d vs
theorem Wk (I:Inv X pins σ H s) (u:Un (frs X.stack) [] H H' s.heap s'.heap):∀ b ∈ frs X.stack,H' b=none:=fun b hb=>by
 obtain ⟨_,o,ho,_⟩:=I.stack.mem hb
 exact u.free b o ho (I.stkFree b hb) (29:)
theorem Inv.flown {h2 B:Heap} (I:Inv X pins σ H s) (os:s'.os=s.os) (bare:AllBare s'.gens) (un:Un (frs X.stack) [] H H' s.heap s'.heap) (hok:HOk X.prog X.w H' s'.heap) (hfr:s'.heap.FunFrames B X.stack) (cov:Cov B (frs X.stack) H' s.heap s'.heap) (st:B.StaysIn h2) (up:s'.heap.UpToSlots h2) :
 Inv X pins σ H' { s' with heap:=h2 } :=
 I.call' (s':={ s' with heap:=h2 }) (ch:=[]) os (MN un cov st up (Uk hfr)) (Lv hok (Wk I un) cov st) bare (fun b z=>absurd z (29:))
theorem Cov.out {B h2:Heap} {H0:Hp} {s0:Shared} (I:Inv X pins σ H s) (hH0:X.H₀=H0) (hs0:X.s₀=s0) (hex:X.ex=[]) (un:Un (frs X.stack) [] H H' s.heap s'.heap) (hok:HOk X.prog X.w H' s'.heap) (cov:Cov B (frs X.stack) H' s.heap s'.heap) (st:B.StaysIn h2):Cov B X.fs H' s0.heap h2:=fun b o e hb nb=>by
 have key:∃ o',s'.heap.get? b=some o'∧b ∉ frs X.stack∧(H' b≠none∨∃ o',s.heap.get? b=some o'):=by
  rcases hb with hb | ⟨o',hb⟩
  ·cases hH:H' b with
   | none=>exact absurd hH hb
   | some u =>
    obtain ⟨o',ho'⟩:=(hok b u hH).there
    refine ⟨o',ho',fun z=>?_,.inl (18:)⟩
    rw [Wk I un b z] at hH
    cases hH
  ·have h1:X.s₀.heap.get? b=some o':=by rw [hs0];exact hb
   obtain ⟨o1,e1⟩:=I.base.there b o' h1 (by rw [hex];simp)
   obtain ⟨o2,e2⟩:=un.there b o1 e1 (29:)
   refine ⟨o2,e2,fun z=>?_,.inr ⟨o1,e1⟩⟩
   rcases List.mem_cons.mp (I.stkSub b z) with z | z
   ·rw [z] at h1
    exact absurd (Nat.lt_of_lt_of_le (Heap.lt_size h1) I.ok.above) (Nat.lt_irrefl _)
   ·exact nb z
 obtain ⟨o',h1,h2',h3⟩:=key
 have hB:=cov b o' h1 h3 h2'
 have:=st _ _ hB
 rw [e] at this
 cases this
 exact hB
end
section
variable {P:Program} {w:World} {K:PySem.W.Frag} {mg:Str→Option Value} {base:Heap} {N:List Str} {qual:Str} {scope:Scope} {f:Addr} {cd:Value} {A:Around} {outer:List Env} {s:Shared} {H:Hp} {E:XK}
theorem MI {pins:List (7:)} {σ:St} {H1:Hp} {s1:Shared} {a:Addr} {cls:Value} {args:List Value} {h':Heap} (I:Inv (41:) pins σ H1 s1) (hx:Heap.MadeExcOf s1.heap h' a cls args) (q:E cls none H1) :
 (41:).xe (.ref a) { s1 with heap:=h' }:=by
 show wpAny (model P w) (A.deeper (9:)) (leaving (9:) (.ref a)) _ _ _
 obtain ⟨stk,hstk⟩ : ∃ stk,stk=envOfC qual scope s.heap.objs.size f cd :: outer:=(53:)
 have hfr:s1.heap.FunFrames (PySem.W.hideAll s1.heap (frs stk)) stk:=by
  have:=I.stack
  rw [hstk]
  exact PySem.W.funFrames_hide this fun env he b hb=>List.mem_filterMap.mpr ⟨env,he,hb⟩
 have cov:Cov (PySem.W.hideAll s1.heap (frs stk)) (frs stk) H1 s1.heap s1.heap:=fun b o e _ nb=>PySem.W.hideAll_get _ e nb
 refine wpAny_leaves_madeW (base:=PySem.W.hideAll s1.heap (frs stk)) (h:=s1.heap) I.ok.frames rfl (fun b o q=>PySem.W.of_hideAll _ q) (hstk ▸ hfr) hx fun h2 t hfl2 tup hbt up=>?_
 subst hstk
 have up':s1.heap.UpToSlots h2:=(Heap.UpToSlots.of_keeps hx.keeps).trans up
 have J:=I.flown (s':=s1) rfl I.bare Un.refl I.hok hfr cov hfl2.1 up'
 exact ⟨a,cls,H1,rfl,⟨J.os,J.bare,J.base,J.hok,_,t,hfl2,Cov.out (s':=s1) I rfl rfl rfl Un.refl I.hok cov hfl2.1⟩,q⟩
end
end L2
namespace L2
open PySem PySem.Spec PyProof.Rows
abbrev Vv:List Value:=[.type "ValueError", .type "Exception", .type "BaseException", .type "object"]
theorem GL {K:PySem.W.Frag} {h:Heap} {C:Addr} {bmB:List Value} {newId:String} (X:K.In h) (q:PySem.W.excIn K C bmB newId=true) :
 ∃ tl N nm qn bs hdct sn sub ab col dd k0 k1 k2 k3 k5 mN,h.get? C=some (excClassObj nm qn C N bs tl hdct sn sub ab col dd k0 k1 k2 k3 k5 newId)∧h.Ns N mN∧mN "__init__" = none∧OwnTail h bmB tl:=by
 unfold PySem.W.excIn at q
 split at q
 ·rename_i dd cd sl ho
  split at q
  ·rename_i C' bm k0 k1 k2 k3 n k5 hm hs
   simp only [Bool.and_eq_true,beq_iff_eq,Bool.not_eq_true'] at q
   obtain ⟨⟨⟨⟨⟨e1,e2⟩,hdel⟩,ht⟩,hok⟩,hni⟩:=q
   subst e1 e2
   obtain ⟨nm,bs,mro,ns,qn,hd,sn,sub,ab,col,del⟩:=cd
   dsimp only at hm hdel hok hni
   subst hm hdel
   have hsl:sl=#[k0,k1,k2,k3,some (.builtin n),k5]:=by
    obtain ⟨l⟩:=sl
    exact congrArg Array.mk hs
   subst hsl
   exact ⟨bm,ns,nm,qn,bs,hd,sn,sub,ab,col,dd,k0,k1,k2,k3,k5,_,X _ _ ho,.of_isNs (PySem.W.isNs_of_in X hok),PySem.W.nsMap_none_of_in X hok hni,PySem.W.tail_of_in X ht⟩
  ·cases q
 ·cases q
def Mm (C:Addr) (E:XK) (t:TA):TS:=fun D σ H=>t σ H fun vs H1=>vs.length≤sizeLine∧E (.ref C) none H1
section
variable {P:Program} {w:World} {K:PySem.W.Frag} {mg:Str→Option Value} {base:Heap} {N:List Str} {qual:Str} {scope:Scope} {f:Addr} {cd:Value} {A:Around} {outer:List Env} {s:Shared} {H:Hp} {E:XK}
theorem JO {x:Str} {C:Addr} {newId Bn inN:String} {bmN:List Value} {e:Expr} {es:List Expr} {t:TA} {np cpos pos:Pos} (hm:mg x=some (.ref C)) (hq:PySem.W.excIn K C Vv newId=true) (Fn:ExcBaseFacts Bn newId inN bmN) (hBn:Vv.contains (.type Bn)=true)
 (ha:PA (41:) (e :: es) t) (hg:Gl (41:) x:=by rfl) (hd:(34:)=false:=by decide)
 (he:starEach (e :: es) (9:)=(false,eval e (9:)) :: starEach es (9:):=by rfl) (hpl:(backTo cpos (starEach es (9:))).any (·.1)=false:=by rfl) :
 PS (41:) (.Raise (some (.Call (.Name x np) (e :: es) [] cpos)) none pos) (Mm C E t):=by
 intro pins s1 σ H1 D I h
 obtain ⟨tl,N',nm,qn,bs,hdct,sn,sub,ab,col,dd,k0,k1,k2,k3,k5,mN,hC,hN,hni,T⟩:=GL (h:=base) I.ok.mod.kin hq
 refine wpAny_Raise_call_subU (C:=C) (nm:=nm) (q:=qn) (N:=N') (bs:=bs) (bm:=tl) (hdct:=hdct) (sn:=sn) (sub:=sub) (ab:=ab) (col:=col) (dd:=dd) (k0:=k0) (k1:=k1) (k2:=k2) (k3:=k3) (k5:=k5)
  Fn hBn PySem.F.excBase_ValueError (mN:=mN) (T.hasType PySem.F.excBase_ValueError.hasBase) (I.ok.hd rfl) ?_ hni (ZU I hg hm ⟨rfl,?_⟩ hd)
 ·show (backTo cpos (starEach (e :: es) (9:))).any (·.1)=false
  rw [he]
  show (false || (backTo cpos (starEach es (9:))).any (·.1))=false
  rw [hpl];rfl
 ·have hw:=ha cpos pins s1 σ H1 _ I h
  show wpAny (model P w) (A.deeper (9:)) (evalArgs (.ref C) true (backTo cpos (starEach (e :: es) (9:))) []) _ _ s1
  have hw':wpAny (model P w) (A.deeper (9:)) (spliced (backTo cpos (starEach (e :: es) (9:)))) _ _ s1:=hw
  rw [he] at hw' ⊢
  refine Calls.evalArgs_plain (wpAny_mono hw' (fun us s2 h2=>?_) fun _ _ y=>y)
  obtain ⟨vs,H2,I2,r,hl,q⟩:=h2
  exact ⟨rfl,by rw [← r.length];exact hl,I2.bk _ _ hC,hN.keeps I2.bk,T.keeps I2.bk,fun h' a hx=>MI I2 hx q⟩
end
end L2
namespace L2
open PySem PySem.Spec PyProof.Rows
structure FnX (P:Program) (w:World) (K:PySem.W.Frag) (mg:Str→Option Value) (base:Heap) (k:Nat) (x:Str) (ps:List Str) (sp:Sp):Prop where
 ex:∃ (f:Addr) (fd:FuncData),FnOk P w K mg base (CX1 P w) k f fd ps sp∧Binds K fd ps []∧PySem.W.keepIn K (.ref f)=true∧mg x=some (.ref f)
def LM (X:Cx) (EE:St→XK):Prop:=∀ (pins:List (7:)) (σ:St) (H:Hp) (s:Shared) (e:Value) (s':Shared),Inv X pins σ H s→CX1 X.prog X.w X.stack H s (EE σ) e s'→X.xe e s'
def M4 (sp:Sp) (EE:St→XK) (t:TA):TE:=fun σ H Q=>t σ H fun vs H1=>sp vs H1 Q (EE σ)
section
variable {X:Cx}
theorem VN {k k':Nat} {x:Str} {ps:List Str} {sp:Sp} {EE:St→XK} {p pos:Pos} {e:Expr} {es:List Expr} {t:TA} (F:FnX X.prog X.w X.K X.mg X.base k x ps sp) (hr:Room k' X.A) (hx:LM X EE) (ha:PA X (e :: es) t) (hk:k≤k':=by decide) (hg:Gl X x:=by rfl)
 (hdb:(34:)=false:=by decide) (he:starEach (e :: es) X.env=(54:) :: starEach es X.env:=by rfl) (hpl:(49:).any (·.1)=false:=by rfl) :
 PE X (.Call (.Name x p) (e :: es) [] pos) (M4 sp EE t):=by
 obtain ⟨f,fd,h1,h2,h3,h4⟩:=F.ex
 intro pins s σ H Q I h
 refine wpAny_Call_Name_kw (ZU I hg h4 ?_ hdb)
 refine PySem.W.callWith_K (h₀:=X.base) I.ok.mod.kin h3 (thn (ha pos pins s σ H _ I h) fun us s1 ⟨vs,H1,I1,r,q⟩=>⟨I1.kIn,?_⟩) he hpl
 have hl:us.length=ps.length:=by rw [← r.length];exact h1.len _ _ _ _ q
 have hb:=h2 s1 us I1.kIn (by rw [List.append_nil];exact hl)
 rw [List.append_nil] at hb
 refine wpAny_call (codeAny_mono (h1.run X.A X.stack s1 H1 ⟨us,[]⟩ us vs Q (EE σ) (hr.mono hk) I1.env0 hb r q) fun r s' hq=>?_)
 cases r with
 | error e=>exact hx pins σ H1 s1 e s' I1 hq
 | ok fl =>
  cases fl with
  | ret u=>exact I1.after hq
  | next=>exact False.elim hq
  | brk=>exact False.elim hq
  | cont=>exact False.elim hq
end
section
variable {P:Program} {w:World} {K:PySem.W.Frag} {mg:Str→Option Value} {base:Heap} {N:List Str} {qual:Str} {scope:Scope} {f:Addr} {cd:Value} {A:Around} {outer:List Env} {s:Shared} {H:Hp} {E:XK}
theorem Fun.okX {x:Str} {st:Stmt} {fd:FuncData} {ps:List Str} {k:Nat} {sp:Sp} (F:Fun K x qual st f fd) (S:FnScope N ps (defScope st)) (len:∀ vs H Q E,sp vs H Q E→vs.length=ps.length)
 (hbody:∀ (cdv:Value) (A:Around) (outer:List Env) (s:Shared) (H:Hp) (vs:List V) (Q:VK) (E:XK),Room k (A.deeper (envOfC qual (defScope st) s.heap.objs.size f cdv))→sp vs H Q E →
  ∃ t,PSs (YD (CX1 P w) P w K mg base N qual (defScope st) f cdv A outer s H E) (defBody st) t∧t { nx:=fun _ H'=>Q .non H',rt:=Q } (start N vs) H):FnOk P w K mg base (CX1 P w) (k + 1) f fd ps sp:=by
 obtain ⟨oc,od,kV,doc,pm,an,cdv,ct,osl,rfl,lk,hcd⟩:=F.ex
 exact VA lk hcd S len fun A outer s H vs Q E hr hsp=>hbody cdv A outer s H vs Q E hr hsp
theorem Fun.okXC {x:Str} {st:Stmt} {fd:FuncData} {ps:List Str} {k:Nat} {sp:Sp} {c T:Addr} (F:Fun K x qual st f fd) (hn:PySem.W.nsIn K mainGlobals x=some (some (.ref f))) (hT:PySem.W.tabIn K x=some (c,T)) (S:FnScope N ps (defScope st)) (len:∀ vs H Q E,sp vs H Q E→vs.length=ps.length)
 (hbody:∀ (A:Around) (outer:List Env) (s:Shared) (H:Hp) (vs:List V) (Q:VK) (E:XK),Room k (A.deeper (envOfC qual (defScope st) s.heap.objs.size f (.ref c)))→sp vs H Q E →
  ∃ t,PSs (YD (CX1 P w) P w K mg base N qual (defScope st) f (.ref c) A outer s H E) (defBody st) t∧t { nx:=fun _ H'=>Q .non H',rt:=Q } (start N vs) H):FnOk P w K mg base (CX1 P w) (k + 1) f fd ps sp:=by
 obtain ⟨oc,od,kV,doc,pm,an,cdv,ct,osl,rfl,lk,hcd⟩:=F.ex
 have e:cdv=.ref c:=Lj hn lk hT
 subst e
 exact VA lk hcd S len fun A outer s H vs Q E hr hsp=>hbody A outer s H vs Q E hr hsp
end
abbrev Cx.pnd (X:Cx) (pins:List (7:)):Cx:={ X with pn:=X.pn ++ pins }
abbrev Cx.tryx (X:Cx) (pins:List (7:)) (EE:St→XK):Cx:={ X with pn:=X.pn ++ pins,xe:=fun e s'=>∃ pins' σ H s,Inv (X.pnd pins) pins' σ H s∧CX1 X.prog X.w X.stack H s (EE σ) e s' }
abbrev Cx.mrk (X:Cx) (a:Addr):Cx:={ X with A:=X.A.mark (some (.ref a)),calm:=false,xe:=fun _ _=>False }
section
variable {X:Cx} {pins:List (7:)} {σ:St} {H:Hp} {s:Shared} {EE:St→XK} {a:Addr}
theorem Inv.toTry (I:Inv X pins σ H s) (EE:St→XK):Inv (X.tryx pins EE) [] σ H s :=
 ⟨(15:),I.os,I.bare,I.base,I.loc,I.cell,I.free,I.freeC,fun p hp=>I.pin p (by simpa using hp),I.hok,I.len⟩
theorem Inv.ofTry {p2:List (7:)} (I:Inv (X.tryx pins EE) p2 σ H s):Inv X pins σ H s :=
 ⟨(15:),I.os,I.bare,I.base,I.loc,I.cell,I.free,I.freeC,fun p hp=>I.pin p (List.mem_append_left _ hp),I.hok,I.len⟩
theorem Inv.ofTryP {p2:List (7:)} (I:Inv (X.tryx pins EE) p2 σ H s):Inv (X.pnd pins) p2 σ H s :=
 ⟨(15:),I.os,I.bare,I.base,I.loc,I.cell,I.free,I.freeC,I.pin,I.hok,I.len⟩
theorem Inv.ofPnd {p2:List (7:)} (I:Inv (X.pnd pins) p2 σ H s):Inv X pins σ H s :=
 ⟨(15:),I.os,I.bare,I.base,I.loc,I.cell,I.free,I.freeC,fun p hp=>I.pin p (List.mem_append_left _ hp),I.hok,I.len⟩
theorem Inv.toMrk (I:Inv X pins σ H s) (a:Addr) (hf:(X.A.mark (some (.ref a))).frames=X.A.frames):Inv (X.mrk a) pins σ H s :=
 ⟨⟨I.ok.mod,I.ok.kind,I.ok.glob,I.ok.blt,I.ok.above,I.ok.inj,I.ok.has,I.ok.cab,fun z=>(nomatch z),hf.trans I.ok.frames,I.ok.stk,I.ok.exf,I.ok.bs,I.ok.bsz,I.ok.noex,I.ok.exfs,I.ok.funs,I.ok.frf⟩,I.os,I.bare,I.base,I.loc,I.cell,I.free,I.freeC,I.pin,I.hok,I.len⟩
theorem Inv.ofMrk (ok:X.Ok) (I:Inv (X.mrk a) pins σ H s):Inv X pins σ H s:=⟨ok,I.os,I.bare,I.base,I.loc,I.cell,I.free,I.freeC,I.pin,I.hok,I.len⟩
theorem SP.ofTry {D:Ends} {fl:Flow} {s':Shared} (h:SP (X.tryx pins EE) [] D fl s'):SP X pins D fl s':=by
 cases fl with
 | next=>obtain ⟨σ',H',I,q⟩:=h;exact ⟨σ',H',I.ofTry,q⟩
 | brk=>obtain ⟨σ',H',I,q⟩:=h;exact ⟨σ',H',I.ofTry,q⟩
 | cont=>obtain ⟨σ',H',I,q⟩:=h;exact ⟨σ',H',I.ofTry,q⟩
 | ret u=>obtain ⟨v,σ',H',I,r,q⟩:=h;exact ⟨v,σ',H',I.ofTry,r,q⟩
theorem SP.ofMrk {D:Ends} {fl:Flow} {s':Shared} (ok:X.Ok) (h:SP (X.mrk a) pins D fl s'):SP X pins D fl s':=by
 cases fl with
 | next=>obtain ⟨σ',H',I,q⟩:=h;exact ⟨σ',H',I.ofMrk ok,q⟩
 | brk=>obtain ⟨σ',H',I,q⟩:=h;exact ⟨σ',H',I.ofMrk ok,q⟩
 | cont=>obtain ⟨σ',H',I,q⟩:=h;exact ⟨σ',H',I.ofMrk ok,q⟩
 | ret u=>obtain ⟨v,σ',H',I,r,q⟩:=h;exact ⟨v,σ',H',I.ofMrk ok,r,q⟩
theorem LF:LM (X.tryx pins EE) EE:=fun p2 σ H s e s' I h=>⟨p2,σ,H,s,I.ofTryP,h⟩
end
end L2
namespace L2
open PySem PySem.Spec PyProof.Rows
def Sub (g h:Heap):Prop:=∀ b o,g.get? b=some o→h.get? b=some o
section
variable {X:Cx} {pins:List (7:)} {σ:St} {H:Hp} {s:Shared}
end
abbrev JG (qual:Str) (e:Expr) (cl:List (Str × Addr)) (pm:Value) (c:Addr) (ctv:Value):FuncData:=PySem.W.kla_fn "<lambda>" qual (Lh e) (Lo e) (VF e) cl pm (.ref c) ctv
structure LamAtC (H:Hp) (f:Addr) (e:Expr) (cl:List (Str × Addr)):Prop where
 ex:∃ qual pm c ctv,H f=some (WK f (JG qual e cl pm c ctv))∧H c=some (VE c qual)
def N4 (T:Addr) (qual:Str) (e:Expr) (cl:List (Str × Addr)):TE:=fun σ H Q=>TbS H T (XD e) qual∧∀ f H',SameX T H H'→H f=none→LamAtC H' f e cl→TbS H' T (XD e) qual→Q (.ref f) H'
section
variable {X:Cx}
theorem G4 {cl:List (Str × Addr)} {a:Arguments} {b:Expr} {sc:Scope} {pos:Pos} {c T:Addr} (hcode:X.env.code=.ref c) (hC:PySem.W.codeHdIn X.K c T=true) (hB:Jk X.mg X.base) (hcl:closureFor sc X.env=pure cl:=by rfl) (hdef:defaultsOf a X.env=([],[]):=by rfl) :
 PE X (.Lambda a b sc pos) (N4 T (X.env.qual ++ "<lambda>") (.Lambda a b sc pos) cl):=by
 intro pins s σ H Q I h
 obtain ⟨ht,q⟩:=h
 obtain ⟨ps0,hT⟩:=ht.at
 obtain ⟨bm,ob,b1,b2,b3,b4,b5,b6,b7⟩:=hB
 have hbT:bm≠T:=fun z=>by have:=(I.bs _ _ b4).2;rw [z,hT] at this;cases this
 have hg:s.heap.Ns mainGlobals X.mg:=I.mod.glob.keeps I.bk
 have hgT:mainGlobals≠T:=fun z=>by
  obtain ⟨o,es,ep,e,_⟩:=I.mod.glob
  have:=(I.bs _ _ e).2
  rw [z,hT] at this;cases this
 have hb:s.heap.BuiltinsAt X.mg T:=⟨bm,ob,b1,b2,b3,hbT,I.bk _ _ b4,b5,b6,b7⟩
 have hCd:PySem.W.CodeHd s.heap c T:=PySem.W.codeHd_of_K I.kIn hC
 have hLT:X.env.locals≠T:=fun z=>by have:=I.free;rw [z,hT] at this;cases this
 refine PySem.W.kla_eval hdef ?_
 rcases ht with h0 | ⟨c',h0,hc'⟩
 ·have hP:s.heap.get? T=some (PySem.W.tabObj #[]):=I.hok T _ h0
  refine PySem.W.kla_makeFunction (mg:=X.mg) hcl I.ok.glob hg hcode hCd hP trivial rfl hgT hb fun c' ctv h' tk hx hge hlt hrec htb=>?_
  obtain ⟨qual,hqual⟩ : ∃ qual,qual=X.env.qual ++ "<lambda>" := (53:)
  rw [← hqual] at hrec ⊢
  have hHc:H c'=none:=I.hok.fresh hge
  have hHf:H h'.objs.size=none:=I.hok.fresh (Nat.le_of_lt (Nat.lt_of_le_of_lt hge hlt))
  have nTc:T≠c':=Qh h0 hHc
  have nTf:T≠h'.objs.size:=Qh h0 hHf
  have ncf:c'≠h'.objs.size:=Nat.ne_of_lt hlt
  obtain ⟨fd,hfd⟩ : ∃ fd:FuncData,fd=JG qual (.Lambda a b sc pos) cl ((X.mg "__name__").getD .none) c' ctv:=(53:)
  have hob:PySem.W.kla_obj "<lambda>" qual a b sc cl ((X.mg "__name__").getD .none) c' ctv={ cls:=.type "function", data:=.func fd }:=by rw [hfd];rfl
  rw [hob]
  obtain ⟨ps,hps⟩ : ∃ ps:Array Value,ps=#[rawInt pos.line,rawInt pos.col,.ref c']:=(53:)
  have htb':h'.get? T=some { cls:=.none,data:=.fields ps }:=by rw [hps];exact htb
  obtain ⟨H',hH'⟩ : ∃ H':Hp,H'=upd (upd (upd H T (.tbl ps)) c' (VE c' qual)) h'.objs.size (WK h'.objs.size fd):=(53:)
  have eF:H' h'.objs.size=some (WK h'.objs.size fd):=by rw [hH'];exact Qb
  have eC:H' c'=some (VE c' qual):=by rw [hH',Qi ncf];exact Qb
  have eT:H' T=some (.tbl ps):=by rw [hH',Qi nTf,Qi nTc];exact Qb
  have eO:∀ x,x≠T→x≠c'→x≠h'.objs.size→H' x=H x:=fun x n1 n2 n3=>by rw [hH',Qi n3,Qi n2,Qi n1]
  have eK:∀ x u,H x=some u→x≠T→H' x=some u:=fun x u e n1=>by rw [eO x n1 (Qh e hHc) (Qh e hHf)];exact e
  have hpush:∀ x o,h'.get? x=some o→(h'.push { cls:=.type "function", data:=.func fd }).get? x=some o:=fun x o e=>Heap.get?_push_of_some _ e
  have J:Inv X pins σ H' { s with heap:=h'.push { cls:=.type "function", data:=.func fd },toks:=tk }:=by
   refine I.step (g':=s.gens) (d':=s.drawn) (ch:=[]) (fun _ z=>nomatch z) (fun x o _ _ _ e n=>?_) (fun x o _ _ _ e n=>?_) (fun x o _ e n=>?_) (fun x o _ e=>?_) (fun x xs e=>?_) (fun x o u e=>?_) (fun x qs e=>?_) (fun m hn=>?_) (fun x o e=>?_) I.bare
   ·exact hpush _ _ (hx _ _ (fun z=>by rw [z,hT] at n;cases n) e)
   ·exact ⟨o.slots,hpush _ _ (hx _ _ (fun z=>by rw [z,hT] at n;cases n) e)⟩
   ·have lx:=Heap.lt_size e
    rw [eO x (fun z=>by rw [z,hT] at n;cases n) (Nat.ne_of_lt (Nat.lt_of_lt_of_le lx hge)) (Nat.ne_of_lt (Nat.lt_trans (Nat.lt_of_lt_of_le lx hge) hlt))]
    exact n
   ·by_cases z:x=T
    ·exact ⟨_,hpush _ _ (z ▸ htb')⟩
    ·exact ⟨o,hpush _ _ (hx _ _ z e)⟩
   ·exact eK x _ e (ne_of e h0 (18:))
   ·exact eK x _ e (ne_of e h0 (18:))
   ·by_cases z:x=T
    ·subst z
     rw [h0] at e
     cases e
     exact ⟨ps,by rw [eT];simp⟩
    ·exact ⟨#[],by rw [eK x _ e z];simp⟩
   ·exact (hn.extBut hx hLT).push _
   ·by_cases z1:x=h'.objs.size
    ·subst z1
     rw [eF] at e
     cases e
     exact Wc (Heap.get?_push_size _ rfl)
    by_cases z2:x=c'
    ·subst z2
     rw [eC] at e
     cases e
     refine GB ?_
     obtain ⟨c2,oc,vs,tq,z,hoc,r⟩:=hrec
     exact ⟨c2,oc,vs,tq,z,hpush _ _ hoc,r⟩
    by_cases z3:x=T
    ·subst z3
     rw [eT] at e
     cases e
     exact hpush _ _ htb'
    rw [eO x z3 z2 z1] at e
    refine (I.hok x o e).stay (fun y u hy r=>?_) (fun y r=>?_) fun y xs r=>?_
    ·refine hpush _ _ (hx _ _ (fun z=>?_) r)
     rcases hy with hy | hy
     ·exact z3 (hy.symm.trans z)
     ·rw [z,hT] at hy;cases hy
    ·exact eK y _ r (ne_of r h0 (18:))
    ·exact eK y _ r (ne_of r h0 (18:))
  refine ⟨.ref h'.objs.size,H',J,rfl,q h'.objs.size H' (fun x u n e=>eK x u e n) hHf ⟨qual,_,c',ctv,by rw [eF,hfd],eC⟩ ?_⟩
  refine .inr ⟨c',?_,by rw [← hqual];exact eC⟩
  rw [eT,hps];rfl
 ·have hP:s.heap.get? T=some (PySem.W.tabObj #[rawInt pos.line,rawInt pos.col,.ref c']):=I.hok T _ h0
  have hf:codeAmong pos (#[rawInt pos.line,rawInt pos.col,Value.ref c']:Array Value).toList=some (.ref c'):=by
   show (if ((pos.line:Int) == (pos.line:Int) && (pos.col:Int) == (pos.col:Int))=true then some (Value.ref c') else _)=_
   simp
  refine PySem.W.kla_makeFunctionHit (mg:=X.mg) hcl I.ok.glob hg hcode hCd hP trivial hf hb fun ctv h' tk hk hsz=>?_
  obtain ⟨qual,hqual⟩ : ∃ qual,qual=X.env.qual ++ "<lambda>" := (53:)
  rw [← hqual]
  have hHf:H h'.objs.size=none:=I.hok.fresh hsz
  refine ⟨.ref h'.objs.size,upd H h'.objs.size (WK h'.objs.size (JG qual (.Lambda a b sc pos) cl ((X.mg "__name__").getD .none) c' ctv)),I.laid (t':=tk) (fun x o e=>Heap.get?_push_of_some _ (hk _ _ e)) hsz (Wc (Heap.get?_push_size _ rfl)),rfl,?_⟩
  have g:=Qd hHf (WK h'.objs.size (JG qual (.Lambda a b sc pos) cl ((X.mg "__name__").getD .none) c' ctv))
  refine q h'.objs.size _ (SameX.of g) hHf ⟨qual,_,c',ctv,Qb,g _ _ (by rw [hqual];exact hc')⟩ (.inr ⟨c',g _ _ h0,g _ _ hc'⟩)
end
end L2
namespace L2
open PySem PySem.Spec PyProof.Rows
section
variable {X:Cx}
end
end L2
namespace K3
def Zn:List Nat:=[97,98,99,100,101,102,103,104,105,106,107,108,109,110,111,112,113,114,115,116,117,118,119,120,121,122]
def run (L:List Nat) (t:List Nat):List Nat:=t.takeWhile fun c=>decide (c ∈ L)
def D (n:Nat):List Nat:=(Nat.toDigits 10 n).map Char.toNat
end K3
namespace K3
end K3
namespace L2
open PySem PySem.Spec PyProof.Rows
section
variable {X:Cx} {C:Addr} {k k':Nat} {m:Str} {ps:List Str} {sp:Sp} {o e:Expr} {es:List Expr} {ta:TE} {t:TA} {apos pos:Pos}
end
end L2
namespace K3
open PySem L2
end K3
namespace L2
open PySem PySem.Spec PyProof.Rows
section
variable {X:Cx}
section
variable {C:Addr} {k k':Nat} {m:Str} {ps:List Str} {sp:Sp} {o e:Expr} {es:List Expr} {ta:TE} {t:TA} {apos pos:Pos} {EE:St→XK}
end
end
section
variable {X:Cx}
end
end L2
namespace L2
open PySem PySem.Spec PyProof.Rows
def N8 (te:TE):TE:=fun σ H Q=>te σ H fun v H1=>∃ i:Int,v=.int i∧i.natAbs.log2 < 1920∧Q (.str (toString i)) H1
def Mr (t1 t2 t3:TE):TE:=fun σ H Q=>t1 σ H fun v1 H1=>∃ a:Str,v1=.str a∧a.length≤1000∧t2 σ H1 fun v2 H2=>∃ b:Str,v2=.str b∧b.length≤1000∧t3 σ H2 fun v3 H3=>∃ c:Str,v3=.str c∧c.length≤1000∧Q (.str (Str.empty ++ a ++ b ++ c)) H3
section
variable {X:Cx} {e e1 e2 e3:Expr} {te t1 t2 t3:TE} {pos:Pos}
theorem Li (he:PE X e te):PE X (.FormattedValue e (-1) none pos) (N8 te):=by
 intro pins s σ H Q I h
 refine PySem.wpAny_FormattedValue_plain (thn (he pins s σ H _ I h) fun u s1 ⟨x,H1,I1,r,i,ex,hd,q⟩=>?_)
 subst ex
 obtain ⟨t,rfl⟩:=r
 exact wpAny_formatField_int hd ⟨.str (toString i),H1,I1.tok _,(53:),q⟩
theorem Gh (h1:PE X e1 t1) (h2:PE X e2 t2) (h3:PE X e3 t3):PE X (.JoinedStr [e1,e2,e3] pos) (Mr t1 t2 t3):=by
 intro pins s σ H Q I h
 refine wpAny_JoinedStr ?_
 have e0:(Str.empty).length=0:=rfl
 refine thn (h1 pins s σ H _ I h) fun u1 s1 ⟨x1,H1,I1,r1,a,ea,la,q1⟩=>?_
 subst ea
 obtain ⟨ta,rfl⟩:=r1
 refine ⟨a,ta,rfl,Yf (by rw [strLen_append];lia),?_⟩
 refine thn (h2 pins s1 σ H1 _ I1 q1) fun u2 s2 ⟨x2,H2,I2,r2,b,eb,lb,q2⟩=>?_
 subst eb
 obtain ⟨tb,rfl⟩:=r2
 refine ⟨b,tb,rfl,Yf (by rw [strLen_append,strLen_append];lia),?_⟩
 refine thn (h3 pins s2 σ H2 _ I2 q2) fun u3 s3 ⟨x3,H3,I3,r3,c,ec,lc,q3⟩=>?_
 subst ec
 obtain ⟨tc,rfl⟩:=r3
 refine ⟨c,tc,rfl,Yf (by rw [strLen_append,strLen_append,strLen_append];lia),Yf (by rw [strLen_append,strLen_append,strLen_append];lia),?_⟩
 exact ⟨.str (Str.empty ++ a ++ b ++ c),H3,I3.tok _,(53:),q3⟩
end
end L2
namespace L2
open PySem PySem.Spec PyProof.Rows
section
variable {X:Cx}
end
end L2
namespace L2
open PySem PySem.Spec PyProof.Rows
section
variable {X:Cx}
end
end L2
namespace K63
open PySem L2 TM TT K9 K11
structure Rs (K:PySem.W.Frag) (mg:Str→Option Value) (x:Str) (N:Addr):Prop where
 hm:mg x=some (.ref N)
 hq:PySem.W.excIn K N Vv "ValueError.__new__" = true
structure DmM (P:Program) (w:World) (K:PySem.W.Frag) (mg:Str→Option Value) (base:Heap) (C:Addr) (n:Nat):Prop where
 t:DmT K mg C
 mi:∃ f fd,Mk K C f∧FnOk P w K mg base CX0 (n + 4) f fd ["self", "turning", "wood"] (Vz K C n)∧Binds K fd ["self", "turning", "wood"] []
 tp:∃ f fd,Meth K C "tree_and_place" f∧FnOk P w K mg base CX0 5 f fd ["self"] (Nz K C)∧Binds K fd ["self"] []
def W6 (ks ks1:List KdT) (nm n:Nat) (t0:Tm) (ms:List MoT) (k1 k0:Str):Stt:=YX (rowK ks) n (QU ks1 ms) (nm * ks.length + 1) 0 (Yq (rowK ks) n t0 k1 k0)
def Wp (K:PySem.W.Frag) (N:Addr) (n:Nat):Sp:=fun vs H Q E=>∃ (nm:Nat) (tu wd lm wo:Addr) (sv:V) (ks1 ks:List KdT) (k01 k00:KdT) (t0:Tm) (ms:List MoT) (s:Stt),vs=[.ref tu,.ref wo]∧TuAt K H tu wd sv lm ks1 t0 ms∧TuOk ks1 nm n t0 ms∧ks1[0]?=some k01∧WoodAt K H wo ks∧WG ks∧ks[0]?=some k00∧nm * ks.length≤1000∧n≤100∧s=W6 ks ks1 nm n t0 ms k01.2.1 k00.2.1 ∧
 (s.ds.Nodup→(∀ d ∈ s.ds,DOk nm ks d)→Gd ks1 (S [],[k01.2.1]) s) ∧
 ∀ (H':Hp),Same H H'→s.ds.Nodup→(∀ d ∈ s.ds,DOk nm ks d)→(s.ft=none→Q .non H')∧(∀ f,s.ft=some f→40 < f.1.lv→E (.ref N) none H')∧∀ (f:Spot × List Int) (u:Tree Str) (p qa:Addr) (v:V),s.ft=some f→f.1.lv≤40→(Z4 ks1 (Q7 s (f.1.n + 1) f.1.dm f.2 []).1 f.1.row).bs[0]?=some u→SqT K H' p [v,.ref qa]→TrV K H' v u→SqT K H' qa ((Q7 s (f.1.n + 1) f.1.dm f.2 []).2.map V.int)→Q (.ref p) H'
def Vr (K:PySem.W.Frag) (n:Nat):Sp:=fun vs H Q _=>∃ (nm:Nat) (tu wd lm wo:Addr) (sv:V) (ks1 ks:List KdT) (k01 k00:KdT) (t0:Tm) (ms:List MoT) (s:Stt),vs=[.ref tu,.ref wo]∧TuAt K H tu wd sv lm ks1 t0 ms∧TuOk ks1 nm n t0 ms∧ks1[0]?=some k01∧WoodAt K H wo ks∧WG ks∧ks[0]?=some k00∧nm * ks.length≤1000∧n≤100∧s=W6 ks ks1 nm n t0 ms k01.2.1 k00.2.1 ∧
 ∀ (H':Hp),Same H H'→s.ds.Nodup→(∀ d ∈ s.ds,DOk nm ks d)→Q (.bl s.ft.isSome) H'
section
variable {P:Program} {w:World} {K:PySem.W.Frag} {mg:Str→Option Value} {base:Heap} {f:Addr} {fd:FuncData} {C N:Addr}
theorem LH:FnScope ["turning", "wood", "demands"] ["turning", "wood"] (defScope Y7):=(0:)
theorem MY {n:Nat} (F:Fun K "strays" "strays" Y7 f fd) (M:DmM P w K mg base C n) (RL:Fn P w K mg base 1 "levels_needed" ["fault"] (J1 K)) (R:Rs K mg "TooGreat" N) {t40:Tok} (h40:mg "MOST_LEVELS_straying" = some (.int 40 t40)):FnOk P w K mg base (CX1 P w) (n + 6) f fd ["turning", "wood"] (Wp K N n):=by
 obtain ⟨fI,fdI,mkI,FI,bI⟩:=M.mi
 obtain ⟨fP,fdP,mP,FP,bP⟩:=M.tp
 have T:=M.t
 refine Fun.okX F LH (8:) (2:)
 ·obtain ⟨nm,tu,wd,lm,wo,sv,ks1,ks,k01,k00,t0,ms,s,rfl,_⟩:=h
  rfl
 obtain ⟨nm,tu,wd,lm,wo,sv,ks1,ks,k01,k00,t0,ms,s,rfl,hTu,hO,hk01,hWo,hWG,hk00,hnk,hn,es,hp,q⟩:=h
 have hr5:Room 5 _:=hr.mono (12:)
 have hr1:Room (n + 5) _:=hr.mono (12:)
 refine ⟨_,(Qe (Ql (i:=2) LH.nd rfl (11:) (Jq mkI FI hr rfl T.mgC bI .nil Zq (Qa (pv 0) (Qa (pv 1) Qc))))
  (Qe (Qz (Yy (YB (QG (pv 2) rfl))) (Qg (Qn Zi)) Qq)
  (Qe (Qz (Qs Wr (Qv RL hr (Qa (QG (pv 2) rfl) Qc) (12:)) (Q4 (v:=.int 40) rfl h40 (53:)) (Qr _)) (Qg (JO R.hm R.hq PySem.F.excBase_ValueError (13:) (Qa (Gh QJ (Li (Q4 (v:=.int 40) rfl h40 (53:))) QJ) Qc))) Qq)
  (Qg (Qn (VL (pv 2) T.cl mP FP hr5 bP .nil Zq)))))),?_⟩
 refine ⟨_,rfl,_,rfl,fun x dx nx ndx ne=>?_⟩
 have s0:Same H (upd (upd H dx (.own x)) x (.ins C dx [])):=fun b o e=>by
  rw [Qi (Qh e nx),Qi (Qh e ndx)]
  exact e
 refine ⟨nm,x,dx,tu,wd,lm,wo,sv,ks1,ks,k01,k00,t0,ms,rfl,Qb,hTu.same s0,hO,hk01,hWo.same s0,hWG,hk00,hnk,hn,fun H1 kb st wt fv gx D=>⟨rfl,?_⟩⟩
 have D:DmS K C nm ks H1 x dx tu kb st wt fv s:=by rw [es];exact D
 have s1:Same H H1:=fun b o e=>gx b o (Qh e nx) (s0 b o e)
 have hG:=hp D.nd D.dk
 obtain ⟨q1,q2,q3⟩:=q H1 s1 D.nd D.dk
 refine ⟨_,rfl,x,C,dx,_,_,rfl,D.hx,T.cl,T.nF,rfl,_,rfl,?_⟩
 have fo:=D.fo
 cases hft:s.ft with
 | none =>
  rw [hft] at fo
  obtain rfl:fv=.non:=fo
  exact YA rfl (q1 hft)
 | some g =>
  rw [hft] at fo
  obtain ⟨fa,sp,pl,rfl,hfa,hsp,hpl⟩:=fo
  refine Zo (37:) ?_
  refine ⟨_,rfl,x,C,dx,_,_,rfl,D.hx,T.cl,T.nF,rfl,fa,sp,.ref pl,_,rfl,hfa,hsp.lvAt,_,_,rfl,rfl,_,rfl,XM (fun c=>?_) (fun c=>?_)⟩
  ·have c':((g.1.lv:Nat):Int) > 40:=of_decide_eq_true c
   exact ⟨_,rfl,by decide +kernel,40,rfl,by decide +kernel,_,rfl,by decide +kernel,_,rfl,by decide +kernel,(30:),q2 g hft (12:)⟩
  ·have c':¬ (((g.1.lv:Nat):Int) > 40):=fun z=>c (decide_eq_true z)
   obtain ⟨u,hu,hlv,_,_⟩:=JS hG (hG.ft g hft).1 (Nat.lt_succ_self _) g.2
   have hn9:g.1.n≤900:=by unfold Spot.lv at c';lia
   have hT1:=hTu.same s1
   refine ⟨_,rfl,x,dx,_,rfl,D.hx,rfl,nm,ks,ks1,x,dx,tu,kb,st,wt,wd,lm,sv,.ref fa,s,k01.2.1,g,u,rfl,D,hT1.tu,hT1.wd,hO.wo,hG,hft,hn9,hu,fun p qa v H2 g2 hp hv hq=>?_⟩
   exact (q H2 (s1.trans g2) D.nd D.dk).2.2 g u p qa v hft (12:) hu hp hv hq
theorem M9:FnScope ["turning", "wood"] ["turning", "wood"] (defScope Mo):=(0:)
theorem Mq {n:Nat} (F:Fun K "strays_at_all" "strays_at_all" Mo f fd) (M:DmM P w K mg base C n):FnOk P w K mg base CX0 (n + 6) f fd ["turning", "wood"] (Vr K n):=by
 obtain ⟨fI,fdI,mkI,FI,bI⟩:=M.mi
 have T:=M.t
 refine F.ok M9 (8:) (2:)
 ·obtain ⟨nm,tu,wd,lm,wo,sv,ks1,ks,k01,k00,t0,ms,s,rfl,_⟩:=h
  rfl
 obtain ⟨nm,tu,wd,lm,wo,sv,ks1,ks,k01,k00,t0,ms,s,rfl,hTu,hO,hk01,hWo,hWG,hk00,hnk,hn,es,q⟩:=h
 refine ⟨_,(Qg (Qn (Zf Wq (QG (Jq mkI FI hr rfl T.mgC bI .nil Zq (Qa (pv 0) (Qa (pv 1) Qc))) rfl) Zi (Qr _)))),?_⟩
 refine ⟨_,rfl,_,rfl,fun x dx nx ndx ne=>?_⟩
 have s0:Same H (upd (upd H dx (.own x)) x (.ins C dx [])):=fun b o e=>by
  rw [Qi (Qh e nx),Qi (Qh e ndx)]
  exact e
 refine ⟨nm,x,dx,tu,wd,lm,wo,sv,ks1,ks,k01,k00,t0,ms,rfl,Qb,hTu.same s0,hO,hk01,hWo.same s0,hWG,hk00,hnk,hn,fun H1 kb st wt fv gx D=>⟨rfl,?_⟩⟩
 have D:DmS K C nm ks H1 x dx tu kb st wt fv s:=by rw [es];exact D
 have s1:Same H H1:=fun b o e=>gx b o (Qh e nx) (s0 b o e)
 refine ⟨x,C,dx,_,_,rfl,D.hx,T.cl,T.nF,rfl,rfl,?_⟩
 have:=q H1 s1 D.nd D.dk
 have fo:=D.fo
 cases hft:s.ft with
 | none =>
  rw [hft] at fo this
  obtain rfl:fv=.non:=fo
  exact this
 | some g =>
  rw [hft] at fo this
  obtain ⟨fa,sp,pl,rfl,_⟩:=fo
  exact this
end
end K63
namespace L2
namespace LD
open PySem PySem.Spec PyProof.Rows PySem.W
def DEnt (h:Heap) (d:Addr) (ents:Array DictEntry) (ep:Nat):Prop:=∃ o,h.get? d=some o∧o.ExactDict∧o.data=.dict ents ep
section
variable {prog:Program} {w:World} {A:Around} {E:Value→Shared→Prop} {s:Shared} {d it:Addr} {ents:Array DictEntry} {ep i:Nat}
theorem DEnt.ty (x:DEnt s.heap d ents ep):s.TypeIs (.ref d) "dict" := by
 obtain ⟨o,g,e,_⟩:=x
 exact ⟨o,g,e.1⟩
end
theorem W2 {α:Type} {l:Array α} {m:List α} (h:l.toList=m):l.size=m.length:=by rw [← h,Array.length_toList]
section
variable {X:Cx}
end
theorem Ug {prog:Program} {w:World} {d:Addr} (hd:(d == sysModules)=false) :
 MeetsIn prog w (Builtin.«dict.__len__» ⟨[.ref d],[]⟩) (fun _ R s=>∃ ents ep,DEnt s.heap d ents ep∧R (.ok (.ret (.int ents.size s.toks))) { s with toks:=s.toks + 1 }) :=
 .of_wp fun A R s ⟨ents,ep,hm,h⟩=>by
  obtain ⟨o,ho,hc,hdat⟩:=hm
  show wpAny _ _ (dictSize d >>= _) _ _ s
  unfold dictSize
  refine wpAny_bind (wpAny_bind (wpAny_dictEntries ho hdat (wpAny_pure ?_)))
  show wpAny _ _ (Builtin.Dict.pendingCount d >>= _) _ _ s
  refine wpAny_bind (wpAny_pendingCount_other hd ?_)
  refine wpAny_ret_mkInt ?_
  rw [Nat.add_zero];exact h
theorem UL {prog:Program} {w:World} {A:Around} {E:Value→Shared→Prop} {s:Shared} {d:Addr} {ents:Array DictEntry} {ep:Nat} {Q:Value→Shared→Prop} (hd:(d == sysModules)=false) (hm:DEnt s.heap d ents ep) (hfit:(ents.size:Int) < 2 ^ 63)
 (h:Q (.int ents.size (s.toks + 1)) { s with toks:=s.toks + 1 + 1 }):wpAny (19:) A (call (.builtin "len") [.ref d]) Q E s:=by
 refine Calls.call_function_entry kind_len plain_len entry_len (args_len1 _) ?_
 unfold Builtin.«len»
 refine wpAny_bind (m:=oneArg "len" _) (wpAny_pure ?_)
 refine wpAny_bind (m:=callSpecial? (.ref d) (Str.ofString "__len__")) (wpAny_callSpecial?_slot (name:=Str.ofString "__len__") hm.ty F.slot_dict_len
  (call_meetsIn F.slot_dict_len hm.ty F.entry_dict_len (F.args_dict_len_1 _) (Ug hd) ⟨ents,ep,hm,?_⟩))
 show wpAny _ _ _ _ _ { s with toks:=s.toks + 1 }
 refine wpAny_bind (wpAny_holding (wpAny_pure ?_))
 refine wpAny_bind (wpAny_letGo ?_)
 show wpAny _ _ (if ((ents.size:Nat):Int) < 0 then _ else _) _ _ _
 rw [if_neg (12:)]
 show wpAny _ _ (if ((ents.size:Nat):Int) ≥ 2 ^ 63 then _ else _) _ _ _
 rw [if_neg (12:)]
 exact wpAny_bind (wpAny_mkInt (wpAny_pure ⟨_,rfl,h⟩))
section
variable {X:Cx}
theorem call_lenDT:Zc X (.builtin "len") (fun xs H Q=>∃ (d:Addr) (kvs:List (List Key × V)),xs=[.ref d]∧H d=some (.dT kvs)∧Q (.int (kvs.length:Int)) H):=by
 intro pins s σ H xs us Q I rr h
 obtain ⟨d,kvs,rfl,hd,q⟩:=h
 obtain ⟨u,rfl,rx⟩:=U6 rr
 cases rx
 obtain ⟨z,lo,ys,rkv,hD⟩:=Lz I.hok hd
 have hly:=Paired.length rkv
 obtain ⟨o,ents,ep,g1,g2,g3,g4,g5,g6⟩:=hD
 have hes:ents.size=kvs.length:=by rw [W2 g4,List.length_map,hly]
 have hl:=Yx
 exact UL lo ⟨o,g1,g2,g3⟩ (by rw [hes];lia) ⟨.int (kvs.length:Int),H,(I.tok _).tok _,⟨s.toks + 1,by rw [hes]⟩,q⟩
end
end LD
end L2
namespace K63
open PySem L2 TM TT K9 K11
def Z3 (r:PNx):PyData:=.tuple [.str r.2.1,.tuple (r.2.2.2.map .str)]
theorem Wm {K:PySem.W.Frag} {H:Hp}:∀ {rs:List PNx},(∀ t ∈ rs,RowAt K H t)→RdAll K H (rs.map fun t=>V.ref t.1) (rs.map Z3)
 | [],_=>.nil
 | t :: r,h=>.cons (.tup (h t List.mem_cons_self).1 (.cons (.str _) (.cons (.tup (h t List.mem_cons_self).2 (Jt _)) .nil))) (Wm fun u hu=>h u (List.mem_cons_of_mem _ hu))
theorem J0:∀ {rs:List PNx},(∀ r ∈ rs,PyData.strOk r.2.1=true)→(∀ r ∈ rs,∀ x ∈ r.2.2.2,PyData.strOk x=true)→PyData.canLayAll0 (rs.map Z3)=true
 | [],_,_=>by simp [PyData.canLayAll0]
 | r :: rs,h1,h2=>by
  simp only [List.map_cons,PyData.canLayAll0,Z3,PyData.canLay0,h1 r List.mem_cons_self,Uc _ (h2 r List.mem_cons_self),Bool.and_self,Bool.true_and]
  exact J0 (fun u hu=>h1 u (List.mem_cons_of_mem _ hu)) fun u hu=>h2 u (List.mem_cons_of_mem _ hu)
def Zk (k:KdT):Str × List PNx:=(k.2.1,k.2.2.2)
def ZV (p:Str × List PNx):PyData:=.tuple [.str p.1,.list (p.2.map Z3)]
theorem JV {K:PySem.W.Frag} {H:Hp}:∀ {ks:List KdT},(∀ k ∈ ks,SqT K H k.1 [.str k.2.1,.ref k.2.2.1]∧RowsL K H k.2.2.1 k.2.2.2)→RdAll K H (ks.map fun k=>V.ref k.1) ((ks.map Zk).map ZV)
 | [],_=>.nil
 | k :: r,h=>.cons (.tup (h k List.mem_cons_self).1 (.cons (.str _) (.cons (.lst (h k List.mem_cons_self).2.1 (Wm (h k List.mem_cons_self).2.2)) .nil))) (JV fun u hu=>h u (List.mem_cons_of_mem _ hu))
theorem U9:∀ {ks:List KdT},(∀ k ∈ ks,PyData.strOk k.2.1=true)→(∀ k ∈ ks,RowsOk k.2.2.2)→PyData.canLayAll0 ((ks.map Zk).map ZV)=true
 | [],_,_=>by simp [PyData.canLayAll0]
 | k :: r,h1,h2=>by
  have h3:PyData.canLayAll0 (k.2.2.2.map Z3)=true:=J0 (h2 k List.mem_cons_self).nm (h2 k List.mem_cons_self).kn
  simp only [List.map_cons,PyData.canLayAll0,ZV,Zk,PyData.canLay0,h1 k List.mem_cons_self,h3,Bool.and_self,Bool.true_and]
  exact U9 (fun u hu=>h1 u (List.mem_cons_of_mem _ hu)) fun u hu=>h2 u (List.mem_cons_of_mem _ hu)
theorem Uy:∀ rs:List PNx,PyData.depthAll (rs.map Z3)≤2
 | []=>by simp [PyData.depthAll]
 | r :: rs=>by
  have:=Uy rs
  simp only [List.map_cons,PyData.depthAll,Z3,PyData.depth,ZY]
  lia
theorem YO:∀ ks:List (Str × List PNx),PyData.depthAll (ks.map ZV)≤4
 | []=>by simp [PyData.depthAll]
 | k :: r=>by
  have h1:=YO r
  have h2:=Uy k.2
  simp only [List.map_cons,PyData.depthAll,ZV,PyData.depth]
  lia
section
variable {K:PySem.W.Frag} {H:Hp} {wd:Addr} {ks:List KdT}
end
def L4:TE:=fun _ _ _=>False
theorem ZH {X:Cx} {e:Expr}:PE X e L4:=fun _ _ _ _ _ _ h=>h.elim
abbrev Xt (K:PySem.W.Frag):List V→Hp→VK→Prop:=fun xs H Q=>∃ p ys,xs=[.ref p]∧(SqL K H p ys∨SqT K H p ys)∧∀ l,H l=none→Q (.ref l) (upd H l (.lst ys))
theorem NG {K:PySem.W.Frag} {H:Hp} {wd lx:Addr} {ks:List KdT} {R:Hp→Prop} (hW:WoodAt K H wd ks) (hO:WoodOk ks) (hlx:H lx=none) (q:∀ hs H',Same H H'→hs.map Zk=ks.map Zk→WoodAt K H' lx hs→R H') :
 U8 (Itl K wd) 2 [] (Lp K 2 (UB (Q8 0) (UB (Q8 1) GH))) (fun _ H Q=>Q true H) (La (ZA (YV 0) (ZA (tCB (Xt K) (ZA (YV 1) Ua)) Ua))) H lx R:=by
 refine X3 (K:=K) (xs:=ks.map fun k=>V.ref k.1) (cs:=[]) (tt:=fun _ H Q=>Q true H) (te:=La (ZA (YV 0) (ZA (tCB (Xt K) (ZA (YV 1) Ua)) Ua))) (fun j ys H'=>∃ hs:List KdT,ys=hs.map (fun k=>V.ref k.1)∧hs.map Zk=(ks.take j).map Zk∧(∀ k ∈ hs,SqT K H' k.1 [.str k.2.1,.ref k.2.2.1]∧(H' k.2.2.1=some (.lst (k.2.2.2.map fun t=>V.ref t.1))∧k.2.2.1≠lx)∧∀ t ∈ k.2.2.2,RowAt K H' t)∧H' lx=some (.lst ys)∧Same H H')
  ⟨[],rfl,rfl,fun k hk=>(nomatch hk),Qb,Qd hlx _⟩ ?_ ?_ ?_
 ·rintro j ys H' _ ⟨hs,_,_,_,_,g⟩
  exact (hW.same g).1
 ·rintro j x ys H' hj hx ⟨hs,rfl,hkey,hat,hya,g⟩
  have hjk:j < ks.length:=by simpa using hj
  obtain rfl:x=.ref ks[j].1:=by
   rw [List.getElem?_map,List.getElem?_eq_getElem hjk] at hx
   exact (Option.some.inj hx).symm
  obtain ⟨hk1,hkr⟩:=(hW.same g).2 _ (List.getElem_mem hjk)
  have hhl:hs.length=j:=by
   have:=congrArg List.length hkey
   rw [List.length_map,List.length_map,List.length_take] at this
   lia
  have hkl:=hO.len
  refine ⟨ks[j].1,_,_,rfl,hk1,Zl ⟨_,rfl,_,rfl,ks[j].2.2.1,_,rfl,.inl hkr.1,fun l2 hl2=>⟨(17:),fun p2 hp2=>?_⟩⟩⟩
  have e1:=Qd hl2 (.lst (ks[j].2.2.2.map fun t=>V.ref t.1))
  have e2:=Qd hp2 (.tup [.str ks[j].2.1,.ref l2])
  have e12:=e1.trans e2
  have hya2:=e12 _ _ hya
  have hl2x:l2≠lx:=fun z=>by rw [z,hya] at hl2;cases hl2
  refine Q6 (ys:=hs.map fun k=>V.ref k.1) hj hya2 (by rw [List.length_map];lia) ⟨hs ++ [(p2,ks[j].2.1,l2,ks[j].2.2.2)],by simp,?_,fun k hk=>?_,Qb,fun x u e=>by rw [Qi (Qh e hlx)];exact e12 _ _ (g _ _ e)⟩
  ·rw [List.map_append,hkey,List.take_add_one,List.getElem?_eq_getElem hjk,List.map_append]
   rfl
  ·rcases List.mem_append.mp hk with z | z
   ·obtain ⟨a1,⟨a2,a3⟩,a4⟩:=hat k z
    exact ⟨(e12.seqT a1).put hya2,⟨by rw [Qi a3];exact e12 _ _ a2,a3⟩,fun t ht=>⟨(e12.seqT (a4 t ht).1).put hya2,(e12.seqT (a4 t ht).2).put hya2⟩⟩
   ·have:k=(p2,ks[j].2.1,l2,ks[j].2.2.2):=by simpa using z
    rw [this]
    refine ⟨SqT.put (39:) hya2,⟨by rw [Qi hl2x];exact e2 _ _ Qb,hl2x⟩,fun t ht=>⟨(e12.seqT (hkr.2 t ht).1).put hya2,(e12.seqT (hkr.2 t ht).2).put hya2⟩⟩
 rintro ys H1 ⟨hs,rfl,hkey,hat,hya,g1⟩
 rw [List.length_map,List.take_length] at hkey
 exact q hs H1 g1 hkey ⟨SqL.of hya,fun k hk=>by
  obtain ⟨a1,⟨a2,_⟩,a4⟩:=hat k hk
  exact ⟨a1,SqL.of a2,a4⟩⟩
abbrev sTI:Stmt:=inClass (top 40) 0
abbrev sBR:Stmt:=inClass (top 40) 2
abbrev sTO:Stmt:=inClass (top 40) 3
def P0 (K:PySem.W.Frag) (H:Hp) (v:V) (nm:Str) (ad:Int):Prop:=∃ a b,v=.ref a∧SqT K H a [.str PUT,.str nm,.bl false,.int ad,.ref b]∧SqT K H b []
theorem P0.mono {K:PySem.W.Frag} {H H':Hp} {v:V} {nm:Str} {ad:Int} (k:∀ a xs,SqT K H a xs→SqT K H' a xs):P0 K H v nm ad→P0 K H' v nm ad
 | ⟨a,b,e,h1,h2⟩=>⟨a,b,e,k _ _ h1,k _ _ h2⟩
def tbf (ot:Addr) (l:Nat):List (Str × V):=[("other", .ref ot),("left", .int (l:Int))]
theorem Ln (ot:Addr) (l:Nat) (z:Int) (h:0 < l) (e:z=((l:Int) - 1)):QS "left" (.int z) (tbf ot l)=tbf ot (l - 1):=by
 unfold tbf
 rw [QP (1:),XY,e,show ((l:Int) - 1)=((l - 1:Nat):Int) by lia]
structure TbT (K:PySem.W.Frag) (mg:Str→Option Value) (C:Addr):Prop where
 cl:Cls K C
 nO:NoAttr K C "other"
 nL:NoAttr K C "left"
 mgC:mg "TermBehind" = some (.ref C)
def tb1 (ot:Addr):List (Str × V):=[("other", .ref ot)]
theorem OU (ot:Addr):QS "other" (.ref ot) []=tb1 ot:=rfl
theorem OS (ot:Addr):QS "left" (.int 200) (tb1 ot)=tbf ot 200:=by
 unfold tb1
 rw [QP (1:)];rfl
def NK (C:Addr):Sp:=fun vs H Q _=>∃ (x dx ot:Addr) (l room:Nat),vs=[.ref x,.int (room:Int)]∧H x=some (.ins C dx (tbf ot l))∧0 < l∧0 < room∧Q .non (upd H x (.ins C dx (tbf ot (l - 1))))
def NO (C:Addr):Sp:=fun vs H Q _=>∃ (x dx ot:Addr),vs=[.ref x,.ref ot]∧H x=some (.ins C dx [])∧Q .non (upd (upd H x (.ins C dx (tb1 ot))) x (.ins C dx (tbf ot 200)))
def NZ (K:PySem.W.Frag) (C:Addr):Sp:=fun vs H Q _=>∃ (x dx ot:Addr) (rv tv:V) (nm:Str) (ad:Int),vs=[.ref x,rv,tv,.int 30]∧H x=some (.ins C dx (tbf ot 200))∧P0 K H rv nm ad∧∀ (v:V) (H':Hp),SameX x H H'→P0 K H' v nm ad→Q v H'
structure TbM (P:Program) (w:World) (K:PySem.W.Frag) (mg:Str→Option Value) (base:Heap) (C:Addr):Prop where
 t:TbT K mg C
 mi:∃ f fd,Mk K C f∧FnOk P w K mg base CX0 1 f fd ["self", "other"] (NO C)∧Binds K fd ["self", "other"] []
 br:∃ f fd,Meth K C "by_rule" f∧FnOk P w K mg base CX0 2 f fd ["self", "rule", "read", "room"] (NZ K C)∧Binds K fd ["self", "rule", "read", "room"] []
def MW (K:PySem.W.Frag):Sp:=fun vs H Q _=>∃ (v:V) (nm:Str) (ad:Int),vs=[v]∧P0 K H v nm ad∧∀ (l:Addr) (H':Hp),Same H H'→H l=none→H' l=some (.lst [])→Q (.ref l) H'
def LY (K:PySem.W.Frag):Sp:=fun vs H Q _=>∃ (v:V) (l:Addr) (nm:Str) (ad:Int),vs=[v,.ref l]∧P0 K H v nm ad∧SqL K H l []∧∀ (v':V) (H':Hp),Same H H'→P0 K H' v' nm ad→Q v' H'
def Mg (K:PySem.W.Frag):Sp:=fun vs H Q _=>∃ (v:V) (d:V) (nm:Str) (ad:Int),vs=[v,d]∧P0 K H v nm ad∧∀ (v':V) (H':Hp),Same H H'→P0 K H' v' nm ad→Q v' H'
def L5 (K:PySem.W.Frag):Sp:=fun vs H Q _=>∃ (wd:Addr) (ks:List KdT),vs=[.ref wd]∧WoodAt K H wd ks∧WoodOk ks∧∀ (lx:Addr) (hs:List KdT) (H':Hp),Same H H'→hs.map Zk=ks.map Zk→WoodAt K H' lx hs→Q (.ref lx) H'
def MS (K:PySem.W.Frag):Sp:=fun vs H Q _=>∃ (d:Addr) (v:V) (nm:Str) (ad:Int),vs=[.ref d,v,.int 40]∧H d=some (.dT [])∧P0 K H v nm ad∧∀ (H':Hp),Same H H'→Q .non H'
def Mh (K:PySem.W.Frag):Sp:=fun vs H Q _=>∃ (wd:Addr) (v mb:V) (ks:List KdT) (nm:Str) (ad:Int),vs=[.ref wd,v,mb,.int 40]∧WoodAt K H wd ks∧WoodOk ks∧P0 K H v nm ad∧∀ (r tu lx ly:Addr) (dv v':V) (hs:List KdT) (H':Hp),Same H H'→SqT K H' r [.ref tu,dv]→SqT K H' tu [.ref lx,v',.ref ly]→hs.map Zk=ks.map Zk→WoodAt K H' lx hs→P0 K H' v' nm ad→SqL K H' ly []→Q (.ref r) H'
section
variable {P:Program} {w:World} {K:PySem.W.Frag} {mg:Str→Option Value} {base:Heap} {f:Addr} {fd:FuncData} {C:Addr}
theorem Oq:FnScope ["self", "room"] ["self", "room"] (defScope sTO):=(0:)
theorem M6 (F:Fun K "take_one" "TermBehind.take_one" sTO f fd) (T:TbT K mg C):FnOk P w K mg base CX0 1 f fd ["self", "room"] (NK C):=by
 refine F.ok Oq (8:) (2:)
 ·obtain ⟨x,dx,ot,l,room,rfl,_⟩:=h
  rfl
 obtain ⟨x,dx,ot,l,room,rfl,hx,hl,hro,q⟩:=h
 refine ⟨_,(Qe (Qz (Qs ZB (pv 1) Qf (Qr _)) QN Qq)
  (Qe (Qz (Qs ZB (QG (pv 0) rfl) Qf (Qr _)) QN Qq)
  (Qg (WN (pv 0) Qf Mj)))),?_⟩
 refine ⟨_,rfl,rfl,_,rfl,Zo (fun z=>by injection z with z;lia) ?_⟩
 refine ⟨_,rfl,x,C,dx,_,_,rfl,hx,T.cl,T.nL,rfl,rfl,_,rfl,Zo (fun z=>by injection z with z;lia) ?_⟩
 refine ⟨_,rfl,x,C,dx,_,_,rfl,hx,T.cl,T.nL,rfl,_,_,rfl,rfl,dx,_,hx,(by show 2 < 1000;decide),?_⟩
 rw [Ln ot l _ hl rfl]
 exact q
theorem OA:FnScope ["self", "other"] ["self", "other"] (defScope sTI):=(0:)
theorem Nb (F:Fun K "__init__" "TermBehind.__init__" sTI f fd) (T:TbT K mg C) {t200:Tok} (h200:mg "MOST_SIZE" = some (.int 200 t200)):FnOk P w K mg base CX0 1 f fd ["self", "other"] (NO C):=by
 refine F.ok OA (8:) (2:)
 ·obtain ⟨x,dx,ot,rfl,_⟩:=h
  rfl
 obtain ⟨x,dx,ot,rfl,hx,q⟩:=h
 refine ⟨_,(Qe (ZD (pv 0) (pv 1) rfl)
  (Qg (ZD (pv 0) (Q4 (v:=.int 200) rfl h200 (53:)) rfl))),?_⟩
 refine ⟨_,rfl,_,rfl,x,C,dx,_,rfl,hx,T.cl,T.nO,(by show 0 < 1000;decide),?_⟩
 refine ⟨_,rfl,x,C,dx,_,rfl,Qb,T.cl,T.nL,(by show 1 < 1000;decide),?_⟩
 rw [OU,OS]
 exact q
theorem Ma:FnScope ["self", "rule", "read", "room", "add", "parts"] ["self", "rule", "read", "room"] (defScope sBR):=(0:)
theorem NU (F:Fun K "by_rule" "TermBehind.by_rule" sBR f fd) (G:Gm mg) (T:TbT K mg C) (RC:Fn P w K mg base 1 "is_call" ["term"] (Yl K)) {fT:Addr} {fdT:FuncData} (mT:Meth K C "take_one" fT) (FT:FnOk P w K mg base CX0 1 fT fdT ["self", "room"] (NK C)) (bT:Binds K fdT ["self", "room"] []):FnOk P w K mg base CX0 2 f fd ["self", "rule", "read", "room"] (NZ K C):=by
 refine F.ok Ma (8:) (2:)
 ·obtain ⟨x,dx,ot,rv,tv,nm,ad,rfl,_⟩:=h
  rfl
 obtain ⟨x,dx,ot,rv,tv,nm,ad,rfl,hx,⟨a,b,rfl,h1,h2⟩,q⟩:=h
 have hr1:Room 1 _:=hr.mono (12:)
 refine ⟨_,(Qe (Qz (Q0 (Qv RC hr (Qa (pv 1) Qc))) QN Qq)
  (Qe (QL (Za (pv 0) T.cl mT FT hr1 bT .nil Zq (Qa (pv 3) Qc)))
  (Qe (Ql (i:=4) Ma.nd rfl (11:) (JM (Q0 (35:)) ZH (35:)))
  (Qe (GR (i:=5) (CompG.many (xs:=["part"]) (caps:=["read", "room", "self"]) (cap:=[2,3,0]) (cs:=[_,_,_]) rfl rfl (1:) (1:) (1:) (1:) (1:) (1:) rfl rfl rfl) rfl (Ui (35:)) (YS (CompG.many (xs:=["part"]) (caps:=["read", "room", "self"]) (cap:=[2,3,0]) (cs:=[_,_,_]) rfl rfl (1:) (1:) (1:) (1:) (1:) (1:) rfl rfl rfl)) (fun _ _ _ _=>Zj) (fun _ _ _ _=>ZH) Ma.nd rfl rfl)
  (Qg (Qn (Qm (Qa (QJ) (Qa (35:) (Qa (Zw (35:) (Ys ZH)) (Qa (pv 4) (Qa (QI Zm rfl G.tup PyProof.Rows.boot_tuple (Qa (pv 5) Qc)) Qc)))))))))))),?_⟩
 have i0:InsAt H x:=⟨_,_,_,hx⟩
 refine ⟨_,rfl,a,PUT,_,rfl,h1,_,rfl,Zo (1:) ?_⟩
 refine ⟨_,rfl,x,dx,_,rfl,hx,rfl,_,rfl,x,dx,ot,200,30,rfl,hx,by decide,by decide,?_⟩
 have g1:SameX x H (upd H x (.ins C dx (tbf ot (200 - 1)))):=SameX.upd
 generalize upd H x (.ins C dx (tbf ot (200 - 1)))=H1 at g1 ⊢
 have h1':=i0.seqT g1 h1
 have h2':=i0.seqT g1 h2
 refine ⟨_,rfl,a,_,2,_,rfl,rfl,h1',rfl,false,rfl,ZW ⟨_,rfl,a,_,3,_,rfl,rfl,h1',rfl,?_⟩⟩
 refine ⟨_,rfl,a,_,4,_,rfl,rfl,h1',rfl,b,rfl,⟨_,h2'⟩,fun acc hacc=>?_⟩
 refine Xm (K:=K) (xs:=[]) (cs:=[some tv,some (.int 30),some (.ref x)]) (tt:=fun _ H Q=>Q true H) (fun i ys H'=>ys=[]∧H'=upd H1 acc (.lst [])) ⟨rfl,rfl⟩ ?_ ?_ ?_
 ·rintro i ys H' _ ⟨_,rfl⟩
  exact (Qd hacc _).seqT h2'
 ·intro i y ys H' hi hy
  cases hy
 rintro ys H3 ⟨rfl,rfl⟩
 have g3:=Qd hacc (.lst [])
 have h3':=g3.seqT h1'
 refine ⟨_,rfl,a,_,1,_,rfl,rfl,h3',rfl,_,rfl,a,_,2,_,rfl,rfl,h3',rfl,false,rfl,ZW ⟨_,rfl,_,rfl,acc,[],rfl,.inl ⟨SqL.of Qb,fun pt hpt=>⟨(by show 5≤sizeLine;decide),fun pr hpr=>?_⟩⟩⟩⟩
 have k1:=Qd hpt (.tup [])
 have k2:=Qd hpr (.tup [.str PUT,.str nm,.bl false,.int ad,.ref pt])
 exact q (.ref pr) _ (g1.trans (SameX.of (g3.trans (k1.trans k2)))) ⟨pr,pt,rfl,SqT.of Qb,k2.seqT (39:)⟩
theorem MC:FnScope ["term", "told", "part"] ["term"] (defScope UD):=(0:)
theorem Nx (F:Fun K "calls_of" "calls_of" UD f fd) (RC:Fn P w K mg base 1 "is_call" ["term"] (Yl K)):FnOk P w K mg base CX0 2 f fd ["term"] (MW K):=by
 refine F.ok MC (8:) (2:)
 ·obtain ⟨v,nm,ad,rfl,_⟩:=h
  rfl
 obtain ⟨v,nm,ad,rfl,⟨a,b,rfl,h1,h2⟩,q⟩:=h
 refine ⟨_,(Qe (Qz (Q0 (Qv RC hr (Qa (pv 0) Qc))) QN Qq)
  (Qe (Ql (i:=1) MC.nd rfl (11:) (QK Qc))
  (Qe (Q1 PassesOwn.never rfl (Ui (40:)) (Qy (i:=2) MC.nd rfl (11:)) QN)
  (Qg (Qn (pv 1)))))),?_⟩
 refine ⟨_,rfl,a,PUT,_,rfl,h1,_,rfl,Zo (1:) ?_⟩
 refine ⟨(21:),fun l hl=>?_⟩
 have g:=Qd hl (.lst [])
 refine ⟨_,rfl,a,_,4,_,rfl,rfl,g.seqT h1,rfl,b,rfl,⟨_,g.seqT h2⟩,?_⟩
 refine We (K:=K) (xs:=[]) (fun i σ H'=>σ=[some (.ref a),some (.ref l),none]∧H'=upd H l (.lst [])) ⟨rfl,rfl⟩ ?_ (fun i x σ H' hx=>by cases hx) ?_
 ·rintro i σ H' _ ⟨_,rfl⟩
  exact g.seqT h2
 ·rintro σ H' ⟨rfl,rfl⟩
  exact ⟨_,rfl,q l _ g hl Qb⟩
theorem OD:FnScope ["term", "parts"] ["term", "parts"] (defScope sWP):=(0:)
theorem NL (F:Fun K "with_parts" "with_parts" sWP f fd) (G:Gm mg):FnOk P w K mg base CX0 1 f fd ["term", "parts"] (LY K):=by
 refine F.ok OD (8:) (2:)
 ·obtain ⟨v,l,nm,ad,rfl,_⟩:=h
  rfl
 obtain ⟨v,l,nm,ad,rfl,⟨a,b,rfl,h1,h2⟩,hl,q⟩:=h
 refine ⟨_,(Qg (Qn (Qm (Qa (QJ) (Qa (40:) (Qa (40:) (Qa (40:) (Qa (QI Zm rfl G.tup PyProof.Rows.boot_tuple (Qa (pv 1) Qc)) Qc)))))))),?_⟩
 refine ⟨_,rfl,a,_,1,_,rfl,rfl,h1,rfl,_,rfl,a,_,2,_,rfl,rfl,h1,rfl,_,rfl,a,_,3,_,rfl,rfl,h1,rfl,_,rfl,l,[],rfl,.inl ⟨hl,fun t ht=>⟨(by show 5≤sizeLine;decide),fun p hp=>?_⟩⟩⟩
 have g1:=Qd ht (.tup [])
 have g2:=Qd hp (.tup [.str PUT,.str nm,.bl false,.int ad,.ref t])
 exact q (.ref p) _ (g1.trans g2) ⟨p,t,rfl,SqT.of Qb,g2.seqT (39:)⟩
theorem Oz:FnScope ["term", "numbers"] ["term", "numbers"] (defScope sWM):=(0:)
theorem Ny (F:Fun K "with_modes" "with_modes" sWM f fd) (RC:Fn P w K mg base 1 "is_call" ["term"] (Yl K)) (RP:Fn P w K mg base 1 "with_parts" ["term", "parts"] (LY K)):FnOk P w K mg base CX0 2 f fd ["term", "numbers"] (Mg K):=by
 refine F.ok Oz (8:) (2:)
 ·obtain ⟨v,d,nm,ad,rfl,_⟩:=h
  rfl
 obtain ⟨v,d,nm,ad,rfl,⟨a,b,rfl,h1,h2⟩,q⟩:=h
 refine ⟨_,(Qe (Qz (Q0 (Qv RC hr (Qa (pv 0) Qc))) QN Qq)
  (Qg (Qn (Qv RP hr (Qa (pv 0) (Qa (QO (CompG.many (xs:=["part"]) (caps:=["numbers"]) (cap:=[1]) (cs:=[_]) rfl rfl (1:) (1:) (1:) (1:) (1:) (1:) rfl rfl rfl) rfl (Ui (40:)) (YS (CompG.many (xs:=["part"]) (caps:=["numbers"]) (cap:=[1]) (cs:=[_]) rfl rfl (1:) (1:) (1:) (1:) (1:) (1:) rfl rfl rfl)) (fun _ _ _ _=>Zj) (fun _ _ _ _=>ZH)) Qc)))))),?_⟩
 refine ⟨_,rfl,a,PUT,_,rfl,h1,_,rfl,Zo (1:) ?_⟩
 refine ⟨_,rfl,_,rfl,a,_,4,_,rfl,rfl,h1,rfl,b,rfl,⟨_,h2⟩,fun acc hacc=>?_⟩
 refine Xm (K:=K) (xs:=[]) (cs:=[some d]) (tt:=fun _ H Q=>Q true H) (fun i ys H'=>ys=[]∧H'=upd H acc (.lst [])) ⟨rfl,rfl⟩ ?_ ?_ ?_
 ·rintro i ys H' _ ⟨_,rfl⟩
  exact (Qd hacc _).seqT h2
 ·intro i y ys H' hi hy
  cases hy
 rintro ys H3 ⟨rfl,rfl⟩
 have g3:=Qd hacc (.lst [])
 exact ⟨.ref a,acc,nm,ad,rfl,⟨a,b,rfl,g3.seqT h1,g3.seqT h2⟩,SqL.of Qb,fun v' H' g' h'=>q v' H' (g3.trans g') h'⟩
theorem On:FnScope ["wood"] ["wood"] (defScope sOW):=(0:)
theorem N5 (F:Fun K "own_wood" "own_wood" sOW f fd) (G:Gm mg):FnOk P w K mg base CX0 1 f fd ["wood"] (L5 K):=by
 refine F.ok On (8:) (2:)
 ·obtain ⟨wd,ks,rfl,_⟩:=h
  rfl
 obtain ⟨wd,ks,rfl,hW,hO,q⟩:=h
 refine ⟨_,(Qg (Qn (QO (27:) rfl (Zz (pv 0)) (Ly (27:) rfl) (fun _ _ _ _=>Zj) (fun _ _ _ _=>(Qm (Qa (pv 0) (Qa (QI (r:=Xt K) Jl rfl G.lst PyProof.Rows.boot_list (Qa (pv 1) Qc)) Qc))))))),?_⟩
 refine ⟨_,rfl,wd,rfl,⟨_,hW.1⟩,fun lx hlx=>?_⟩
 exact NG hW hO hlx fun hs H' g e h=>q lx hs H' g e h
theorem MZ:FnScope ["numbers", "term", "most", "mode", "branch"] ["numbers", "term", "most"] (defScope sNC):=(0:)
theorem Nc (F:Fun K "number_calls" "number_calls" sNC f fd) (G:Gm mg) (RC:Fn P w K mg base 2 "calls_of" ["term"] (MW K)):FnOk P w K mg base CX0 3 f fd ["numbers", "term", "most"] (MS K):=by
 refine F.ok MZ (8:) (2:)
 ·obtain ⟨d,v,nm,ad,rfl,_⟩:=h
  rfl
 obtain ⟨d,v,nm,ad,rfl,hd,hv,q⟩:=h
 refine ⟨_,(Qe (Q1 PassesOwn.never rfl (Zz (Qv RC hr (Qa (pv 1) Qc))) (YI rfl (QF (Qy (i:=3) MZ.nd rfl (11:)) (QF (Qy (i:=4) MZ.nd rfl (11:)) ZT))) QN)
  (Qg (Qz (Qs Wr (Qp LD.call_lenDT rfl G.len PySem.boot_len (Qa (pv 0) Qc)) (pv 2) (Qr _)) QN Qq))),?_⟩
 refine ⟨_,rfl,v,nm,ad,rfl,hv,fun l H1 g1 hl0 hl=>?_⟩
 refine ⟨l,rfl,⟨_,SqL.of hl⟩,?_⟩
 refine Xf (K:=K) (xs:=[]) (fun i σ H'=>σ=[some (.ref d),some v,some (.int 40),none,none]∧H'=H1) ⟨rfl,rfl⟩ ?_ (fun i x σ H' hx=>by cases hx) ?_
 ·rintro i σ H' _ ⟨_,rfl⟩
  exact SqL.of hl
 ·rintro σ H' ⟨rfl,rfl⟩
  exact ⟨_,rfl,d,_,rfl,g1 _ _ hd,_,rfl,_,_,rfl,rfl,_,rfl,Zo (show ¬ ((0:Int) > 40) by decide) (q _ g1)⟩
abbrev asN:List Str:=["wood", "start", "mode_by", "most", "numbers", "modes", "mode", "rule", "turning"]
theorem Lq:FnScope asN ["wood", "start", "mode_by", "most"] (defScope sAM):=(0:)
theorem Nh (F:Fun K "as_met" "as_met" sAM f fd) (G:Gm mg) (RN:Fn P w K mg base 3 "number_calls" ["numbers", "term", "most"] (MS K)) (RW:Fn P w K mg base 1 "own_wood" ["wood"] (L5 K)) (RM:Fn P w K mg base 2 "with_modes" ["term", "numbers"] (Mg K)):FnOk P w K mg base CX0 4 f fd ["wood", "start", "mode_by", "most"] (Mh K):=by
 refine F.ok Lq (8:) (2:)
 ·obtain ⟨wd,v,mb,ks,nm,ad,rfl,_⟩:=h
  rfl
 obtain ⟨wd,v,mb,ks,nm,ad,rfl,hW,hO,hv,q⟩:=h
 refine ⟨_,(Qe (Ql (i:=4) Lq.nd rfl (Or.inr rfl) Xk)
  (Qe (QL (Qv RN hr (Qa (pv 4) (Qa (pv 1) (Qa (pv 3) Qc)))))
  (Qe (Ql (i:=5) Lq.nd rfl (11:) (QK Qc))
  (Qe (Ul PassesOwn.never (Qs YT (Qp Qw rfl G.len PySem.boot_len (Qa (pv 5) Qc)) (Qp LD.call_lenDT rfl G.len PySem.boot_len (Qa (pv 4) Qc)) (Qr _)) QN)
  (Qe (Ql (i:=8) Lq.nd rfl (11:) (Qm (Qa (Qv RW hr (Qa (pv 0) Qc)) (Qa (Qv RM hr (Qa (pv 1) (Qa (pv 4) Qc))) (Qa (QO (CompG.many (xs:=["mode"]) (caps:=["numbers"]) (cap:=[4]) (cs:=[_]) rfl rfl (1:) (1:) (1:) (1:) (1:) (1:) rfl rfl rfl) rfl (Zz (pv 5)) (YS (CompG.many (xs:=["mode"]) (caps:=["numbers"]) (cap:=[4]) (cs:=[_]) rfl rfl (1:) (1:) (1:) (1:) (1:) (1:) rfl rfl rfl)) (fun _ _ _ _=>Zj) (fun _ _ _ _=>ZH)) Qc)))))
  (Qg (Qn (Qm (Qa (pv 8) (Qa (pv 4) Qc)))))))))),?_⟩
 refine fun d hd=>?_
 have g1:=Qd hd (.dT [])
 have hd1:upd H d (.dT []) d=some (.dT []):=Qb
 generalize upd H d (.dT [])=H1 at g1 hd1
 refine ⟨_,rfl,_,rfl,_,rfl,d,v,nm,ad,rfl,hd1,hv.mono fun _ _=>g1.seqT,fun H2 g2=>?_⟩
 refine ⟨(21:),fun lm hlm=>?_⟩
 have g3:=Qd hlm (.lst [])
 have hlm3:upd H2 lm (.lst []) lm=some (.lst []):=Qb
 generalize upd H2 lm (.lst [])=H3 at g3 hlm3
 have g23:=g2.trans g3
 have gH3:=g1.trans g23
 refine Jd (fun m σ H'=>σ=[some (.ref wd),some v,some mb,some (.int 40),some (.ref d),some (.ref lm),none,none,none]∧H'=H3) 0 ⟨rfl,rfl⟩ ?_ ?_
 ·rintro m σ H' ⟨rfl,rfl⟩
  refine ⟨_,rfl,lm,_,rfl,.inl (SqL.of hlm3),_,rfl,d,_,rfl,g23 _ _ hd1,_,_,rfl,rfl,_,rfl,Zo (show ¬ ((0:Int) < 0) by decide) ?_⟩
  refine ⟨_,rfl,wd,ks,rfl,hW.same gH3,hO,fun lx hs H4 g4 e4 hW4=>?_⟩
  refine ⟨_,rfl,_,rfl,v,.ref d,nm,ad,rfl,hv.mono fun _ _=>(gH3.trans g4).seqT,fun v' H5 g5 hv'=>?_⟩
  have g45:=g4.trans g5
  refine ⟨_,rfl,lm,rfl,⟨_,SqL.of (g45 _ _ hlm3)⟩,fun acc hacc=>?_⟩
  refine X4 (K:=K) (xs:=[]) (cs:=[some (.ref d)]) (tt:=fun _ H Q=>Q true H) (fun i ys H'=>ys=[]∧H'=upd H5 acc (.lst [])) ⟨rfl,rfl⟩ ?_ ?_ ?_
  ·rintro i ys H' _ ⟨_,rfl⟩
   exact SqL.of ((Qd hacc _) _ _ (g45 _ _ hlm3))
  ·intro i y ys H' hi hy
   cases hy
  rintro ys H6 ⟨rfl,rfl⟩
  have g6:=Qd hacc (.lst [])
  refine ⟨(33:),fun tu htu=>?_⟩
  have g7:=Qd htu (.tup [.ref lx,v',.ref acc])
  refine ⟨_,rfl,_,rfl,(17:),fun r hr'=>?_⟩
  have g8:=Qd hr' (.tup [.ref tu,.ref d])
  have g68:=g6.trans (g7.trans g8)
  exact q r tu lx acc (.ref d) v' hs _ (gH3.trans (g45.trans g68)) (39:) (g8.seqT (39:)) e4 (hW4.same (g5.trans g68)) (hv'.mono fun _ _=>g68.seqT) ((g7.trans g8).seq (SqL.of Qb))
 ·intro σ H Q Q' hm h
  obtain ⟨v1,h1,l,ys,e1,hs,v2,h2,d,kvs,e2,h3,i,j,e3,e4,b,h4,h5⟩:=h
  exact ⟨v1,h1,l,ys,e1,hs,v2,h2,d,kvs,e2,h3,i,j,e3,e4,b,h4,hm _ _ h5⟩
end
end K63
namespace K63
open PySem L2 TM TT K9 K11
def NA (e:Expr):Expr:=match e with
 | .Subscript o _ _=>o
 | _=>e
abbrev eL:Expr:=Nr (NA (NE ZS)) 2
abbrev qL:Str:=(PyProof.Rows.envOfC "behind" (defScope ZS) 0 0 .none).qual ++ "<lambda>"
abbrev pL:Pos:=XD eL
structure KeepS (K:PySem.W.Frag) (H H':Hp):Prop where
 t:∀ a xs,SqT K H a xs→SqT K H' a xs
 l:∀ a xs,SqL K H a xs→SqL K H' a xs
theorem KeepS.tb {K:PySem.W.Frag} {H H':Hp} {T:Addr} {ps:Array Value} (h:H T=some (.tbl ps)) (g:SameX T H H'):KeepS K H H':=by
 constructor
 ·intro a xs q
  rcases q with (q | ⟨o,q⟩) | q
  ·exact .inl (.inl (g _ _ (ne_of q h (18:)) q))
  ·exact .inl (.inr ⟨o,g _ _ (ne_of q h (18:)) q⟩)
  ·exact .inr q
 ·intro a xs q
  rcases q with (q | ⟨o,q⟩) | q
  ·exact .inl (.inl (g _ _ (ne_of q h (18:)) q))
  ·exact .inl (.inr ⟨o,g _ _ (ne_of q h (18:)) q⟩)
  ·exact .inr q
theorem TuAt.keep {K:PySem.W.Frag} {H H':Hp} {tu wd lm:Addr} {sv:V} {ks:List KdT} {t0:Tm} {ms:List MoT} (g:KeepS K H H') (h:TuAt K H tu wd sv lm ks t0 ms):TuAt K H' tu wd sv lm ks t0 ms :=
 ⟨g.t _ _ h.tu,⟨g.l _ _ h.wd.1,fun k hk=>⟨g.t _ _ (h.wd.2 k hk).1,g.l _ _ (h.wd.2 k hk).2.1,fun t ht=>⟨g.t _ _ ((h.wd.2 k hk).2.2 t ht).1,g.t _ _ ((h.wd.2 k hk).2.2 t ht).2⟩⟩⟩,h.st.mono g.t,g.l _ _ h.lm,fun m hm=>⟨g.t _ _ (h.mo m hm).1,g.l _ _ (h.mo m hm).2.1,(h.mo m hm).2.2.mono g.t⟩⟩
def Ud (K:PySem.W.Frag) (T NS:Addr) (n1:Nat):Sp:=fun vs H Q E=>∃ (on ot wd1 wd2 lm1 lm2:Addr) (sv1 v2:V) (ks1 ks2:List KdT) (k01 k00:KdT) (t1:Tm) (ms1:List MoT) (nm1:Nat) (nm:Str) (ad:Int) (s:Stt),vs=[.ref on,.ref ot]∧TbS H T pL qL∧TuAt K H on wd1 sv1 lm1 ks1 t1 ms1∧TuOk ks1 nm1 n1 t1 ms1∧ks1[0]?=some k01∧SqT K H ot [.ref wd2,v2,.ref lm2]∧WoodAt K H wd2 ks2∧WG ks2∧ks2[0]?=some k00∧P0 K H v2 nm ad∧nm1 * ks2.length≤1000∧n1≤100∧s=W6 ks2 ks1 nm1 n1 t1 ms1 k01.2.1 k00.2.1 ∧
 (s.ds.Nodup→(∀ d ∈ s.ds,DOk nm1 ks2 d)→(s.ft≠none→∀ H':Hp,Same H H'→E (.ref NS) none H') ∧
  (s.ft=none→∀ (tu lx ly:Addr) (v':V) (hs:List KdT) (H':Hp),SameX T H H'→TbS H' T pL qL→SqT K H' tu [.ref lx,v',.ref ly]→hs.map Zk=ks1.map Zk→WoodAt K H' lx hs→P0 K H' v' nm ad→SqL K H' ly []→Q (.ref tu) H'))
section
variable {P:Program} {w:World} {K:PySem.W.Frag} {mg:Str→Option Value} {base:Heap} {f:Addr} {fd:FuncData} {C T c NS:Addr}
theorem NY:FnScope ["one", "other", "start"] ["one", "other"] (defScope ZS):=(0:)
theorem WP {n1:Nat} (F:Fun K "behind" "behind" ZS f fd) (hn:PySem.W.nsIn K mainGlobals "behind" = some (some (.ref f))) (hTb:PySem.W.tabIn K "behind" = some (c,T)) (hC:PySem.W.codeHdIn K c T=true) (hB:Jk mg base)
 (RS:Fn P w K mg base (n1 + 6) "strays_at_all" ["turning", "wood"] (Vr K n1)) (M:TbM P w K mg base C) {t30 t40:Tok} (h30:mg "MOST_LEVELS_behind" = some (.int 30 t30)) (h40:mg "MOST_MODES" = some (.int 40 t40)) (RA:Fn P w K mg base 4 "as_met" ["wood", "start", "mode_by", "most"] (Mh K))
 (R:Rs K mg "Strays" NS):FnOk P w K mg base (CX1 P w) (n1 + 7) f fd ["one", "other"] (Ud K T NS n1):=by
 obtain ⟨fI,fdI,mkI,FI,bI⟩:=M.mi
 obtain ⟨fR,fdR,mR,FR,bR⟩:=M.br
 have TT:=M.t
 refine Fun.okXC F hn hTb NY (8:) (fun A outer s H vs Q E hr h=>?_)
 ·obtain ⟨on,ot,wd1,wd2,lm1,lm2,sv1,v2,ks1,ks2,k01,k00,t1,ms1,nm1,nm,ad,s,rfl,_⟩:=h
  rfl
 obtain ⟨on,ot,wd1,wd2,lm1,lm2,sv1,v2,ks1,ks2,k01,k00,t1,ms1,nm1,nm,ad,sF,rfl,tb,hT1,hO1,hk01,hot,hW2,hWG,hk00,hv2,hnk,hn1,es,q⟩:=h
 have hrS:Room (n1 + 6) _:=hr.mono (12:)
 have hrI:Room 2 _:=hr.mono (12:)
 have hrA:Room 4 _:=hr.mono (12:)
 refine ⟨_,(Qe (Qz (Q0 (Qv RS hrS (Qa (pv 0) (Qa (35:) Qc)) (10:))) (Qg (JO R.hm R.hq PySem.F.excBase_ValueError (13:) (Qa (QJ) Qc))) Qq)
  (Qe (Ql (i:=2) NY.nd rfl (11:) (Za (Jq mkI FI hrI rfl TT.mgC bI .nil Zq (Qa (pv 1) Qc)) TT.cl mR FR hrI bR .nil Zq (Qa (35:) (Qa ((Qm (Qa (QJ) (Qa (QJ) (Qa (ZO) (Qa (Qf) (Qa ((Qm (Qa (40:) Qc))) Qc))))))) (Qa (Q4 (v:=.int 30) rfl h30 (53:)) Qc)))))
  (Qg (Qn (Qj Qk (Qv RA hrA (Qa (40:) (Qa (pv 2) (Qa (G4 (c:=c) (T:=T) rfl hC hB) (Qa (Q4 (v:=.int 40) rfl h40 (53:)) Qc)))) (10:)) Qf (4:)))))),?_⟩
 refine ⟨_,rfl,_,rfl,ot,_,0,_,rfl,rfl,hot,rfl,nm1,on,wd1,lm1,wd2,sv1,ks1,ks2,k01,k00,t1,ms1,sF,rfl,hT1,hO1,hk01,hW2,hWG,hk00,hnk,hn1,es,fun H1 g1 nd dk=>?_⟩
 obtain ⟨qS,qO⟩:=q nd dk
 cases hft:sF.ft with
 | some g=>exact ⟨_,rfl,Zl ⟨(30:),qS (by rw [hft];exact fun z=>(nomatch z)) _ g1⟩⟩
 | none =>
 have q:=qO hft
 refine ⟨_,rfl,ZW ?_⟩
 refine ⟨_,rfl,fun x dx nx ndx ne=>⟨x,dx,ot,rfl,Qb,rfl,?_⟩⟩
 have s5:Same H1 (upd (upd (upd (upd H1 dx (.own x)) x (.ins C dx [])) x (.ins C dx (tb1 ot))) x (.ins C dx (tbf ot 200))):=fun b o e=>by
  rw [Qi (Qh e nx),Qi (Qh e nx),Qi (Qh e nx),Qi (Qh e ndx)]
  exact e
 have hx5:upd (upd (upd (upd H1 dx (.own x)) x (.ins C dx [])) x (.ins C dx (tb1 ot))) x (.ins C dx (tbf ot 200)) x=some (.ins C dx (tbf ot 200)):=Qb
 generalize upd (upd (upd (upd H1 dx (.own x)) x (.ins C dx [])) x (.ins C dx (tb1 ot))) x (.ins C dx (tbf ot 200))=H5 at s5 hx5 ⊢
 have g5:=g1.trans s5
 refine ⟨x,dx,_,rfl,hx5,rfl,_,rfl,ot,_,1,_,rfl,rfl,g5.seqT hot,rfl,_,rfl,on,_,1,_,rfl,rfl,g5.seqT hT1.tu,rfl,(30:),fun p1 hp1=>⟨(by show 5≤sizeLine;decide),fun p5 hp5=>?_⟩⟩
 have k1:=Qd hp1 (.tup [sv1])
 have k2:=Qd hp5 (.tup [.str PUT,.str (Str.ofString ""),.bl false,.int 0,.ref p1])
 have g6:=g5.trans (k1.trans k2)
 refine ⟨x,dx,ot,v2,.ref p5,nm,ad,rfl,(k1.trans k2) _ _ hx5,hv2.mono fun _ _=>g6.seqT,fun v H7 gx hv7=>?_⟩
 have s7:Same H H7:=fun b o e=>gx b o (fun z=>by rw [z] at e;rw [g1 _ _ e] at nx;cases nx) (g6 b o e)
 have tb7:=tb.same s7
 obtain ⟨ps7,hps7⟩:=tb7.at
 have hT17:=hT1.same s7
 refine ⟨_,rfl,on,_,0,_,rfl,rfl,hT17.tu,rfl,_,rfl,tb7,fun L H8 x8 hL0 hL8 tb8=>?_⟩
 have kS:=KeepS.tb (K:=K) hps7 x8
 have hT18:=hT17.keep kS
 refine ⟨wd1,v,.ref L,ks1,nm,ad,rfl,hT18.wd,hO1.wo,hv7.mono kS.t,fun r tu lx ly dv v' hs H9 g9 hr9 htu e9 hW9 hv9 hly=>?_⟩
 exact ⟨r,_,0,_,rfl,rfl,hr9,rfl,q tu lx ly v' hs H9 (fun b u nb e=>g9 _ _ (x8 b u nb (s7 _ _ e))) (tb8.same g9) htu e9 hW9 hv9 hly⟩
end
end K63
namespace K63
open PySem L2 TM TT K9 K11
abbrev L0s (f:RK) (n:Nat) (t0:Tm) (k1 k0:Str):List SI:=(its f n t0 k0 []).map fun i=>(⟨0,none,(S [],[k1])⟩,i)
def Q2 (nm:Nat→Str) (o i:Nat) (kb:Bool) (ab:Int):Tm:=.node (.put (nm (if i=o then 7 else 6)) kb ab) 0 []
def Zg (nm:Nat→Str) (c i:Nat) (kf:Bool) (af:Int):Tm:=.node (.put (nm 5) kf af) 0 [Zu (((i + 1) % c:Nat):Int) 0]
structure Ring (f:RK) (rl:Dd→List (Rw × Tm)) (nm:Nat→Str) (c o kk l:Nat) (kd:Str):Prop where
 c0:0 < c
 k0:0 < kk
 k5:kk≤5
 ll:l < kk
 inj:∀ i j,i < 8→j < 8→nm i=nm j→i=j
 f5:∀ k,k < kk→f (nm k) (nm 5)=some [nm ((k + 1) % kk)]
 f6:∀ k,k < kk→f (nm k) (nm 6)=some []
 f7:∀ k,k < kk→k≠l→f (nm k) (nm 7)=some []
 f7':f (nm l) (nm 7)=none
 rb:∀ (i:Nat) (z:Str),i < c→∃ kb ab,((nm 0,[]),Q2 nm o i kb ab) ∈ rl ((i:Int),z)
 rf:∀ (i:Nat) (z:Str),i < c→∃ kf af,((nm 1,[kd]),Zg nm c i kf af) ∈ rl ((i:Int),z)
 ro:∀ (i:Nat) (z:Str) q,i < c→q ∈ rl ((i:Int),z)→(∃ kb ab,q=((nm 0,[]),Q2 nm o i kb ab))∨∃ kf af,q=((nm 1,[kd]),Zg nm c i kf af)
def dJ (nm:Nat→Str) (c kk j:Nat):Dd:=(((j % c:Nat):Int),nm (j % kk))
def Bad (c o kk l n:Nat):Prop:=n % c=o∧n % kk=l
section
variable {f:RK} {rl:Dd→List (Rw × Tm)} {nm:Nat→Str} {c o kk l:Nat} {kd:Str} {s:Stt} {j:Nat}
theorem Yj (c n:Nat) (h:0 < c):(n % c + 1) % c=(n + 1) % c:=by rw [Nat.add_mod,Nat.mod_mod,← Nat.add_mod]
theorem Ring.its_b (R:Ring f rl nm c o kk l kd) {k i:Nat} (hk:k < kk) (kb:Bool) (ab:Int):(its f 2 (Q2 nm o i kb ab) (nm k) []=[]∧¬ (i=o∧k=l))∨(its f 2 (Q2 nm o i kb ab) (nm k) []=[([],none)]∧i=o∧k=l):=by
 unfold Q2
 by_cases h:i=o
 ·rw [if_pos h]
  by_cases h2:k=l
  ·right
   refine ⟨?_,h,h2⟩
   rw [its]
   show (match f (nm k) (nm 7) with
    | some ss=>_
    | none=>_)=_
   rw [h2,R.f7']
  ·left
   refine ⟨?_,fun z=>h2 z.2⟩
   rw [its]
   show (match f (nm k) (nm 7) with
    | some ss=>_
    | none=>_)=_
   rw [R.f7 k hk h2]
   rfl
 ·rw [if_neg h]
  left
  refine ⟨?_,fun z=>h z.1⟩
  rw [its]
  show (match f (nm k) (nm 6) with
   | some ss=>_
   | none=>_)=_
  rw [R.f6 k hk]
  rfl
theorem Ring.its_f (R:Ring f rl nm c o kk l kd) {k i:Nat} (hk:k < kk) (kf:Bool) (af:Int):its f 2 (Zg nm c i kf af) (nm k) []=[([0],some ((((i + 1) % c:Nat):Int),0,nm ((k + 1) % kk)))]:=by
 unfold Zg
 rw [its]
 show (match f (nm k) (nm 5) with
  | some ss=>_
  | none=>_)=_
 rw [R.f5 k hk]
 rfl
theorem Ring.its_0:its f 2 (Zu 0 0) (nm 0) []=[([],some (0,0,nm 0))]:=rfl
abbrev ab0 (kd:Str):Rw:=(S [],[kd])
variable (R:Ring f rl nm c o kk l kd) (B:Bf f 2 rl (L0s f 2 (Zu 0 0) kd (nm 0)) j s)
include R B
theorem Ring.src0 {x:SI} {d:Dd} {n:Nat} (e:d=dJ nm c kk n) (hx:x ∈ LB f 2 rl (n + 1) d):(x=(⟨n + 1,some (dJ nm c kk n),(nm 0,[])⟩,([],none))∧Bad c o kk l n)∨x=(⟨n + 1,some (dJ nm c kk n),(nm 1,[kd])⟩,([0],some (45:))):=by
 subst e
 obtain ⟨q,hq,hx⟩:=List.mem_flatMap.mp hx
 obtain ⟨i,hi,rfl⟩:=List.mem_map.mp hx
 have hk:n % kk < kk:=Nat.mod_lt _ R.k0
 have hc:n % c < c:=Nat.mod_lt _ R.c0
 rcases R.ro (n % c) _ q hc hq with ⟨kb,ab,rfl⟩ | ⟨kf,af,rfl⟩
 ·left
  rcases R.its_b hk kb ab with ⟨h,_⟩ | ⟨h,h1,h2⟩
  ·have hi:i ∈ its f 2 (Q2 nm o (n % c) kb ab) (nm (n % kk)) []:=hi
   rw [h] at hi;cases hi
  ·have hi:i ∈ its f 2 (Q2 nm o (n % c) kb ab) (nm (n % kk)) []:=hi
   rw [h] at hi
   obtain rfl:i=([],none):=by simpa using hi
   exact ⟨rfl,h1,h2⟩
 ·right
  have hi:i ∈ its f 2 (Zg nm c (n % c) kf af) (nm (n % kk)) []:=hi
  rw [R.its_f hk,Yj _ _ R.c0,Yj _ _ R.k0] at hi
  obtain rfl:=List.mem_singleton.mp hi
  rfl
theorem Ring.nth:∀ (k:Nat) (d:Dd),d ∈ s.ds→nOf s d=k→d=dJ nm c kk k
 | k,d,hd,e=>by
  obtain ⟨q,hq,eq⟩:=Yt hd
  have hn:=Zy B.nd hq
  rw [eq,e] at hn
  rcases B.src q hq with z | ⟨d',hd',z⟩
  ·obtain ⟨i,hi,ez⟩:=List.mem_map.mp z
   rw [Ring.its_0 (nm:=nm)] at hi
   obtain rfl:=List.mem_singleton.mp hi
   have e1:q.2.sp=⟨0,none,(S [],[kd])⟩:=(congrArg Prod.fst ez).symm
   have e2:(0,(0:Int),nm 0)=(q.1.1,q.2.br,q.1.2):=by
    have:=congrArg (fun x:SI=>x.2.2) ez
    exact Option.some.inj this
   rw [e1] at hn
   have hn:k=0:=hn
   subst hn
   rw [← eq]
   unfold dJ
   rw [Nat.zero_mod,Nat.zero_mod]
   have h1:q.1.1=0:=(congrArg (fun x:Int × Int × Str=>x.1) e2).symm
   have h2:q.1.2=nm 0:=(congrArg (fun x:Int × Int × Str=>x.2.2) e2).symm
   exact Prod.ext h1 h2
  ·have hz:=(No f 2 rl z).1
   have hz:q.2.sp.n=nOf s d' + 1:=hz
   have hlt:nOf s d' < k:=by lia
   have ih:=Ring.nth (nOf s d') d' hd' rfl
   rcases Ring.src0 R B ih z with ⟨h,_⟩ | h
   ·have:=congrArg (fun x:SI=>x.2.2) h
    cases this
   ·have e2:some (q.1.1,q.2.br,q.1.2)=some ((((nOf s d' + 1) % c:Nat):Int),0,nm ((nOf s d' + 1) % kk)):=congrArg (fun x:SI=>x.2.2) h
    have e2:=Option.some.inj e2
    have h1:q.1.1=(((nOf s d' + 1) % c:Nat):Int):=congrArg (fun x:Int × Int × Str=>x.1) e2
    have h2:q.1.2=nm ((nOf s d' + 1) % kk):=congrArg (fun x:Int × Int × Str=>x.2.2) e2
    rw [← eq,show k=nOf s d' + 1 by lia]
    exact Prod.ext h1 h2
theorem Ring.src {x:SI} (hx:x ∈ L0s f 2 (Zu 0 0) kd (nm 0)∨∃ d ∈ s.ds,x ∈ LB f 2 rl (nOf s d + 1) d):x=(⟨0,none,ab0 kd⟩,([],some (0,0,nm 0)))∨∃ n,dJ nm c kk n ∈ s.ds∧nOf s (dJ nm c kk n)=n∧((x=(⟨n + 1,some (dJ nm c kk n),(nm 0,[])⟩,([],none))∧Bad c o kk l n)∨x=(⟨n + 1,some (dJ nm c kk n),(nm 1,[kd])⟩,([0],some (45:)))):=by
 rcases hx with z | ⟨d,hd,z⟩
 ·obtain ⟨i,hi,rfl⟩:=List.mem_map.mp z
  rw [Ring.its_0 (nm:=nm)] at hi
  obtain rfl:=List.mem_singleton.mp hi
  exact .inl rfl
 ·have e:=Ring.nth R B _ d hd rfl
  refine .inr ⟨nOf s d,by rw [← e];exact hd,by rw [← e],Ring.src0 R B e z⟩
theorem Ring.fault {g:Spot × List Int} (hg:s.ft=some g):∃ n,Bad c o kk l n∧g=(⟨n + 1,some (dJ nm c kk n),(nm 0,[])⟩,[])∧dJ nm c kk n ∈ s.ds∧nOf s (dJ nm c kk n)=n:=by
 rcases Ring.src R B (B.fs g hg) with z | ⟨n,h1,h2,⟨z,hb⟩ | z⟩
 ·have:=congrArg (fun x:SI=>x.2.2) z
  cases this
 ·exact ⟨n,hb,Prod.ext (congrArg (fun x:SI=>x.1) z) (congrArg (fun x:SI=>x.2.1) z),h1,h2⟩
 ·have:=congrArg (fun x:SI=>x.2.2) z
  cases this
theorem Ring.gd {ks1:List KdT} (h1:HasLeaf ks1 kd):Gd ks1 (S [],[kd]) s:=by
 have rw1:UM ks1 (nm 1,[kd]):=⟨by show 1≤10;decide,fun z hz=>by obtain rfl:z=kd:=List.mem_singleton.mp hz;exact h1⟩
 have rw2:UM ks1 (S [],[kd]):=⟨by show 1≤10;decide,fun z hz=>by obtain rfl:z=kd:=List.mem_singleton.mp hz;exact h1⟩
 refine ⟨B.nd,fun q hq=>?_,fun g hg=>?_⟩
 ·rcases Ring.src R B (B.src q hq) with z | ⟨n,h1,h2,⟨z,hb⟩ | z⟩
  ·have e1:q.2.sp=⟨0,none,ab0 kd⟩:=congrArg (fun x:SI=>x.1) z
   have e2:q.2.pl=[]:=congrArg (fun x:SI=>x.2.1) z
   have e3:some (q.1.1,q.2.br,q.1.2)=some (0,0,nm 0):=congrArg (fun x:SI=>x.2.2) z
   have e3:q.2.br=0:=congrArg (fun x:Int × Int × Str=>x.2.1) (Option.some.inj e3)
   rw [e1,e2,e3]
   exact ⟨⟨rw2,fun _=>⟨rfl,rfl⟩,fun d e=>(nomatch e)⟩,Nat.zero_le _,0,rfl,Nat.one_pos⟩
  ·have:=congrArg (fun x:SI=>x.2.2) z
   cases this
  ·have e1:q.2.sp=⟨n + 1,some (dJ nm c kk n),(nm 1,[kd])⟩:=congrArg (fun x:SI=>x.1) z
   have e2:q.2.pl=[0]:=congrArg (fun x:SI=>x.2.1) z
   have e3:some (q.1.1,q.2.br,q.1.2)=some (45:):=congrArg (fun x:SI=>x.2.2) z
   have e3:q.2.br=0:=congrArg (fun x:Int × Int × Str=>x.2.1) (Option.some.inj e3)
   rw [e1,e2,e3]
   refine ⟨⟨rw1,fun e=>(nomatch e),fun d e=>?_⟩,by decide,0,rfl,Nat.one_pos⟩
   obtain rfl:=Option.some.inj e
   exact ⟨h1,by rw [h2]⟩
 ·obtain ⟨n,_,rfl,h1,h2⟩:=Ring.fault R B hg
  refine ⟨⟨⟨by show 0≤10;decide,fun z hz=>(nomatch hz)⟩,fun e=>(nomatch e),fun d e=>?_⟩,Nat.zero_le _⟩
  obtain rfl:=Option.some.inj e
  exact ⟨h1,by rw [h2]⟩
variable (hj:s.ds.length≤j)
include hj
theorem Ring.all:∀ n,dJ nm c kk n ∈ s.ds∧nOf s (dJ nm c kk n)≤n
 | 0=>by
  have:=B.st (⟨0,none,(S [],[kd])⟩,([],some (0,0,nm 0))) (List.mem_map.mpr ⟨_,List.mem_singleton.mpr rfl,rfl⟩) (0,0,nm 0) rfl
  unfold dJ
  rw [Nat.zero_mod,Nat.zero_mod]
  exact ⟨this.1,by rw [show nOf s (((0:Nat):Int),nm 0)=0 from this.2];exact Nat.le_refl _⟩
 | n + 1=>by
  obtain ⟨h1,h2⟩:=Ring.all n
  obtain ⟨i,hi,e⟩:=List.getElem_of_mem h1
  have hk:n % kk < kk:=Nat.mod_lt _ R.k0
  have hc:n % c < c:=Nat.mod_lt _ R.c0
  obtain ⟨kf,af,hm⟩:=R.rf (n % c) (nm (n % kk)) hc
  have hx:((⟨nOf s (dJ nm c kk n)+1,some (dJ nm c kk n),(nm 1,[kd])⟩,([0],some (45:))):SI) ∈ LB f 2 rl (nOf s (dJ nm c kk n)+1) (dJ nm c kk n):=by
   refine List.mem_flatMap.mpr ⟨_,hm,List.mem_map.mpr ⟨([0],some (45:)),?_,rfl⟩⟩
   show _ ∈ its f 2 (Zg nm c (n % c) kf af) (nm (n % kk)) []
   rw [R.its_f hk,Yj _ _ R.c0,Yj _ _ R.k0]
   exact List.mem_singleton.mpr rfl
  obtain ⟨g1,g2⟩:=B.go i _ (12:) (by rw [List.getElem?_eq_getElem hi,e]) _ hx _ rfl
  exact ⟨g1,Nat.le_trans g2 (12:)⟩
theorem Ring.least {far:Nat} (hb:Bad c o kk l far) (hm:∀ n,n < far→¬ Bad c o kk l n):s.ft=some (⟨far + 1,some (dJ nm c kk far),(nm 0,[])⟩,[])∧dJ nm c kk far ∈ s.ds∧nOf s (dJ nm c kk far)=far:=by
 obtain ⟨h1,h2⟩:=Ring.all R B hj far
 have e:=Ring.nth R B _ _ h1 rfl
 have hk:far % kk < kk:=Nat.mod_lt _ R.k0
 have hc:far % c < c:=Nat.mod_lt _ R.c0
 have hbm:Bad c o kk l (nOf s (dJ nm c kk far)):=by
  have e1:((far % c:Nat):Int)=((nOf s (dJ nm c kk far) % c:Nat):Int):=congrArg Prod.fst e
  have e2:nm (far % kk)=nm (nOf s (dJ nm c kk far) % kk):=congrArg Prod.snd e
  have hk2:nOf s (dJ nm c kk far) % kk < kk:=Nat.mod_lt _ R.k0
  have:=R.k5
  have e3:=R.inj _ _ (12:) (12:) e2
  exact ⟨by have:=hb.1;lia,by have:=hb.2;lia⟩
 have en:nOf s (dJ nm c kk far)=far:=by
  rcases Nat.lt_or_ge (nOf s (dJ nm c kk far)) far with z | z
  ·exact absurd hbm (hm _ z)
  ·lia
 obtain ⟨i,hi,ei⟩:=List.getElem_of_mem h1
 obtain ⟨kb,ab,hmb⟩:=R.rb (far % c) (nm (far % kk)) hc
 have hx:((⟨far + 1,some (dJ nm c kk far),(nm 0,[])⟩,([],none)):SI) ∈ LB f 2 rl (far + 1) (dJ nm c kk far):=by
  refine List.mem_flatMap.mpr ⟨_,hmb,List.mem_map.mpr ⟨([],none),?_,rfl⟩⟩
  show _ ∈ its f 2 (Q2 nm o (far % c) kb ab) (nm (far % kk)) []
  rcases R.its_b hk kb ab with ⟨_,h⟩ | ⟨h,_⟩
  ·exact absurd hb h
  ·rw [h];exact List.mem_singleton.mpr rfl
 obtain ⟨g,hg,hl⟩:=B.fg i _ (12:) (by rw [List.getElem?_eq_getElem hi,ei]) _ (by rw [en];exact hx) rfl
 obtain ⟨n,hbn,eg,_,_⟩:=Ring.fault R B hg
 have:n=far:=by
  rw [eg] at hl
  have hl:n + 1 + 0≤far + 1 + 0:=hl
  rcases Nat.lt_or_ge n far with z | z
  ·exact absurd hbn (hm _ z)
  ·lia
 rw [hg,eg,this]
 exact ⟨rfl,h1,en⟩
omit hj
theorem Ring.way:∀ (k m:Nat) (p:List Int) (w:List (Rw × Int)),k < m→dJ nm c kk k ∈ s.ds→nOf s (dJ nm c kk k)=k→Q7 s (m + 1) (some (dJ nm c kk k)) p w=((ab0 kd,0) :: (List.replicate k ((nm 1,[kd]),(0:Int)) ++ w),List.replicate k (0:Int) ++ p)
 | k,0,_,_,h,_,_=>absurd h (Nat.not_lt_zero _)
 | k,m + 1,p,w,hm,hd,hn=>by
  obtain ⟨q,hq,eq⟩:=Yt hd
  have hf:s.ss.find? (fun x=>decide (x.1=dJ nm c kk k))=some q:=by
   cases e:s.ss.find? fun x=>decide (x.1=dJ nm c kk k) with
   | none =>
    have:=List.find?_eq_none.mp e q hq
    simp [eq] at this
   | some x =>
    have e1:x.1=dJ nm c kk k:=by simpa using List.find?_some e
    obtain ⟨i,hi,rfl⟩:=List.getElem_of_mem (List.mem_of_find?_eq_some e)
    obtain ⟨i',hi',e3⟩:=List.getElem_of_mem hq
    have:i=i':=by
     refine (List.getElem?_inj (by unfold Stt.ds;rw [List.length_map];exact hi) B.nd).mp ?_
     unfold Stt.ds
     rw [List.getElem?_map,List.getElem?_map,List.getElem?_eq_getElem hi,List.getElem?_eq_getElem hi',Option.map_some,Option.map_some,e1,e3,eq]
    subst this
    rw [e3]
  have hqn:=Zy B.nd hq
  rw [eq,hn] at hqn
  rw [Q7,hf]
  show Q7 s (m + 1) q.2.sp.dm (q.2.pl ++ p) ((q.2.sp.row,q.2.br) :: w)=_
  rcases Ring.src R B (B.src q hq) with z | ⟨n,h1,h2,⟨z,hb⟩ | z⟩
  ·have e1:q.2.sp=⟨0,none,ab0 kd⟩:=congrArg (fun x:SI=>x.1) z
   have e2:q.2.pl=[]:=congrArg (fun x:SI=>x.2.1) z
   have e3:some (q.1.1,q.2.br,q.1.2)=some (0,0,nm 0):=congrArg (fun x:SI=>x.2.2) z
   have e3:q.2.br=0:=congrArg (fun x:Int × Int × Str=>x.2.1) (Option.some.inj e3)
   rw [e1,e2,e3]
   have:k=0:=by rw [e1] at hqn;exact hqn
   subst this
   rfl
  ·have:=congrArg (fun x:SI=>x.2.2) z
   cases this
  ·have e1:q.2.sp=⟨n + 1,some (dJ nm c kk n),(nm 1,[kd])⟩:=congrArg (fun x:SI=>x.1) z
   have e2:q.2.pl=[0]:=congrArg (fun x:SI=>x.2.1) z
   have e3:some (q.1.1,q.2.br,q.1.2)=some (45:):=congrArg (fun x:SI=>x.2.2) z
   have e3:q.2.br=0:=congrArg (fun x:Int × Int × Str=>x.2.1) (Option.some.inj e3)
   rw [e1,e2,e3]
   have:k=n + 1:=by rw [e1] at hqn;exact hqn
   subst this
   show Q7 s (m + 1) (some (dJ nm c kk n)) ([0] ++ p) (((nm 1,[kd]),0) :: w)=_
   rw [Ring.way n m ([0] ++ p) (((nm 1,[kd]),0) :: w) (12:) h1 h2]
   rw [List.replicate_succ',List.replicate_succ',List.append_assoc,List.append_assoc]
   rfl
end
def chn (nm:Nat→Str):Nat→Tree Str
 | 0=>.node (nm 0) 0 []
 | k + 1=>.node (nm 1) 0 [chn nm k]
theorem Wn (nm:Nat→Str) (ks:List KdT) (kd:Str):∀ k,Z4 ks (List.replicate k ((nm 1,[kd]),(0:Int)) ++ []) (nm 0,[])=chn nm k
 | 0=>rfl
 | k + 1=>by
  rw [List.replicate_succ,List.cons_append]
  show putB (QX ks (nm 1,[kd])) [0] (Z4 ks _ _)=_
  rw [Wn nm ks kd k]
  rfl
theorem Bad.per {c o kk l n:Nat} (h:Bad c o kk l n) (hc:0 < c) (hk:0 < kk):n % (c * kk) < c * kk∧Bad c o kk l (n % (c * kk)):=⟨Nat.mod_lt _ (Nat.mul_pos hc hk),by rw [Nat.mod_mul_right_mod];exact h.1,by rw [Nat.mod_mul_left_mod];exact h.2⟩
end K63
namespace L2
open PySem PySem.Spec PyProof.Rows
theorem YH:fillsNumberSlot (.type "tuple") "mul" = pure false :=
 PySem.fillsNumberSlot_seq (id:="tuple.__mul__") (r:=some (.builtin "tuple.__rmul__")) F.slot_tuple_mul.lookup (1:) F.slot_tuple_rmul.lookup (1:)
theorem Jc:seqRepeat? (.type "tuple")=pure (some (.builtin "tuple.__mul__")):=by
 unfold seqRepeat?
 rw [PySem.seqSlot_of (T:="tuple") (name:="__mul__") (id:="tuple.__mul__") F.slot_tuple_mul.lookup (1:),PySem.seqSlot_of (T:="tuple") (name:="__rmul__") (id:="tuple.__rmul__") F.slot_tuple_rmul.lookup (1:)]
 rfl
theorem Uv (a:Int) (t:Tok) (l:Addr) (items:Array Value) (n:Nat) (dd:Option Addr) (sl:Array (Option Value)) :
 Meets (Builtin.«int.__rmul__» ⟨[.int a t,.ref l],[]⟩) (fun _ R s=>s.heap.get? l=some { cls:=.type "tuple", dict:=dd,data:=.seq items n,slots:=sl }∧R (.ok (.ret Value.notImplemented)) s) :=
 .of_wp fun prog w A R s h=>by obtain ⟨hp,g,d,tk,os⟩:=s;obtain ⟨hl,h⟩:=h;wp_walk;exact ⟨_,rfl,h⟩
theorem XJ (l:Addr) (items:Array Value) (n:Nat) (dd:Option Addr) (sl:Array (Option Value)) (x:Int) (u:Tok) (h0:items.isEmpty=false) (h1:-(2 ^ 63)≤x) (h2:x < 2 ^ 63) (h3:items.size * x.toNat≤sizeLine) :
 Meets (Builtin.«tuple.__mul__» ⟨[.ref l,.int x u],[]⟩) (fun _ R s=>s.heap.get? l=some { cls:=.type "tuple", dict:=dd,data:=.seq items n,slots:=sl }∧(x=1→R (.ok (.ret (.ref l))) s)∧(x≠1→R (.ok (.ret (Value.ref s.heap.objs.size))) { s with heap:=s.heap.push { cls:=Value.type "tuple", data:=Data.seq (List.foldl (fun x1 x2=>x1 ++ x2) #[] (List.replicate x.toNat items)) } })) :=
 .of_wp fun prog w A R s h=>by
  obtain ⟨hp,g,d,tk,os⟩:=s;obtain ⟨hl,ha,hb⟩:=h
  have c1:¬ (decide (x < -2 ^ 63) || decide (x ≥ 2 ^ 63))=true:=by
   rw [decide_eq_false (12:),decide_eq_false (12:)];decide
  have hi:items.isEmpty=false:=h0
  by_cases x1:x=1
  ·subst x1
   have c2:(items.isEmpty || (1:Int) == 1)=true:=by simp
   wp_walk
   exact ⟨_,rfl,ha rfl⟩
  ·have c2:¬ (items.isEmpty || x == 1)=true:=by rw [hi];simpa using x1
   by_cases x0:x≤0
   ·have c3:(decide (x≤0) || items.isEmpty)=true:=by rw [decide_eq_true x0];rfl
    have e:x.toNat=0:=by lia
    have hb':=hb x1
    rw [e] at hb'
    wp_walk
    rw [if_neg c1]
    wp_walk
    exact ⟨_,rfl,hb'⟩
   ·have c3:¬ (decide (x≤0) || items.isEmpty)=true:=by rw [decide_eq_false x0,hi];decide
    have hl24:sizeLine=16777216:=by decide
    obtain ⟨y,rfl⟩ : ∃ y:Nat,x=(y:Int):=⟨x.toNat,by lia⟩
    have hy:items.size * y≤16777216:=by rw [← hl24];exact h3
    have hyy:(items.size:Int) * (y:Int)=((items.size * y:Nat):Int):=by simp
    have c4:¬ (items.size:Int) * (y:Int) > (2 ^ 63 - 1) / 8:=by rw [hyy];lia
    have c5:¬ Builtin.Tuple.tupleTooMany ((items.size:Int) * (y:Int))=true:=by rw [hyy];unfold Builtin.Tuple.tupleTooMany;simp;lia
    wp_walk
    rw [if_neg c1]
    wp_walk
    rw [if_neg c3]
    dsimp only
    rw [if_neg c4,if_neg c5]
    have hsz:(List.foldl (fun x1 x2=>x1 ++ x2) #[] (List.replicate ((y:Int)).toNat items)).size≤sizeLine:=by
     have f0:∀ (m:Nat) (acc:Array Value),(List.foldl (fun x1 x2=>x1 ++ x2) acc (List.replicate m items)).size=acc.size + m * items.size:=fun m=>by
      induction m with
      | zero=>intro acc;simp
      | succ m ih=>intro acc;rw [List.replicate_succ,List.foldl_cons,ih,Array.size_append,Nat.succ_mul];lia
     rw [f0,Int.toNat_natCast,hl24,Nat.mul_comm]
     simpa using hy
    have hb':=hb x1
    wp_walk
    rw [if_neg (Nat.not_lt.mpr hsz)]
    wp_walk
    exact ⟨_,rfl,hb'⟩
def N3 (K:PySem.W.Frag):R2:=fun x y H Q=>∃ l k xs,x=.ref l∧y=.int k∧SqT K H l xs∧xs≠[]∧-(2 ^ 63)≤k∧k < 2 ^ 63∧xs.length * k.toNat≤sizeLine ∧
 (k=1→Q (.ref l) H)∧(k≠1→∀ p,H p=none→Q (.ref p) (upd H p (.tup (List.replicate k.toNat xs).flatten)))
section
variable {X:Cx}
theorem Gz:OpR X (binaryOp .Mult) (N3 X.K):=by
 intro pins s σ H x y v u Q I rx ry h
 obtain ⟨l,k,xs,rfl,rfl,hH,hne,h1,h2,hz,q1,q2⟩:=h
 cases rx
 obtain ⟨t,rfl⟩:=ry
 obtain ⟨its,r,pl,_⟩:=I.tuple hH
 obtain ⟨⟨oc,od,oda,osl⟩,ho,hc,n,hd⟩:=pl
 simp only at hc hd
 subst hc;subst hd
 have hl:=r.length
 have h0:its.toArray.isEmpty=false:=by
  cases its with
  | nil=>exact absurd (r.nil_iff.mp rfl) hne
  | cons a b=>rfl
 have hnew:List.foldl (fun x1 x2=>x1 ++ x2) #[] (List.replicate k.toNat its.toArray)=(List.replicate k.toNat its).flatten.toArray:=by
  have:=UR its k.toNat []
  rw [List.nil_append] at this
  exact this
 refine wpAny_binaryOp_repeat_ref (T:="tuple") (U:="int") (13:) ⟨_,ho,rfl⟩ (fun s'=>typeIs_int s' k t) YH F.fills_int_mul F.slot_int_rmul Jc F.slot_int_index.lookup
  (call_meets F.slot_int_rmul (typeIs_int s k t) F.entry_int_rmul (F.args_int_rmul_2 _ _) (Uv k t l its.toArray n od osl)
   ⟨ho,rfl,⟨_,ho,rfl⟩,call_meets F.slot_tuple_mul ⟨_,ho,rfl⟩ F.entry_tuple_mul (F.args_tuple_mul_2 _ _) (XJ l its.toArray n od osl k t h0 h1 h2 (by rw [List.size_toArray,← hl];exact hz)) ⟨ho,fun e=>⟨.ref l,H,I,rfl,q1 e⟩,fun e=>?_⟩⟩)
 rw [hnew]
 exact ⟨.ref s.heap.objs.size,_,I.laid (t':=s.toks) (o:=.tup (List.replicate k.toNat xs).flatten) (fun b ob q=>Heap.get?_push_of_some _ q) (10:) ⟨by rw [GV,Nat.mul_comm];exact hz,_,r.rep k.toNat,IsTup.new _ _⟩,rfl,q2 e _ (I.hok.fresh (10:))⟩
end
end L2
namespace K63
open PySem L2 TM TT K9 K11
def nmL (ns:List Str) (i:Nat):Str:=ns.getD i (S [])
theorem Wz {ns:List Str} (h:ns.length=8) {i:Nat} (hi:i < 8):ns[i]?=some (nmL ns i):=by
 unfold nmL
 rw [List.getD_eq_getElem?_getD,List.getElem?_eq_getElem (12:)];rfl
theorem ZI {ns:List Str} (h:ns.length=8) {i:Nat} (hi:i < 8):nmL ns i ∈ ns:=List.mem_of_getElem? (Wz h hi)
theorem Q3 {ns:List Str} (h:ns.length=8) {i:Nat} (hi:i < 8):atI (ns.map V.str) (i:Int)=some (.str (nmL ns i)):=QH (by rw [List.getElem?_map,Wz h hi];rfl)
theorem Zh {ns:List Str} (h:ns.length=8) (hn:ns.Nodup) {i j:Nat} (hi:i < 8) (hj:j < 8) (e:nmL ns i=nmL ns j):i=j:=by
 refine (List.getElem?_inj (12:) hn).mp ?_
 rw [Wz h hi,Wz h hj,e]
def ltS (x y:Str):Bool:=decide (x.cps.toList < y.cps.toList)
def JE:Sp:=fun vs H Q _=>∃ (c o kk l:Nat),vs=[.int (c:Int),.int (o:Int),.int (kk:Int),.int (l:Int)]∧0 < c∧c≤20∧0 < kk∧kk≤5∧(∀ far,far < c * kk→Bad c o kk l far→(∀ n,n < far→¬ Bad c o kk l n)→Q (.int (far:Int)) H)∧((∀ n,n < c * kk→¬ Bad c o kk l n)→Q .non H)
def MdR (nm:Nat→Str) (kd:Str) (c o i:Nat) (m:MoT):Prop:=m.2.1=kd∧∃ kb ab kf af,m.2.2.2.2=if ltS (nm 1) (nm 0)=true then [Zg nm c i kf af,Q2 nm o i kb ab] else [Q2 nm o i kb ab,Zg nm c i kf af]
def Jf (K:PySem.W.Frag):Sp:=fun vs H Q _=>∃ (ls ln:Addr) (cells:List Int) (ns:List Str) (kd:Str) (c o:Nat),vs=[.ref ls,.ref ln,.str kd,.int (c:Int),.int (o:Int)]∧SqL K H ls (cells.map V.int)∧SqL K H ln (ns.map V.str)∧ns.length=8∧0 < c∧c≤20 ∧
 ∀ (lm:Addr) (ms:List MoT) (H':Hp),Same H H'→SqL K H' lm (ms.map fun m=>V.ref m.1)→(∀ m ∈ ms,Nn K H' m)→ms.length=c→(∀ i m,ms[i]?=some m→MdR (nmL ns) kd c o i m)→Q (.ref lm) H'
def QV (nm:Nat→Str) (kk l k:Nat):List (Str × List Str):=[(nm 5,[nm ((k + 1) % kk)]),(nm 6,[])] ++ if k=l then [] else [(nm 7,[])]
abbrev shR (r:PNx):Str × List Str:=(r.2.1,r.2.2.2)
def KdR (nm:Nat→Str) (kk l k:Nat) (d:KdT):Prop:=d.2.1=nm k∧(d.2.2.2.map shR).Perm (QV nm kk l k)
def VH (K:PySem.W.Frag):Sp:=fun vs H Q _=>∃ (ln:Addr) (ns:List Str) (kk l:Nat),vs=[.ref ln,.int (kk:Int),.int (l:Int)]∧SqL K H ln (ns.map V.str)∧ns.length=8∧ns.Nodup∧(∀ x ∈ ns,PyData.strOk x=true)∧0 < kk∧kk≤5 ∧
 ∀ (lw:Addr) (ks:List KdT) (H':Hp),Same H H'→WoodAt K H' lw ks→ks.length=kk→(∀ i d,ks[i]?=some d→KdR (nmL ns) kk l i d)→Q (.ref lw) H'
def JH (K:PySem.W.Frag):Sp:=fun vs H Q _=>∃ (p qa ln:Addr) (v:V) (ns:List Str) (far:Nat),vs=[.ref p,.ref ln,.int (far:Int)]∧SqT K H p [v,.ref qa]∧TrV K H v (chn (nmL ns) far)∧SqT K H qa ((List.replicate far (0:Int)).map V.int)∧SqL K H ln (ns.map V.str)∧ns.length=8∧far≤40∧∀ H':Hp,Same H H'→Q (.bl true) H'
theorem Wj {ns:List Str} (h8:ns.length=8) (hn:ns.Nodup) (kk l k:Nat):((QV (nmL ns) kk l k).map Prod.fst).Nodup:=by
 have n56:nmL ns 5≠nmL ns 6:=fun e=>absurd (Zh h8 hn (13:) (13:) e) (13:)
 have n57:nmL ns 5≠nmL ns 7:=fun e=>absurd (Zh h8 hn (13:) (13:) e) (13:)
 have n67:nmL ns 6≠nmL ns 7:=fun e=>absurd (Zh h8 hn (13:) (13:) e) (13:)
 unfold QV
 split
 ·simp [n56]
 ·simp [n56,n57,n67]
section
variable {P:Program} {w:World} {K:PySem.W.Frag} {mg:Str→Option Value} {base:Heap} {f:Addr} {fd:FuncData}
theorem X7:FnScope ["_law_count", "_law_odd", "_law_kinds", "_law_lack", "_law_far"] ["_law_count", "_law_odd", "_law_kinds", "_law_lack"] (defScope Xy):=(0:)
theorem Vi (F:Fun K "_law_first" "_law_first" Xy f fd) (G:Gm mg):FnOk P w K mg base CX0 1 f fd ["_law_count", "_law_odd", "_law_kinds", "_law_lack"] JE:=by
 refine F.ok X7 (8:) (2:)
 ·obtain ⟨c,o,kk,l,rfl,_⟩:=h
  rfl
 obtain ⟨c,o,kk,l,rfl,hc0,hc,hk0,hk,q1,q2⟩:=h
 refine ⟨_,(Qe (Q1 PassesOwn.never rfl (QY rfl G.rng (Qa (Qo Z1 (pv 0) (pv 2)) Qc)) (Qy (i:=4) X7.nd rfl (11:)) (Qg (Qz (PW.pt (pw_and (Qs ZB (Qo QE (pv 4) (pv 0)) (pv 1) (Qr _)) (pw_and1 (Qs ZB (Qo QE (pv 4) (pv 2)) (pv 3) (Qr _))))) (Qg (Qn (pv 4))) Qq)))
  (Qg (Qn Zi))),?_⟩
 have hm:c * kk≤100:=Nat.mul_le_mul hc hk
 have ecm:((c:Int) * (kk:Int))=((c * kk:Nat):Int):=(Int.natCast_mul c kk).symm
 refine ⟨_,rfl,_,rfl,_,_,rfl,rfl,.inl (12:),_,rfl,by rw [ecm];lia,by rw [ecm];lia,?_⟩
 have en:((c:Int) * (kk:Int)).toNat=c * kk:=by rw [ecm];exact Int.toNat_natCast _
 rw [en]
 refine Zp (lo:=0) (n:=c * kk) (fun i σ H'=>∃ c4:Option V,σ=[some (.int (c:Int)),some (.int (o:Int)),some (.int (kk:Int)),some (.int (l:Int)),c4]∧H'=H∧∀ n,n < i→¬ Bad c o kk l n) ⟨none,rfl,rfl,fun n hn=>absurd hn (Nat.not_lt_zero _)⟩ ?_ ?_
 ·rintro i σ H' hi ⟨c4,rfl,rfl,hno⟩
  have e1:(0 + (i:Int)) % (c:Int)=((i % c:Nat):Int):=by rw [Int.zero_add];exact (Int.natCast_emod i c).symm
  have e2:(0 + (i:Int)) % (kk:Int)=((i % kk:Nat):Int):=by rw [Int.zero_add];exact (Int.natCast_emod i kk).symm
  have next:¬ Bad c o kk l i→∀ n,n < i + 1→¬ Bad c o kk l n:=fun hb n hn=>by
   rcases Nat.lt_or_ge n i with z | z
   ·exact hno n z
   ·rw [show n=i by lia];exact hb
  refine ⟨_,rfl,_,rfl,_,_,rfl,rfl,(by show (0:Int) < c;lia),_,rfl,rfl,_,rfl,?_⟩
  by_cases h1:i % c=o
  ·refine YA (by show V.int ((0 + (i:Int)) % (c:Int))=V.int (o:Int);rw [e1,h1]) ⟨_,rfl,_,rfl,_,_,rfl,rfl,(by show (0:Int) < kk;lia),_,rfl,rfl,_,rfl,?_⟩
   by_cases h2:i % kk=l
   ·refine YA (by show V.int ((0 + (i:Int)) % (kk:Int))=V.int (l:Int);rw [e2,h2]) ⟨_,rfl,?_⟩
    have:=q1 i hi ⟨h1,h2⟩ hno
    rw [show (i:Int)=0 + (i:Int) by lia] at this
    exact this
   ·refine Zo (fun z=>?_) ⟨_,rfl,rfl,next fun z=>h2 z.2⟩
    have z:(0 + (i:Int)) % (kk:Int)=(l:Int):=by injection z
    rw [e2] at z
    lia
  ·refine Zo (fun z=>?_) ⟨_,rfl,rfl,next fun z=>h1 z.1⟩
   have z:(0 + (i:Int)) % (c:Int)=(o:Int):=by injection z
   rw [e1] at z
   lia
 ·rintro σ H' ⟨c4,rfl,rfl,hno⟩
  exact q2 hno
abbrev Og:List Str:=["_law_script", "_law_names_here", "_law_kind", "_law_count", "_law_odd", "_law_modes_here", "_law_i", "_law_cell", "_law_call", "_law_full", "_law_bare", "_law_rules"]
abbrev MQ:List Str:=["_law_script", "_law_names_here", "_law_kind", "_law_count", "_law_odd"]
theorem Ye:FnScope Og MQ (defScope Xr):=(0:)
theorem VQ (F:Fun K "_law_modes" "_law_modes" Xr f fd) (G:Gm mg) (RC:Fn P w K mg base 1 "_law_cell_at" ["_law_script", "_law_k"] (Ju K)) (RG:Fn P w K mg base 1 "_law_great" ["_law_cell"] JI):FnOk P w K mg base CX0 2 f fd MQ (Jf K):=by
 refine F.ok Ye (8:) (2:)
 ·obtain ⟨ls,ln,cells,ns,kd,c,o,rfl,_⟩:=h
  rfl
 obtain ⟨ls,ln,cells,ns,kd,c,o,rfl,hls,hln,h8,hc0,hc,q⟩:=h
 refine ⟨_,(Qe (Ql (i:=5) Ye.nd rfl (11:) (QK Qc))
  (Qe (Q1 PassesOwn.never rfl (QY rfl G.rng (Qa (pv 3) Qc)) (Qy (i:=6) Ye.nd rfl (11:)) (Qe (Ql (i:=7) Ye.nd rfl (11:) (Qv RC hr (Qa (pv 0) (Qa (Qo QC Qf (pv 6)) Qc))))
  (Qe (Ql (i:=8) Ye.nd rfl (11:) (Qm (Qa (QJ) (Qa (Qo QE (Qo QC (pv 6) Qf) (pv 3)) (Qa (Qf) Qc)))))
  (Qe (Ql (i:=9) Ye.nd rfl (11:) (Qm (Qa (QJ) (Qa (Qj Qx (pv 1) Qf (4:)) (Qa (Zf ZB (Qo QE (pv 7) Qf) Qf (Qr _)) (Qa (Qv RG hr (Qa (Qo Yk (pv 7) Qf) Qc)) (Qa ((Qm (Qa (pv 8) Qc))) Qc)))))))
  (Qe (Ql (i:=10) Ye.nd rfl (11:) (Qm (Qa (QJ) (Qa (Qj Qx (QK (Qa (Qj Qx (pv 1) Qf (4:)) (Qa (Qj Qx (pv 1) Qf (4:)) Qc))) (QI Yv rfl G.int PyProof.Rows.boot_int (Qa (Zf ZB (pv 6) (pv 4) (Qr _)) Qc)) (4:)) (Qa (Zf ZB (Qo QE (Qo Yk (pv 7) Qf) Qf) Qf (Qr _)) (Qa (Qv RG hr (Qa (Qo Yk (pv 7) Qf) Qc)) (Qa (Qm Qc) Qc)))))))
  (Qe (Ql (i:=11) Ye.nd rfl (11:) (QK (Qa (pv 10) (Qa (pv 9) Qc))))
  (Qe (Jb (Qz (Qs W5 (Qj Qx (pv 1) Qf (4:)) (Qj Qx (pv 1) Qf (4:)) (Qr _)) (Qg (Ql (i:=11) Ye.nd rfl (11:) (QK (Qa (pv 9) (Qa (pv 10) Qc))))) Qq))
  (Qg (QL (YJ PySem.F.plainAttrs_list PySem.F.slot_list_append PySem.F.type_list_append Q5 (pv 5) (Qa ((Qm (Qa (pv 2) (Qa (pv 11) Qc)))) Qc)))))))))))
  (Qg (Qn (pv 5))))),?_⟩
 refine ⟨(21:),fun lm hlm=>?_⟩
 have g0:=Qd hlm (.lst [])
 refine ⟨_,rfl,_,rfl,by lia,by lia,?_⟩
 rw [Int.toNat_natCast]
 refine Zp (lo:=0) (n:=c) (fun i σ H'=>∃ (c6 c7 c8 c9 c10 c11:Option V) (ms:List MoT),σ=[some (.ref ls),some (.ref ln),some (.str kd),some (.int (c:Int)),some (.int (o:Int)),some (.ref lm),c6,c7,c8,c9,c10,c11]∧Same H H'∧H' lm=some (.lst (ms.map fun m=>V.ref m.1))∧(∀ m ∈ ms,SqT K H' m.1 [.str m.2.1,.ref m.2.2.1]∧H' m.2.2.1=some (.lst m.2.2.2.1)∧m.2.2.1≠lm∧TmAll K H' m.2.2.2.1 m.2.2.2.2)∧ms.length=i∧∀ j m,ms[j]?=some m→MdR (nmL ns) kd c o j m)
  ⟨_,_,_,_,_,_,[],rfl,g0,Qb,fun m hm=>(nomatch hm),rfl,fun j m h=>by simp at h⟩ ?_ ?_
 ·rintro i σ H1 hi ⟨c6,c7,c8,c9,c10,c11,ms,rfl,g1,hlm1,hms1,hml,hmd⟩
  have e1:(0 + (i:Int)+1) % (c:Int)=(((i + 1) % c:Nat):Int):=by rw [Int.zero_add];exact (Int.natCast_emod (i + 1) c).symm
  refine ⟨_,rfl,_,rfl,_,_,rfl,rfl,ls,cells,_,rfl,by lia,g1.seq hls,fun cell=>?_⟩
  refine ⟨_,rfl,_,_,rfl,rfl,_,rfl,_,_,rfl,rfl,(by show (0:Int) < c;lia),(33:),fun pc hpc=>?_⟩
  have k1:=Qd hpc (.tup [.str CALL,.int ((0 + (i:Int)+1) % (c:Int)),.int 0])
  have hpc1:SqT K (upd H1 pc (.tup [.str CALL,.int ((0 + (i:Int)+1) % (c:Int)),.int 0])) pc [.str CALL,.int ((0 + (i:Int)+1) % (c:Int)),.int 0]:=SqT.of Qb
  generalize upd H1 pc (.tup [.str CALL,.int ((0 + (i:Int)+1) % (c:Int)),.int 0])=H2 at k1 hpc1 ⊢
  rw [e1] at hpc1
  have g2:=g1.trans k1
  refine ⟨_,rfl,ln,_,5,_,rfl,rfl,g2.seq hln,Q3 h8 (13:),_,rfl,_,_,rfl,rfl,(by show (0:Int) < 2;decide),rfl,_,rfl,_,_,rfl,rfl,⟨by decide,by decide⟩,_,rfl,fun af=>⟨_,rfl,(30:),fun pp hpp=>⟨(by show 5≤sizeLine;decide),fun pf hpf=>?_⟩⟩⟩
  have k2:=Qd hpp (.tup [.ref pc])
  have k3:=Qd hpf (.tup [.str PUT,.str (nmL ns 5),.bl (decide (V.int (cell % 2)=V.int 1)),.int af,.ref pp])
  have k23:=k2.trans k3
  have hF:TmV K (upd (upd H2 pp (.tup [.ref pc])) pf (.tup [.str PUT,.str (nmL ns 5),.bl (decide (V.int (cell % 2)=V.int 1)),.int af,.ref pp])) (.ref pf) (Zg (nmL ns) c i (decide (V.int (cell % 2)=V.int 1)) af):=.put (39:) (k3.seqT (39:)) (.cons (.call (k23.seqT hpc1)) .nil) (by show 1≤1000;decide)
  generalize upd (upd H2 pp (.tup [.ref pc])) pf (.tup [.str PUT,.str (nmL ns 5),.bl (decide (V.int (cell % 2)=V.int 1)),.int af,.ref pp])=H3 at k23 hF ⊢
  have g3:=g2.trans k23
  refine ⟨_,rfl,ln,_,6,_,rfl,rfl,g3.seq hln,Q3 h8 (13:),_,rfl,ln,_,7,_,rfl,rfl,g3.seq hln,Q3 h8 (13:),(17:),fun lz hlz=>⟨_,rfl,_,rfl,rfl,.inr ⟨_,rfl,?_⟩⟩⟩
  have k4:=Qd hlz (.lst [.str (nmL ns 6),.str (nmL ns 7)])
  have hlz4:SqL K (upd H3 lz (.lst [.str (nmL ns 6),.str (nmL ns 7)])) lz [.str (nmL ns 6),.str (nmL ns 7)]:=SqL.of Qb
  generalize upd H3 lz (.lst [.str (nmL ns 6),.str (nmL ns 7)])=H4 at k4 hlz4 ⊢
  have hat:atI [V.str (nmL ns 6),V.str (nmL ns 7)] (if decide (V.int (0 + (i:Int))=V.int (o:Int))=true then 1 else 0)=some (.str (nmL ns (if i=o then 7 else 6))):=by
   by_cases h:i=o
   ·rw [if_pos h,if_pos (decide_eq_true (by rw [h,Int.zero_add]))];rfl
   ·rw [if_neg h,if_neg (by rw [decide_eq_false (fun z=>h (by injection z with z;lia))];exact Bool.false_ne_true)];rfl
  refine ⟨lz,_,_,_,rfl,rfl,hlz4,hat,_,rfl,_,_,rfl,rfl,⟨by decide,by decide⟩,_,_,rfl,rfl,(by show (0:Int) < 2;decide),rfl,_,rfl,_,_,rfl,rfl,⟨by decide,by decide⟩,_,rfl,fun ab=>⟨(21:),fun p0 hp0=>⟨(by show 5≤sizeLine;decide),fun pb hpb=>?_⟩⟩⟩
  have k5:=Qd hp0 (.tup [])
  have k6:=Qd hpb (42:)
  have k46:=k4.trans (k5.trans k6)
  have hBt:TmV K (upd (upd H4 p0 (.tup [])) pb (42:)) (.ref pb) (Q2 (nmL ns) o i (decide (V.int (cell / 2 % 2)=V.int 1)) ab):=.put (39:) (k6.seqT (39:)) .nil (by show 0≤1000;decide)
  generalize upd (upd H4 p0 (.tup [])) pb (42:)=H5 at k46 hBt ⊢
  have g5:=g3.trans k46
  have hF5:=hF.mono fun _ _=>k46.seqT
  refine ⟨_,rfl,_,rfl,(17:),fun lr hlr=>?_⟩
  have k7:=Qd hlr (.lst [.ref pb,.ref pf])
  have hlr7:upd H5 lr (.lst [.ref pb,.ref pf]) lr=some (.lst [.ref pb,.ref pf]):=Qb
  generalize upd H5 lr (.lst [.ref pb,.ref pf])=H6 at k7 hlr7 ⊢
  have g6:=g5.trans k7
  have hB6:=hBt.mono fun _ _=>k7.seqT
  have hF6:=hF5.mono fun _ _=>k7.seqT
  have k16:Same H1 H6:=k1.trans (k23.trans (k46.trans k7))
  have nlr:∀ a u,H1 a=some u→a≠lr:=fun a u e=>Qh ((k1.trans (k23.trans k46)) _ _ e) hlr
  refine ⟨fun σ' H'=>∃ (lr:Addr) (vs:List V) (ts:List Tm),σ'=[some (.ref ls),some (.ref ln),some (.str kd),some (.int (c:Int)),some (.int (o:Int)),some (.ref lm),some (.int (0 + (i:Int))),some (.int cell),some (.ref pc),some (.ref pf),some (.ref pb),some (.ref lr)]∧Same H1 H'∧H1 lr=none∧H' lr=some (.lst vs)∧TmAll K H' vs ts∧ts=(if ltS (nmL ns 1) (nmL ns 0)=true then [Zg (nmL ns) c i (decide (V.int (cell % 2)=V.int 1)) af,Q2 (nmL ns) o i (decide (V.int (cell / 2 % 2)=V.int 1)) ab] else [Q2 (nmL ns) o i (decide (V.int (cell / 2 % 2)=V.int 1)) ab,Zg (nmL ns) c i (decide (V.int (cell % 2)=V.int 1)) af]),?_,?_⟩
  ·refine ⟨_,rfl,ln,_,1,_,rfl,rfl,g6.seq hln,Q3 h8 (13:),_,rfl,ln,_,0,_,rfl,rfl,g6.seq hln,Q3 h8 (13:),_,_,rfl,rfl,_,rfl,XM (fun z=>?_) (fun z=>?_)⟩
   ·refine ⟨_,rfl,_,rfl,(17:),fun l2 hl2=>?_⟩
    have k8:=Qd hl2 (.lst [.ref pf,.ref pb])
    refine ⟨l2,_,_,rfl,k16.trans k8,?_,Qb,.cons (hF6.mono fun _ _=>k8.seqT) (.cons (hB6.mono fun _ _=>k8.seqT) .nil),?_⟩
    ·cases e:H1 l2 with
     | none=>rfl
     | some u=>rw [k16 _ _ e] at hl2;cases hl2
    ·unfold ltS
     rw [if_pos z]
   ·refine ⟨lr,_,_,rfl,k16,?_,hlr7,.cons hB6 (.cons hF6 .nil),?_⟩
    ·cases e:H1 lr with
     | none=>rfl
     | some u=>exact absurd rfl (nlr lr u e)
    ·unfold ltS
     rw [if_neg z]
  rintro σ H7 ⟨lr,vs,ts,rfl,k7,hlr0,hlr7,hvs,ets⟩
  have hlm7:=k7 _ _ hlm1
  have nll:lr≠lm:=fun z=>by rw [z,hlm1] at hlr0;cases hlr0
  refine ⟨_,rfl,.inl ⟨rfl,_,SqL.of hlm7⟩,_,rfl,_,rfl,(17:),fun p hp=>?_⟩
  have kp:=Qd hp (.tup [.str kd,.ref lr])
  have hlm8:=kp _ _ hlm7
  refine ⟨lm,_,_,rfl,rfl,hlm8,(by rw [List.length_map,QB];lia),?_⟩
  have kput:=Kp.put (K:=K) (o:=.lst (ms.map (fun m=>V.ref m.1) ++ [V.ref p])) hlm8
  have ok:∀ a u,a≠lm→H7 a=some u→upd (upd H7 p (.tup [.str kd,.ref lr])) lm (.lst (ms.map (fun m=>V.ref m.1) ++ [V.ref p])) a=some u:=fun a u na h=>by rw [Qi na];exact kp _ _ h
  refine ⟨_,_,_,_,_,_,ms ++ [(p,kd,lr,vs,ts)],rfl,fun b u e=>ok b u (Qh e hlm) (k7 _ _ (g1 _ _ e)),by rw [Qb,List.map_append];rfl,fun m hm=>?_,by rw [List.length_append,List.length_singleton,hml],fun j m hjm=>?_⟩
  ·rcases List.mem_append.mp hm with z | z
   ·obtain ⟨z1,z2,z3,z4⟩:=hms1 m z
    exact ⟨kput.2 _ _ (kp.seqT (k7.seqT z1)),ok _ _ z3 (k7 _ _ z2),z3,z4.mono fun _ _ h=>kput.2 _ _ (kp.seqT (k7.seqT h))⟩
   ·obtain rfl:m=(p,kd,lr,vs,ts):=by simpa using z
    exact ⟨kput.2 _ _ (39:),ok _ _ nll hlr7,nll,hvs.mono fun _ _ h=>kput.2 _ _ (kp.seqT h)⟩
  ·rcases Nat.lt_or_ge j ms.length with z | z
   ·rw [List.getElem?_append_left z] at hjm
    exact hmd j m hjm
   ·have hj2:=(List.getElem?_eq_some_iff.mp hjm).1
    rw [List.length_append,List.length_singleton] at hj2
    obtain rfl:j=i:=by lia
    rw [List.getElem?_append_right (12:),hml,Nat.sub_self] at hjm
    obtain rfl:(p,kd,lr,vs,ts)=m:=Option.some.inj hjm
    exact ⟨rfl,_,_,_,_,ets⟩
 ·rintro σ H1 ⟨c6,c7,c8,c9,c10,c11,ms,rfl,g1,hlm1,hms1,hml,hmd⟩
  exact ⟨_,rfl,q lm ms H1 g1 (SqL.of hlm1) (fun m hm=>⟨(hms1 m hm).1,SqL.of (hms1 m hm).2.1,(hms1 m hm).2.2.2⟩) hml hmd⟩
end
end K63
namespace K63
open PySem L2 TM TT K9 K11
def Oe (t:TE):TE:=fun σ H Q=>∃ R:VK,t σ H R∧∀ v H',R v H'→Q v H'
theorem MH {X:Cx} {e:Expr} {t:TE} (h:PE X e t):PE X e (Oe t):=by
 intro pins s σ H Q I hw
 obtain ⟨R,h1,h2⟩:=hw
 exact thn (h pins s σ H R I h1) fun u s1 ⟨x,H1,I1,r1,q1⟩=>⟨x,H1,I1,r1,h2 x H1 q1⟩
theorem Na {c A B:Prop} [Decidable c] (hc:¬ c) (h:A):if (!decide c)=true then A else B:=by
 rw [decide_eq_false hc];exact Zl h
theorem Wu {ns:List Str} (h8:ns.length=8) (hs:∀ x ∈ ns,PyData.strOk x=true) {kk l k:Nat} (hk:kk≤5) (h0:0 < kk):∀ r ∈ QV (nmL ns) kk l k,PyData.strOk r.1=true∧r.2.length≤1∧∀ x ∈ r.2,PyData.strOk x=true∧∃ j,j < kk∧x=nmL ns j:=by
 have hm:(k + 1) % kk < kk:=Nat.mod_lt _ h0
 intro r hr
 unfold QV at hr
 rcases List.mem_append.mp hr with z | z
 ·simp only [List.mem_cons,List.mem_nil_iff,or_false] at z
  rcases z with rfl | rfl
  ·refine ⟨hs _ (ZI h8 (13:)),Nat.le_refl _,fun x hx=>?_⟩
   obtain rfl:=List.mem_singleton.mp hx
   exact ⟨hs _ (ZI h8 (12:)),_,hm,rfl⟩
  ·exact ⟨hs _ (ZI h8 (13:)),Nat.zero_le _,fun x hx=>(nomatch hx)⟩
 ·split at z
  ·cases z
  ·obtain rfl:=List.mem_singleton.mp z
   exact ⟨hs _ (ZI h8 (13:)),Nat.zero_le _,fun x hx=>(nomatch hx)⟩
section
variable {P:Program} {w:World} {K:PySem.W.Frag} {mg:Str→Option Value} {base:Heap} {f:Addr} {fd:FuncData}
theorem Wx:FnScope ["_law_names_here", "_law_count", "_law_odd", "_law_wood", "_law_k", "_law_rows"] ["_law_names_here", "_law_count", "_law_odd"] (defScope Lg):=(0:)
theorem Mt (F:Fun K "_law_out" "_law_out" Lg f fd) (G:Gm mg):FnOk P w K mg base CX0 1 f fd ["_law_names_here", "_law_count", "_law_odd"] (VH K):=by
 refine F.ok Wx (8:) (2:)
 ·obtain ⟨ln,ns,kk,l,rfl,_⟩:=h
  rfl
 obtain ⟨ln,ns,kk,l,rfl,hln,h8,hnd,hok,hk0,hk5,q⟩:=h
 have room:∀ m:Nat,m≤64→(A.deeper (PyProof.Rows.envOfC "_law_out" (defScope Lg) s.heap.objs.size f cdv)).units + m < cLine:=fun m hm=>by have:=hr.units;lia
 refine ⟨_,(Qe (Ql (i:=3) Wx.nd rfl (11:) (QK Qc))
  (Qe (Q1 PassesOwn.never rfl (QY rfl G.rng (Qa (pv 1) Qc)) (Qy (i:=4) Wx.nd rfl (11:)) (Qe (Ql (i:=5) Wx.nd rfl (11:) (QK (Qa ((Qm (Qa (Qj Qx (pv 0) Qf (4:)) (Qa ((Qm (Qa (Qj Qx (pv 0) (Qo QE (Qo QC (pv 4) Qf) (pv 1)) (4:)) Qc))) Qc)))) (Qa ((Qm (Qa (Qj Qx (pv 0) Qf (4:)) (Qa (Qm Qc) Qc)))) Qc))))
  (Qe (Jb (Qz (Qs U3 (pv 4) (pv 2) (Qr _)) (Qg (QL (YJ PySem.F.plainAttrs_list PySem.F.slot_list_append PySem.F.type_list_append Q5 (pv 5) (Qa ((Qm (Qa (Qj Qx (pv 0) Qf (4:)) (Qa (Qm Qc) Qc)))) Qc)))) Qq))
  (Qg (QL (YJ PySem.F.plainAttrs_list PySem.F.slot_list_append PySem.F.type_list_append Q5 (pv 3) (Qa ((Qm (Qa (Qj Qx (pv 0) (pv 4) (4:)) (Qa (Qp (Yn (room 4 (13:))) rfl G.srt PyProof.Rows.boot_sorted (Qa (pv 5) Qc)) Qc)))) Qc)))))))
  (Qg (Qn (pv 3))))),?_⟩
 refine ⟨(21:),fun lw hlw=>?_⟩
 have g0:=Qd hlw (.lst [])
 refine ⟨_,rfl,_,rfl,by lia,by lia,?_⟩
 rw [Int.toNat_natCast]
 refine Zp (lo:=0) (n:=kk) (fun i σ H'=>∃ (c4 c5:Option V) (ks:List KdT),σ=[some (.ref ln),some (.int (kk:Int)),some (.int (l:Int)),some (.ref lw),c4,c5]∧Same H H'∧H' lw=some (.lst (ks.map fun k=>V.ref k.1))∧(∀ k ∈ ks,SqT K H' k.1 [.str k.2.1,.ref k.2.2.1]∧H' k.2.2.1=some (.lst (k.2.2.2.map fun t=>V.ref t.1))∧k.2.2.1≠lw∧∀ t ∈ k.2.2.2,RowAt K H' t)∧ks.length=i∧∀ j d,ks[j]?=some d→KdR (nmL ns) kk l j d)
  ⟨_,_,[],rfl,g0,Qb,fun m hm=>(nomatch hm),rfl,fun j m h=>by simp at h⟩ ?_ ?_
 ·rintro i σ H1 hi ⟨c4,c5,ks,rfl,g1,hlw1,hks1,hkl,hkr⟩
  have e1:(0 + (i:Int)+1) % (kk:Int)=(((i + 1) % kk:Nat):Int):=by rw [Int.zero_add];exact (Int.natCast_emod (i + 1) kk).symm
  have hm:(i + 1) % kk < kk:=Nat.mod_lt _ hk0
  have hat:atI (ns.map V.str) ((0 + (i:Int)+1) % (kk:Int))=some (.str (nmL ns ((i + 1) % kk))):=by rw [e1];exact Q3 h8 (12:)
  have hati:atI (ns.map V.str) (0 + (i:Int))=some (.str (nmL ns i)):=by rw [Int.zero_add];exact Q3 h8 (12:)
  refine ⟨_,rfl,ln,_,5,_,rfl,rfl,g1.seq hln,Q3 h8 (13:),_,rfl,_,rfl,_,_,rfl,rfl,_,rfl,_,_,rfl,rfl,(by show (0:Int) < kk;lia),ln,_,_,_,rfl,rfl,g1.seq hln,hat,(30:),fun p1 hp1=>⟨(17:),fun p2 hp2=>?_⟩⟩
  have k1:=Qd hp1 (.tup [.str (nmL ns ((i + 1) % kk))])
  have k2:=Qd hp2 (.tup [.str (nmL ns 5),.ref p1])
  have k12:=k1.trans k2
  have r5:RowAt K (upd (upd H1 p1 (.tup [.str (nmL ns ((i + 1) % kk))])) p2 (.tup [.str (nmL ns 5),.ref p1])) (p2,nmL ns 5,p1,[nmL ns ((i + 1) % kk)]):=⟨SqT.of Qb,k2.seqT (39:)⟩
  generalize upd (upd H1 p1 (.tup [.str (nmL ns ((i + 1) % kk))])) p2 (.tup [.str (nmL ns 5),.ref p1])=H2 at k12 r5 ⊢
  have g2:=g1.trans k12
  refine ⟨_,rfl,ln,_,6,_,rfl,rfl,g2.seq hln,Q3 h8 (13:),(21:),fun p3 hp3=>⟨(17:),fun p4 hp4=>⟨(17:),fun lr hlr=>?_⟩⟩⟩
  have k3:=Qd hp3 (.tup [])
  have k4:=Qd hp4 (.tup [.str (nmL ns 6),.ref p3])
  have k5:=Qd hlr (.lst [.ref p2,.ref p4])
  have k35:=k3.trans (k4.trans k5)
  have r6:RowAt K (upd (upd (upd H2 p3 (.tup [])) p4 (.tup [.str (nmL ns 6),.ref p3])) lr (.lst [.ref p2,.ref p4])) (p4,nmL ns 6,p3,[]):=⟨k5.seqT (39:),(k4.trans k5).seqT (39:)⟩
  have hlr5:upd (upd (upd H2 p3 (.tup [])) p4 (.tup [.str (nmL ns 6),.ref p3])) lr (.lst [.ref p2,.ref p4]) lr=some (.lst [.ref p2,.ref p4]):=Qb
  have nlr:H1 lr=none:=by
   cases e:H1 lr with
   | none=>rfl
   | some u=>rw [(k12.trans (k3.trans k4)) _ _ e] at hlr;cases hlr
  generalize upd (upd (upd H2 p3 (.tup [])) p4 (.tup [.str (nmL ns 6),.ref p3])) lr (.lst [.ref p2,.ref p4])=H3 at k35 r6 hlr5 ⊢
  have r5:=r5.same k35
  have k13:=k12.trans k35
  have g3:=g2.trans k35
  refine ⟨fun σ' H'=>∃ rs:List PNx,σ'=[some (.ref ln),some (.int (kk:Int)),some (.int (l:Int)),some (.ref lw),some (.int (0 + (i:Int))),some (.ref lr)]∧Same H1 H'∧H' lr=some (.lst (rs.map fun t=>V.ref t.1))∧(∀ t ∈ rs,RowAt K H' t)∧rs.map shR=QV (nmL ns) kk l i,?_,?_⟩
  ·refine ⟨_,rfl,_,rfl,rfl,_,rfl,?_⟩
   by_cases h:i=l
   ·refine YR (by rw [h,Int.zero_add]) ⟨[(p2,nmL ns 5,p1,[nmL ns ((i + 1) % kk)]),(p4,nmL ns 6,p3,[])],rfl,k13,hlr5,fun t ht=>?_,?_⟩
    ·simp only [List.mem_cons,List.mem_nil_iff,or_false] at ht
     rcases ht with rfl | rfl
     ·exact r5
     ·exact r6
    ·unfold QV
     rw [if_pos h]
     rfl
   ·refine Na (fun z=>h (by injection z with z;lia)) ?_
    refine ⟨_,rfl,.inl ⟨rfl,_,SqL.of hlr5⟩,_,rfl,ln,_,7,_,rfl,rfl,g3.seq hln,Q3 h8 (13:),(21:),fun p5 hp5=>⟨(17:),fun p6 hp6=>?_⟩⟩
    have j1:=Qd hp5 (.tup [])
    have j2:=Qd hp6 (.tup [.str (nmL ns 7),.ref p5])
    have j12:=j1.trans j2
    have hlr6:=j12 _ _ hlr5
    refine ⟨lr,_,_,rfl,rfl,hlr6,(by show 2 < sizeLine;rw [QB];decide),?_⟩
    have kput:=Kp.put (K:=K) (o:=.lst [.ref p2,.ref p4,.ref p6]) hlr6
    refine ⟨[(p2,nmL ns 5,p1,[nmL ns ((i + 1) % kk)]),(p4,nmL ns 6,p3,[]),(p6,nmL ns 7,p5,[])],rfl,fun b u e=>?_,Qb,fun t ht=>?_,?_⟩
    ·rw [Qi (Qh e nlr)];exact j12 _ _ (k13 _ _ e)
    ·simp only [List.mem_cons,List.mem_nil_iff,or_false] at ht
     rcases ht with rfl | rfl | rfl
     ·exact ⟨kput.2 _ _ (j12.seqT r5.1),kput.2 _ _ (j12.seqT r5.2)⟩
     ·exact ⟨kput.2 _ _ (j12.seqT r6.1),kput.2 _ _ (j12.seqT r6.2)⟩
     ·exact ⟨kput.2 _ _ (39:),kput.2 _ _ (j2.seqT (39:))⟩
    ·unfold QV
     rw [if_neg h]
     rfl
  rintro σ H4 ⟨rs,rfl,k14,hlr4,hrs4,ers⟩
  have hro:=Wu (kk:=kk) (l:=l) (k:=i) h8 hok hk5 hk0
  have hmr:∀ t ∈ rs,shR t ∈ QV (nmL ns) kk l i:=fun t ht=>by rw [← ers];exact List.mem_map_of_mem ht
  have hnd4:(rs.map fun t=>t.2.1).Nodup:=by
   have:=Wj h8 hnd kk l i
   rw [← ers,List.map_map] at this
   exact this
  have hrl:rs.length≤3:=by
   have:=congrArg List.length ers
   rw [List.length_map] at this
   rw [this]
   unfold QV
   split <;> simp
  have hlw4:=k14 _ _ hlw1
  refine ⟨_,rfl,.inl ⟨rfl,_,SqL.of hlw4⟩,_,rfl,_,rfl,ln,_,_,_,rfl,rfl,(g1.trans k14).seq hln,hati,_,rfl,lr,rs,rfl,SqL.of hlr4,fun t ht=>⟨(hrs4 t ht).1,(hrs4 t ht).2,fun x hx=>((hro _ (hmr t ht)).2.2 x hx).1⟩,hnd4,by lia,fun out po hperm hasc hpo=>⟨(17:),fun pk hpk=>?_⟩⟩
  have j1:=Qd hpo (.lst (out.map fun t=>V.ref t.1))
  have j2:=Qd hpk (.tup [.str (nmL ns i),.ref po])
  have j12:=j1.trans j2
  have hlw6:=j12 _ _ hlw4
  have npo:po≠lw:=fun z=>by rw [z,hlw4] at hpo;cases hpo
  refine ⟨lw,_,_,rfl,rfl,hlw6,by rw [List.length_map,QB];lia,?_⟩
  have kput:=Kp.put (K:=K) (o:=.lst (ks.map (fun k=>V.ref k.1) ++ [V.ref pk])) hlw6
  have ok:∀ a u,a≠lw→upd (upd H4 po (.lst (out.map fun t=>V.ref t.1))) pk (.tup [.str (nmL ns i),.ref po]) a=some u→upd (upd (upd H4 po (.lst (out.map fun t=>V.ref t.1))) pk (.tup [.str (nmL ns i),.ref po])) lw (.lst (ks.map (fun k=>V.ref k.1) ++ [V.ref pk])) a=some u:=fun a u na h=>by rw [Qi na];exact h
  have k16:=k14.trans j12
  refine ⟨_,_,ks ++ [(pk,nmL ns i,po,out)],rfl,fun b u e=>ok b u (Qh e hlw) (k16 _ _ (g1 _ _ e)),by rw [Qb,List.map_append];rfl,fun k hk=>?_,by rw [List.length_append,List.length_singleton,hkl],fun j d hjd=>?_⟩
  ·rcases List.mem_append.mp hk with z | z
   ·obtain ⟨z1,z2,z3,z4⟩:=hks1 k z
    exact ⟨kput.2 _ _ (k16.seqT z1),ok _ _ z3 (k16 _ _ z2),z3,fun t ht=>⟨kput.2 _ _ (k16.seqT (z4 t ht).1),kput.2 _ _ (k16.seqT (z4 t ht).2)⟩⟩
   ·obtain rfl:k=(pk,nmL ns i,po,out):=by simpa using z
    refine ⟨kput.2 _ _ (39:),ok _ _ npo (j2 _ _ Qb),npo,fun t ht=>?_⟩
    have:=hrs4 t (hperm.mem_iff.mp ht)
    exact ⟨kput.2 _ _ (j12.seqT this.1),kput.2 _ _ (j12.seqT this.2)⟩
  ·rcases Nat.lt_or_ge j ks.length with z | z
   ·rw [List.getElem?_append_left z] at hjd
    exact hkr j d hjd
   ·have hj2:=(List.getElem?_eq_some_iff.mp hjd).1
    rw [List.length_append,List.length_singleton] at hj2
    obtain rfl:j=i:=by lia
    rw [List.getElem?_append_right (12:),hkl,Nat.sub_self] at hjd
    obtain rfl:(pk,nmL ns j,po,out)=d:=Option.some.inj hjd
    exact ⟨rfl,by rw [← ers];exact hperm.map shR⟩
 ·rintro σ H1 ⟨c4,c5,ks,rfl,g1,hlw1,hks1,hkl,hkr⟩
  exact ⟨_,rfl,q lw ks H1 g1 ⟨SqL.of hlw1,fun k hk=>⟨(hks1 k hk).1,SqL.of (hks1 k hk).2.1,(hks1 k hk).2.2.2⟩⟩ hkl hkr⟩
theorem Y4:FnScope ["_law_found", "_law_names_here", "_law_far", "_law_tree", "_law_k"] ["_law_found", "_law_names_here", "_law_far"] (defScope Jy):=(0:)
theorem G9 (n:Nat):(List.replicate n [V.int 0]).flatten=(List.replicate n (0:Int)).map V.int:=by
 induction n with
 | zero=>rfl
 | succ n ih=>rw [List.replicate_succ,List.replicate_succ,List.flatten_cons,ih];rfl
theorem Yo {K:PySem.W.Frag} {H:Hp}:∀ p:List Int,RdAll K H (p.map V.int) (p.map .int)
 | []=>.nil
 | i :: r=>.cons (.int i) (Yo r)
theorem Yb:∀ p:List Int,PyData.canLayAll0 (p.map PyData.int)=true∧PyData.depthAll (p.map PyData.int)≤1
 | []=>by simp [PyData.canLayAll0,PyData.depthAll]
 | i :: r=>by
  obtain ⟨h1,h2⟩:=Yb r
  simp only [List.map_cons,PyData.canLayAll0,PyData.depthAll,PyData.canLay0,PyData.depth,h1,Bool.and_self,true_and]
  lia
theorem V5 (F:Fun K "_law_right" "_law_right" Jy f fd) (G:Gm mg) (RW:Fn P w K mg base 1 "_law_whole" ["_law_found"] JD):FnOk P w K mg base CX0 2 f fd ["_law_found", "_law_names_here", "_law_far"] (JH K):=by
 refine F.ok Y4 (8:) (2:)
 ·obtain ⟨p,qa,ln,v,ns,far,rfl,_⟩:=h
  rfl
 obtain ⟨p,qa,ln,v,ns,far,rfl,hp,hv,hqa,hln,h8,h40,q⟩:=h
 have room:∀ m:Nat,m≤64→(A.deeper (PyProof.Rows.envOfC "_law_right" (defScope Jy) s.heap.objs.size f cdv)).units + m < cLine:=fun m hm=>by have:=hr.units;lia
 refine ⟨_,(Qe (Qz (PW.pt (pw_or (UK (Q0 (Qp Zx rfl G.isi PyProof.Rows.boot_isinstance (Qa (pv 0) (Qa (Zb (v:=.ty "tuple") rfl G.tup PyProof.Rows.boot_tuple rfl) Qc))))) (pw_or (Qs U3 (Qp Qw rfl G.len PySem.boot_len (Qa (pv 0) Qc)) Qf (Qr _)) (pw_or1 (Qs Gf (40:) (MH (Qo Gz (Qm (Qa (Qf) Qc)) (pv 2))) (Qr _)))))) (Qg (Qn ZO)) Qq)
  (Qe (Ql (i:=3) Y4.nd rfl (11:) (40:))
  (Qe (Q1 PassesOwn.never rfl (QY rfl G.rng (Qa (Qo QC (pv 2) Qf) Qc)) (Qy (i:=4) Y4.nd rfl (11:)) (Qe (Qz (PW.pt (pw_or (UK (Q0 (Qp Zx rfl G.isi PyProof.Rows.boot_isinstance (Qa (pv 3) (Qa (Zb (v:=.ty "tuple") rfl G.tup PyProof.Rows.boot_tuple rfl) Qc))))) (pw_or (Qs U3 (Qp Qw rfl G.len PySem.boot_len (Qa (pv 3) Qc)) Qf (Qr _)) (pw_or1 (UK (Q0 (Qv RW hr (Qa (52:) Qc)))))))) (Qg (Qn ZO)) Qq)
  (Qe (Qz (PW.pt (pw_or (Qs U3 (52:) (Qj Qx (pv 1) (QI Yv rfl G.int PyProof.Rows.boot_int (Qa (Zf YT (pv 4) (pv 2) (Qr _)) Qc)) (4:)) (Qr _)) (pw_or (UK (Q0 (Qp Zx rfl G.isi PyProof.Rows.boot_isinstance (Qa (52:) (Qa (Zb (v:=.ty "tuple") rfl G.tup PyProof.Rows.boot_tuple rfl) Qc))))) (pw_or1 (Qs U3 (Qp Qw rfl G.len PySem.boot_len (Qa (52:) Qc)) (QI Yv rfl G.int PyProof.Rows.boot_int (Qa (Zf YT (pv 4) (pv 2) (Qr _)) Qc)) (Qr _)))))) (Qg (Qn ZO)) Qq)
  (Qg (Qz (Qs YT (pv 4) (pv 2) (Qr _)) (Qg (Ql (i:=3) Y4.nd rfl (11:) (Qj Qk (52:) Qf (4:)))) Qq)))))
  (Qg (Qn ZO))))),?_⟩
 obtain ⟨l1,l2⟩:=Yb (List.replicate far (0:Int))
 have lay:(PyData.tuple ((List.replicate far (0:Int)).map .int)).canLay0=true:=by simp only [PyData.canLay0];exact l1
 have dep:(PyData.tuple ((List.replicate far (0:Int)).map .int)).depth≤5:=by simp only [PyData.depth];lia
 refine ⟨_,rfl,p,_, "tuple", true,rfl,hp,rfl,_,rfl,ZW ⟨_,rfl,p,_,rfl,.inr hp,rfl,_,rfl,YR rfl ⟨_,rfl,p,_,1,_,rfl,rfl,hp,rfl,?_⟩⟩⟩
 refine ⟨fun x H'=>∃ a,x=.ref a∧Same H H'∧SqT K H' a ((List.replicate far (0:Int)).map V.int),⟨(30:),fun p1 hp1=>?_⟩,?_⟩
 ·have k1:=Qd hp1 (.tup [.int 0])
  refine ⟨_,rfl,p1,_,_,rfl,rfl,SqT.of Qb,(18:),by lia,by lia,?_,fun e=>⟨p1,rfl,k1,?_⟩,fun e p2 hp2=>⟨p2,rfl,k1.trans (Qd hp2 _),?_⟩⟩
  ·show 1 * ((far:Int)).toNat≤sizeLine
   rw [QB,Int.toNat_natCast];lia
  ·rw [show far=1 by lia];exact SqT.of Qb
  ·rw [Int.toNat_natCast,G9];exact SqT.of Qb
 rintro x H1 ⟨a,rfl,g1,ha⟩
 refine ⟨_,_,.tup (g1.seqT hqa) (Yo _),.tup ha (Yo _),lay,lay,room _ (Nat.le_trans (Nat.min_le_left _ _) (12:)),_,rfl,?_⟩
 rw [if_pos rfl,ZG _ lay]
 refine ZW ⟨_,rfl,p,_,0,_,rfl,rfl,g1.seqT hp,rfl,?_⟩
 refine ⟨_,rfl,_,_,rfl,rfl,_,rfl,by lia,by lia,?_⟩
 rw [show ((far:Int)+1).toNat=far + 1 by lia]
 refine Zp (lo:=0) (n:=far + 1) (fun i σ H'=>∃ (c4:Option V) (tv:V),σ=[some (.ref p),some (.ref ln),some (.int (far:Int)),some tv,c4]∧H'=H1∧TrV K H' tv (chn (nmL ns) (far - i))) ⟨none,v,rfl,rfl,hv.mono fun _ _=>g1.seqT⟩ ?_ ?_
 ·rintro i σ H' hi ⟨c4,tv,rfl,rfl,htv⟩
  obtain ⟨ta,tb,us,name,mark,rfl,et,h1,h2,h3,h4⟩:=Yc htv
  have l3:=h3.length
  refine ⟨_,rfl,ta,_, "tuple", true,rfl,h1,rfl,_,rfl,ZW ⟨_,rfl,ta,_,rfl,.inr h1,rfl,_,rfl,YR rfl ⟨_,rfl,ta,_,1,_,rfl,rfl,h1,rfl,mark,rfl,_,rfl,ZW ?_⟩⟩⟩
  by_cases hf:i < far
  ·obtain ⟨m,hm⟩ : ∃ m,far - i=m + 1:=⟨far - i - 1,by lia⟩
   rw [hm] at et h3 l3
   have en:name=nmL ns 1:=by injection et with z1 z2 z3;exact z1.symm
   have lt:(0 + (i:Int)) < (far:Int):=by lia
   have hd:decide ((0 + (i:Int)) < (far:Int))=true:=decide_eq_true lt
   have hat:atI (ns.map V.str) (if decide ((0 + (i:Int)) < (far:Int))=true then 1 else 0)=some (.str (nmL ns 1)):=by rw [if_pos hd];exact Q3 h8 (i:=1) (13:)
   obtain ⟨cv,hcv,hct⟩:=h3.get (i:=0) (t:=chn (nmL ns) m) rfl
   refine ⟨_,rfl,ta,_,0,_,rfl,rfl,h1,rfl,_,rfl,_,rfl,_,rfl,_,_,rfl,rfl,.inr ⟨_,rfl,ln,_,_,_,rfl,rfl,g1.seq hln,hat,rfl,_,rfl,YR (by rw [en]) ⟨_,rfl,ta,_,2,_,rfl,rfl,h1,rfl,tb,_, "tuple", true,rfl,h2,rfl,_,rfl,ZW ⟨_,rfl,ta,_,2,_,rfl,rfl,h1,rfl,tb,_,rfl,.inr h2,_,rfl,_,rfl,_,_,rfl,rfl,.inr ⟨_,rfl,rfl,_,rfl,YR ?_ ?_⟩⟩⟩⟩⟩
   ·rw [if_pos hd,l3];rfl
   ·refine ⟨_,rfl,_,rfl,_,_,rfl,rfl,_,rfl,YA lt ⟨_,rfl,ta,_,2,_,rfl,rfl,h1,rfl,tb,_,0,cv,rfl,rfl,h2,QH (j:=0) hcv,?_⟩⟩
    exact ⟨_,cv,rfl,rfl,by rw [show far - (i + 1)=m by lia];exact hct⟩
  ·have hm:far - i=0:=by lia
   rw [hm] at et h3 l3
   have en:name=nmL ns 0:=by injection et with z1 z2 z3;exact z1.symm
   have lt:¬ (0 + (i:Int)) < (far:Int):=by lia
   have hd:decide ((0 + (i:Int)) < (far:Int))=false:=decide_eq_false lt
   have hat:atI (ns.map V.str) (if decide ((0 + (i:Int)) < (far:Int))=true then 1 else 0)=some (.str (nmL ns 0)):=by rw [hd];exact Q3 h8 (i:=0) (13:)
   refine ⟨_,rfl,ta,_,0,_,rfl,rfl,h1,rfl,_,rfl,_,rfl,_,rfl,_,_,rfl,rfl,.inr ⟨_,rfl,ln,_,_,_,rfl,rfl,g1.seq hln,hat,rfl,_,rfl,YR (by rw [en]) ⟨_,rfl,ta,_,2,_,rfl,rfl,h1,rfl,tb,_, "tuple", true,rfl,h2,rfl,_,rfl,ZW ⟨_,rfl,ta,_,2,_,rfl,rfl,h1,rfl,tb,_,rfl,.inr h2,_,rfl,_,rfl,_,_,rfl,rfl,.inr ⟨_,rfl,rfl,_,rfl,YR ?_ ?_⟩⟩⟩⟩⟩
   ·rw [hd,l3];rfl
   ·refine ⟨_,rfl,_,rfl,_,_,rfl,rfl,_,rfl,Zo lt ?_⟩
    refine ⟨_,.ref ta,rfl,rfl,?_⟩
    rw [show far - (i + 1)=0 by lia]
    rw [hm] at htv
    exact htv
 ·rintro σ H' ⟨c4,tv,rfl,rfl,htv⟩
  exact q _ g1
end
end K63
namespace L2
open PySem PySem.Spec PyProof.Rows
def ExcO (a:Addr) (cls:Value):HO:=.ext fun h=>∃ ob,h.get? a=some ob∧ob.cls=cls
section
variable {X:Cx} {pins:List (7:)} {σ:St} {H H':Hp} {s s':Shared} {a:Addr}
theorem Inv.track {o:HO} (I:Inv X pins σ H s) (hn:H a=none) (h0:∀ ob,X.s₀.heap.get? a≠some ob) (hL:a≠X.env.locals) (hc:∀ x c,X.env.cells.lookup x=some c→c≠a) (hp:∀ p ∈ X.pn ++ pins,p.1≠a) (ok:ObjOk X.prog X.w (upd H a o) s.heap a o):Inv X pins σ (upd H a o) s:=by
 have k:∀ b u,H b=some u→upd H a o b=some u:=fun b u e=>by rw [Qi (Qh e hn)];exact e
 refine ⟨I.ok,I.os,I.bare,⟨I.base.keep,I.base.slot,fun b ob e n hx=>?_,I.base.there,fun b xs e=>k _ _ (I.base.tups b xs e),fun b ob u e=>k _ _ (I.base.frzs b ob u e),fun b ps e=>?_⟩,I.loc,I.cell,?_,fun x c e=>?_,fun p hp'=>?_,fun b u e=>?_,I.len⟩
 ·rw [Qi (fun z=>by rw [z] at e;exact h0 ob e)];exact I.base.free b ob e n hx
 ·obtain ⟨more,e1⟩:=I.base.tbls b ps e
  exact ⟨more,k _ _ e1⟩
 ·rw [Qi (Ne.symm hL)];exact I.free
 ·rw [Qi (hc x c e)];exact I.freeC x c e
 ·obtain ⟨q1,q2,q3⟩:=I.pin p hp'
  exact ⟨q1,by rw [Qi (hp p hp')];exact q2,q3⟩
 ·by_cases z:b=a
  ·subst z
   rw [Qb] at e
   cases e
   exact ok
  ·rw [Qi z] at e
   exact (I.hok b u e).stay (fun _ _ _ r=>r) (fun c r=>k _ _ r) fun c xs r=>k _ _ r
theorem Y2 {M:Model} {A:Around} {E:Value→Shared→Prop} {i:Nat} {n:Str} {pos:Pos} {Q:Unit→Shared→Prop} (I:Inv X pins σ H s) (hN:X.N.Nodup) (hi:X.N[i]?=some n) (hk:X.env.scope.names.lookup n=some .local)
 (h:∀ s',Inv X pins (σ.set i none) H s'→Q () s'):wpAny M A (do bindName X.env n .none;unbindBehindTheSuite X.env n pos) Q E s:=by
 obtain ⟨m,hn,hl⟩:=id I.loc
 have hcls:(X.env.scope.kind == .class || (X.env.scope.kind == .module && X.env.locals != X.env.globals))=false:=by rw [I.ok.kind];rfl
 have hiσ:i < σ.length:=by rw [I.len];exact (List.getElem?_eq_some_iff.mp hi).1
 have cne:=I.cne
 refine wpAny_nameGoes_keeps hk hn hcls fun h' v hn' hs=>?_
 obtain ⟨oL,_,_,hoL,_⟩:=id hn
 have tracked:HOk X.prog X.w H h':=fun b ob e=>by
  refine (I.hok b ob e).stay (fun c w' hc q=>(hs.2 c ?_).trans q) (fun _ q=>q) fun _ _ q=>q
  rintro rfl
  rcases hc with rfl | hc
  ·rw [I.free] at e;cases e
  ·rw [I.free] at hc;cases hc
 have neL:∀ b o,X.s₀.heap.get? b=some o→b≠X.env.locals:=fun b o e=>Nat.ne_of_lt (Nat.lt_of_lt_of_le (57:) I.ok.above)
 refine h _ ⟨I.ok,I.os,I.bare,⟨fun b o e n hb hx=>(hs.2 b (neL b o e)).trans (I.base.keep b o e n hb hx),fun b o e n hb hx=>?_,I.base.free,fun b o e hx=>?_,I.base.tups,I.base.frzs,I.base.tbls⟩,⟨_,hn',fun j y v' e1 e2 e3=>?_⟩,fun y c e=>?_,I.free,I.freeC,fun p hp=>?_,tracked,by simpa using I.len⟩
 ·obtain ⟨sl,e1⟩:=I.base.slot b o e n hb hx
  exact ⟨sl,(hs.2 b (neL b o e)).trans e1⟩
 ·obtain ⟨o',e1⟩:=I.base.there b o e hx
  exact ⟨o',(hs.2 b (neL b o e)).trans e1⟩
 ·by_cases hj:j=i
  ·subst hj
   rw [List.getElem?_set_self hiσ] at e2
   cases e2
  ·rw [List.getElem?_set_ne (Ne.symm hj)] at e2
   obtain ⟨u',r',q⟩:=hl j y v' e1 e2 e3
   refine ⟨u',r',?_⟩
   rcases q with ⟨k,e⟩ | ⟨k,c,e,z⟩
   ·refine .inl ⟨k,?_⟩
    have:y≠n:=fun e=>hj (UC hN e1 (e ▸ hi))
    simp [this,e]
   ·exact .inr ⟨k,c,e,z.sameBut hs (cne y c e)⟩
 ·obtain ⟨w',z⟩:=I.cell y c e
  exact ⟨w',z.sameBut hs (cne y c e)⟩
 ·obtain ⟨e,n,ne,nf,d⟩:=I.pin p hp
  exact ⟨(hs.2 p.1 ne).trans e,n,ne,nf,d⟩
end
def Ends.gone (D:Ends) (i:Nat):Ends:={ nx:=fun σ H=>D.nx (σ.set i none) H,ct:=fun σ H=>D.ct (σ.set i none) H,bk:=fun σ H=>D.bk (σ.set i none) H,rt:=D.rt }
section
variable {X:Cx}
end
end L2
namespace L2
open PySem PySem.Spec PyProof.Rows
section
variable {X:Cx}
end
end L2
namespace L2
open PySem PySem.Spec PyProof.Rows PySem.W
theorem G7 {K:Frag} {a:Addr} {t c:Value} (e:kitOne K t c=some true):Answers (fun s=>K.In s.heap∧∃ ob,s.heap.get? a=some ob∧ob.cls=t) (.ref a) c true:=by
 intro dep tk prog w A R s hs
 obtain ⟨h0,g,d,tt,os⟩:=s
 obtain ⟨⟨X,ob,hob,hcl⟩,hq⟩:=hs
 have LT:Looks (19:) h0 (typeOf (.ref a)) t:=hcl ▸ (Looks.ld hob).andThen .now
 unfold kitOne at e
 unfold Builtin.«isinstance.nested»
 refine wpAny_bind (LT.at ?_)
 by_cases q:(t == c)=true
 ·rw [if_pos q]
  first
   | ((repeat lk);exact hq tt)
   | exact wpAny_bind (wpAny_rule (hq tt))
   | exact wpAny_bind (wpAny_rule (wpAny_pure (hq tt)))
 ·rw [if_neg q] at e
  rw [if_neg q]
  obtain ⟨hty,his,hsub⟩:=kit_cls (M:=model prog w) X e
  have LI:Looks (19:) h0 (isInstance (.ref a) c) true:=LT.andThen hsub
  refine wpAny_bind (hty.at ?_)
  rw [if_pos (13:)]
  k_delta "plainIsInstance"
  refine wpAny_bind (wpAny_bind (his.at ?_))
  simp only [Bool.not_true,Bool.false_eq_true,if_false]
  refine wpAny_bind (LI.at ?_)
  first
   | exact wpAny_pure (wpAny_pure (hq tt))
   | (simp only [if_true];first | exact wpAny_pure (wpAny_pure (hq tt)) | exact wpAny_pure (hq tt) | exact wpAny_bind (wpAny_pure (wpAny_pure (hq tt))))
def XX:V→Option Value
 | .ref C=>some (.ref C)
 | .ty T=>some (.type T)
 | _=>none
theorem Xa {v:V} {u c:Value} (r:RelV v u) (h:XX v=some c):u=c:=by
 cases v with
 | ref C=>cases h;exact r
 | ty T=>cases h;exact r
 | _=>cases h
abbrev OI (K:Frag):List V→Hp→VK→Prop:=fun xs H Q=>∃ a t v c,xs=[.ref a,v]∧H a=some (ExcO a t)∧XX v=some c∧kitOne K t c=some true∧Q (.bl true) H
section
variable {X:Cx}
theorem Jv:Zc X (.builtin "isinstance") (OI X.K):=by
 intro pins s σ H xs us Q I r h
 obtain ⟨a,t,v,c,rfl,ha,hc,e,q⟩:=h
 obtain ⟨u,c',rfl,rx,rc⟩:=WB r
 cases (show u=Value.ref a from rx)
 cases Xa rc hc
 have hob:∃ ob,s.heap.get? a=some ob∧ob.cls=t:=(I.hok a _ ha).1
 exact call_isinstance (S:=fun _ R s=>(X.K.In s.heap∧∃ ob,s.heap.get? a=some ob∧ob.cls=t)∧∀ tk,R (.ok (.ret (.bool true))) { s with toks:=tk })
  (fun prog w A R s hs=>isinstance_outer (G7 e 0 _ prog w A R s hs) (37:)) ⟨⟨I.kIn,hob⟩,fun tk=>⟨.bl true,H,I.tok tk,rfl,q⟩⟩
end
end L2
namespace L2
open PySem PySem.Spec PyProof.Rows PySem.W PySem.Calls Builtin Builtin.ObjectAttr Builtin.Getset_descriptor
structure XcK (K:Frag) (D:Addr):Prop where
 ga:findIn K (.ref D) "__getattribute__" = some (some (.builtin "BaseException.__getattribute__"))
 gn:findIn K (.ref D) "__getattr__" = some none
 gc:findIn K (.ref D) "__class__" = some (some (.builtin "object.__class__"))
 sb:mroIn K D (.type "BaseException")=some true
 so:mroIn K D (.type "object")=some true
section
variable {prog:Program} {w:World} {A:Around} {E:Value→Shared→Prop} {K:Frag} {a D:Addr} {h:Heap} {g:Array GenState} {d:Drawn} {t:Nat} {os:OsState}
theorem LW {R:Result→Shared→Prop} {tp:Value} (X:K.In h) (k:XcK K D) (L0:Looks (19:) h (typeOf (.ref a)) (.ref D)) (q:R (.ok (.ret (.ref D))) ⟨h,g,d,t,os⟩) :
 codeAny (19:) A (.call (.builtin "getset_descriptor.__get__") ⟨[.builtin "object.__class__", .ref a,tp],[]⟩) R ⟨h,g,d,t,os⟩:=by
 have L1:=looks_mroIn (M:=model prog w) X k.so
 refine codeAny_call_builtin KF.slot_gs.plain KF.entry_gs
  (KF.slot_gs.check _ _ _ _ _ _ _ _ KF.type_class (KF.args_gs _ _ _) ?_)
 unfold Builtin.«getset_descriptor.__get__» descrGet;rw [dga_obj];refine wpAny_bind (wpAny_pure ?_)
 unfold descrGetter descrCheckInstance descrNameAndClass isInstance;simp only [KF.owner_class]
 repeat lk
 refine ⟨Code.quiet_builtin _ (1:),codeAny_builtin KF.entry_class ?_⟩
 unfold Builtin.«object.__class__» shownTypeOf;(repeat lk)
 exact q
theorem VP {tk:Tok} {Q:Fin→Shared→Prop} (X:K.In h) (k:XcK K D) (L0:Looks (19:) h (typeOf (.ref a)) (.ref D)) (q:Q (.done (.ret (.ref D))) ⟨h,g,d,t,os⟩) :
 wpAny (19:) A (Builtin.«object.__getattribute__» ⟨[.ref a,.str "__class__" tk],[]⟩) Q E ⟨h,g,d,t,os⟩:=by
 have LC:=looks_findIn (M:=model prog w) X k.gc
 have hT5:(⟨h,g,d,t,os⟩ : Shared).TypeIs (.builtin "object.__class__") "getset_descriptor" := F.typeOf_object_class
 have f5:=F.typeOf_object_class;have f6:=F.slot_gs_get.lookup;have f7:=F.slot_gs_set.lookup
 repeat (any_goals (first | assumption | with_reducible refine wpAny_bind (L0.at ?_) | with_reducible refine wpAny_bind (LC.at ?_) | wp_step))
 refine LW X k L0 ?_
 repeat (any_goals (first | assumption | wp_step))
theorem V6 {rest:List Value} {Q:Unit→Shared→Prop} {s:Shared} (X:K.In s.heap) (k:XcK K D) (L0:Looks (19:) s.heap (typeOf (.ref a)) (.ref D)) (ha:argsOk "BaseException.__getattribute__" ⟨.ref a :: rest,[]⟩) (q:Q () s) :
 wpAny (19:) A (checkBuiltinCall "BaseException.__getattribute__" ⟨.ref a :: rest,[]⟩) Q E s:=by
 have L1:=looks_mroIn (M:=model prog w) X k.sb
 have L2:Looks (19:) s.heap (isInstance (.ref a) (.type "BaseException")) true:=L0.andThen L1
 have hs:splitId "BaseException.__getattribute__" = some ("BaseException", "__getattribute__"):=by decide +kernel
 have hk:builtinKind "BaseException.__getattribute__" = some .slot:=by decide +kernel
 simp only [checkBuiltinCall,hk,hs]
 refine wpAny_bind (L2.at ?_)
 simp only [Bool.not_true,Bool.false_eq_true,if_false]
 cases e:Manifest.signature? "BaseException.__getattribute__" with
 | none=>exact wpAny_pure q
 | some sig =>
  simp only [argsOk,e] at ha
  have h2:Bind.checkArgs "BaseException.__getattribute__" sig ⟨.ref a :: rest,[]⟩=pure ():=ha
  show wpAny _ _ (Bind.checkArgs "BaseException.__getattribute__" sig ⟨.ref a :: rest,[]⟩) Q E s;rw [h2];exact wpAny_pure q
theorem G2 {tk:Tok} {R:Result→Shared→Prop} (X:K.In h) (k:XcK K D) (L0:Looks (19:) h (typeOf (.ref a)) (.ref D)) (q:R (.ok (.ret (.ref D))) ⟨h,g,d,t,os⟩) :
 codeAny (19:) A (.call (.builtin "BaseException.__getattribute__") ⟨[.ref a,.str "__class__" tk],[]⟩) R ⟨h,g,d,t,os⟩ :=
 codeAny_call_builtin F.excAttr_ValueError.ga.plain F.entry_bexc_ga (V6 X k L0 (F.args_bexc_ga _ _) (VP X k L0 q))
theorem NF {tk:Tok} {Q:Value→Shared→Prop} (X:K.In h) (k:XcK K D) (L0:Looks (19:) h (typeOf (.ref a)) (.ref D)) (q:Q (.ref D) ⟨h,g,d,t,os⟩) :
 wpAny (19:) A (getAttrBy (.ref a) (.str "__class__" tk) false) Q E ⟨h,g,d,t,os⟩:=by
 have LG:=looks_findIn (M:=model prog w) X k.ga
 have LN:=looks_findIn (M:=model prog w) X k.gn
 have f3:=F.excAttr_ValueError.ga.bind (.ref a)
 repeat (any_goals (first | assumption | with_reducible refine wpAny_bind (L0.at ?_) | with_reducible refine wpAny_bind (LG.at ?_) | with_reducible refine wpAny_bind (LN.at ?_) | wp_step))
 refine G2 X k L0 ?_
 repeat (any_goals (first | assumption | wp_step))
theorem G8 {Q:Option Value→Shared→Prop} (X:K.In h) (k:XcK K D) (L0:Looks (19:) h (typeOf (.ref a)) (.ref D)) (q:Q (some (.ref D)) ⟨h,g,d,t + 1,os⟩) :
 wpAny (19:) A (getAttr? (.ref a) "__class__") Q E ⟨h,g,d,t,os⟩:=by
 unfold getAttr? getAttrBy?
 repeat (any_goals (first | assumption | with_reducible apply NF X k L0 | wp_step))
end
theorem GE {K:Frag} {a D:Addr} {c:Value} (k:XcK K D) (e:kitOne K (.ref D) c=some false):Answers (fun s=>K.In s.heap∧∃ ob,s.heap.get? a=some ob∧ob.cls=.ref D) (.ref a) c false:=by
 intro dep tk prog w A R s hs
 obtain ⟨h0,g,d,tt,os⟩:=s
 obtain ⟨⟨X,ob,hob,hcl⟩,hq⟩:=hs
 have LT:Looks (19:) h0 (typeOf (.ref a)) (.ref D):=hcl ▸ (Looks.ld hob).andThen .now
 have LD:Looks (19:) h0 (isType (.ref D)) true:=by
  obtain ⟨cd,hc,_⟩:=Option.bind_eq_some_iff.mp k.so
  unfold clsIn at hc
  split at hc
  ·rename_i c' d' cd' sl' ho
   intro A' Q' E' s' kk qq
   unfold isType loadHead;exact wpAny_bind (wpAny_loadPart (kk _ _ (X _ _ ho)) (wpAny_pure qq))
  ·cases hc
 unfold kitOne at e
 unfold Builtin.«isinstance.nested»
 refine wpAny_bind (LT.at ?_)
 by_cases q:(Value.ref D == c)=true
 ·rw [if_pos q] at e;cases e
 ·rw [if_neg q] at e
  rw [if_neg q]
  obtain ⟨hty,his,hsub⟩:=kit_cls (M:=model prog w) X e
  have LI:Looks (19:) h0 (isInstance (.ref a) c) false:=LT.andThen hsub
  refine wpAny_bind (hty.at ?_)
  rw [if_pos (13:)]
  k_delta "plainIsInstance"
  refine wpAny_bind (wpAny_bind (his.at ?_))
  simp only [Bool.not_true,Bool.false_eq_true,if_false]
  refine wpAny_bind (LI.at ?_)
  simp only [Bool.false_eq_true,if_false]
  refine wpAny_bind (G8 X k LT (wpAny_bind (LD.at ?_)))
  simp only [Bool.not_true,Bool.false_eq_true,if_false]
  refine wpAny_bind (wpAny_rule (hsub.at ?_))
  first
   | exact wpAny_pure (hq _)
   | exact wpAny_pure (wpAny_pure (hq _))
   | exact wpAny_bind (wpAny_pure (wpAny_pure (hq _)))
abbrev N0 (K:Frag):List V→Hp→VK→Prop:=fun xs H Q=>∃ (a D:Addr) (v:V) (c:Value),xs=[.ref a,v]∧H a=some (ExcO a (.ref D))∧XX v=some c∧XcK K D∧kitOne K (.ref D) c=some false∧Q (.bl false) H
section
variable {X:Cx}
theorem Jn:Zc X (.builtin "isinstance") (N0 X.K):=by
 intro pins s σ H xs us Q I r h
 obtain ⟨a,D,v,c,rfl,ha,hc,k,e,q⟩:=h
 obtain ⟨u,c',rfl,rx,rc⟩:=WB r
 cases (show u=Value.ref a from rx)
 cases Xa rc hc
 have hob:∃ ob,s.heap.get? a=some ob∧ob.cls=.ref D:=(I.hok a _ ha).1
 exact call_isinstance (S:=fun _ R s=>(X.K.In s.heap∧∃ ob,s.heap.get? a=some ob∧ob.cls=.ref D)∧∀ tk,R (.ok (.ret (.bool false))) { s with toks:=tk })
  (fun prog w A R s hs=>isinstance_outer (GE k e 0 _ prog w A R s hs) (37:)) ⟨⟨I.kIn,hob⟩,fun tk=>⟨.bl false,H,I.tok tk,rfl,q⟩⟩
end
end L2
namespace L2
open PySem PySem.Spec PyProof.Rows PySem.W
def Ls (K:Frag) (B:Addr) (i:Nat) (tb:(St→XK)→TS) (ts:TS):TS:=fun D σ H=>∃ EE:St→XK,tb EE D σ H∧∀ σ' cls H',EE σ' cls none H'→∃ C:Addr,cls=.ref C∧exmOne K (.ref C) (.ref B)=some true∧∀ a,H' a=none→ts (D.gone i) (σ'.set i (some (.ref a))) (upd H' a (ExcO a (.ref C)))
section
variable {X:Cx}
theorem UP {x n:Str} {i:Nat} {B:Addr} {body suite:List Stmt} {b₀:Stmt} {tb:(St→XK)→TS} {ts:TS} {np hpos pos:Pos} (hm:X.mg x=some (.ref B)) (hstk:X.stack=X.env :: X.outer) (hN:X.N.Nodup) (hi:X.N[i]?=some n) (hk:X.env.scope.names.lookup n=some .local)
 (hb:∀ pins EE,PSs (X.tryx pins EE) body (tb EE)) (hs:∀ a,PSs (X.mrk a) (b₀ :: suite) ts) (hg:Gl X x:=by rfl) (hfr:X.env.frame=some X.env.locals:=by rfl) (hd:(34:)=false:=by decide) (hex:X.ex=[]:=by rfl) :
 PS X (.Try body [.ExceptHandler (some (.Name x np)) (some n) (b₀ :: suite) hpos] [] [] pos) (Ls X.K B i tb ts):=by
 intro pins s σ H D I h
 obtain ⟨EE,h1,h2⟩:=h
 refine wpAny_Try_except (wpAny_mono (hb pins EE [] s σ H D (I.toTry EE) h1) (fun fl s1 q=>?_) fun e s1 q=>?_)
 ·have q':=SP.ofTry q
  cases fl with
  | next=>exact wpAny_execs_nil q'
  | brk=>exact q'
  | cont=>exact q'
  | ret u=>exact q'
 ·obtain ⟨p2,σ1,H1,s0,I1,a,cls,H',rfl,F,q⟩:=q
  obtain ⟨C,rfl,hq,hts⟩:=h2 _ _ _ q
  obtain ⟨Bf,t,hfl,cov⟩:=F.fly
  have hfr1:s1.heap.FunFrames Bf (X.pnd pins).stack:=hfl.2.2.1
  obtain ⟨oe,vs,hoe,hoc,hod,_⟩:=hfl.first
  have new:∀ b,(∃ o,s0.heap.get? b=some o)→b≠a:=fun b hb z=>by
   subst z
   by_cases hf:b ∈ frs X.stack
   ·exact Uk hfr1 b hf _ hoe _ hod
   ·have:=cov b oe hoe (.inr hb) hf
    rw [hfl.2.1] at this;cases this
  have hHa:H' a=none:=by
   cases hz:H' a with
   | none=>rfl
   | some u =>
    by_cases hf:a ∈ frs X.stack
    ·exact absurd hod (Uk hfr1 a hf _ hoe _)
    ·have:=cov a oe hoe (.inl (by rw [hz];intro z;cases z)) hf
     rw [hfl.2.1] at this;cases this
  rw [hstk] at hfl
  refine wpAny_looks_onW (by rw [← hstk];exact I.ok.frames) hfr hfl fun h4 hheld up4=>?_
  refine wpAny_landsW hheld fun h5 hfl5 up5'=>?_
  have up5:=up4.trans up5'
  have J5:=I1.flown F.os F.bare F.un F.hok hfr1 cov hfl5.1 up5
  have K5:Inv X pins σ1 H' { s1 with heap:=h5 }:=J5.ofPnd
  obtain ⟨ob,hob,hobc⟩:=hfl5.there
  have hmk:(X.A.mark (some (.ref a))).frames=X.A.frames:=rfl
  refine wpAny_handleBy_cons (codeAny_handlers_test (ZU (X:=X.mrk a) (K5.toMrk a hmk) hg hm ?_ hd)) (by intro q;cases q)
  have LT:PySem.W.Looks (6:) h5 (typeOf (.ref a)) (.ref C):=hobc ▸ (PySem.W.Looks.ld hob).andThen .now
  refine (PySem.W.exm_one K5.kIn LT hq).at (codeAny_handlers_suite_as ?_)
  refine lands_againW hfl5 fun h6 hfl6 up6=>?_
  have J6:=I1.flown F.os F.bare F.un F.hok hfr1 cov hfl6.1 (up5.trans up6)
  have K6:Inv X pins σ1 H' { s1 with heap:=h6 }:=J6.ofPnd
  obtain ⟨ob6,hob6,hobc6⟩:=hfl6.there
  have T6:Inv X pins σ1 (upd H' a (ExcO a (.ref C))) { s1 with heap:=h6 }:=by
   refine K6.track hHa (fun o e=>?_) (fun z=>?_) (fun y c e=>?_) (fun p hp=>?_) ⟨⟨ob6,hob6,hobc6⟩,⟨ob6,hob6⟩,fun g1 g2 ⟨o,e1,e2⟩ k=>⟨o,k _ e1,e2⟩⟩
   ·obtain ⟨o1,e1⟩:=I1.base.there a o e (by show a ∉ X.ex;rw [hex];simp)
    exact new a ⟨o1,e1⟩ rfl
   ·obtain ⟨m,⟨o,_,_,e,_⟩,_⟩:=I1.loc
    exact new _ ⟨o,e⟩ z.symm
   ·obtain ⟨v,o,e1,_⟩:=I1.cell y c e
    exact new c ⟨o,e1⟩
   ·exact new _ ⟨p.2,(I1.pin p (List.mem_append_left _ hp)).1⟩
  refine Yd (X:=X.mrk a) (T6.toMrk a hmk) hN hi (.inl hk) (v:=.ref a) (u:=.ref a) rfl (fun s7 K7=>?_) (.inr hk)
  refine wpAny_mono (hs a pins _ _ _ (D.gone i) K7 (hts a hHa)) (fun fl s2 q=>?_) fun _ _ z=>z.elim
  have q':=SP.ofMrk K6.ok q
  cases fl with
  | next=>obtain ⟨σ',H2,I2,q2⟩:=q';exact Y2 I2 hN hi hk fun s3 I3=>⟨_,H2,I3,q2⟩
  | brk=>obtain ⟨σ',H2,I2,q2⟩:=q';exact Y2 I2 hN hi hk fun s3 I3=>⟨_,H2,I3,q2⟩
  | cont=>obtain ⟨σ',H2,I2,q2⟩:=q';exact Y2 I2 hN hi hk fun s3 I3=>⟨_,H2,I3,q2⟩
  | ret u=>obtain ⟨v,σ',H2,I2,r2,q2⟩:=q';exact Y2 I2 hN hi hk fun s3 I3=>⟨v,_,H2,I3,r2,q2⟩
abbrev XA (K:Frag):List V→Hp→VK→Prop:=fun xs H Q=>∃ (a D:Addr) (v:V) (c:Value) (b:Bool),xs=[.ref a,v]∧H a=some (ExcO a (.ref D))∧XX v=some c∧XcK K D∧kitOne K (.ref D) c=some b∧Q (.bl b) H
theorem QM:Zc X (.builtin "isinstance") (XA X.K):=by
 intro pins s σ H xs us Q I r h
 obtain ⟨a,D,v,c,b,e,ha,hc,k,hk,q⟩:=h
 cases b with
 | true=>exact Jv pins s σ H xs us Q I r ⟨a,_,v,c,e,ha,hc,hk,q⟩
 | false=>exact Jn pins s σ H xs us Q I r ⟨a,D,v,c,e,ha,hc,k,hk,q⟩
end
end L2
namespace K63
open PySem L2 TM TT K9 K11
structure Cs (K:PySem.W.Frag) (mg:Str→Option Value) (N NS B:Addr):Prop where
 te:mg "TurnError" = some (.ref B)
 st:mg "Strays" = some (.ref NS)
 tg:mg "TooGreat" = some (.ref N)
 ve:mg "ValueError" = none
 e1:PySem.W.exmOne K (.ref N) (.ref N)=some true
 e2:PySem.W.exmOne K (.ref NS) (.ref B)=some true
 x1:XcK K N
 x2:XcK K NS
 v1:PySem.W.kitOne K (.ref N) (.type "ValueError")=some true
 v2:PySem.W.kitOne K (.ref NS) (.type "ValueError")=some true
 nb:PySem.W.kitOne K (.ref N) (.ref B)=some true
 ns:PySem.W.kitOne K (.ref N) (.ref NS)=some false
 sn:PySem.W.kitOne K (.ref NS) (.ref N)=some false
 ss:PySem.W.kitOne K (.ref NS) (.ref NS)=some true
def X2 (K:PySem.W.Frag) (T:Addr) (n1:Nat):Sp:=fun vs H Q _=>∃ (on wd1 wd2 lm1:Addr) (sv1:V) (ks1 ks2:List KdT) (k01 k00:KdT) (t1:Tm) (ms1:List MoT) (nm1:Nat) (nm:Str) (s:Stt),vs=[.ref on,.ref wd2,.str nm]∧TbS H T pL qL∧TuAt K H on wd1 sv1 lm1 ks1 t1 ms1∧TuOk ks1 nm1 n1 t1 ms1∧ks1[0]?=some k01∧WoodAt K H wd2 ks2∧WG ks2∧ks2[0]?=some k00∧nm1 * ks2.length≤1000∧n1≤100∧s=W6 ks2 ks1 nm1 n1 t1 ms1 k01.2.1 k00.2.1 ∧
 (s.ds.Nodup→(∀ d ∈ s.ds,DOk nm1 ks2 d)→(s.ft≠none→∀ (l:Addr) (H':Hp),SameX T H H'→H' l=some (.lst [.bl true])→Q (.ref l) H') ∧
  (s.ft=none→∀ (tu lx ly:Addr) (v':V) (hs:List KdT) (H':Hp),SameX T H H'→SqT K H' tu [.ref lx,v',.ref ly]→hs.map Zk=ks1.map Zk→WoodAt K H' lx hs→P0 K H' v' nm 1→SqL K H' ly []→Q (.ref tu) H'))
section
variable {P:Program} {w:World} {K:PySem.W.Frag} {mg:Str→Option Value} {base:Heap} {f:Addr} {fd:FuncData} {T N NS B:Addr}
theorem Wd:FnScope ["_law_turning", "_law_out_here", "_law_name", "_law_other", "_law_found", "e"] ["_law_turning", "_law_out_here", "_law_name"] (defScope Md):=(0:)
theorem LX {n1:Nat} (F:Fun K "_law_behind" "_law_behind" Md f fd) (G:Gm mg) (L:Cs K mg N NS B) (RB:FnX P w K mg base (n1 + 7) "behind" ["one", "other"] (Ud K T NS n1)):FnOk P w K mg base CX0 (n1 + 8) f fd ["_law_turning", "_law_out_here", "_law_name"] (X2 K T n1):=by
 refine F.ok Wd (8:) (2:)
 ·obtain ⟨on,wd1,wd2,lm1,sv1,ks1,ks2,k01,k00,t1,ms1,nm1,nm,s,rfl,_⟩:=h
  rfl
 obtain ⟨on,wd1,wd2,lm1,sv1,ks1,ks2,k01,k00,t1,ms1,nm1,nm,sF,rfl,tb,hT1,hO1,hk01,hW2,hWG,hk00,hnk,hn1,es,q⟩:=h
 refine ⟨_,(Qe (Ql (i:=3) Wd.nd rfl (11:) (Qm (Qa (pv 1) (Qa ((Qm (Qa (QJ) (Qa (pv 2) (Qa (ZO) (Qa (Qf) (Qa (Qm Qc) Qc))))))) (Qa (QK Qc) Qc)))))
  (Qe (UP (i:=5) L.te rfl Wd.nd rfl rfl
   (fun pins EE=>Qg (Ql (i:=4) Wd.nd rfl (11:) (VN (EE:=EE) RB hr LF (Qa (pv 0) (Qa (pv 3) Qc)) (10:))))
   (fun a=>Qg (Qn (QK (Qa (Zw (Qp (r:=XA K) QM rfl G.isi PyProof.Rows.boot_isinstance (Qa (pv 5) (Qa (Q4 (v:=.ref NS) rfl L.st rfl) Qc))) (Zw (Qp (r:=XA K) QM rfl G.isi PyProof.Rows.boot_isinstance (Qa (pv 5) (Qa (Zb (v:=.ty "ValueError") rfl L.ve (1:) rfl) Qc))) (Ys (UG (Qp (r:=XA K) QM rfl G.isi PyProof.Rows.boot_isinstance (Qa (pv 5) (Qa (Q4 (v:=.ref N) rfl L.tg rfl) Qc))))))) Qc)))))
  (Qg (Qn (pv 4))))),?_⟩
 refine ⟨_,rfl,_,rfl,(21:),fun p0 hp0=>⟨(by show 5≤sizeLine;decide),fun p1 hp1=>⟨(21:),fun l0 hl0=>⟨(33:),fun ot hot=>?_⟩⟩⟩⟩
 have k0:=Qd hp0 (.tup [])
 have k1:=Qd hp1 (.tup [.str PUT,.str nm,.bl false,.int 1,.ref p0])
 have k2:=Qd hl0 (.lst [])
 have k3:=Qd hot (.tup [.ref wd2,.ref p1,.ref l0])
 have g:=k0.trans (k1.trans (k2.trans k3))
 have hv:P0 K (upd (51:) ot (.tup [.ref wd2,.ref p1,.ref l0])) (.ref p1) nm 1:=⟨p1,p0,rfl,(k2.trans k3).seqT (39:),(k1.trans (k2.trans k3)).seqT (39:)⟩
 have ho:SqT K (upd (51:) ot (.tup [.ref wd2,.ref p1,.ref l0])) ot [.ref wd2,.ref p1,.ref l0]:=SqT.of Qb
 generalize upd (51:) ot (.tup [.ref wd2,.ref p1,.ref l0])=H1 at g hv ho ⊢
 have gX:SameX T H H1:=fun b u _ e=>g _ _ e
 refine ⟨fun σ' cls _ H'=>σ'=[some (.ref on),some (.ref wd2),some (.str nm),some (.ref ot),none,none]∧cls=.ref NS∧∀ (l:Addr) (H2:Hp),Same H' H2→H2 l=some (.lst [.bl true])→Q (.ref l) H2,?_,?_⟩
 ·refine ⟨_,rfl,_,rfl,on,ot,wd1,wd2,lm1,l0,sv1,.ref p1,ks1,ks2,k01,k00,t1,ms1,nm1,nm,1,sF,rfl,tb.same g,hT1.same g,hO1,hk01,ho,hW2.same g,hWG,hk00,hv,hnk,hn1,es,fun nd dk=>⟨fun hn H' g'=>⟨rfl,rfl,fun l H2 g2 hl=>(q nd dk).1 hn l H2 (fun b u _ e=>g2 _ _ (g' _ _ (g _ _ e))) hl⟩,fun hn tu lx ly v' hs H' x' tb' htu eh hW' hv' hly=>?_⟩⟩
  exact ⟨_,rfl,(q nd dk).2 hn tu lx ly v' hs H' (fun b u nb e=>x' b u nb (g _ _ e)) htu eh hW' hv' hly⟩
 ·rintro σ' cls H' ⟨rfl,rfl,hq⟩
  refine ⟨NS,rfl,L.e2,fun a ha=>?_⟩
  have ga:=Qd ha (ExcO a (.ref NS))
  refine ⟨_,rfl,a,NS,.ref NS,.ref NS,true,rfl,Qb,rfl,L.x2,L.ss,true,rfl,Zl ⟨_,rfl,a,NS,.ty "ValueError", .type "ValueError", true,rfl,Qb,rfl,L.x2,L.v2,true,rfl,Zl ⟨_,rfl,a,NS,.ref N,.ref N,false,rfl,Qb,rfl,L.x2,L.sn,_,rfl,(30:),fun l hl=>?_⟩⟩⟩
  exact hq l _ (ga.trans (Qd hl _)) Qb
end
end K63
namespace K63
open PySem L2 TM TT K9 K11
theorem Lu {a b:Str} (h1:¬ a.cps.toList < b.cps.toList) (h2:¬ b.cps.toList < a.cps.toList):a=b:=by
 have e:a.cps.toList=b.cps.toList:=List.le_antisymm (List.not_lt.mp h2) (List.not_lt.mp h1)
 cases a with
 | mk x =>
  cases b with
  | mk y =>
   have:x=y:=Array.toList_inj.mp e
   rw [this]
theorem OP {A B:PNx} {out:List PNx} (hp:out.Perm [A,B]) (hs:out.Pairwise fun x y=>¬ y.2.1.cps.toList < x.2.1.cps.toList) (ne:A.2.1≠B.2.1):out=if ltS B.2.1 A.2.1=true then [B,A] else [A,B]:=by
 have hAB:out=[A,B]∨out=[B,A]:=by
  have hl:=hp.length_eq
  match out,hl,hp with
  | [x,y],_,hp =>
   have hx:x=A∨x=B:=by
    have:=hp.mem_iff.mp (List.mem_cons_self (a:=x) (l:=[y]))
    simpa using this
   rcases hx with rfl | rfl
   ·left
    have:=(List.perm_cons x).mp hp
    rw [List.perm_singleton.mp this.symm |>.symm]
   ·right
    have h2:=hp.trans (List.Perm.swap x A [])
    have:=(List.perm_cons x).mp h2
    rw [List.perm_singleton.mp this.symm |>.symm]
 unfold ltS
 by_cases h:B.2.1.cps.toList < A.2.1.cps.toList
 ·rw [if_pos (decide_eq_true h)]
  rcases hAB with e | e
  ·rw [e] at hs
   have h2:¬ B.2.1.cps.toList < A.2.1.cps.toList:=by simpa using hs
   exact absurd h h2
  ·exact e
 ·rw [if_neg (by simpa using h)]
  rcases hAB with e | e
  ·exact e
  ·rw [e] at hs
   have h2:¬ A.2.1.cps.toList < B.2.1.cps.toList:=by simpa using hs
   exact absurd (Lu h2 h) ne
structure Drw (ns:List Str) (kd:Str) (c o kk l:Nat) (ks1 ks:List KdT) (ms:List MoT):Prop where
 h8:ns.length=8
 hn:ns.Nodup
 hs:∀ x ∈ ns,PyData.strOk x=true
 hk:kd ∈ ns
 c0:0 < c
 c20:c≤20
 k0:0 < kk
 k5:kk≤5
 ll:l < kk
 w1:∃ a lr A B,ks1=[(55:)]∧shR A=(nmL ns 0,[])∧shR B=(nmL ns 1,[kd])
 ml:ms.length=c
 md:∀ i m,ms[i]?=some m→MdR (nmL ns) kd c o i m
 kl:ks.length=kk
 kr:∀ i d,ks[i]?=some d→KdR (nmL ns) kk l i d
section
variable {ns:List Str} {kd:Str} {c o kk l:Nat} {ks1 ks:List KdT} {ms:List MoT}
theorem G6 {rs:List PNx} {z:Str} {ss:List Str} (nd:(rs.map fun t=>t.2.1).Nodup) (h:(z,ss) ∈ rs.map shR):(rs.find? fun r=>decide (r.2.1=z)).map (fun r=>r.2.2.2)=some ss:=by
 obtain ⟨r,hr,e⟩:=List.mem_map.mp h
 have e1:r.2.1=z:=congrArg Prod.fst e
 have e2:r.2.2.2=ss:=congrArg Prod.snd e
 cases er:rs.find? fun r=>decide (r.2.1=z) with
 | none =>
  have:=List.find?_eq_none.mp er r hr
  simp [e1] at this
 | some x =>
  have e3:x.2.1=z:=by simpa using List.find?_some er
  obtain ⟨i,hi,rfl⟩:=List.getElem_of_mem (List.mem_of_find?_eq_some er)
  obtain ⟨j,hj,rfl⟩:=List.getElem_of_mem hr
  have:i=j:=by
   refine (List.getElem?_inj (by rw [List.length_map];exact hi) nd).mp ?_
   rw [List.getElem?_map,List.getElem?_map,List.getElem?_eq_getElem hi,List.getElem?_eq_getElem hj,Option.map_some,Option.map_some,e1,e3]
  subst this
  rw [Option.map_some,e2]
variable (D:Drw ns kd c o kk l ks1 ks ms)
include D
theorem Drw.kind {k:Nat} (hk:k < kk):∃ d,ks[k]?=some d∧rowsK ks (nmL ns k)=d.2.2.2∧(d.2.2.2.map shR).Perm (QV (nmL ns) kk l k)∧(d.2.2.2.map fun t=>t.2.1).Nodup:=by
 have hk':k < ks.length:=by rw [D.kl];exact hk
 obtain ⟨e1,e2⟩:=D.kr k _ (List.getElem?_eq_getElem hk')
 refine ⟨ks[k],List.getElem?_eq_getElem hk',?_,e2,?_⟩
 ·unfold rowsK
  cases e:ks.find? fun x=>decide (x.2.1=nmL ns k) with
  | none =>
   have:=List.find?_eq_none.mp e _ (List.getElem_mem hk')
   simp [e1] at this
  | some x =>
   have e3:x.2.1=nmL ns k:=by simpa using List.find?_some e
   obtain ⟨i,hi,rfl⟩:=List.getElem_of_mem (List.mem_of_find?_eq_some e)
   have e4:=(D.kr i _ (List.getElem?_eq_getElem hi)).1
   rw [e3] at e4
   have hi':i < kk:=by rw [← D.kl];exact hi
   have:=D.k5
   have:=Zh D.h8 D.hn (12:) (12:) e4
   subst this
   rfl
 ·have:=(e2.map Prod.fst).nodup_iff.mpr (Wj D.h8 D.hn kk l k)
  rw [List.map_map] at this
  exact this
theorem Drw.row {k:Nat} (hk:k < kk) {z:Str} {ss:List Str} (h:(z,ss) ∈ QV (nmL ns) kk l k):rowK ks (nmL ns k) z=some ss:=by
 obtain ⟨d,_,e,hp,nd⟩:=D.kind hk
 unfold rowK
 rw [e]
 exact G6 nd (hp.mem_iff.mpr h)
theorem Drw.lt2:nmL ns 0≠nmL ns 1:=fun e=>absurd (Zh D.h8 D.hn (13:) (13:) e) (13:)
theorem Drw.rules {i:Nat} (z:Str) (hi:i < c):∃ kb ab kf af,QU ks1 ms ((i:Int),z)=if ltS (nmL ns 1) (nmL ns 0)=true then [((nmL ns 1,[kd]),Zg (nmL ns) c i kf af),((nmL ns 0,[]),Q2 (nmL ns) o i kb ab)] else [((nmL ns 0,[]),Q2 (nmL ns) o i kb ab),((nmL ns 1,[kd]),Zg (nmL ns) c i kf af)]:=by
 have hi':i < ms.length:=by rw [D.ml];exact hi
 obtain ⟨e1,kb,ab,kf,af,e2⟩:=D.md i _ (List.getElem?_eq_getElem hi')
 refine ⟨kb,ab,kf,af,?_⟩
 obtain ⟨a,lr,A,B,rfl,hA,hB⟩:=D.w1
 have a1:A.2.1=nmL ns 0:=congrArg Prod.fst hA
 have a2:A.2.2.2=[]:=congrArg Prod.snd hA
 have b1:B.2.1=nmL ns 1:=congrArg Prod.fst hB
 have b2:B.2.2.2=[kd]:=congrArg Prod.snd hB
 unfold QU
 rw [show ((i:Int),z).1.toNat=i from Int.toNat_natCast i,List.getElem?_eq_getElem hi',Option.map_some,Option.getD_some,e1,e2]
 have er:rowsK [(55:)] kd=if ltS (nmL ns 1) (nmL ns 0)=true then [B,A] else [A,B]:=by
  unfold rowsK
  rw [List.find?_cons,show decide ((55:).2.1=kd)=true from decide_eq_true rfl]
  rfl
 rw [er]
 cases ltS (nmL ns 1) (nmL ns 0) with
 | true =>
  show [((B.2.1,B.2.2.2),_),((A.2.1,A.2.2.2),_)]=_
  rw [a1,a2,b1,b2]
  rfl
 | false =>
  show [((A.2.1,A.2.2.2),_),((B.2.1,B.2.2.2),_)]=_
  rw [a1,a2,b1,b2]
  rfl
theorem Drw.ring:Ring (rowK ks) (QU ks1 ms) (nmL ns) c o kk l kd:=by
 refine ⟨D.c0,D.k0,D.k5,D.ll,fun i j hi hj e=>Zh D.h8 D.hn hi hj e,fun k hk=>D.row hk (by unfold QV;simp),fun k hk=>D.row hk (by unfold QV;simp),fun k hk hl=>D.row hk (by unfold QV;simp [hl]),?_,fun i z hi=>?_,fun i z hi=>?_,fun i z q hi hq=>?_⟩
 ·obtain ⟨d,_,e,hp,nd⟩:=D.kind D.ll
  unfold rowK
  rw [e]
  cases er:d.2.2.2.find? fun r=>decide (r.2.1=nmL ns 7) with
  | none=>rfl
  | some x =>
   have e3:x.2.1=nmL ns 7:=by simpa using List.find?_some er
   have hm:=hp.mem_iff.mp (List.mem_map_of_mem (f:=shR) (List.mem_of_find?_eq_some er))
   have n57:nmL ns 5≠nmL ns 7:=fun e=>absurd (Zh D.h8 D.hn (13:) (13:) e) (13:)
   have n67:nmL ns 6≠nmL ns 7:=fun e=>absurd (Zh D.h8 D.hn (13:) (13:) e) (13:)
   unfold QV at hm
   rw [if_pos rfl,List.append_nil] at hm
   simp only [List.mem_cons,List.mem_nil_iff,or_false] at hm
   rcases hm with h | h
   ·exact absurd ((congrArg Prod.fst h).symm.trans e3) n57
   ·exact absurd ((congrArg Prod.fst h).symm.trans e3) n67
 ·obtain ⟨kb,ab,kf,af,e⟩:=D.rules z hi
  refine ⟨kb,ab,?_⟩
  rw [e]
  split <;> simp
 ·obtain ⟨kb,ab,kf,af,e⟩:=D.rules z hi
  refine ⟨kf,af,?_⟩
  rw [e]
  split <;> simp
 ·obtain ⟨kb,ab,kf,af,e⟩:=D.rules z hi
  rw [e] at hq
  split at hq
  ·simp only [List.mem_cons,List.mem_nil_iff,or_false] at hq
   rcases hq with rfl | rfl
   ·exact .inr ⟨kf,af,rfl⟩
   ·exact .inl ⟨kb,ab,rfl⟩
  ·simp only [List.mem_cons,List.mem_nil_iff,or_false] at hq
   rcases hq with rfl | rfl
   ·exact .inl ⟨kb,ab,rfl⟩
   ·exact .inr ⟨kf,af,rfl⟩
theorem Drw.wo1:WoodOk ks1∧HasLeaf ks1 kd∧(∃ k01,ks1[0]?=some k01∧k01.2.1=kd∧ks1=[k01]∧k01.2.2.2.length=2):=by
 obtain ⟨a,lr,A,B,rfl,hA,hB⟩:=D.w1
 have a1:A.2.1=nmL ns 0:=congrArg Prod.fst hA
 have a2:A.2.2.2=[]:=congrArg Prod.snd hA
 have b1:B.2.1=nmL ns 1:=congrArg Prod.fst hB
 have b2:B.2.2.2=[kd]:=congrArg Prod.snd hB
 have ne:=D.lt2
 have hkd:=D.hs _ D.hk
 have s0:=D.hs _ (ZI D.h8 (i:=0) (13:))
 have s1:=D.hs _ (ZI D.h8 (i:=1) (13:))
 have mem:∀ r ∈ (if ltS (nmL ns 1) (nmL ns 0)=true then [B,A] else [A,B]),r=A∨r=B:=fun r hr=>by
  split at hr
  ·simp only [List.mem_cons,List.mem_nil_iff,or_false] at hr
   exact hr.symm
  ·simpa using hr
 refine ⟨⟨by simp,by show 1≤10;decide,fun k hk=>?_⟩,⟨A,?_,a2⟩,_,rfl,rfl,rfl,by show List.length _=2;split <;> rfl⟩
 ·obtain rfl:=List.mem_singleton.mp hk
  refine ⟨?_,?_,fun r hr=>?_,fun r hr=>?_,fun r hr=>?_⟩
  ·show (List.map _ (if ltS (nmL ns 1) (nmL ns 0)=true then [B,A] else [A,B])).Nodup
   split
   ·simp [a1,b1,ne.symm]
   ·simp [a1,b1,ne]
  ·show List.length (if ltS (nmL ns 1) (nmL ns 0)=true then [B,A] else [A,B])≤10
   split <;> simp
  ·rcases mem r hr with rfl | rfl
   ·rw [a1];exact s0
   ·rw [b1];exact s1
  ·rcases mem r hr with rfl | rfl
   ·rw [a2];exact fun x hx=>(nomatch hx)
   ·rw [b2];exact fun x hx=>by rw [List.mem_singleton.mp hx];exact hkd
  ·rcases mem r hr with rfl | rfl
   ·rw [a2];exact Nat.zero_le _
   ·rw [b2];exact (by decide:1≤4)
 ·unfold rowsK
  rw [List.find?_cons,show decide ((55:).2.1=kd)=true from decide_eq_true rfl]
  show A ∈ (if ltS (nmL ns 1) (nmL ns 0)=true then [B,A] else [A,B])
  split <;> simp
theorem Drw.wg:WG ks∧(∃ k00,ks[0]?=some k00∧k00.2.1=nmL ns 0):=by
 have hro:=fun k=>Wu (kk:=kk) (l:=l) (k:=k) D.h8 D.hs D.k5 D.k0
 have h5:=D.k5
 refine ⟨⟨⟨?_,by rw [D.kl];lia,fun k hk=>?_⟩,fun k hk r hr s hs=>?_⟩,?_⟩
 ·rw [List.nodup_iff_pairwise_ne,List.pairwise_iff_getElem]
  intro i j hi hj hij e
  rw [List.length_map] at hi hj
  rw [List.getElem_map,List.getElem_map,(D.kr i _ (List.getElem?_eq_getElem hi)).1,(D.kr j _ (List.getElem?_eq_getElem hj)).1] at e
  have:=Zh D.h8 D.hn (by rw [D.kl] at hi;lia) (by rw [D.kl] at hj;lia) e
  lia
 ·obtain ⟨i,hi,rfl⟩:=List.getElem_of_mem hk
  have hik:i < kk:=by rw [← D.kl];exact hi
  obtain ⟨d,ed,_,hp,nd⟩:=D.kind hik
  rw [List.getElem?_eq_getElem hi] at ed
  obtain rfl:=Option.some.inj ed
  have hm:∀ r ∈ ks[i].2.2.2,shR r ∈ QV (nmL ns) kk l i:=fun r hr=>hp.mem_iff.mp (List.mem_map_of_mem hr)
  refine ⟨nd,?_,fun r hr=>(hro i _ (hm r hr)).1,fun r hr x hx=>((hro i _ (hm r hr)).2.2 x hx).1,fun r hr=>Nat.le_trans (hro i _ (hm r hr)).2.1 (13:)⟩
  have:=hp.length_eq
  rw [List.length_map] at this
  rw [this]
  unfold QV
  split <;> simp
 ·obtain ⟨i,hi,rfl⟩:=List.getElem_of_mem hk
  have hm:shR r ∈ QV (nmL ns) kk l i:=(D.kr i _ (List.getElem?_eq_getElem hi)).2.mem_iff.mp (List.mem_map_of_mem hr)
  obtain ⟨_,j,hj,e⟩:=(hro i _ hm).2.2 s hs
  have hj':j < ks.length:=by rw [D.kl];exact hj
  exact ⟨ks[j],List.getElem_mem hj',by rw [e];exact (D.kr j _ (List.getElem?_eq_getElem hj')).1⟩
 ·have h0:0 < ks.length:=by rw [D.kl];exact D.k0
  exact ⟨ks[0],List.getElem?_eq_getElem h0,(D.kr 0 _ (List.getElem?_eq_getElem h0)).1⟩
theorem Drw.tuOk:TuOk ks1 c 2 (Zu 0 0) ms:=by
 obtain ⟨w1,_,k01,e1,e2,e3,e4⟩:=D.wo1
 have h0:=D.c0
 have tmb:∀ (n:Nat),TmB c (n + 1) (Zu 0 0):=fun n=>⟨fun m b e=>by injection e with z1 z2;lia,by show 0≤100;decide,fun x hx=>(nomatch hx)⟩
 have at1:∀ m ∈ ms,∃ i,i < c∧MdR (nmL ns) kd c o i m:=fun m hm=>by
  obtain ⟨i,hi,rfl⟩:=List.getElem_of_mem hm
  exact ⟨i,by rw [← D.ml];exact hi,D.md i _ (List.getElem?_eq_getElem hi)⟩
 refine ⟨w1,D.ml,tmb 1,fun m hm=>?_,fun m hm=>?_,fun m hm t ht=>?_⟩
 ·obtain ⟨i,_,h,_⟩:=at1 m hm
  exact ⟨k01,by rw [e3];exact List.mem_singleton.mpr rfl,by rw [e2,h]⟩
 ·obtain ⟨i,_,h,kb,ab,kf,af,e⟩:=at1 m hm
  obtain ⟨kd',hkf,erow,hkm⟩:=U7 (ks:=ks1) (kind:=m.2.1) ⟨k01,by rw [e3];exact List.mem_singleton.mpr rfl,by rw [e2,h]⟩
  have:kd'=k01:=by rw [e3] at hkm;exact List.mem_singleton.mp hkm
  rw [erow,this,e4,e]
  split <;> rfl
 ·obtain ⟨i,hi,h,kb,ab,kf,af,e⟩:=at1 m hm
  rw [e] at ht
  have hb:TmB c 2 (Q2 (nmL ns) o i kb ab):=⟨fun m b e=>(by cases e),by show 0≤100;decide,fun x hx=>(nomatch hx)⟩
  have hmod:(i + 1) % c < c:=Nat.mod_lt _ h0
  have hf:TmB c 2 (Zg (nmL ns) c i kf af):=⟨fun m b e=>(by cases e),by show 1≤100;decide,fun x hx=>by
   obtain rfl:=List.mem_singleton.mp hx
   exact ⟨fun m b e=>by injection e with z1 z2;lia,by show 0≤100;decide,fun x hx=>(nomatch hx)⟩⟩
  split at ht
  ·simp only [List.mem_cons,List.mem_nil_iff,or_false] at ht
   rcases ht with rfl | rfl
   ·exact hf
   ·exact hb
  ·simp only [List.mem_cons,List.mem_nil_iff,or_false] at ht
   rcases ht with rfl | rfl
   ·exact hb
   ·exact hf
end
theorem VR {p:Nat→Prop}:∀ n,p n→∃ m,p m∧∀ k,k < m→¬ p k:=fun n=>by
 induction n using Nat.strongRecOn with
 | _ n ih =>
  intro h
  by_cases c:∃ m,m < n∧p m
  ·obtain ⟨m,hm,hp⟩:=c
   exact ih m hm hp
  ·exact ⟨n,h,fun k hk hp=>c ⟨k,hk,hp⟩⟩
theorem Drw.ft {ns:List Str} {kd:Str} {c o kk l:Nat} {ks1 ks:List KdT} {ms:List MoT} (D:Drw ns kd c o kk l ks1 ks ms) {s:Stt} {k01 k00:KdT} (e1:k01.2.1=kd) (e0:k00.2.1=nmL ns 0) (es:s=W6 ks ks1 c 2 (Zu 0 0) ms k01.2.1 k00.2.1) (nd:s.ds.Nodup) (dk:∀ d ∈ s.ds,DOk c ks d) :
 Gd ks1 (S [],[kd]) s∧((s.ft=none∧∀ n,¬ Bad c o kk l n)∨∃ far,Bad c o kk l far∧(∀ n,n < far→¬ Bad c o kk l n)∧s.ft=some (⟨far + 1,some (dJ (nmL ns) c kk far),(nmL ns 0,[])⟩,[])∧Q7 s (far + 1 + 1) (some (dJ (nmL ns) c kk far)) [] []=((ab0 kd,0) :: (List.replicate far ((nmL ns 1,[kd]),(0:Int)) ++ []),List.replicate far (0:Int) ++ [])):=by
 rw [e1,e0] at es
 have R:=D.ring
 obtain ⟨j,B,hj⟩ : ∃ j,Bf (rowK ks) 2 (QU ks1 ms) (L0s (rowK ks) 2 (Zu 0 0) kd (nmL ns 0)) j s∧s.ds.length≤j:=by
  have hst:Yq (rowK ks) 2 (Zu 0 0) kd (nmL ns 0)=actL ⟨[],none⟩ (L0s (rowK ks) 2 (Zu 0 0) kd (nmL ns 0)):=VU _ _ _
  obtain ⟨j,h1,h2⟩:=bfs (c * ks.length + 1) 0 _ (Bf.start (f:=rowK ks) (n:=2) (rl:=QU ks1 ms) (L0:=L0s (rowK ks) 2 (Zu 0 0) kd (nmL ns 0)) fun i hi=>by
   obtain ⟨x,_,rfl⟩:=List.mem_map.mp hi
   rfl)
  rw [← hst] at h1 h2
  have hh:s=YX (rowK ks) 2 (QU ks1 ms) (c * ks.length + 1) 0 (Yq (rowK ks) 2 (Zu 0 0) kd (nmL ns 0)):=es
  rw [← hh] at h1 h2
  have hl:=YG nd dk
  exact ⟨j,h1,by lia⟩
 refine ⟨Ring.gd R B D.wo1.2.1,?_⟩
 by_cases hx:∃ n,Bad c o kk l n
 ·obtain ⟨n,hn⟩:=hx
  obtain ⟨far,hb,hm⟩:=VR n hn
  obtain ⟨h1,h2,h3⟩:=Ring.least R B hj hb hm
  exact .inr ⟨far,hb,hm,h1,Ring.way R B far (far + 1) [] [] (Nat.lt_succ_self _) h2 h3⟩
 ·refine .inl ⟨?_,fun n hn=>hx ⟨n,hn⟩⟩
  cases e:s.ft with
  | none=>rfl
  | some g =>
   obtain ⟨n,hb,_⟩:=Ring.fault R B e
   exact absurd ⟨n,hb⟩ hx
theorem VT {K:PySem.W.Frag} {N:Addr} {H:Hp} {tu wd lm wo:Addr} {sv:V} {ns:List Str} {kd:Str} {c o kk l:Nat} {ks1 ks:List KdT} {ms:List MoT} {Q:VK} {E:XK} (D:Drw ns kd c o kk l ks1 ks ms) (hTu:TuAt K H tu wd sv lm ks1 (Zu 0 0) ms) (hWo:WoodAt K H wo ks)
 (q0:(∀ n,¬ Bad c o kk l n)→∀ H',Same H H'→Q .non H') (q1:∀ far,Bad c o kk l far→(∀ n,n < far→¬ Bad c o kk l n)→40 < far + 1→∀ H',Same H H'→E (.ref N) none H')
 (q2:∀ far,Bad c o kk l far→(∀ n,n < far→¬ Bad c o kk l n)→far + 1≤40→∀ (p qa:Addr) (v:V) (H':Hp),Same H H'→SqT K H' p [v,.ref qa]→TrV K H' v (chn (nmL ns) far)→SqT K H' qa ((List.replicate far (0:Int)).map V.int)→Q (.ref p) H'):Wp K N 2 [.ref tu,.ref wo] H Q E:=by
 obtain ⟨w1,hL,k01,e1,e2,_,_⟩:=D.wo1
 obtain ⟨hWG,k00,e3,e4⟩:=D.wg
 have hck:c * ks.length≤100:=by rw [D.kl];exact Nat.mul_le_mul D.c20 D.k5
 obtain ⟨s,es⟩ : ∃ s,s=W6 ks ks1 c 2 (Zu 0 0) ms k01.2.1 k00.2.1:=(53:)
 refine ⟨c,tu,wd,lm,wo,sv,ks1,ks,k01,k00,Zu 0 0,ms,s,rfl,hTu,D.tuOk,e1,hWo,hWG,e3,by lia,by decide,es,fun nd dk=>by rw [e2];exact (D.ft e2 e4 es nd dk).1,fun H' g nd dk=>?_⟩
 rcases (D.ft e2 e4 es nd dk).2 with ⟨h1,h2⟩ | ⟨far,hb,hm,h1,h2⟩
 ·exact ⟨fun _=>q0 h2 H' g,fun f hf=>(by rw [h1] at hf;cases hf),fun f u p qa v hf=>(by rw [h1] at hf;cases hf)⟩
 ·refine ⟨fun hf=>(by rw [h1] at hf;cases hf),fun f hf hl=>?_,fun f u p qa v hf hl hu hp hv hqa=>?_⟩
  ·rw [h1] at hf
   obtain rfl:=Option.some.inj hf
   exact q1 far hb hm (by have hl:40 < far + 1 + 0:=hl;lia) H' g
  ·rw [h1] at hf
   obtain rfl:=Option.some.inj hf
   have hl:far + 1 + 0≤40:=hl
   have hu:(Z4 ks1 (Q7 s (far + 1 + 1) (some (dJ (nmL ns) c kk far)) [] []).1 (nmL ns 0,[])).bs[0]?=some u:=hu
   have hqa:SqT K H' qa ((Q7 s (far + 1 + 1) (some (dJ (nmL ns) c kk far)) [] []).2.map V.int):=hqa
   rw [h2] at hu hqa
   have hqa:SqT K H' qa ((List.replicate far (0:Int) ++ []).map V.int):=hqa
   rw [List.append_nil] at hqa
   have hu:some (Z4 ks1 (List.replicate far ((nmL ns 1,[kd]),(0:Int)) ++ []) (nmL ns 0,[]))=some u:=hu
   rw [Wn] at hu
   obtain rfl:=Option.some.inj hu
   exact q2 far hb hm (12:) p qa v H' g hp hv hqa
theorem Va {K:PySem.W.Frag} {T:Addr} {H:Hp} {tu wd lm wo:Addr} {sv:V} {ns:List Str} {kd nm:Str} {c o kk l:Nat} {ks1 ks:List KdT} {ms:List MoT} {Q:VK} {E:XK} (D:Drw ns kd c o kk l ks1 ks ms) (tb:TbS H T pL qL) (hTu:TuAt K H tu wd sv lm ks1 (Zu 0 0) ms) (hWo:WoodAt K H wo ks)
 (q0:(∀ n,¬ Bad c o kk l n)→∀ (tu lx ly:Addr) (v':V) (hs:List KdT) (H':Hp),SameX T H H'→SqT K H' tu [.ref lx,v',.ref ly]→hs.map Zk=ks1.map Zk→WoodAt K H' lx hs→P0 K H' v' nm 1→SqL K H' ly []→Q (.ref tu) H')
 (q1:∀ far,Bad c o kk l far→∀ (l:Addr) (H':Hp),SameX T H H'→H' l=some (.lst [.bl true])→Q (.ref l) H'):X2 K T 2 [.ref tu,.ref wo,.str nm] H Q E:=by
 obtain ⟨w1,hL,k01,e1,e2,_,_⟩:=D.wo1
 obtain ⟨hWG,k00,e3,e4⟩:=D.wg
 have hck:c * ks.length≤100:=by rw [D.kl];exact Nat.mul_le_mul D.c20 D.k5
 refine ⟨tu,wd,wo,lm,sv,ks1,ks,k01,k00,Zu 0 0,ms,c,nm,_,rfl,tb,hTu,D.tuOk,e1,hWo,hWG,e3,by lia,by decide,rfl,fun nd dk=>?_⟩
 rcases (D.ft e2 e4 rfl nd dk).2 with ⟨h1,h2⟩ | ⟨far,hb,hm,h1,h2⟩
 ·exact ⟨fun hn=>absurd h1 hn,fun _=>q0 h2⟩
 ·exact ⟨fun _=>q1 far hb,fun hn=>by rw [h1] at hn;cases hn⟩
end K63
namespace K63
open PySem L2 TM TT K9 K11
def Wg (K:PySem.W.Frag) (T:Addr):Sp:=fun vs H Q _=>∃ (a:Addr) (ns:List Int),vs=[.ref a]∧SqL K H a (ns.map V.int)∧ns.length≤63∧H T=some (.tbl #[])∧∀ H',Q (.bl true) H'
abbrev OG:List Str:=["_law_script", "_law_names_here", "_law_count", "_law_odd", "_law_kinds", "_law_lack", "_law_kind", "_law_wood", "_law_turning", "_law_out_here", "_law_far", "_law_plain", "_law_found", "e", "_law_told"]
inductive FarV (c o kk l:Nat):V→Prop
 | no:(∀ n,¬ Bad c o kk l n)→FarV c o kk l .non
 | yes {far:Nat}:far≤100→Bad c o kk l far→(∀ n,n < far→¬ Bad c o kk l n)→FarV c o kk l (.int (far:Int))
inductive Fd (K:PySem.W.Frag) (ns:List Str) (H:Hp):V→V→Bool→Prop
 | no:Fd K ns H .non .non false
 | near {far:Nat} {p qa:Addr} {v:V}:far + 1≤40→SqT K H p [v,.ref qa]→TrV K H v (chn (nmL ns) far)→SqT K H qa ((List.replicate far (0:Int)).map V.int)→Fd K ns H (.int (far:Int)) (.ref p) false
 | wide {far:Nat}:40 < far + 1→Fd K ns H (.int (far:Int)) .non true
theorem X6 {c o kk l far n:Nat} (h1:Bad c o kk l far) (m1:∀ k,k < far→¬ Bad c o kk l k) (h2:Bad c o kk l n) (m2:∀ k,k < n→¬ Bad c o kk l k):far=n:=by
 rcases Nat.lt_or_ge far n with z | z
 ·exact absurd h1 (m2 _ z)
 ·rcases Nat.lt_or_ge n far with y | y
  ·exact absurd h2 (m1 _ y)
  ·lia
def Wh (ws:List (Str × List PNx)) (nm:Str):PyData:=.tuple [.list (ws.map ZV),.tuple [.str PUT,.str nm,.bool false,.int 1,.tuple []],.list []]
theorem Wb {K:PySem.W.Frag} {H:Hp} {tu lx ly:Addr} {v:V} {nm:Str} {hs:List KdT} (h:SqT K H tu [.ref lx,v,.ref ly]) (hW:WoodAt K H lx hs) (hv:P0 K H v nm 1) (hl:SqL K H ly []):RdV K H (.ref tu) (Wh (hs.map Zk) nm):=by
 obtain ⟨a,b,rfl,h1,h2⟩:=hv
 exact .tup h (.cons (.lst hW.1 (JV hW.2)) (.cons (.tup h1 (.cons (.str _) (.cons (.str _) (.cons (.bl _) (.cons (.int _) (.cons (.tup h2 .nil) .nil)))))) (.cons (.lst hl .nil) .nil)))
theorem Vg {hs:List KdT} {nm:Str} (h1:∀ k ∈ hs,PyData.strOk k.2.1=true) (h2:∀ k ∈ hs,RowsOk k.2.2.2) (h3:PyData.strOk nm=true):(Wh (hs.map Zk) nm).canLay0=true∧(Wh (hs.map Zk) nm).depth≤20:=by
 have a1:=U9 h1 h2
 have a2:=YO (hs.map Zk)
 unfold Wh
 constructor
 ·simp only [PyData.canLay0,PyData.canLayAll0,a1,h3,Lc,Bool.and_self]
 ·simp only [PyData.depth,PyData.depthAll]
  lia
section
variable {P:Program} {w:World} {K:PySem.W.Frag} {mg:Str→Option Value} {base:Heap} {f:Addr} {fd:FuncData} {T N NS B:Addr}
theorem QZ:FnScope OG ["_law_script"] (defScope Xi):=(0:)
theorem ME (F:Fun K "law" "law" Xi f fd) (G:Gm mg) (L:Cs K mg N NS B) (RC:Fn P w K mg base 1 "_law_cell_at" ["_law_script", "_law_k"] (Ju K)) (RN:Fn P w K mg base 2 "_law_names" ["_law_cell"] (Jz K)) (RM:Fn P w K mg base 2 "_law_modes" MQ (Jf K)) (RO:Fn P w K mg base 1 "_law_out" ["_law_names_here", "_law_count", "_law_odd"] (VH K)) (RF:Fn P w K mg base 1 "_law_first" ["_law_count", "_law_odd", "_law_kinds", "_law_lack"] JE)
 (RS:FnX P w K mg base 8 "strays" ["turning", "wood"] (Wp K N 2)) (RB:Fn P w K mg base 10 "_law_behind" ["_law_turning", "_law_out_here", "_law_name"] (X2 K T 2)) (RR:Fn P w K mg base 2 "_law_right" ["_law_found", "_law_names_here", "_law_far"] (JH K)):FnOk P w K mg base CX0 11 f fd ["_law_script"] (Wg K T):=by
 refine F.ok QZ (8:) (2:)
 ·obtain ⟨a,cs,rfl,_⟩:=h
  rfl
 obtain ⟨a,cs,rfl,hS,_,hT0,q⟩:=h
 have room:∀ m:Nat,m≤64→(A.deeper (PyProof.Rows.envOfC "law" (defScope Xi) s.heap.objs.size f cdv)).units + m < cLine:=fun m hm=>by have:=hr.units;lia
 refine ⟨_,(Qe (Ql (i:=1) QZ.nd rfl (11:) (Qv RN hr (Qa (Qv RC hr (Qa (pv 0) (Qa (Qf) Qc))) Qc)))
  (Qe (Ql (i:=2) QZ.nd rfl (11:) (Qo QC Qf (Qo QE (Qv RC hr (Qa (pv 0) (Qa (Qf) Qc))) Qf)))
  (Qe (Ql (i:=3) QZ.nd rfl (11:) (Qo QE (Qv RC hr (Qa (pv 0) (Qa (Qf) Qc))) (pv 2)))
  (Qe (Ql (i:=4) QZ.nd rfl (11:) (Qo QC Qf (Qo QE (Qv RC hr (Qa (pv 0) (Qa (Qf) Qc))) Qf)))
  (Qe (Ql (i:=5) QZ.nd rfl (11:) (Qo QE (Qv RC hr (Qa (pv 0) (Qa (Qf) Qc))) (pv 4)))
  (Qe (Ql (i:=6) QZ.nd rfl (11:) (Qj Qx (pv 1) (Qo QC Qf (Qo QE (Qv RC hr (Qa (pv 0) (Qa (Qf) Qc))) Qf)) (4:)))
  (Qe (Ql (i:=7) QZ.nd rfl (11:) (QK (Qa ((Qm (Qa (pv 6) (Qa (Qp (Yn (room 4 (13:))) rfl G.srt PyProof.Rows.boot_sorted (Qa ((QK (Qa ((Qm (Qa (Qj Qx (pv 1) Qf (4:)) (Qa (Qm Qc) Qc)))) (Qa ((Qm (Qa (Qj Qx (pv 1) Qf (4:)) (Qa ((Qm (Qa (pv 6) Qc))) Qc)))) Qc)))) Qc)) Qc)))) Qc)))
  (Qe (Ql (i:=8) QZ.nd rfl (11:) (Qm (Qa (pv 7) (Qa ((Qm (Qa (QJ) (Qa (Qf) (Qa (Qf) Qc))))) (Qa (Qv RM hr (Qa (pv 0) (Qa (pv 1) (Qa (pv 6) (Qa (pv 2) (Qa (pv 3) Qc)))))) Qc)))))
  (Qe (Ql (i:=9) QZ.nd rfl (11:) (Qv RO hr (Qa (pv 1) (Qa (pv 4) (Qa (pv 5) Qc)))))
  (Qe (Jb (Ql (i:=10) QZ.nd rfl (11:) (Qv RF hr (Qa (pv 2) (Qa (pv 3) (Qa (pv 4) (Qa (pv 5) Qc)))))))
  (Qe (Ql (i:=11) QZ.nd rfl (11:) ZO)
  (Qe (Ql (i:=12) QZ.nd rfl (11:) Zi)
  (Qe (Jb (UP (i:=13) L.tg rfl QZ.nd rfl rfl
   (fun pins EE=>Qg (Ql (i:=12) QZ.nd rfl (11:) (VN (EE:=EE) RS hr LF (Qa (pv 8) (Qa (pv 9) Qc)))))
   (fun a=>Qg (Ql (i:=11) QZ.nd rfl (11:) (Zw (Qp (r:=XA K) QM rfl G.isi PyProof.Rows.boot_isinstance (Qa (pv 13) (Qa (Q4 (v:=.ref B) rfl L.te rfl) Qc))) (Zw (Qp (r:=XA K) QM rfl G.isi PyProof.Rows.boot_isinstance (Qa (pv 13) (Qa (Zb (v:=.ty "ValueError") rfl L.ve (1:) rfl) Qc))) (Ys (UG (Qp (r:=XA K) QM rfl G.isi PyProof.Rows.boot_isinstance (Qa (pv 13) (Qa (Q4 (v:=.ref NS) rfl L.st rfl) Qc)))))))))))
  (Qe (Ql (i:=14) QZ.nd rfl (11:) (Qv RB hr (Qa (pv 8) (Qa (pv 9) (Qa (Qj Qx (pv 1) Qf (4:)) Qc)))))
  (Qe (Qz (Yy (YB (pv 10))) (Qg (Qn (Zw (LU (YB (pv 12))) (Zw (UG (pv 11)) (Ys (Zf MP (pv 14) (Qm (Qa (pv 7) (Qa ((Qm (Qa (QJ) (Qa (Qj Qx (pv 1) Qf (4:)) (Qa (ZO) (Qa (Qf) (Qa (Qm Qc) Qc))))))) (Qa (QK Qc) Qc)))) (Qr _))))))) Qq)
  (Qe (Qz (Qs Gf (pv 14) (QK (Qa (ZO) Qc)) (Qr _)) (Qg (Qn ZO)) Qq)
  (Qe (Qz (Qs Wr (Qo QC (pv 10) Qf) Qf (Qr _)) (Qg (Qn (pv 11))) Qq)
  (Qg (Qn (Zw (UG (pv 11)) (Ys (Qv RR hr (Qa (pv 12) (Qa (pv 1) (Qa (pv 10) Qc))))))))))))))))))))))))),?_⟩
 refine ⟨_,rfl,a,cs,0,rfl,by decide,hS,fun c0=>⟨c0,rfl,fun ln H1 ns g1 hln h8 hnd hnok=>?_⟩⟩
 have hS1:=g1.seq hS
 have hlnL:=SqL.of (K:=K) hln
 refine ⟨_,rfl,a,cs,1,rfl,by decide,hS1,fun c1=>⟨_,_,rfl,rfl,(by show (0:Int) < 20;decide),_,_,rfl,rfl,?_⟩⟩
 obtain ⟨c,hc⟩ : ∃ c:Nat,1 + c1 % 20=(c:Int):=⟨(1 + c1 % 20).toNat,by have:=Int.emod_nonneg c1 (by decide:(20:Int)≠0);lia⟩
 have hc0:0 < c:=by have:=Int.emod_nonneg c1 (by decide:(20:Int)≠0);lia
 have hc20:c≤20:=by have:=Int.emod_lt_of_pos c1 (by decide:(0:Int) < 20);lia
 refine ⟨_,rfl,a,cs,2,rfl,by decide,hS1,fun c2=>⟨_,rfl,_,_,rfl,rfl,(by show (0:Int) < 1 + c1 % 20;lia),?_⟩⟩
 obtain ⟨o,ho⟩ : ∃ o:Nat,c2 % (c:Int)=(o:Int):=⟨(c2 % (c:Int)).toNat,by have:=Int.emod_nonneg c2 (show (c:Int)≠0 by lia);lia⟩
 refine ⟨_,rfl,a,cs,3,rfl,by decide,hS1,fun c3=>⟨_,_,rfl,rfl,(by show (0:Int) < 5;decide),_,_,rfl,rfl,?_⟩⟩
 obtain ⟨kk,hkk⟩ : ∃ kk:Nat,1 + c3 % 5=(kk:Int):=⟨(1 + c3 % 5).toNat,by have:=Int.emod_nonneg c3 (by decide:(5:Int)≠0);lia⟩
 have hk0:0 < kk:=by have:=Int.emod_nonneg c3 (by decide:(5:Int)≠0);lia
 have hk5:kk≤5:=by have:=Int.emod_lt_of_pos c3 (by decide:(0:Int) < 5);lia
 refine ⟨_,rfl,a,cs,4,rfl,by decide,hS1,fun c4=>⟨_,rfl,_,_,rfl,rfl,(by show (0:Int) < 1 + c3 % 5;lia),?_⟩⟩
 obtain ⟨l,hl⟩ : ∃ l:Nat,c4 % (kk:Int)=(l:Int):=⟨(c4 % (kk:Int)).toNat,by have:=Int.emod_nonneg c4 (show (kk:Int)≠0 by lia);lia⟩
 have hll:l < kk:=by have:=Int.emod_lt_of_pos c4 (show (0:Int) < (kk:Int) by lia);lia
 refine ⟨_,rfl,_,rfl,a,cs,5,rfl,by decide,hS1,fun c5=>⟨_,_,rfl,rfl,(by show (0:Int) < 6;decide),_,_,rfl,rfl,?_⟩⟩
 obtain ⟨j,hj,hj8⟩ : ∃ j:Nat,2 + c5 % 6=(j:Int)∧j < 8:=⟨(2 + c5 % 6).toNat,by have:=Int.emod_nonneg c5 (by decide:(6:Int)≠0);lia,by have:=Int.emod_lt_of_pos c5 (by decide:(0:Int) < 6);have:=Int.emod_nonneg c5 (by decide:(6:Int)≠0);lia⟩
 have hatj:atI (ns.map V.str) (2 + c5 % 6)=some (.str (nmL ns j)):=by rw [hj];exact Q3 h8 hj8
 refine ⟨ln,_,_,_,rfl,rfl,hlnL,hatj,?_⟩
 have hkdm:=ZI h8 hj8
 generalize nmL ns j=kd at hkdm ⊢
 have at0:=Q3 (i:=0) h8 (13:)
 have at1:=Q3 (i:=1) h8 (13:)
 refine ⟨_,rfl,_,rfl,ln,_,0,_,rfl,rfl,hlnL,at0,(21:),fun p0 hp0=>⟨(17:),fun p1 hp1=>?_⟩⟩
 have k0:=Qd hp0 (.tup [])
 have k1:=Qd hp1 (.tup [.str (nmL ns 0),.ref p0])
 have k01:=k0.trans k1
 have rA:RowAt K (upd (upd H1 p0 (.tup [])) p1 (.tup [.str (nmL ns 0),.ref p0])) (p1,nmL ns 0,p0,[]):=⟨SqT.of Qb,k1.seqT (39:)⟩
 generalize upd (upd H1 p0 (.tup [])) p1 (.tup [.str (nmL ns 0),.ref p0])=H2 at k01 rA ⊢
 refine ⟨_,rfl,ln,_,1,_,rfl,rfl,k01.seq hlnL,at1,_,rfl,(30:),fun p2 hp2=>⟨(17:),fun p3 hp3=>⟨(17:),fun lr hlr=>?_⟩⟩⟩
 have k2:=Qd hp2 (.tup [.str kd])
 have k3:=Qd hp3 (.tup [.str (nmL ns 1),.ref p2])
 have k4:=Qd hlr (.lst [.ref p1,.ref p3])
 have k24:=k2.trans (k3.trans k4)
 have rB:RowAt K (upd (upd (upd H2 p2 (.tup [.str kd])) p3 (.tup [.str (nmL ns 1),.ref p2])) lr (.lst [.ref p1,.ref p3])) (p3,nmL ns 1,p2,[kd]):=⟨k4.seqT (39:),(k3.trans k4).seqT (39:)⟩
 have hlr2:SqL K (upd (upd (upd H2 p2 (.tup [.str kd])) p3 (.tup [.str (nmL ns 1),.ref p2])) lr (.lst [.ref p1,.ref p3])) lr [.ref p1,.ref p3]:=SqL.of Qb
 generalize upd (upd (upd H2 p2 (.tup [.str kd])) p3 (.tup [.str (nmL ns 1),.ref p2])) lr (.lst [.ref p1,.ref p3])=H3 at k24 rB hlr2 ⊢
 have rA:=rA.same k24
 have ne01:nmL ns 0≠nmL ns 1:=fun e=>absurd (Zh h8 hnd (13:) (13:) e) (13:)
 refine ⟨lr,[(p1,nmL ns 0,p0,[]),(p3,nmL ns 1,p2,[kd])],rfl,hlr2,fun t ht=>?_,by simp [ne01],by show 2 < 64;decide,fun out po hperm hasc hpo=>⟨(17:),fun tA htA=>⟨(30:),fun lw hlw=>?_⟩⟩⟩
 ·simp only [List.mem_cons,List.mem_nil_iff,or_false] at ht
  rcases ht with rfl | rfl
  ·exact ⟨rA.1,rA.2,fun x hx=>(nomatch hx)⟩
  ·exact ⟨rB.1,rB.2,fun x hx=>by rw [List.mem_singleton.mp hx];exact hnok _ hkdm⟩
 have hout:=OP hperm hasc ne01
 have k5:=Qd hpo (.lst (out.map fun t=>V.ref t.1))
 have k6:=Qd htA (.tup [.str kd,.ref po])
 have k7:=Qd hlw (.lst [.ref tA])
 have k57:=k5.trans (k6.trans k7)
 have hW:WoodAt K (upd (upd (upd H3 po (.lst (out.map fun t=>V.ref t.1))) tA (.tup [.str kd,.ref po])) lw (.lst [.ref tA])) lw [(tA,kd,po,out)]:=by
  refine ⟨SqL.of Qb,fun k hk=>?_⟩
  obtain rfl:=List.mem_singleton.mp hk
  refine ⟨k7.seqT (39:),(k6.trans k7).seq (SqL.of Qb),fun t ht=>?_⟩
  have hm:=hperm.mem_iff.mp ht
  simp only [List.mem_cons,List.mem_nil_iff,or_false] at hm
  rcases hm with rfl | rfl
  ·exact rA.same k57
  ·exact rB.same k57
 generalize upd (upd (upd H3 po (.lst (out.map fun t=>V.ref t.1))) tA (.tup [.str kd,.ref po])) lw (.lst [.ref tA])=H4 at k57 hW ⊢
 have g14:Same H1 H4:=k01.trans (k24.trans k57)
 refine ⟨_,rfl,(33:),fun sa hsa=>?_⟩
 have k8:=Qd hsa (.tup [.str CALL,.int 0,.int 0])
 have hsv:TmV K (upd H4 sa (.tup [.str CALL,.int 0,.int 0])) (.ref sa) (Zu 0 0):=.call (39:)
 generalize upd H4 sa (.tup [.str CALL,.int 0,.int 0])=H5 at k8 hsv ⊢
 have g15:=g14.trans k8
 refine ⟨_,rfl,_,rfl,_,rfl,_,rfl,_,rfl,a,ln,cs,ns,kd,c,o,?_,g15.seq hS1,g15.seq hlnL,h8,hc0,hc20,fun lm ms H6 g6 hlm hms hml hmd=>⟨(33:),fun tu htu=>?_⟩⟩
 ·show [V.ref a,.ref ln,.str kd,.int (1 + c1 % 20),.int (c2 % (1 + c1 % 20))]=_
  rw [hc,ho]
 have k9:=Qd htu (.tup [.ref lw,.ref sa,.ref lm])
 have k69:=g6.trans k9
 have hTu:TuAt K (upd H6 tu (.tup [.ref lw,.ref sa,.ref lm])) tu lw (.ref sa) lm [(tA,kd,po,out)] (Zu 0 0) ms:=⟨SqT.of Qb,hW.same (k8.trans k69),hsv.mono fun _ _=>k69.seqT,k9.seq hlm,fun m hm=>⟨k9.seqT (hms m hm).1,k9.seq (hms m hm).2.1,(hms m hm).2.2.mono fun _ _=>k9.seqT⟩⟩
 generalize upd H6 tu (.tup [.ref lw,.ref sa,.ref lm])=H7 at k69 hTu ⊢
 have g17:=g15.trans k69
 refine ⟨_,rfl,_,rfl,_,rfl,ln,ns,kk,l,?_,g17.seq hlnL,h8,hnd,hnok,hk0,hk5,fun lo ks H8 g8 hWo hkl hkr=>?_⟩
 ·show [V.ref ln,.int (1 + c3 % 5),.int (c4 % (1 + c3 % 5))]=_
  rw [hkk,hl]
 have hTu8:=hTu.same g8
 have g18:=g17.trans g8
 have D:Drw ns kd c o kk l [(tA,kd,po,out)] ks ms:=⟨h8,hnd,hnok,hkdm,hc0,hc20,hk0,hk5,hll,⟨tA,po,(p1,nmL ns 0,p0,[]),(p3,nmL ns 1,p2,[kd]),by rw [hout],rfl,rfl⟩,hml,hmd,hkl,hkr⟩
 have hck:c * kk≤100:=Nat.mul_le_mul hc20 hk5
 refine ⟨fun σ' H'=>∃ fv,FarV c o kk l fv∧H'=H8∧σ'=[some (.ref a),some (.ref ln),some (.int (1 + c1 % 20)),some (.int (c2 % (1 + c1 % 20))),some (.int (1 + c3 % 5)),some (.int (c4 % (1 + c3 % 5))),some (.str kd),some (.ref lw),some (.ref tu),some (.ref lo),some fv,none,none,none,none],?_,?_⟩
 ·refine ⟨_,rfl,_,rfl,_,rfl,_,rfl,c,o,kk,l,?_,hc0,hc20,hk0,hk5,fun far hf hb hm=>⟨_,.yes (12:) hb hm,rfl,rfl⟩,fun hno=>⟨_,.no fun n hn=>?_,rfl,rfl⟩⟩
  ·show [V.int (1 + c1 % 20),.int (c2 % (1 + c1 % 20)),.int (1 + c3 % 5),.int (c4 % (1 + c3 % 5))]=_
   rw [hc,ho,hkk,hl]
  ·obtain ⟨h1,h2⟩:=hn.per hc0 hk0
   exact hno _ h1 h2
 rintro σ H8' ⟨fv,hfar,rfl,rfl⟩
 refine ⟨fun σ' H'=>∃ (fo:V) (pb:Bool),Fd K ns H' fv fo pb∧Same H8' H'∧σ'=[some (.ref a),some (.ref ln),some (.int (1 + c1 % 20)),some (.int (c2 % (1 + c1 % 20))),some (.int (1 + c3 % 5)),some (.int (c4 % (1 + c3 % 5))),some (.str kd),some (.ref lw),some (.ref tu),some (.ref lo),some fv,some (.bl pb),some fo,none,none],?_,?_⟩
 ·refine ⟨fun σ' cls _ H'=>σ'=[some (.ref a),some (.ref ln),some (.int (1 + c1 % 20)),some (.int (c2 % (1 + c1 % 20))),some (.int (1 + c3 % 5)),some (.int (c4 % (1 + c3 % 5))),some (.str kd),some (.ref lw),some (.ref tu),some (.ref lo),some fv,some (.bl false),some .non,none,none]∧cls=.ref N∧Same H8' H'∧∃ far:Nat,fv=.int (far:Int)∧40 < far + 1,?_,?_⟩
  ·refine ⟨_,rfl,_,rfl,?_⟩
   dsimp only [Ua]
   refine VT D hTu8 hWo (fun hno H' g'=>?_) (fun far hb hm h40 H' g'=>?_) (fun far hb hm h40 p qa v H' g' hp hv hqa=>?_)
   ·cases hfar with
    | no _=>exact ⟨.non,false,.no,g',rfl⟩
    | yes _ hb _=>exact absurd hb (hno _)
   ·cases hfar with
    | no hno=>exact absurd hb (hno _)
    | yes _ hb2 hm2 =>
     obtain rfl:=X6 hb2 hm2 hb hm
     exact ⟨rfl,rfl,g',_,rfl,h40⟩
   ·cases hfar with
    | no hno=>exact absurd hb (hno _)
    | yes _ hb2 hm2 =>
     obtain rfl:=X6 hb2 hm2 hb hm
     exact ⟨.ref p,false,.near h40 hp hv hqa,g',rfl⟩
  ·rintro σ' cls H' ⟨rfl,rfl,g',far,rfl,h40⟩
   refine ⟨N,rfl,L.e1,fun ea hea=>?_⟩
   have ga:=Qd hea (ExcO ea (.ref N))
   refine ⟨_,rfl,ea,N,.ref B,.ref B,true,rfl,Qb,rfl,L.x1,L.nb,true,rfl,Zl ⟨_,rfl,ea,N,.ty "ValueError", .type "ValueError", true,rfl,Qb,rfl,L.x1,L.v1,true,rfl,Zl ⟨_,rfl,ea,N,.ref NS,.ref NS,false,rfl,Qb,rfl,L.x1,L.ns,_,rfl,?_⟩⟩⟩
   exact ⟨.non,true,.wide h40,g'.trans ga,rfl⟩
 rintro σ H9 ⟨fo,pb,hFd,g9,rfl⟩
 have at3:=Q3 (i:=3) h8 (13:)
 have g19:=g18.trans g9
 have tb9:TbS H9 T pL qL:=TbS.same (g1.trans g19) (.inl hT0)
 obtain ⟨ps9,hps9⟩:=tb9.at
 have hTu9:=hTu8.same g9
 have hln9:=g19.seq hlnL
 refine ⟨_,rfl,_,rfl,_,rfl,ln,_,3,_,rfl,rfl,hln9,at3,?_⟩
 dsimp only [Ua]
 refine Va D tb9 hTu9 (hWo.same g9) (fun hno tu2 lx ly v' hs H' x' htu2 eh hW' hv' hly=>?_) (fun far hb lt H' x' hlt=>?_)
 ·have kS:=KeepS.tb (K:=K) hps9 x'
  cases hfar with
  | yes _ hb _=>exact absurd hb (hno _)
  | no _ =>
  cases hFd with
  | no =>
  have hln':=kS.l _ _ hln9
  have hW2:=(hTu9.keep kS).wd
  refine ⟨_,rfl,_,rfl,YA rfl ⟨_,rfl,true,rfl,Zl ⟨_,rfl,_,rfl,true,rfl,Zl ⟨_,rfl,_,rfl,_,rfl,ln,_,3,_,rfl,rfl,hln',at3,(21:),fun q0 hq0=>⟨(by show 5≤sizeLine;decide),fun q1 hq1=>⟨(21:),fun q2 hq2=>⟨(33:),fun q3 hq3=>?_⟩⟩⟩⟩⟩⟩⟩
  have j0:=Qd hq0 (.tup [])
  have j1:=Qd hq1 (.tup [.str PUT,.str (nmL ns 3),.bl false,.int 1,.ref q0])
  have j2:=Qd hq2 (.lst [])
  have j3:=Qd hq3 (.tup [.ref lw,.ref q1,.ref q2])
  have jj:=j0.trans (j1.trans (j2.trans j3))
  obtain ⟨l1,l2⟩:=Vg (hs:=[(tA,kd,po,out)]) (nm:=nmL ns 3) (fun k hk=>by rw [List.mem_singleton.mp hk];exact hnok _ hkdm) (fun k hk=>D.wo1.1.rows k hk) (hnok _ (ZI h8 (13:)))
  have rd1:=Wb (jj.seqT htu2) (hW'.same jj) (hv'.mono fun _ _=>jj.seqT) (jj.seq hly)
  rw [eh] at rd1
  refine ⟨_,_,rd1,Wb (39:) (hW2.same jj) ⟨q1,q0,rfl,(j2.trans j3).seqT (39:),(j1.trans (j2.trans j3)).seqT (39:)⟩ (j3.seq (SqL.of Qb)),l1,l1,room _ (Nat.le_trans (Nat.min_le_left _ _) (12:)),?_⟩
  rw [if_neg Bool.false_ne_true,ZG _ l1]
  exact q _
 ·have kS:=KeepS.tb (K:=K) hps9 x'
  cases hfar with
  | no hno=>exact absurd hb (hno _)
  | yes h100 hb2 hm2 =>
  rename_i far2
  have layT:(PyData.list [.bool true]).canLay0=true:=by simp [PyData.canLay0,PyData.canLayAll0]
  refine ⟨_,rfl,_,rfl,Zo (37:) ⟨_,rfl,(30:),fun l2 hl2=>?_⟩⟩
  have j:=Qd hl2 (.lst [.bl true])
  refine ⟨_,_,.lst (SqL.of (j _ _ hlt)) (.cons (.bl _) .nil),.lst (SqL.of Qb) (.cons (.bl _) .nil),layT,layT,room _ (Nat.le_trans (Nat.min_le_left _ _) (by simp [PyData.depth,PyData.depthAll])),_,rfl,?_⟩
  rw [if_pos rfl,ZG _ layT]
  refine ZW ⟨_,rfl,_,_,rfl,rfl,_,_,rfl,rfl,_,rfl,?_⟩
  cases hFd with
  | near h40 hp hv hqa =>
   refine Zo (show ¬ ((far2:Int)+1 > 40) by lia) ⟨_,rfl,_,rfl,true,rfl,Zl ⟨_,rfl,_,rfl,_,rfl,_,_,ln,_,ns,far2,rfl,j.seqT (kS.t _ _ hp),hv.mono fun _ _ h=>j.seqT (kS.t _ _ h),j.seqT (kS.t _ _ hqa),j.seq (kS.l _ _ hln9),h8,by lia,fun H2 _=>q _⟩⟩
  | wide h40=>exact YA (show ((far2:Int)+1 > 40) by lia) ⟨_,rfl,q _⟩
end
end K63
namespace L2
theorem ln1 {α:Type} {us:List α} (h:us.length=1):∃ a,us=[a]:=List.length_eq_one_iff.mp h
theorem ln2 {α:Type} {us:List α} (h:us.length=2):∃ a b,us=[a,b]:=by
 match us,h with
 | [a,b],_=>exact ⟨a,b,rfl⟩
theorem ln3 {α:Type} {us:List α} (h:us.length=3):∃ a b c,us=[a,b,c]:=by
 match us,h with
 | [a,b,c],_=>exact ⟨a,b,c,rfl⟩
theorem ln4 {α:Type} {us:List α} (h:us.length=4):∃ a b c d,us=[a,b,c,d]:=by
 match us,h with
 | [a,b,c,d],_=>exact ⟨a,b,c,d,rfl⟩
theorem ln5 {α:Type} {us:List α} (h:us.length=5):∃ a b c d e,us=[a,b,c,d,e]:=by
 match us,h with
 | [a,b,c,d,e],_=>exact ⟨a,b,c,d,e,rfl⟩
end L2
namespace L2
open PySem
structure MethAt (K:PySem.W.Frag) (C:Addr) (m qual:Str) (st:Stmt):Prop where
 ex:∃ (f:Addr) (oc:Value) (od:Option Addr) (kV doc pm:Value) (an:Option Addr) (cdv ct:Value) (osl:Array (Option Value)),
  PySem.W.findIn K (.ref C) m=some (some (.ref f))∧PySem.W.isFn K (.ref f)=true∧K.lookup f=some ⟨oc,od,.func (PySem.W.fnOf m qual (defArgs st) (defBody st) (defScope st) .none kV doc pm an cdv ct),osl⟩∧PySem.W.codeIn K cdv qual=true∧PySem.W.keepIn K (.ref f)=true
theorem MethAt.mk' {K:PySem.W.Frag} {C:Addr} {m qual:Str} {st:Stmt} {f:Addr} {oc:Value} {od:Option Addr} {kV doc pm:Value} {an:Option Addr} {cdv ct:Value} {osl:Array (Option Value)}
 (a:PySem.W.findIn K (.ref C) m=some (some (.ref f))) (i:PySem.W.isFn K (.ref f)=true) (l:K.lookup f=some ⟨oc,od,.func (PySem.W.fnOf m qual (defArgs st) (defBody st) (defScope st) .none kV doc pm an cdv ct),osl⟩) (c:PySem.W.codeIn K cdv qual=true) (k:PySem.W.keepIn K (.ref f)=true):MethAt K C m qual st :=
 ⟨f,oc,od,kV,doc,pm,an,cdv,ct,osl,a,i,l,c,k⟩
end L2
namespace K63
open PySem L2
structure DmK (K:PySem.W.Frag):Prop where
 ex:∃ C:Addr,PySem.W.nsIn K mainGlobals "Demands" = some (some (.ref C))∧Cls K C∧NoAttr K C "turning" ∧ NoAttr K C "kinds_below" ∧ NoAttr K C "steps" ∧ NoAttr K C "waiting" ∧ NoAttr K C "fault" ∧ PySem.W.makesIn K C=true∧PySem.W.keepIn K (.ref C)=true ∧
  MethAt K C "__init__" "Demands.__init__" Xb∧MethAt K C "look_by" "Demands.look_by" Yh∧MethAt K C "look" "Demands.look" UT∧MethAt K C "meet_demand" "Demands.meet_demand" sMD∧MethAt K C "meet_fault" "Demands.meet_fault" sMF∧MethAt K C "tree_and_place" "Demands.tree_and_place" sTP
theorem DmK.mk' {K:PySem.W.Frag} {C:Addr} (aC:PySem.W.nsIn K mainGlobals "Demands" = some (some (.ref C))) (pg:PySem.W.plainGet K C Str.empty=true) (hd:PySem.W.hasDictIn K C=true) (po:PySem.W.plainOver K C=true)
 (sa:PySem.W.findIn K (.ref C) "__setattr__" = some (some (.builtin "object.__setattr__"))) (n1:PySem.W.findIn K (.ref C) "turning" = some none) (n2:PySem.W.findIn K (.ref C) "kinds_below" = some none) (n3:PySem.W.findIn K (.ref C) "steps" = some none) (n4:PySem.W.findIn K (.ref C) "waiting" = some none) (n5:PySem.W.findIn K (.ref C) "fault" = some none)
 (mk:PySem.W.makesIn K C=true) (kc:PySem.W.keepIn K (.ref C)=true) (m1:MethAt K C "__init__" "Demands.__init__" Xb) (m2:MethAt K C "look_by" "Demands.look_by" Yh) (m3:MethAt K C "look" "Demands.look" UT) (m4:MethAt K C "meet_demand" "Demands.meet_demand" sMD) (m5:MethAt K C "meet_fault" "Demands.meet_fault" sMF) (m6:MethAt K C "tree_and_place" "Demands.tree_and_place" sTP):DmK K :=
 ⟨C,aC,⟨pg,hd,po,sa⟩,n1,n2,n3,n4,n5,mk,kc,m1,m2,m3,m4,m5,m6⟩
theorem DmK.m {P:Program} {w:World} {K:PySem.W.Frag} {mg:Str→Option Value} {base h:Heap} (S:DmK K) (X:K.In h) (N:h.Ns mainGlobals mg) (G:Gm mg) (RC:Fn P w K mg base 1 "is_call" ["term"] (Yl K)) (RL:Fn P w K mg base 1 "levels_needed" ["fault"] (J1 K)) (RA:Fn P w K mg base 1 "row_above" ["wood"] (Y1 K)) (RO:Fn P w K mg base 1 "rows_of" ["wood", "kind"] (ZF K)) (RT:Fn P w K mg base 4 "tree_on" ["wood", "way", "row", "mark"] (Yg K)) (n:Nat):∃ C,DmM P w K mg base C n:=by
 obtain ⟨C,aC,cl,n1,n2,n3,n4,n5,mk,kc,m1,m2,m3,m4,m5,m6⟩:=S.ex
 have T:DmT K mg C:=⟨cl,n1,n2,n3,n4,n5,PySem.W.mg_of X N aC⟩
 obtain ⟨f1,oc1,od1,kV1,doc1,pm1,an1,cdv1,ct1,osl1,a1,i1,l1,c1,k1⟩:=m1.ex
 obtain ⟨f2,oc2,od2,kV2,doc2,pm2,an2,cdv2,ct2,osl2,a2,i2,l2,c2,k2⟩:=m2.ex
 obtain ⟨f3,oc3,od3,kV3,doc3,pm3,an3,cdv3,ct3,osl3,a3,i3,l3,c3,k3⟩:=m3.ex
 obtain ⟨f4,oc4,od4,kV4,doc4,pm4,an4,cdv4,ct4,osl4,a4,i4,l4,c4,k4⟩:=m4.ex
 obtain ⟨f5,oc5,od5,kV5,doc5,pm5,an5,cdv5,ct5,osl5,a5,i5,l5,c5,k5⟩:=m5.ex
 obtain ⟨f6,oc6,od6,kV6,doc6,pm6,an6,cdv6,ct6,osl6,a6,i6,l6,c6,k6⟩:=m6.ex
 have F6:=QT (st:=sTP) l6 c6 k6
 have b6:Binds K _ ["self"] []:=F6.binds fun _ _ _ _ _ _ us hl=>by obtain ⟨a1,rfl⟩:=ln1 hl;rfl
 have F1:=QT (st:=Xb) l1 c1 k1
 have F2:=QT (st:=Yh) l2 c2 k2
 have F3:=QT (st:=UT) l3 c3 k3
 have F4:=QT (st:=sMD) l4 c4 k4
 have F5:=QT (st:=sMF) l5 c5 k5
 have b1:Binds K _ ["self", "turning", "wood"] []:=F1.binds fun _ _ _ _ _ _ us hl=>by obtain ⟨a1,a2,a3,rfl⟩:=ln3 hl;rfl
 have b2:Binds K _ ["self", "demand"] []:=F2.binds fun _ _ _ _ _ _ us hl=>by obtain ⟨a1,a2,rfl⟩:=ln2 hl;rfl
 have b3:Binds K _ ["self", "spot", "place", "term", "kind"] []:=F3.binds fun _ _ _ _ _ _ us hl=>by obtain ⟨a1,a2,a3,a4,a5,rfl⟩:=ln5 hl;rfl
 have b4:Binds K _ ["self", "demand", "step"] []:=F4.binds fun _ _ _ _ _ _ us hl=>by obtain ⟨a1,a2,a3,rfl⟩:=ln3 hl;rfl
 have b5:Binds K _ ["self", "fault"] []:=F5.binds fun _ _ _ _ _ _ us hl=>by obtain ⟨a1,a2,rfl⟩:=ln2 hl;rfl
 have mL:Meth K C "look" f3:=⟨a3,i3,k3⟩
 have FL:=Xg F3 G T RC ⟨a5,i5,k5⟩ (Nw F5 T RL) b5 ⟨a4,i4,k4⟩ (Nf F4 T) b4 mL b3 n
 have mB:Meth K C "look_by" f2:=⟨a2,i2,k2⟩
 exact ⟨C,T,⟨f1,_,⟨mk,a1,i1,kc⟩,GO F1 G T RA mL FL b3 mB (NC F2 G T RO mL FL b3) b2,b1⟩,⟨f6,_,⟨a6,i6,k6⟩,Nk F6 G T RT,b6⟩⟩
structure TbK (K:PySem.W.Frag):Prop where
 ex:∃ C:Addr,PySem.W.nsIn K mainGlobals "TermBehind" = some (some (.ref C))∧Cls K C∧NoAttr K C "other" ∧ NoAttr K C "left" ∧ PySem.W.makesIn K C=true∧PySem.W.keepIn K (.ref C)=true ∧
  MethAt K C "__init__" "TermBehind.__init__" sTI∧MethAt K C "by_rule" "TermBehind.by_rule" sBR∧MethAt K C "take_one" "TermBehind.take_one" sTO
theorem TbK.mk' {K:PySem.W.Frag} {C:Addr} (aC:PySem.W.nsIn K mainGlobals "TermBehind" = some (some (.ref C))) (pg:PySem.W.plainGet K C Str.empty=true) (hd:PySem.W.hasDictIn K C=true) (po:PySem.W.plainOver K C=true)
 (sa:PySem.W.findIn K (.ref C) "__setattr__" = some (some (.builtin "object.__setattr__"))) (n1:PySem.W.findIn K (.ref C) "other" = some none) (n2:PySem.W.findIn K (.ref C) "left" = some none)
 (mk:PySem.W.makesIn K C=true) (kc:PySem.W.keepIn K (.ref C)=true) (m1:MethAt K C "__init__" "TermBehind.__init__" sTI) (m3:MethAt K C "by_rule" "TermBehind.by_rule" sBR) (m4:MethAt K C "take_one" "TermBehind.take_one" sTO):TbK K :=
 ⟨C,aC,⟨pg,hd,po,sa⟩,n1,n2,mk,kc,m1,m3,m4⟩
theorem TbK.m {P:Program} {w:World} {K:PySem.W.Frag} {mg:Str→Option Value} {base h:Heap} (S:TbK K) (X:K.In h) (N:h.Ns mainGlobals mg) (G:Gm mg) (RC:Fn P w K mg base 1 "is_call" ["term"] (Yl K)) {t200:Tok} (h200:mg "MOST_SIZE" = some (.int 200 t200)):∃ C,TbM P w K mg base C:=by
 obtain ⟨C,aC,cl,n1,n2,mk,kc,m1,m3,m4⟩:=S.ex
 have T:TbT K mg C:=⟨cl,n1,n2,PySem.W.mg_of X N aC⟩
 obtain ⟨f1,oc1,od1,kV1,doc1,pm1,an1,cdv1,ct1,osl1,a1,i1,l1,c1,k1⟩:=m1.ex
 obtain ⟨f3,oc3,od3,kV3,doc3,pm3,an3,cdv3,ct3,osl3,a3,i3,l3,c3,k3⟩:=m3.ex
 obtain ⟨f4,oc4,od4,kV4,doc4,pm4,an4,cdv4,ct4,osl4,a4,i4,l4,c4,k4⟩:=m4.ex
 have F1:=QT (st:=sTI) l1 c1 k1
 have F3:=QT (st:=sBR) l3 c3 k3
 have F4:=QT (st:=sTO) l4 c4 k4
 have b1:Binds K _ ["self", "other"] []:=F1.binds fun _ _ _ _ _ _ us hl=>by obtain ⟨a1,a2,rfl⟩:=ln2 hl;rfl
 have b3:Binds K _ ["self", "rule", "read", "room"] []:=F3.binds fun _ _ _ _ _ _ us hl=>by obtain ⟨a1,a2,a3,a4,rfl⟩:=ln4 hl;rfl
 have b4:Binds K _ ["self", "room"] []:=F4.binds fun _ _ _ _ _ _ us hl=>by obtain ⟨a1,a2,rfl⟩:=ln2 hl;rfl
 exact ⟨C,T,⟨f1,_,⟨mk,a1,i1,kc⟩,Nb F1 T h200,b1⟩,⟨f3,_,⟨a3,i3,k3⟩,NU F3 G T RC ⟨a4,i4,k4⟩ (M6 F4 T) b4,b3⟩⟩
end K63
namespace K63
open PySem L2
theorem all_mk {c1 T1:Addr} {l:PySem.W.OpenLaw} {w:World} {K:PySem.W.Frag} {h:Heap} {mg:Str→Option Value} {fa:Addr} (X:K.In h) (N:h.Ns mainGlobals mg) (hfa:mg "law" = some (.ref fa))
 (d1:DefAt K "is_call" L8) (d2:DefAt K "calls_of" UD) (d3:DefAt K "with_modes" sWM) (d4:DefAt K "with_parts" sWP) (d5:DefAt K "at" sAt) (d6:DefAt K "put_at" Xn) (d7:DefAt K "has_number" VS) (d8:DefAt K "put_below" Xe) (d9:DefAt K "own_wood" sOW) (d10:DefAt K "rows_of" Jg) (d11:DefAt K "leaf_of" Ve) (d12:DefAt K "leafy" Xv) (d13:DefAt K "row_above" Xu) (d14:DefAt K "tree_on" Jj) (d15:DefAt K "strays" Y7) (d16:DefAt K "strays_at_all" Mo) (d17:DefAt K "levels_needed" Mb) (d18:DefAt K "as_met" sAM) (d19:DefAt K "number_calls" sNC) (d20:DefAt K "behind" ZS) (d21:DefAt K "_law_cell_at" VJ) (d22:DefAt K "_law_mixed" XU) (d23:DefAt K "_law_names" XW) (d24:DefAt K "_law_great" XR) (d25:DefAt K "_law_whole" Xz) (d26:DefAt K "_law_modes" Xr) (d27:DefAt K "_law_out" Lg) (d28:DefAt K "_law_first" Xy) (d29:DefAt K "_law_right" Jy) (d30:DefAt K "_law_behind" Md) (d31:DefAt K "law" Xi)
 (z1:PySem.W.nsIn K mainGlobals "len" = some none) (z2:PySem.W.nsIn K mainGlobals "isinstance" = some none) (z3:PySem.W.nsIn K mainGlobals "int" = some none) (z4:PySem.W.nsIn K mainGlobals "bool" = some none) (z5:PySem.W.nsIn K mainGlobals "str" = some none) (z6:PySem.W.nsIn K mainGlobals "tuple" = some none) (z7:PySem.W.nsIn K mainGlobals "list" = some none) (z8:PySem.W.nsIn K mainGlobals "range" = some none) (z9:PySem.W.nsIn K mainGlobals "zip" = some none) (z10:PySem.W.nsIn K mainGlobals "dict" = some none) (z11:PySem.W.nsIn K mainGlobals "sorted" = some none) (z12:PySem.W.nsIn K mainGlobals "reversed" = some none) (z13:PySem.W.nsIn K mainGlobals "enumerate" = some none) (z14:PySem.W.nsIn K mainGlobals "max" = some none) (y1:PySem.W.nsIn K mainGlobals "ValueError" = some none)  (ht1:PySem.W.tabIn K "behind" = some (c1,T1)) (hh1:PySem.W.codeHdIn K c1 T1=true)  {tA tB tC tD:Tok} {NT NS CT:Addr} (gA:PySem.W.nsIn K mainGlobals "MOST_SIZE" = some (some (.int 200 tA))) (gB:PySem.W.nsIn K mainGlobals "MOST_LEVELS_behind" = some (some (.int 30 tB))) (gC:PySem.W.nsIn K mainGlobals "MOST_MODES" = some (some (.int 40 tC))) (gD:PySem.W.nsIn K mainGlobals "MOST_LEVELS_straying" = some (some (.int 40 tD))) (gN:PySem.W.nsIn K mainGlobals "TooGreat" = some (some (.ref NT))) (gS:PySem.W.nsIn K mainGlobals "Strays" = some (some (.ref NS))) (gT:PySem.W.nsIn K mainGlobals "TurnError" = some (some (.ref CT))) (qa:PySem.W.excIn K NT Vv "ValueError.__new__" = true) (va:PySem.W.kitOne K (.ref NT) (.type "ValueError")=some true) (ea1:PySem.W.findIn K (.ref NT) "__getattribute__" = some (some (.builtin "BaseException.__getattribute__"))) (ea2:PySem.W.findIn K (.ref NT) "__getattr__" = some none) (ea3:PySem.W.findIn K (.ref NT) "__class__" = some (some (.builtin "object.__class__"))) (ea4:PySem.W.mroIn K NT (.type "BaseException")=some true) (ea5:PySem.W.mroIn K NT (.type "object")=some true) (qb:PySem.W.excIn K NS Vv "ValueError.__new__" = true) (vb:PySem.W.kitOne K (.ref NS) (.type "ValueError")=some true) (eb1:PySem.W.findIn K (.ref NS) "__getattribute__" = some (some (.builtin "BaseException.__getattribute__"))) (eb2:PySem.W.findIn K (.ref NS) "__getattr__" = some none) (eb3:PySem.W.findIn K (.ref NS) "__class__" = some (some (.builtin "object.__class__"))) (eb4:PySem.W.mroIn K NS (.type "BaseException")=some true) (eb5:PySem.W.mroIn K NS (.type "object")=some true) (xa:PySem.W.exmOne K (.ref NT) (.ref NT)=some true) (xb:PySem.W.exmOne K (.ref NS) (.ref CT)=some true) (jnb:PySem.W.kitOne K (.ref NT) (.ref CT)=some true) (jns:PySem.W.kitOne K (.ref NT) (.ref NS)=some false) (jsn:PySem.W.kitOne K (.ref NS) (.ref NT)=some false) (jss:PySem.W.kitOne K (.ref NS) (.ref NS)=some true) (s1:DmK K) (s2:TbK K) :
 ∃ fd:FuncData,(∀ (s:Shared) (v:Value),BindsTo s fd ⟨[v],[]⟩ [("_law_script", v)])∧∀ base:Heap,K.In base→base.Ns mainGlobals mg→Jk mg base→FnOk l.prog w K mg base CX0 11 fa fd ["_law_script"] (Wg K T1):=by
 have G:Gm mg:=⟨PySem.W.mg_none_of X N z1,PySem.W.mg_none_of X N z2,PySem.W.mg_none_of X N z3,PySem.W.mg_none_of X N z4,PySem.W.mg_none_of X N z5,PySem.W.mg_none_of X N z6,PySem.W.mg_none_of X N z7,PySem.W.mg_none_of X N z8,PySem.W.mg_none_of X N z9,PySem.W.mg_none_of X N z10,PySem.W.mg_none_of X N z11,PySem.W.mg_none_of X N z12,PySem.W.mg_none_of X N z13,PySem.W.mg_none_of X N z14⟩
 obtain ⟨f,oc,od,kV,doc,pm,an,cdv,ct,osl,a,lk,c,kp⟩:=d31.ex
 have e:=hfa.symm.trans (PySem.W.mg_of X N a)
 cases e
 have F:=QT (st:=Xi) lk c kp
 refine ⟨PySem.W.fnOf "law" "law" (defArgs Xi) (defBody Xi) (defScope Xi) .none kV doc pm an cdv ct,fun s v=>.of_eq rfl,fun base _ _ hB=>?_⟩
 have hve:mg "ValueError" = none:=PySem.W.mg_none_of X N y1
 have h200:mg "MOST_SIZE" = some (.int 200 tA):=PySem.W.mg_of X N gA
 have h30:mg "MOST_LEVELS_behind" = some (.int 30 tB):=PySem.W.mg_of X N gB
 have h40:mg "MOST_MODES" = some (.int 40 tC):=PySem.W.mg_of X N gC
 have h40s:mg "MOST_LEVELS_straying" = some (.int 40 tD):=PySem.W.mg_of X N gD
 have RNT:Rs K mg "TooGreat" NT:=⟨PySem.W.mg_of X N gN,qa⟩
 have RNS:Rs K mg "Strays" NS:=⟨PySem.W.mg_of X N gS,qb⟩
 have LC:Cs K mg NT NS CT:=⟨PySem.W.mg_of X N gT,PySem.W.mg_of X N gS,PySem.W.mg_of X N gN,hve,xa,xb,⟨ea1,ea2,ea3,ea4,ea5⟩,⟨eb1,eb2,eb3,eb4,eb5⟩,va,vb,jnb,jns,jsn,jss⟩
 have b1:Fn l.prog w K mg base 1 "is_call" ["term"] (Yl K):=d1.fn X N (fun f fd F=>MF F) fun _ _ _ _ _ _ us hl=>by obtain ⟨a1,rfl⟩:=ln1 hl;rfl
 have rHN:Fn l.prog w K mg base 1 "has_number" ["branches", "number"] (V8 K):=d7.fn X N (fun f fd F=>L3 F G rfl) fun _ _ _ _ _ _ us hl=>by obtain ⟨a1,a2,rfl⟩:=ln2 hl;rfl
 have rAt:Fn l.prog w K mg base 2 "at" ["tree", "place"] (L7 K):=d5.fn X N (fun f fd F=>Nu F rHN) fun _ _ _ _ _ _ us hl=>by obtain ⟨a1,a2,rfl⟩:=ln2 hl;rfl
 have rPB:Fn l.prog w K mg base 2 "put_below" ["tree", "place", "other"] (Z7 K 2):=by
  obtain ⟨f,oc,od,kV,doc,pm,an,cdv,ct,osl,a,lk,c,kp⟩:=d8.ex
  have F:=QT (st:=Xe) lk c kp
  have hb:Binds K _ ["tree", "place", "other"] []:=F.binds fun _ _ _ _ _ _ us hl=>by obtain ⟨a1,a2,a3,rfl⟩:=ln3 hl;rfl
  exact ⟨f,_,JW F G hb (PySem.W.mg_of X N a) 2,hb,kp,PySem.W.mg_of X N a⟩
 have rPA:Fn l.prog w K mg base 3 "put_at" ["tree", "place", "other"] (JC K):=d6.fn X N (fun f fd F=>VY F rAt rPB) fun _ _ _ _ _ _ us hl=>by obtain ⟨a1,a2,a3,rfl⟩:=ln3 hl;rfl
 have rRO:Fn l.prog w K mg base 1 "rows_of" ["wood", "kind"] (ZF K):=d10.fn X N (fun f fd F=>WZ F G) fun _ _ _ _ _ _ us hl=>by obtain ⟨a1,a2,rfl⟩:=ln2 hl;rfl
 have rLf:Fn l.prog w K mg base 2 "leaf_of" ["wood", "kind"] (Jx K):=d11.fn X N (fun f fd F=>Gq F G rRO) fun _ _ _ _ _ _ us hl=>by obtain ⟨a1,a2,rfl⟩:=ln2 hl;rfl
 have rLy:Fn l.prog w K mg base 3 "leafy" ["wood", "name", "mark", "kinds"] (Ji K):=d12.fn X N (fun f fd F=>V7 F G rLf) fun _ _ _ _ _ _ us hl=>by obtain ⟨a1,a2,a3,a4,rfl⟩:=ln4 hl;rfl
 have rAb:Fn l.prog w K mg base 1 "row_above" ["wood"] (Y1 K):=d13.fn X N (fun f fd F=>Vn F) fun _ _ _ _ _ _ us hl=>by obtain ⟨a1,rfl⟩:=ln1 hl;rfl
 have rTO:Fn l.prog w K mg base 4 "tree_on" ["wood", "way", "row", "mark"] (Yg K):=d14.fn X N (fun f fd F=>WL F G rLy rPA) fun _ _ _ _ _ _ us hl=>by obtain ⟨a1,a2,a3,a4,rfl⟩:=ln4 hl;rfl
 have rLN:Fn l.prog w K mg base 1 "levels_needed" ["fault"] (J1 K):=d17.fn X N (fun f fd F=>ML F G) fun _ _ _ _ _ _ us hl=>by obtain ⟨a1,rfl⟩:=ln1 hl;rfl
 obtain ⟨CD,MD⟩:=s1.m (P:=l.prog) (w:=w) (base:=base) X N G b1 rLN rAb rRO rTO 2
 obtain ⟨CB,MB⟩:=s2.m (P:=l.prog) (w:=w) (base:=base) X N G b1 h200
 have rSt:FnX l.prog w K mg base 8 "strays" ["turning", "wood"] (Wp K NT 2):=by
  obtain ⟨f,oc,od,kV,doc,pm,an,cdv,ct,osl,a,lk,c,kp⟩:=d15.ex
  have F:=QT (st:=Y7) lk c kp
  have hb:Binds K _ ["turning", "wood"] []:=F.binds fun _ _ _ _ _ _ us hl=>by obtain ⟨a1,a2,rfl⟩:=ln2 hl;rfl
  exact ⟨⟨f,_,MY F MD rLN RNT h40s,hb,kp,PySem.W.mg_of X N a⟩⟩
 have rSA:Fn l.prog w K mg base 8 "strays_at_all" ["turning", "wood"] (Vr K 2):=d16.fn X N (fun f fd F=>Mq F MD) fun _ _ _ _ _ _ us hl=>by obtain ⟨a1,a2,rfl⟩:=ln2 hl;rfl
 have rCO:Fn l.prog w K mg base 2 "calls_of" ["term"] (MW K):=d2.fn X N (fun f fd F=>Nx F b1) fun _ _ _ _ _ _ us hl=>by obtain ⟨a1,rfl⟩:=ln1 hl;rfl
 have rWP:Fn l.prog w K mg base 1 "with_parts" ["term", "parts"] (LY K):=d4.fn X N (fun f fd F=>NL F G) fun _ _ _ _ _ _ us hl=>by obtain ⟨a1,a2,rfl⟩:=ln2 hl;rfl
 have rWM:Fn l.prog w K mg base 2 "with_modes" ["term", "numbers"] (Mg K):=d3.fn X N (fun f fd F=>Ny F b1 rWP) fun _ _ _ _ _ _ us hl=>by obtain ⟨a1,a2,rfl⟩:=ln2 hl;rfl
 have rOW:Fn l.prog w K mg base 1 "own_wood" ["wood"] (L5 K):=d9.fn X N (fun f fd F=>N5 F G) fun _ _ _ _ _ _ us hl=>by obtain ⟨a1,rfl⟩:=ln1 hl;rfl
 have rNC:Fn l.prog w K mg base 3 "number_calls" ["numbers", "term", "most"] (MS K):=d19.fn X N (fun f fd F=>Nc F G rCO) fun _ _ _ _ _ _ us hl=>by obtain ⟨a1,a2,a3,rfl⟩:=ln3 hl;rfl
 have rAM:Fn l.prog w K mg base 4 "as_met" ["wood", "start", "mode_by", "most"] (Mh K):=d18.fn X N (fun f fd F=>Nh F G rNC rOW rWM) fun _ _ _ _ _ _ us hl=>by obtain ⟨a1,a2,a3,a4,rfl⟩:=ln4 hl;rfl
 have rBh:FnX l.prog w K mg base 9 "behind" ["one", "other"] (Ud K T1 NS 2):=by
  obtain ⟨f,oc,od,kV,doc,pm,an,cdv,ct,osl,a,lk,c,kp⟩:=d20.ex
  have F:=QT (st:=ZS) lk c kp
  have hb:Binds K _ ["one", "other"] []:=F.binds fun _ _ _ _ _ _ us hl=>by obtain ⟨a1,a2,rfl⟩:=ln2 hl;rfl
  exact ⟨⟨f,_,WP F a ht1 hh1 hB rSA MB h30 h40 rAM RNS,hb,kp,PySem.W.mg_of X N a⟩⟩
 have l1:Fn l.prog w K mg base 1 "_law_cell_at" ["_law_script", "_law_k"] (Ju K):=d21.fn X N (fun f fd F=>GJ F G) fun _ _ _ _ _ _ us hl=>by obtain ⟨a1,a2,rfl⟩:=ln2 hl;rfl
 have l2:Fn l.prog w K mg base 1 "_law_mixed" ["_law_cell", "_law_k"] Jp:=d22.fn X N (fun f fd F=>Vl F) fun _ _ _ _ _ _ us hl=>by obtain ⟨a1,a2,rfl⟩:=ln2 hl;rfl
 have l3:Fn l.prog w K mg base 2 "_law_names" ["_law_cell"] (Jz K):=d23.fn X N (fun f fd F=>Gb F G l2) fun _ _ _ _ _ _ us hl=>by obtain ⟨a1,rfl⟩:=ln1 hl;rfl
 have l4:Fn l.prog w K mg base 1 "_law_great" ["_law_cell"] JI:=d24.fn X N (fun f fd F=>Vj F) fun _ _ _ _ _ _ us hl=>by obtain ⟨a1,rfl⟩:=ln1 hl;rfl
 have l5:Fn l.prog w K mg base 1 "_law_whole" ["_law_found"] JD:=d25.fn X N (fun f fd F=>Vk F G) fun _ _ _ _ _ _ us hl=>by obtain ⟨a1,rfl⟩:=ln1 hl;rfl
 have l6:Fn l.prog w K mg base 2 "_law_modes" ["_law_script", "_law_names_here", "_law_kind", "_law_count", "_law_odd"] (Jf K):=d26.fn X N (fun f fd F=>VQ F G l1 l4) fun _ _ _ _ _ _ us hl=>by obtain ⟨a1,a2,a3,a4,a5,rfl⟩:=ln5 hl;rfl
 have l7:Fn l.prog w K mg base 1 "_law_out" ["_law_names_here", "_law_count", "_law_odd"] (VH K):=d27.fn X N (fun f fd F=>Mt F G) fun _ _ _ _ _ _ us hl=>by obtain ⟨a1,a2,a3,rfl⟩:=ln3 hl;rfl
 have l8:Fn l.prog w K mg base 1 "_law_first" ["_law_count", "_law_odd", "_law_kinds", "_law_lack"] JE:=d28.fn X N (fun f fd F=>Vi F G) fun _ _ _ _ _ _ us hl=>by obtain ⟨a1,a2,a3,a4,rfl⟩:=ln4 hl;rfl
 have l9:Fn l.prog w K mg base 2 "_law_right" ["_law_found", "_law_names_here", "_law_far"] (JH K):=d29.fn X N (fun f fd F=>V5 F G l5) fun _ _ _ _ _ _ us hl=>by obtain ⟨a1,a2,a3,rfl⟩:=ln3 hl;rfl
 have lA:Fn l.prog w K mg base 10 "_law_behind" ["_law_turning", "_law_out_here", "_law_name"] (X2 K T1 2):=d30.fn X N (fun f fd F=>LX F G LC rBh) fun _ _ _ _ _ _ us hl=>by obtain ⟨a1,a2,a3,rfl⟩:=ln3 hl;rfl
 exact ME F G LC l1 l3 l6 l7 l8 rSt lA l9
theorem walk {c1 T1:Addr} {l:PySem.W.OpenLaw} {q:Program} {loose:List Str} {XP:(Str→Option Value)→Heap→Prop} {YP:World→Heap→Prop} {d:DefRec} {K:Params→PySem.W.Frag} (hn:l.most=some 63) (hdf:d.params.defaults=[])
 (hY:∀ (w:World) (h:Heap),YP w h→(K w.params).In h) (tb1:∀ w:World,TabAt q (K w.params) "behind" c1 T1)
 (F:∀ (w:World) (mg:Str→Option Value) (fa:Addr) (h:Heap),(K w.params).In h→h.Ns mainGlobals mg→mg d.name=some (.ref fa) →
  ∃ fd:FuncData,(∀ (s:Shared) (u:Value),BindsTo s fd ⟨[u],[]⟩ [("_law_script", u)])∧∀ base:Heap,(K w.params).In base→base.Ns mainGlobals mg→Jk mg base→FnOk l.prog w (K w.params) mg base CX0 11 fa fd ["_law_script"] (Wg (K w.params) T1)) :
 PySem.W.WalkO q loose XP YP l.row.toRowW d [] (fun f vs=>PySem.call f vs) :=
 L2.walk_ofT (n:=63) (k:=11) (x:="_law_script") (tabs:=[("behind", c1,T1)]) (sp:=fun w=>Wg (K w.params) T1) hn (13:) hdf ⟨rfl,by decide,by decide⟩ hY (fun w p hp=>by
  simp only [List.mem_cons,List.not_mem_nil,or_false] at hp
  rcases hp with rfl
  ·exact tb1 w) F (fun _ _ a ns hl hS hT=>⟨a,ns,rfl,hS,hl,hT ("behind", c1,T1) (29:),fun _=>rfl⟩)
end K63
section
open PySem
noncomputable def K63.vS (x:String) (n:Nat):Value:=.str (Str.ofString x) n
noncomputable def K63.vR (a:Nat):Value:=.ref a
noncomputable def K63.vI (i:Int) (n:Nat):Value:=.int i n
noncomputable def K63.hE (P:Params) (x:String) (n:Nat) (v:Value):DictEntry:=⟨PyData.keyHash P (Str.ofString x),.str (Str.ofString x) n,v⟩
noncomputable def K63.vN:Value:=.none
noncomputable def K63.vF:Value:=.type "function"
noncomputable def K63.vT:Value:=.bool true
noncomputable def K63.i0:Value:=.int 0 0
noncomputable def K63.i3:Value:=.int 3 0
noncomputable def K63.i1:Value:=.int 181 0
noncomputable def K63.cP (k:Nat):Value:=.str (Str.ofString "/claim/cut.py") k
noncomputable def K63.oT (x:Array Value):Obj:=Obj.mk (Value.type "tuple") none (Data.seq x) #[]
noncomputable def K63.oC (x:Array Value):Obj:=Obj.mk (Value.type "code") none (Data.fields x) #[]
noncomputable def K63.oF (c:Value) (x y:String) (s:Stmt) (k:Nat) (pm cd:Value):Obj:=Obj.mk c none (Data.func (FuncData.mk (Str.ofString x) (Str.ofString y) (L2.defArgs s) (.stmts (L2.defBody s)) (L2.defScope s) k [] Value.none Value.none Value.none pm none cd Value.none 0)) #[]
open K63
noncomputable def K63.oE:Obj:={ cls:=vN,data:=Data.fields #[] }
noncomputable def K63.x3 (P:Params):Obj:=Obj.mk (Value.type "dict") none (Data.dict #[hE P "__name__" 165 (5:),hE P "__doc__" 166 vN,hE P "__package__" 167 vN,hE P "__loader__" 168 (Value.builtin "__main__.__loader__#opaque"),hE P "__spec__" 169 vN,hE P "__annotations__" 170 (vR 6),hE P "__builtins__" 171 (vR 4),hE P "__file__" 173 (cP 172),hE P "__cached__" 174 vN,hE P "TurnError" 206 (vR 24),hE P "TooGreat" 222 (vR 37),hE P "Strays" 238 (vR 49),hE P "is_call" 247 (vR 58),hE P "calls_of" 256 (vR 65),hE P "with_modes" 262 (vR 70),hE P "with_parts" 270 (vR 77),hE P "at" 282 (vR 84),hE P "put_at" 291 (vR 91),hE P "has_number" 299 (vR 98),hE P "put_below" 311 (vR 105),hE P "own_wood" 319 (vR 110),hE P "rows_of" 327 (vR 117),hE P "leaf_of" 337 (vR 124),hE P "leafy" 345 (vR 129),hE P "row_above" 352 (vR 136),hE P "tree_on" 366 (vR 143),hE P "MOST_LEVELS_straying" 370 (vI 40 369),hE P "strays" 379 (vR 150),hE P "strays_at_all" 387 (vR 157),hE P "levels_needed" 395 (vR 164),hE P "Demands" 481 (vR 214),hE P "as_met" 489 (vR 223),hE P "number_calls" 500 (vR 230),hE P "numbered_mode" 506 (vR 235),hE P "rule_of" 521 (vR 242),hE P "MOST_MODES" 525 (vI 40 524),hE P "MOST_SIZE" 527 (vI 200 526),hE P "MOST_LEVELS_behind" 529 (vI 30 528),hE P "behind" 540 (vR 249),hE P "mode_behind" 546 (vR 254),hE P "TermBehind" 600 (vR 290),hE P "_law_cell_at" 610 (vR 301),hE P "_law_mixed" 619 (vR 308),hE P "_law_names" 625 (vR 313),hE P "_law_great" 632 (vR 320),hE P "_law_whole" 639 (vR 327),hE P "_law_modes" 657 (vR 334),hE P "_law_out" 669 (vR 341),hE P "_law_first" 680 (vR 348),hE P "_law_right" 691 (vR 355),hE P "_law_behind" 703 (vR 362),hE P "law" 724 (vR 369)] 52) #[]
noncomputable def K63.x23 (P:Params):Obj:=Obj.mk (Value.type "dict") none (Data.dict #[hE P "__module__" 196 (vS "turnery.errors" 187),hE P "__firstlineno__" 200 (vI 2 199),hE P "__static_attributes__" 201 (vR 22),hE P "__weakref__" 203 (vR 25),hE P "__doc__" 204 vN] 3) #[]
noncomputable def K63.x24 (P:Params):Obj:=Obj.mk (Value.type "type") none (Data.cls (ClassData.mk (Str.ofString "TurnError") [Value.type "ValueError"] [vR 24,Value.type "ValueError", Value.type "Exception", Value.type "BaseException", Value.type "object"] 23 (Str.ofString "TurnError") true [] [vR 37,vR 49] false none false)) #[some (vR 15),none,some (vS "TurnError" 189),some (vS "TurnError" 197),some (Value.builtin "ValueError.__new__"),some (Value.bool true)]
noncomputable def K63.x25 (P:Params):Obj:=Obj.mk (Value.type "getset_descriptor") none (Data.fields #[vS "__weakref__" 202,vR 24,Value.builtin "ExceptionGroup.__weakref__", vN]) #[]
noncomputable def K63.x36 (P:Params):Obj:=Obj.mk (Value.type "dict") none (Data.dict #[hE P "__module__" 214 (vS "turnery.errors" 187),hE P "__firstlineno__" 218 (vI 4 217),hE P "__static_attributes__" 219 (vR 35),hE P "__doc__" 220 vN] 2) #[]
noncomputable def K63.x37 (P:Params):Obj:=Obj.mk (Value.type "type") none (Data.cls (ClassData.mk (Str.ofString "TooGreat") [vR 24] [vR 37,vR 24,Value.type "ValueError", Value.type "Exception", Value.type "BaseException", Value.type "object"] 36 (Str.ofString "TooGreat") true [] [] false none false)) #[some (vR 28),none,some (vS "TooGreat" 207),some (vS "TooGreat" 215),some (Value.builtin "ValueError.__new__"),some (Value.bool true)]
noncomputable def K63.x48 (P:Params):Obj:=Obj.mk (Value.type "dict") none (Data.dict #[hE P "__module__" 230 (vS "turnery.errors" 187),hE P "__firstlineno__" 234 (vI 6 233),hE P "__static_attributes__" 235 (vR 47),hE P "__doc__" 236 vN] 2) #[]
noncomputable def K63.x49 (P:Params):Obj:=Obj.mk (Value.type "type") none (Data.cls (ClassData.mk (Str.ofString "Strays") [vR 24] [vR 49,vR 24,Value.type "ValueError", Value.type "Exception", Value.type "BaseException", Value.type "object"] 48 (Str.ofString "Strays") true [] [] false none false)) #[some (vR 40),none,some (vS "Strays" 223),some (vS "Strays" 231),some (Value.builtin "ValueError.__new__"),some (Value.bool true)]
noncomputable def K63.x57 (P:Params):Obj:=oC #[vS "is_call" 241,vS "is_call" 242,cP 243,vI 9 0,vI 1 0,i0,i0,i3,vR 52,vT,i1,vR 53,vN,vR 54,vR 55,vR 56,vI 245 0,vI 9 0,cP 246]
noncomputable def K63.x58 (P:Params):Obj:=oF vF "is_call" "is_call" (top 5) 3 (vS "turnery.terms" 239) (vR 57)
noncomputable def K63.x61 (P:Params):Obj:=oT #[vS "term" 251,vS "told" 252,vS "part" 253]
noncomputable def K63.x64 (P:Params):Obj:=oC #[vS "calls_of" 248,vS "calls_of" 249,cP 250,vI 11 0,vI 1 0,i0,i0,i3,vR 59,vT,i1,vR 60,vN,vR 61,vR 62,vR 63,vI 254 0,vI 11 0,cP 255]
noncomputable def K63.x65 (P:Params):Obj:=oF vF "calls_of" "calls_of" (top 6) 3 (vS "turnery.terms" 239) (vR 64)
noncomputable def K63.x69 (P:Params):Obj:=oC #[vS "with_modes" 257,vS "with_modes" 258,cP 259,vI 18 0,vI 2 0,i0,i0,i3,vR 66,vT,i1,vR 67,vN,vN,vN,vR 68,vI 260 0,vI 18 0,cP 261]
noncomputable def K63.x70 (P:Params):Obj:=oF vF "with_modes" "with_modes" (top 7) 3 (vS "turnery.terms" 239) (vR 69)
noncomputable def K63.x76 (P:Params):Obj:=oC #[vS "with_parts" 263,vS "with_parts" 264,cP 265,vI 22 0,vI 2 0,i0,i0,i3,vR 71,vT,i1,vR 72,vN,vR 73,vR 74,vR 75,vI 268 0,vI 22 0,cP 269]
noncomputable def K63.x77 (P:Params):Obj:=oF vF "with_parts" "with_parts" (top 8) 3 (vS "turnery.terms" 239) (vR 76)
noncomputable def K63.x80 (P:Params):Obj:=oT #[vS "tree" 276,vS "place" 277,vS "here" 278,vS "number" 279]
noncomputable def K63.x83 (P:Params):Obj:=oC #[vS "at" 273,vS "at" 274,cP 275,vI 25 0,vI 2 0,i0,i0,i3,vR 78,vT,i1,vR 79,vN,vR 80,vR 81,vR 82,vI 280 0,vI 25 0,cP 281]
noncomputable def K63.x84 (P:Params):Obj:=oF vF "at" "at" (top 10) 3 (vS "turnery.trees" 271) (vR 83)
noncomputable def K63.x87 (P:Params):Obj:=oT #[vS "tree" 286,vS "place" 287,vS "other" 288]
noncomputable def K63.x90 (P:Params):Obj:=oC #[vS "put_at" 283,vS "put_at" 284,cP 285,vI 32 0,vI 3 0,i0,i0,i3,vR 85,vT,i1,vR 86,vN,vR 87,vR 88,vR 89,vI 289 0,vI 32 0,cP 290]
noncomputable def K63.x91 (P:Params):Obj:=oF vF "put_at" "put_at" (top 11) 3 (vS "turnery.trees" 271) (vR 90)
noncomputable def K63.x97 (P:Params):Obj:=oC #[vS "has_number" 292,vS "has_number" 293,cP 294,vI 36 0,vI 2 0,i0,i0,i3,vR 92,vT,i1,vR 93,vN,vR 94,vR 95,vR 96,vI 297 0,vI 36 0,cP 298]
noncomputable def K63.x98 (P:Params):Obj:=oF vF "has_number" "has_number" (top 12) 3 (vS "turnery.trees" 271) (vR 97)
noncomputable def K63.x101 (P:Params):Obj:=oT #[vS "tree" 303,vS "place" 304,vS "other" 305,vS "number" 306,vS "branches" 307,vS "changed" 308]
noncomputable def K63.x104 (P:Params):Obj:=oC #[vS "put_below" 300,vS "put_below" 301,cP 302,vI 40 0,vI 3 0,i0,i0,i3,vR 99,vT,i1,vR 100,vN,vR 101,vR 102,vR 103,vI 309 0,vI 40 0,cP 310]
noncomputable def K63.x105 (P:Params):Obj:=oF vF "put_below" "put_below" (top 13) 3 (vS "turnery.trees" 271) (vR 104)
noncomputable def K63.x109 (P:Params):Obj:=oC #[vS "own_wood" 314,vS "own_wood" 315,cP 316,vI 48 0,vI 1 0,i0,i0,i3,vR 106,vT,i1,vR 107,vN,vN,vN,vR 108,vI 317 0,vI 48 0,cP 318]
noncomputable def K63.x110 (P:Params):Obj:=oF vF "own_wood" "own_wood" (top 15) 3 (vS "turnery.woods" 312) (vR 109)
noncomputable def K63.x116 (P:Params):Obj:=oC #[vS "rows_of" 320,vS "rows_of" 321,cP 322,vI 50 0,vI 2 0,i0,i0,i3,vR 111,vT,i1,vR 112,vN,vR 113,vR 114,vR 115,vI 325 0,vI 50 0,cP 326]
noncomputable def K63.x117 (P:Params):Obj:=oF vF "rows_of" "rows_of" (top 16) 3 (vS "turnery.woods" 312) (vR 116)
noncomputable def K63.x120 (P:Params):Obj:=oT #[vS "wood" 331,vS "kind" 332,vS "name" 333,vS "branches" 334]
noncomputable def K63.x123 (P:Params):Obj:=oC #[vS "leaf_of" 328,vS "leaf_of" 329,cP 330,vI 52 0,vI 2 0,i0,i0,i3,vR 118,vT,i1,vR 119,vN,vR 120,vR 121,vR 122,vI 335 0,vI 52 0,cP 336]
noncomputable def K63.x124 (P:Params):Obj:=oF vF "leaf_of" "leaf_of" (top 17) 3 (vS "turnery.woods" 312) (vR 123)
noncomputable def K63.x128 (P:Params):Obj:=oC #[vS "leafy" 340,vS "leafy" 341,cP 342,vI 58 0,vI 4 0,i0,i0,i3,vR 125,vT,i1,vR 126,vN,vN,vN,vR 127,vI 343 0,vI 58 0,cP 344]
noncomputable def K63.x129 (P:Params):Obj:=oF vF "leafy" "leafy" (top 19) 3 (vS "turnery.ways" 338) (vR 128)
noncomputable def K63.x135 (P:Params):Obj:=oC #[vS "row_above" 346,vS "row_above" 347,cP 348,vI 60 0,vI 1 0,i0,i0,i3,vR 130,vT,i1,vR 131,vN,vR 132,vR 133,vR 134,vI 350 0,vI 60 0,cP 351]
noncomputable def K63.x136 (P:Params):Obj:=oF vF "row_above" "row_above" (top 20) 3 (vS "turnery.ways" 338) (vR 135)
noncomputable def K63.x139 (P:Params):Obj:=oT #[vS "wood" 356,vS "way" 357,vS "row" 358,vS "mark" 359,vS "tree" 360,vS "above" 361,vS "its_mark" 362,vS "branch" 363]
noncomputable def K63.x142 (P:Params):Obj:=oC #[vS "tree_on" 353,vS "tree_on" 354,cP 355,vI 62 0,vI 4 0,i0,i0,i3,vR 137,vT,i1,vR 138,vN,vR 139,vR 140,vR 141,vI 364 0,vI 62 0,cP 365]
noncomputable def K63.x143 (P:Params):Obj:=oF vF "tree_on" "tree_on" (top 21) 3 (vS "turnery.ways" 338) (vR 142)
noncomputable def K63.x146 (P:Params):Obj:=oT #[vS "turning" 374,vS "wood" 375,vS "demands" 376]
noncomputable def K63.x149 (P:Params):Obj:=oC #[vS "strays" 371,vS "strays" 372,cP 373,vI 69 0,vI 2 0,i0,i0,i3,vR 144,vT,i1,vR 145,vN,vR 146,vR 147,vR 148,vI 377 0,vI 69 0,cP 378]
noncomputable def K63.x150 (P:Params):Obj:=oF vF "strays" "strays" (top 24) 3 (20:) (vR 149)
noncomputable def K63.x156 (P:Params):Obj:=oC #[vS "strays_at_all" 380,vS "strays_at_all" 381,cP 382,vI 76 0,vI 2 0,i0,i0,i3,vR 151,vT,i1,vR 152,vN,vR 153,vR 154,vR 155,vI 385 0,vI 76 0,cP 386]
noncomputable def K63.x157 (P:Params):Obj:=oF vF "strays_at_all" "strays_at_all" (top 25) 3 (20:) (vR 156)
noncomputable def K63.x163 (P:Params):Obj:=oC #[vS "levels_needed" 388,vS "levels_needed" 389,cP 390,vI 78 0,vI 1 0,i0,i0,i3,vR 158,vT,i1,vR 159,vN,vR 160,vR 161,vR 162,vI 393 0,vI 78 0,cP 394]
noncomputable def K63.x164 (P:Params):Obj:=oF vF "levels_needed" "levels_needed" (top 26) 3 (20:) (vR 163)
noncomputable def K63.x175 (P:Params):Obj:=oC #[vS "__init__" 408,vS "Demands.__init__" 409,cP 410,vI 83 0,vI 3 0,i0,i0,i3,vR 172,vT,i1,vR 173,vN,vN,vN,vR 174,vI 411 0,vI 83 0,cP 412]
noncomputable def K63.x176 (P:Params):Obj:=oF vF "__init__" "Demands.__init__" (L2.inClass (top 27) 0) 3 (20:) (vR 175)
noncomputable def K63.x179 (P:Params):Obj:=oT #[vS "self" 417,vS "demand" 418,vS "names" 419,vS "mode" 420,vS "row" 421,vS "rule" 422]
noncomputable def K63.x182 (P:Params):Obj:=oC #[vS "look_by" 414,vS "Demands.look_by" 415,cP 416,vI 95 0,vI 2 0,i0,i0,i3,vR 177,vT,i1,vR 178,vN,vR 179,vR 180,vR 181,vI 423 0,vI 95 0,cP 424]
noncomputable def K63.x183 (P:Params):Obj:=oF vF "look_by" "Demands.look_by" (L2.inClass (top 27) 1) 3 (20:) (vR 182)
noncomputable def K63.x186 (P:Params):Obj:=oT #[vS "self" 429,vS "spot" 430,vS "place" 431,vS "term" 432,vS "kind" 433,vS "kinds" 434,vS "number" 435,vS "part" 436]
noncomputable def K63.x189 (P:Params):Obj:=oC #[vS "look" 426,vS "Demands.look" 427,cP 428,vI 101 0,vI 5 0,i0,i0,i3,vR 184,vT,i1,vR 185,vN,vR 186,vR 187,vR 188,vI 437 0,vI 101 0,cP 438]
noncomputable def K63.x190 (P:Params):Obj:=oF vF "look" "Demands.look" (L2.inClass (top 27) 2) 3 (20:) (vR 189)
noncomputable def K63.x193 (P:Params):Obj:=oT #[vS "self" 443,vS "demand" 444,vS "step" 445]
noncomputable def K63.x196 (P:Params):Obj:=oC #[vS "meet_demand" 440,vS "Demands.meet_demand" 441,cP 442,vI 112 0,vI 3 0,i0,i0,i3,vR 191,vT,i1,vR 192,vN,vR 193,vR 194,vR 195,vI 446 0,vI 112 0,cP 447]
noncomputable def K63.x197 (P:Params):Obj:=oF vF "meet_demand" "Demands.meet_demand" (L2.inClass (top 27) 3) 3 (20:) (vR 196)
noncomputable def K63.x203 (P:Params):Obj:=oC #[vS "meet_fault" 449,vS "Demands.meet_fault" 450,cP 451,vI 117 0,vI 2 0,i0,i0,i3,vR 198,vT,i1,vR 199,vN,vR 200,vR 201,vR 202,vI 454 0,vI 117 0,cP 455]
noncomputable def K63.x204 (P:Params):Obj:=oF vF "meet_fault" "Demands.meet_fault" (L2.inClass (top 27) 4) 3 (20:) (vR 203)
noncomputable def K63.x207 (P:Params):Obj:=oT #[vS "self" 460,vS "spot" 461,vS "place" 462,vS "demand" 463,vS "way" 464,vS "step" 465]
noncomputable def K63.x210 (P:Params):Obj:=oC #[vS "tree_and_place" 457,vS "Demands.tree_and_place" 458,cP 459,vI 121 0,vI 1 0,i0,i0,i3,vR 205,vT,i1,vR 206,vN,vR 207,vR 208,vR 209,vI 466 0,vI 121 0,cP 467]
noncomputable def K63.x211 (P:Params):Obj:=oF vF "tree_and_place" "Demands.tree_and_place" (L2.inClass (top 27) 5) 3 (20:) (vR 210)
noncomputable def K63.x212 (P:Params):Obj:=oT #[vS "fault" 469,vS "kinds_below" 470,vS "steps" 471,vS "turning" 472,vS "waiting" 473]
noncomputable def K63.x213 (P:Params):Obj:=Obj.mk (Value.type "dict") none (Data.dict #[hE P "__module__" 403 (20:),hE P "__firstlineno__" 407 (vI 81 406),hE P "__init__" 413 (vR 176),hE P "look_by" 425 (vR 183),hE P "look" 439 (vR 190),hE P "meet_demand" 448 (vR 197),hE P "meet_fault" 456 (vR 204),hE P "tree_and_place" 468 (vR 211),hE P "__static_attributes__" 474 (vR 212),hE P "__dict__" 476 (vR 215),hE P "__weakref__" 478 (vR 216),hE P "__doc__" 479 vN] 4) #[]
noncomputable def K63.x214 (P:Params):Obj:=Obj.mk (Value.type "type") none (Data.cls (ClassData.mk (Str.ofString "Demands") [Value.type "object"] [vR 214,Value.type "object"] 213 (Str.ofString "Demands") true [] [] false none false)) #[none,none,some (vS "Demands" 396),some (vS "Demands" 404),some (Value.builtin "object.__new__"),some (Value.bool true)]
noncomputable def K63.x215 (P:Params):Obj:=Obj.mk (Value.type "getset_descriptor") none (Data.fields #[vS "__dict__" 475,vR 214,Value.builtin "function.__dict__", Value.builtin "function.__dict__#set"]) #[]
noncomputable def K63.x216 (P:Params):Obj:=Obj.mk (Value.type "getset_descriptor") none (Data.fields #[vS "__weakref__" 477,vR 214,Value.builtin "ExceptionGroup.__weakref__", vN]) #[]
noncomputable def K63.x222 (P:Params):Obj:=oC #[vS "as_met" 484,vS "as_met" 485,cP 486,vI 133 0,vI 4 0,i0,i0,i3,vR 219,vT,i1,vR 220,vN,vN,vN,vR 221,vI 487 0,vI 133 0,cP 488]
noncomputable def K63.x223 (P:Params):Obj:=oF vF "as_met" "as_met" (top 29) 3 (vS "turnery.numbering" 482) (vR 222)
noncomputable def K63.x226 (P:Params):Obj:=oT #[vS "numbers" 493,vS "term" 494,vS "most" 495,vS "mode" 496,vS "branch" 497]
noncomputable def K63.x229 (P:Params):Obj:=oC #[vS "number_calls" 490,vS "number_calls" 491,cP 492,vI 144 0,vI 3 0,i0,i0,i3,vR 224,vT,i1,vR 225,vN,vR 226,vR 227,vR 228,vI 498 0,vI 144 0,cP 499]
noncomputable def K63.x230 (P:Params):Obj:=oF vF "number_calls" "number_calls" (top 30) 3 (vS "turnery.numbering" 482) (vR 229)
noncomputable def K63.x234 (P:Params):Obj:=oC #[vS "numbered_mode" 501,vS "numbered_mode" 502,cP 503,vI 150 0,vI 2 0,i0,i0,i3,vR 231,vT,i1,vR 232,vN,vN,vN,vR 233,vI 504 0,vI 150 0,cP 505]
noncomputable def K63.x235 (P:Params):Obj:=oF vF "numbered_mode" "numbered_mode" (top 31) 3 (vS "turnery.numbering" 482) (vR 234)
noncomputable def K63.x238 (P:Params):Obj:=oT #[vS "turning" 512,vS "mode" 513,vS "name" 514,vS "kind" 515,vS "rules" 516,vS "row" 517,vS "rule" 518]
noncomputable def K63.x241 (P:Params):Obj:=oC #[vS "rule_of" 509,vS "rule_of" 510,cP 511,vI 153 0,vI 3 0,i0,i0,i3,vR 236,vT,i1,vR 237,vN,vR 238,vR 239,vR 240,vI 519 0,vI 153 0,cP 520]
noncomputable def K63.x242 (P:Params):Obj:=oF vF "rule_of" "rule_of" (top 33) 3 (vS "turnery.turnings" 507) (vR 241)
noncomputable def K63.x245 (P:Params):Obj:=oT #[vS "one" 533,vS "other" 534,vS "start" 535]
noncomputable def K63.x248 (P:Params):Obj:=oC #[vS "behind" 530,vS "behind" 531,cP 532,vI 164 0,vI 2 0,i0,i0,i3,vR 243,vT,i1,vR 244,vN,vR 245,vR 246,vR 247,vI 538 0,vI 164 0,cP 539]
noncomputable def K63.x249 (P:Params):Obj:=oF vF "behind" "behind" (top 38) 3 (31:) (vR 248)
noncomputable def K63.x253 (P:Params):Obj:=oC #[vS "mode_behind" 541,vS "mode_behind" 542,cP 543,vI 169 0,vI 3 0,i0,i0,i3,vR 250,vT,i1,vR 251,vN,vN,vN,vR 252,vI 544 0,vI 169 0,cP 545]
noncomputable def K63.x254 (P:Params):Obj:=oF vF "mode_behind" "mode_behind" (top 39) 3 (31:) (vR 253)
noncomputable def K63.x267 (P:Params):Obj:=oC #[vS "__init__" 559,vS "TermBehind.__init__" 560,cP 561,vI 174 0,vI 2 0,i0,i0,i3,vR 262,vT,i1,vR 263,vN,vR 264,vR 265,vR 266,vI 564 0,vI 174 0,cP 565]
noncomputable def K63.x268 (P:Params):Obj:=oF vF "__init__" "TermBehind.__init__" (L2.inClass (top 40) 0) 3 (31:) (vR 267)
noncomputable def K63.x271 (P:Params):Obj:=oT #[vS "self" 570,vS "mode" 571,vS "term" 572,vS "room" 573]
noncomputable def K63.x274 (P:Params):Obj:=oC #[vS "by_mode" 567,vS "TermBehind.by_mode" 568,cP 569,vI 178 0,vI 4 0,i0,i0,i3,vR 269,vT,i1,vR 270,vN,vR 271,vR 272,vR 273,vI 574 0,vI 178 0,cP 575]
noncomputable def K63.x275 (P:Params):Obj:=oF vF "by_mode" "TermBehind.by_mode" (L2.inClass (top 40) 1) 3 (31:) (vR 274)
noncomputable def K63.x279 (P:Params):Obj:=oC #[vS "by_rule" 577,vS "TermBehind.by_rule" 578,cP 579,vI 184 0,vI 4 0,i0,i0,i3,vR 276,vT,i1,vR 277,vN,vN,vN,vR 278,vI 580 0,vI 184 0,cP 581]
noncomputable def K63.x280 (P:Params):Obj:=oF vF "by_rule" "TermBehind.by_rule" (L2.inClass (top 40) 2) 3 (31:) (vR 279)
noncomputable def K63.x286 (P:Params):Obj:=oC #[vS "take_one" 583,vS "TermBehind.take_one" 584,cP 585,vI 192 0,vI 2 0,i0,i0,i3,vR 281,vT,i1,vR 282,vN,vR 283,vR 284,vR 285,vI 588 0,vI 192 0,cP 589]
noncomputable def K63.x287 (P:Params):Obj:=oF vF "take_one" "TermBehind.take_one" (L2.inClass (top 40) 3) 3 (31:) (vR 286)
noncomputable def K63.x289 (P:Params):Obj:=Obj.mk (Value.type "dict") none (Data.dict #[hE P "__module__" 554 (31:),hE P "__firstlineno__" 558 (vI 172 557),hE P "__init__" 566 (vR 268),hE P "by_mode" 576 (vR 275),hE P "by_rule" 582 (vR 280),hE P "take_one" 590 (vR 287),hE P "__static_attributes__" 593 (vR 288),hE P "__dict__" 595 (vR 291),hE P "__weakref__" 597 (vR 292),hE P "__doc__" 598 vN] 4) #[]
noncomputable def K63.x290 (P:Params):Obj:=Obj.mk (Value.type "type") none (Data.cls (ClassData.mk (Str.ofString "TermBehind") [Value.type "object"] [vR 290,Value.type "object"] 289 (Str.ofString "TermBehind") true [] [] false none false)) #[none,none,some (vS "TermBehind" 547),some (vS "TermBehind" 555),some (Value.builtin "object.__new__"),some (Value.bool true)]
noncomputable def K63.x291 (P:Params):Obj:=Obj.mk (Value.type "getset_descriptor") none (Data.fields #[vS "__dict__" 594,vR 290,Value.builtin "function.__dict__", Value.builtin "function.__dict__#set"]) #[]
noncomputable def K63.x292 (P:Params):Obj:=Obj.mk (Value.type "getset_descriptor") none (Data.fields #[vS "__weakref__" 596,vR 290,Value.builtin "ExceptionGroup.__weakref__", vN]) #[]
noncomputable def K63.x297 (P:Params):Obj:=oT #[vS "_law_script" 606,vS "_law_k" 607]
noncomputable def K63.x300 (P:Params):Obj:=oC #[vS "_law_cell_at" 603,vS "_law_cell_at" 604,cP 605,vI 199 0,vI 2 0,i0,i0,i3,vR 295,vT,i1,vR 296,vN,vR 297,vR 298,vR 299,vI 608 0,vI 199 0,cP 609]
noncomputable def K63.x301 (P:Params):Obj:=oF vF "_law_cell_at" "_law_cell_at" (top 42) 3 (5:) (vR 300)
noncomputable def K63.x304 (P:Params):Obj:=oT #[vS "_law_cell" 614,vS "_law_k" 615,vS "_law_number" 616]
noncomputable def K63.x307 (P:Params):Obj:=oC #[vS "_law_mixed" 611,vS "_law_mixed" 612,cP 613,vI 203 0,vI 2 0,i0,i0,i3,vR 302,vT,i1,vR 303,vN,vR 304,vR 305,vR 306,vI 617 0,vI 203 0,cP 618]
noncomputable def K63.x308 (P:Params):Obj:=oF vF "_law_mixed" "_law_mixed" (top 43) 3 (5:) (vR 307)
noncomputable def K63.x312 (P:Params):Obj:=oC #[vS "_law_names" 620,vS "_law_names" 621,cP 622,vI 207 0,vI 1 0,i0,i0,i3,vR 309,vT,i1,vR 310,vN,vN,vN,vR 311,vI 623 0,vI 207 0,cP 624]
noncomputable def K63.x313 (P:Params):Obj:=oF vF "_law_names" "_law_names" (top 44) 3 (5:) (vR 312)
noncomputable def K63.x319 (P:Params):Obj:=oC #[vS "_law_great" 626,vS "_law_great" 627,cP 628,vI 220 0,vI 1 0,i0,i0,i3,vR 314,vT,i1,vR 315,vN,vR 316,vR 317,vR 318,vI 630 0,vI 220 0,cP 631]
noncomputable def K63.x320 (P:Params):Obj:=oF vF "_law_great" "_law_great" (top 45) 3 (5:) (vR 319)
noncomputable def K63.x326 (P:Params):Obj:=oC #[vS "_law_whole" 633,vS "_law_whole" 634,cP 635,vI 222 0,vI 1 0,i0,i0,i3,vR 321,vT,i1,vR 322,vN,vR 323,vR 324,vR 325,vI 637 0,vI 222 0,cP 638]
noncomputable def K63.x327 (P:Params):Obj:=oF vF "_law_whole" "_law_whole" (top 46) 3 (5:) (vR 326)
noncomputable def K63.x330 (P:Params):Obj:=oT #[vS "_law_script" 643,vS "_law_names_here" 644,vS "_law_kind" 645,vS "_law_count" 646,vS "_law_odd" 647,vS "_law_modes_here" 648,vS "_law_i" 649,vS "_law_cell" 650,vS "_law_call" 651,vS "_law_full" 652,vS "_law_bare" 653,vS "_law_rules" 654]
noncomputable def K63.x333 (P:Params):Obj:=oC #[vS "_law_modes" 640,vS "_law_modes" 641,cP 642,vI 224 0,vI 5 0,i0,i0,i3,vR 328,vT,i1,vR 329,vN,vR 330,vR 331,vR 332,vI 655 0,vI 224 0,cP 656]
noncomputable def K63.x334 (P:Params):Obj:=oF vF "_law_modes" "_law_modes" (top 47) 3 (5:) (vR 333)
noncomputable def K63.x337 (P:Params):Obj:=oT #[vS "_law_names_here" 661,vS "_law_count" 662,vS "_law_odd" 663,vS "_law_wood" 664,vS "_law_k" 665,vS "_law_rows" 666]
noncomputable def K63.x340 (P:Params):Obj:=oC #[vS "_law_out" 658,vS "_law_out" 659,cP 660,vI 236 0,vI 3 0,i0,i0,i3,vR 335,vT,i1,vR 336,vN,vR 337,vR 338,vR 339,vI 667 0,vI 236 0,cP 668]
noncomputable def K63.x341 (P:Params):Obj:=oF vF "_law_out" "_law_out" (top 48) 3 (5:) (vR 340)
noncomputable def K63.x344 (P:Params):Obj:=oT #[vS "_law_count" 673,vS "_law_odd" 674,vS "_law_kinds" 675,vS "_law_lack" 676,vS "_law_far" 677]
noncomputable def K63.x347 (P:Params):Obj:=oC #[vS "_law_first" 670,vS "_law_first" 671,cP 672,vI 244 0,vI 4 0,i0,i0,i3,vR 342,vT,i1,vR 343,vN,vR 344,vR 345,vR 346,vI 678 0,vI 244 0,cP 679]
noncomputable def K63.x348 (P:Params):Obj:=oF vF "_law_first" "_law_first" (top 49) 3 (5:) (vR 347)
noncomputable def K63.x351 (P:Params):Obj:=oT #[vS "_law_found" 684,vS "_law_names_here" 685,vS "_law_far" 686,vS "_law_tree" 687,vS "_law_k" 688]
noncomputable def K63.x354 (P:Params):Obj:=oC #[vS "_law_right" 681,vS "_law_right" 682,cP 683,vI 249 0,vI 3 0,i0,i0,i3,vR 349,vT,i1,vR 350,vN,vR 351,vR 352,vR 353,vI 689 0,vI 249 0,cP 690]
noncomputable def K63.x355 (P:Params):Obj:=oF vF "_law_right" "_law_right" (top 50) 3 (5:) (vR 354)
noncomputable def K63.x358 (P:Params):Obj:=oT #[vS "_law_turning" 695,vS "_law_out_here" 696,vS "_law_name" 697,vS "_law_other" 698,vS "_law_found" 699,vS "e" 700]
noncomputable def K63.x361 (P:Params):Obj:=oC #[vS "_law_behind" 692,vS "_law_behind" 693,cP 694,vI 261 0,vI 3 0,i0,i0,i3,vR 356,vT,i1,vR 357,vN,vR 358,vR 359,vR 360,vI 701 0,vI 261 0,cP 702]
noncomputable def K63.x362 (P:Params):Obj:=oF vF "_law_behind" "_law_behind" (top 51) 3 (5:) (vR 361)
noncomputable def K63.x365 (P:Params):Obj:=oT #[vS "_law_script" 707,vS "_law_names_here" 708,vS "_law_count" 709,vS "_law_odd" 710,vS "_law_kinds" 711,vS "_law_lack" 712,vS "_law_kind" 713,vS "_law_wood" 714,vS "_law_turning" 715,vS "_law_out_here" 716,vS "_law_far" 717,vS "_law_plain" 718,vS "_law_found" 719,vS "e" 720,vS "_law_told" 721]
noncomputable def K63.x368 (P:Params):Obj:=oC #[vS "law" 704,vS "law" 705,cP 706,vI 268 0,vI 1 0,i0,i0,i3,vR 363,vT,i1,vR 364,vN,vR 365,vR 366,vR 367,vI 722 0,vI 268 0,cP 723]
noncomputable def K63.x369 (P:Params):Obj:=oF vF "law" "law" (top 52) 3 (5:) (vR 368)
noncomputable def K63.hp:Params→PySem.W.Frag:=fun P=>[(2,Obj.mk vN none (Data.dict #[]) #[]),(3,x3 P),(15,oT #[Value.type "ValueError"]),(22,oT #[]),(23,x23 P),(24,x24 P),(25,x25 P),(28,oT #[vR 24]),(35,oT #[]),(36,x36 P),(37,x37 P),(40,oT #[vR 24]),(47,oT #[]),(48,x48 P),(49,x49 P),(52,oT #[]),(54,oT #[vS "term" 244]),(55,oT #[]),(57,x57 P),(58,x58 P),(59,oT #[]),(61,x61 P),(62,oT #[]),(64,x64 P),(65,x65 P),(66,oT #[]),(69,x69 P),(70,x70 P),(71,oT #[]),(73,oT #[vS "term" 266,vS "parts" 267]),(74,oT #[]),(76,x76 P),(77,x77 P),(78,oT #[]),(80,x80 P),(81,oT #[]),(83,x83 P),(84,x84 P),(85,oT #[]),(87,x87 P),(88,oT #[]),(90,x90 P),(91,x91 P),(92,oT #[]),(94,oT #[vS "branches" 295,vS "number" 296]),(95,oT #[]),(97,x97 P),(98,x98 P),(99,oT #[]),(101,x101 P),(102,oT #[]),(104,x104 P),(105,x105 P),(106,oT #[]),(109,x109 P),(110,x110 P),(111,oT #[]),(113,oT #[vS "wood" 323,vS "kind" 324]),(114,oT #[]),(116,x116 P),(117,x117 P),(118,oT #[]),(120,x120 P),(121,oT #[]),(123,x123 P),(124,x124 P),(125,oT #[]),(128,x128 P),(129,x129 P),(130,oT #[]),(132,oT #[vS "wood" 349]),(133,oT #[]),(135,x135 P),(136,x136 P),(137,oT #[]),(139,x139 P),(140,oT #[]),(142,x142 P),(143,x143 P),(144,oT #[]),(146,x146 P),(147,oT #[]),(149,x149 P),(150,x150 P),(151,oT #[]),(153,oT #[vS "turning" 383,vS "wood" 384]),(154,oT #[]),(156,x156 P),(157,x157 P),(158,oT #[]),(160,oT #[vS "fault" 391,vS "spot" 392]),(161,oT #[]),(163,x163 P),(164,x164 P),(172,oT #[]),(175,x175 P),(176,x176 P),(177,oT #[]),(179,x179 P),(180,oT #[]),(182,x182 P),(183,x183 P),(184,oT #[]),(186,x186 P),(187,oT #[]),(189,x189 P),(190,x190 P),(191,oT #[]),(193,x193 P),(194,oT #[]),(196,x196 P),(197,x197 P),(198,oT #[]),(200,oT #[vS "self" 452,vS "fault" 453]),(201,oT #[]),(203,x203 P),(204,x204 P),(205,oT #[]),(207,x207 P),(208,oT #[]),(210,x210 P),(211,x211 P),(212,x212 P),(213,x213 P),(214,x214 P),(215,x215 P),(216,x216 P),(219,oT #[]),(222,x222 P),(223,x223 P),(224,oT #[]),(226,x226 P),(227,oT #[]),(229,x229 P),(230,x230 P),(231,oT #[]),(234,x234 P),(235,x235 P),(236,oT #[]),(238,x238 P),(239,oT #[]),(241,x241 P),(242,x242 P),(243,oT #[]),(245,x245 P),(246,oT #[vS "one" 536,vS "other" 537]),(248,x248 P),(249,x249 P),(250,oT #[]),(253,x253 P),(254,x254 P),(262,oT #[]),(264,oT #[vS "self" 562,vS "other" 563]),(265,oT #[]),(267,x267 P),(268,x268 P),(269,oT #[]),(271,x271 P),(272,oT #[]),(274,x274 P),(275,x275 P),(276,oT #[]),(279,x279 P),(280,x280 P),(281,oT #[]),(283,oT #[vS "self" 586,vS "room" 587]),(284,oT #[]),(286,x286 P),(287,x287 P),(288,oT #[vS "left" 591,vS "other" 592]),(289,x289 P),(290,x290 P),(291,x291 P),(292,x292 P),(295,oT #[]),(297,x297 P),(298,oT #[]),(300,x300 P),(301,x301 P),(302,oT #[]),(304,x304 P),(305,oT #[]),(307,x307 P),(308,x308 P),(309,oT #[]),(312,x312 P),(313,x313 P),(314,oT #[]),(316,oT #[vS "_law_cell" 629]),(317,oT #[]),(319,x319 P),(320,x320 P),(321,oT #[]),(323,oT #[vS "_law_found" 636]),(324,oT #[]),(326,x326 P),(327,x327 P),(328,oT #[]),(330,x330 P),(331,oT #[]),(333,x333 P),(334,x334 P),(335,oT #[]),(337,x337 P),(338,oT #[]),(340,x340 P),(341,x341 P),(342,oT #[]),(344,x344 P),(345,oT #[]),(347,x347 P),(348,x348 P),(349,oT #[]),(351,x351 P),(352,oT #[]),(354,x354 P),(355,x355 P),(356,oT #[]),(358,x358 P),(359,oT #[]),(361,x361 P),(362,x362 P),(363,oT #[]),(365,x365 P),(366,oT #[]),(368,x368 P),(369,x369 P)]
end
noncomputable def PySem.W.Fast.tw3758652155304563941:PySem.Params→PySem.W.Frag:=K63.hp
theorem PySem.W.Fast.te3758652155304563941:K63.hp=PySem.W.Fast.tw3758652155304563941:=rfl
namespace PySem.W.Fast
open PySem K63
noncomputable def tw1150571386555803584:Params→Obj:=fun P=>oF vF "_law_names" "_law_names" (top 44) 3 (5:) (vR 312)
theorem te1150571386555803584:tw1150571386555803584=tw1150571386555803584:=rfl
noncomputable def tw7713181754028910232:Params→Obj:=fun P=>oF vF "law" "law" (top 52) 3 (5:) (vR 368)
theorem te7713181754028910232:tw7713181754028910232=tw7713181754028910232:=rfl
noncomputable def tw16380579373635726436:Params→Obj:=fun P=>oF vF "_law_out" "_law_out" (top 48) 3 (5:) (vR 340)
theorem te16380579373635726436:tw16380579373635726436=tw16380579373635726436:=rfl
noncomputable def tw11625272948642954966:Params→Obj:=fun P=>oF vN "levels_needed" "levels_needed" (top 26) 0 vN vN
theorem te11625272948642954966:tw11625272948642954966=tw11625272948642954966:=rfl
noncomputable def tw6530332216108352936:Params→Obj:=fun P=>oF vN "at" "at" (top 10) 0 vN vN
theorem te6530332216108352936:tw6530332216108352936=tw6530332216108352936:=rfl
noncomputable def tw14364859571855837627:Params→Obj:=fun P=>oF vF "meet_fault" "Demands.meet_fault" (L2.inClass (top 27) 4) 3 (20:) (vR 203)
theorem te14364859571855837627:tw14364859571855837627=tw14364859571855837627:=rfl
noncomputable def tw10888445111077190910:Params→Obj:=fun P=>oF vN "calls_of" "calls_of" (top 6) 0 vN vN
theorem te10888445111077190910:tw10888445111077190910=tw10888445111077190910:=rfl
noncomputable def tw15301403752850588373:Params→Obj:=fun P=>oF vN "look_by" "Demands.look_by" (L2.inClass (top 27) 1) 0 vN vN
theorem te15301403752850588373:tw15301403752850588373=tw15301403752850588373:=rfl
noncomputable def tw9190376255518191725:Params→Obj:=fun P=>oF vN "strays_at_all" "strays_at_all" (top 25) 0 vN vN
theorem te9190376255518191725:tw9190376255518191725=tw9190376255518191725:=rfl
noncomputable def tw3221765897272508763:Params→Obj:=fun P=>oF vN "meet_fault" "Demands.meet_fault" (L2.inClass (top 27) 4) 0 vN vN
theorem te3221765897272508763:tw3221765897272508763=tw3221765897272508763:=rfl
noncomputable def tw16026969973006815175:Params→Obj:=fun P=>oF vF "row_above" "row_above" (top 20) 3 (vS "turnery.ways" 338) (vR 135)
theorem te16026969973006815175:tw16026969973006815175=tw16026969973006815175:=rfl
noncomputable def tw3283836601563488068:Params→Obj:=fun P=>oF vN "tree_and_place" "Demands.tree_and_place" (L2.inClass (top 27) 5) 0 vN vN
theorem te3283836601563488068:tw3283836601563488068=tw3283836601563488068:=rfl
noncomputable def tw4512781219026044248:Params→Obj:=fun P=>oF vN "__init__" "Demands.__init__" (L2.inClass (top 27) 0) 0 vN vN
theorem te4512781219026044248:tw4512781219026044248=tw4512781219026044248:=rfl
noncomputable def tw13961833681053131214:Params→Obj:=fun P=>oF vF "_law_modes" "_law_modes" (top 47) 3 (5:) (vR 333)
theorem te13961833681053131214:tw13961833681053131214=tw13961833681053131214:=rfl
noncomputable def tw17132110552062411524:Params→Obj:=fun P=>oF vF "is_call" "is_call" (top 5) 3 (vS "turnery.terms" 239) (vR 57)
theorem te17132110552062411524:tw17132110552062411524=tw17132110552062411524:=rfl
noncomputable def tw16028835397814339672:Params→Obj:=fun P=>oF vN "has_number" "has_number" (top 12) 0 vN vN
theorem te16028835397814339672:tw16028835397814339672=tw16028835397814339672:=rfl
noncomputable def tw5352655280308240052:Params→Obj:=fun P=>oF vN "_law_modes" "_law_modes" (top 47) 0 vN vN
theorem te5352655280308240052:tw5352655280308240052=tw5352655280308240052:=rfl
noncomputable def tw4415682038468614979:Params→Obj:=fun P=>oF vF "look_by" "Demands.look_by" (L2.inClass (top 27) 1) 3 (20:) (vR 182)
theorem te4415682038468614979:tw4415682038468614979=tw4415682038468614979:=rfl
noncomputable def tw12354635139459124365:Params→Obj:=fun P=>oF vF "has_number" "has_number" (top 12) 3 (vS "turnery.trees" 271) (vR 97)
theorem te12354635139459124365:tw12354635139459124365=tw12354635139459124365:=rfl
noncomputable def tw2763371186975916555:Params→Obj:=fun P=>oF vN "put_at" "put_at" (top 11) 0 vN vN
theorem te2763371186975916555:tw2763371186975916555=tw2763371186975916555:=rfl
noncomputable def tw10580228302419743073:Params→Obj:=fun P=>oF vF "number_calls" "number_calls" (top 30) 3 (vS "turnery.numbering" 482) (vR 229)
theorem te10580228302419743073:tw10580228302419743073=tw10580228302419743073:=rfl
noncomputable def tw2192668356804220373:Params→Obj:=fun P=>oF vN "by_rule" "TermBehind.by_rule" (L2.inClass (top 40) 2) 0 vN vN
theorem te2192668356804220373:tw2192668356804220373=tw2192668356804220373:=rfl
noncomputable def tw13606853435348290397:Params→Obj:=fun P=>oF vN "put_below" "put_below" (top 13) 0 vN vN
theorem te13606853435348290397:tw13606853435348290397=tw13606853435348290397:=rfl
noncomputable def tw5169304426411860763:Params→Obj:=fun P=>oF vN "_law_names" "_law_names" (top 44) 0 vN vN
theorem te5169304426411860763:tw5169304426411860763=tw5169304426411860763:=rfl
noncomputable def tw8388270466857519545:Params→Obj:=fun P=>oF vF "_law_great" "_law_great" (top 45) 3 (5:) (vR 319)
theorem te8388270466857519545:tw8388270466857519545=tw8388270466857519545:=rfl
noncomputable def tw9390360154398730547:Params→Obj:=fun P=>oF vN "rule_of" "rule_of" (top 33) 0 vN vN
theorem te9390360154398730547:tw9390360154398730547=tw9390360154398730547:=rfl
noncomputable def tw824724751270065104:Params→Obj:=fun P=>oF vN "law" "law" (top 52) 0 vN vN
theorem te824724751270065104:tw824724751270065104=tw824724751270065104:=rfl
noncomputable def tw2758206759204816190:Params→Obj:=fun P=>oF vN "_law_cell_at" "_law_cell_at" (top 42) 0 vN vN
theorem te2758206759204816190:tw2758206759204816190=tw2758206759204816190:=rfl
noncomputable def tw11267115332845401926:Params→Obj:=fun P=>oF vN "row_above" "row_above" (top 20) 0 vN vN
theorem te11267115332845401926:tw11267115332845401926=tw11267115332845401926:=rfl
noncomputable def tw16981092930359942243:Params→Obj:=fun P=>oF vN "look" "Demands.look" (L2.inClass (top 27) 2) 0 vN vN
theorem te16981092930359942243:tw16981092930359942243=tw16981092930359942243:=rfl
noncomputable def tw12005785631781642277:Params→Obj:=fun P=>oF vN "_law_first" "_law_first" (top 49) 0 vN vN
theorem te12005785631781642277:tw12005785631781642277=tw12005785631781642277:=rfl
noncomputable def tw10346381678109284938:Params→Obj:=fun P=>oF vF "_law_cell_at" "_law_cell_at" (top 42) 3 (5:) (vR 300)
theorem te10346381678109284938:tw10346381678109284938=tw10346381678109284938:=rfl
noncomputable def tw6930432030552306533:Params→Obj:=fun P=>oF vF "take_one" "TermBehind.take_one" (L2.inClass (top 40) 3) 3 (31:) (vR 286)
theorem te6930432030552306533:tw6930432030552306533=tw6930432030552306533:=rfl
noncomputable def tw17454154681137271217:Params→Obj:=fun P=>oF vF "calls_of" "calls_of" (top 6) 3 (vS "turnery.terms" 239) (vR 64)
theorem te17454154681137271217:tw17454154681137271217=tw17454154681137271217:=rfl
noncomputable def tw14078949538499168930:Params→Obj:=fun P=>oF vN "meet_demand" "Demands.meet_demand" (L2.inClass (top 27) 3) 0 vN vN
theorem te14078949538499168930:tw14078949538499168930=tw14078949538499168930:=rfl
noncomputable def tw10573072540386337020:Params→Obj:=fun P=>oF vF "leaf_of" "leaf_of" (top 17) 3 (vS "turnery.woods" 312) (vR 123)
theorem te10573072540386337020:tw10573072540386337020=tw10573072540386337020:=rfl
noncomputable def tw2371180970196467728:Params→Obj:=fun P=>oF vF "_law_behind" "_law_behind" (top 51) 3 (5:) (vR 361)
theorem te2371180970196467728:tw2371180970196467728=tw2371180970196467728:=rfl
noncomputable def tw17052241705241898174:Params→Obj:=fun P=>oF vF "at" "at" (top 10) 3 (vS "turnery.trees" 271) (vR 83)
theorem te17052241705241898174:tw17052241705241898174=tw17052241705241898174:=rfl
noncomputable def tw12739390492725622818:Params→Obj:=fun P=>oF vF "by_rule" "TermBehind.by_rule" (L2.inClass (top 40) 2) 3 (31:) (vR 279)
theorem te12739390492725622818:tw12739390492725622818=tw12739390492725622818:=rfl
noncomputable def tw15016983369721158312:Params→Obj:=fun P=>oF vF "strays_at_all" "strays_at_all" (top 25) 3 (20:) (vR 156)
theorem te15016983369721158312:tw15016983369721158312=tw15016983369721158312:=rfl
noncomputable def tw17948902242500186147:Params→Obj:=fun P=>oF vN "strays" "strays" (top 24) 0 vN vN
theorem te17948902242500186147:tw17948902242500186147=tw17948902242500186147:=rfl
noncomputable def tw12766433830934645313:Params→Obj:=fun P=>oF vF "as_met" "as_met" (top 29) 3 (vS "turnery.numbering" 482) (vR 222)
theorem te12766433830934645313:tw12766433830934645313=tw12766433830934645313:=rfl
noncomputable def tw15047610812939783111:Params→Obj:=fun P=>oF vN "behind" "behind" (top 38) 0 vN vN
theorem te15047610812939783111:tw15047610812939783111=tw15047610812939783111:=rfl
noncomputable def tw3926639786023754574:Params→Obj:=fun P=>oF vN "leafy" "leafy" (top 19) 0 vN vN
theorem te3926639786023754574:tw3926639786023754574=tw3926639786023754574:=rfl
noncomputable def tw8498845091433271760:Params→Obj:=fun P=>oF vF "look" "Demands.look" (L2.inClass (top 27) 2) 3 (20:) (vR 189)
theorem te8498845091433271760:tw8498845091433271760=tw8498845091433271760:=rfl
noncomputable def tw3085214301998909790:Params→Obj:=fun P=>oF vF "numbered_mode" "numbered_mode" (top 31) 3 (vS "turnery.numbering" 482) (vR 234)
theorem te3085214301998909790:tw3085214301998909790=tw3085214301998909790:=rfl
noncomputable def tw9849949890419450393:Params→Obj:=fun P=>oF vN "is_call" "is_call" (top 5) 0 vN vN
theorem te9849949890419450393:tw9849949890419450393=tw9849949890419450393:=rfl
noncomputable def tw2298642149857210391:Params→Obj:=fun P=>oF vF "tree_and_place" "Demands.tree_and_place" (L2.inClass (top 27) 5) 3 (20:) (vR 210)
theorem te2298642149857210391:tw2298642149857210391=tw2298642149857210391:=rfl
noncomputable def tw648282841452885008:Params→Obj:=fun P=>oF vF "_law_right" "_law_right" (top 50) 3 (5:) (vR 354)
theorem te648282841452885008:tw648282841452885008=tw648282841452885008:=rfl
noncomputable def tw13268478166017260144:Params→Obj:=fun P=>oF vN "_law_mixed" "_law_mixed" (top 43) 0 vN vN
theorem te13268478166017260144:tw13268478166017260144=tw13268478166017260144:=rfl
noncomputable def tw13250516371924938545:Params→Obj:=fun P=>oF vN "tree_on" "tree_on" (top 21) 0 vN vN
theorem te13250516371924938545:tw13250516371924938545=tw13250516371924938545:=rfl
noncomputable def tw2748887583458984657:Params→Obj:=fun P=>oF vN "with_modes" "with_modes" (top 7) 0 vN vN
theorem te2748887583458984657:tw2748887583458984657=tw2748887583458984657:=rfl
noncomputable def tw692090327772683517:Params→Obj:=fun P=>oF vF "put_below" "put_below" (top 13) 3 (vS "turnery.trees" 271) (vR 104)
theorem te692090327772683517:tw692090327772683517=tw692090327772683517:=rfl
noncomputable def tw14712543529759349657:Params→Obj:=fun P=>oF vF "__init__" "Demands.__init__" (L2.inClass (top 27) 0) 3 (20:) (vR 175)
theorem te14712543529759349657:tw14712543529759349657=tw14712543529759349657:=rfl
noncomputable def tw17853307930939675313:Params→Obj:=fun P=>oF vN "_law_great" "_law_great" (top 45) 0 vN vN
theorem te17853307930939675313:tw17853307930939675313=tw17853307930939675313:=rfl
noncomputable def tw10489270809364954208:Params→Obj:=fun P=>oF vN "leaf_of" "leaf_of" (top 17) 0 vN vN
theorem te10489270809364954208:tw10489270809364954208=tw10489270809364954208:=rfl
noncomputable def tw3740437661630685447:Params→Obj:=fun P=>oF vF "by_mode" "TermBehind.by_mode" (L2.inClass (top 40) 1) 3 (31:) (vR 274)
theorem te3740437661630685447:tw3740437661630685447=tw3740437661630685447:=rfl
noncomputable def tw17920305383306714268:Params→Obj:=fun P=>oF vN "take_one" "TermBehind.take_one" (L2.inClass (top 40) 3) 0 vN vN
theorem te17920305383306714268:tw17920305383306714268=tw17920305383306714268:=rfl
noncomputable def tw9498505970874245905:Params→Obj:=fun P=>oF vN "_law_whole" "_law_whole" (top 46) 0 vN vN
theorem te9498505970874245905:tw9498505970874245905=tw9498505970874245905:=rfl
noncomputable def tw4854633866948946539:Params→Obj:=fun P=>oF vN "with_parts" "with_parts" (top 8) 0 vN vN
theorem te4854633866948946539:tw4854633866948946539=tw4854633866948946539:=rfl
noncomputable def tw15874270091304245409:Params→Obj:=fun P=>oF vF "rows_of" "rows_of" (top 16) 3 (vS "turnery.woods" 312) (vR 116)
theorem te15874270091304245409:tw15874270091304245409=tw15874270091304245409:=rfl
noncomputable def tw10492714703028746724:Params→Obj:=fun P=>oF vF "tree_on" "tree_on" (top 21) 3 (vS "turnery.ways" 338) (vR 142)
theorem te10492714703028746724:tw10492714703028746724=tw10492714703028746724:=rfl
noncomputable def tw9903800221929737175:Params→Obj:=fun P=>oF vF "_law_first" "_law_first" (top 49) 3 (5:) (vR 347)
theorem te9903800221929737175:tw9903800221929737175=tw9903800221929737175:=rfl
noncomputable def tw8992992140888003238:Params→Obj:=fun P=>oF vF "rule_of" "rule_of" (top 33) 3 (vS "turnery.turnings" 507) (vR 241)
theorem te8992992140888003238:tw8992992140888003238=tw8992992140888003238:=rfl
noncomputable def tw9674710180299721624:Params→Obj:=fun P=>oF vF "with_parts" "with_parts" (top 8) 3 (vS "turnery.terms" 239) (vR 76)
theorem te9674710180299721624:tw9674710180299721624=tw9674710180299721624:=rfl
noncomputable def tw3288127473107683845:Params→Obj:=fun P=>oF vN "as_met" "as_met" (top 29) 0 vN vN
theorem te3288127473107683845:tw3288127473107683845=tw3288127473107683845:=rfl
noncomputable def tw12239344868057314101:Params→Obj:=fun P=>oF vF "put_at" "put_at" (top 11) 3 (vS "turnery.trees" 271) (vR 90)
theorem te12239344868057314101:tw12239344868057314101=tw12239344868057314101:=rfl
noncomputable def tw1873496781082413303:Params→Obj:=fun P=>oF vF "own_wood" "own_wood" (top 15) 3 (vS "turnery.woods" 312) (vR 109)
theorem te1873496781082413303:tw1873496781082413303=tw1873496781082413303:=rfl
noncomputable def tw13118745333039080491:Params→Obj:=fun P=>oF vF "mode_behind" "mode_behind" (top 39) 3 (31:) (vR 253)
theorem te13118745333039080491:tw13118745333039080491=tw13118745333039080491:=rfl
noncomputable def tw14065838888661735257:Params→Obj:=fun P=>oF vF "__init__" "TermBehind.__init__" (L2.inClass (top 40) 0) 3 (31:) (vR 267)
theorem te14065838888661735257:tw14065838888661735257=tw14065838888661735257:=rfl
noncomputable def tw3218366675305195217:Params→Obj:=fun P=>oF vF "meet_demand" "Demands.meet_demand" (L2.inClass (top 27) 3) 3 (20:) (vR 196)
theorem te3218366675305195217:tw3218366675305195217=tw3218366675305195217:=rfl
noncomputable def tw985617364975669445:Params→Obj:=fun P=>oF vN "_law_right" "_law_right" (top 50) 0 vN vN
theorem te985617364975669445:tw985617364975669445=tw985617364975669445:=rfl
noncomputable def tw9977086941132175101:Params→Obj:=fun P=>oF vN "own_wood" "own_wood" (top 15) 0 vN vN
theorem te9977086941132175101:tw9977086941132175101=tw9977086941132175101:=rfl
noncomputable def tw3922852327637441496:Params→Obj:=fun P=>oF vF "levels_needed" "levels_needed" (top 26) 3 (20:) (vR 163)
theorem te3922852327637441496:tw3922852327637441496=tw3922852327637441496:=rfl
noncomputable def tw1357188218155931381:Params→Obj:=fun P=>oF vN "mode_behind" "mode_behind" (top 39) 0 vN vN
theorem te1357188218155931381:tw1357188218155931381=tw1357188218155931381:=rfl
noncomputable def tw6322886129936536841:Params→Obj:=fun P=>oF vF "behind" "behind" (top 38) 3 (31:) (vR 248)
theorem te6322886129936536841:tw6322886129936536841=tw6322886129936536841:=rfl
noncomputable def tw4597673724410753690:Params→Obj:=fun P=>oF vN "by_mode" "TermBehind.by_mode" (L2.inClass (top 40) 1) 0 vN vN
theorem te4597673724410753690:tw4597673724410753690=tw4597673724410753690:=rfl
noncomputable def tw11408536492394440318:Params→Obj:=fun P=>oF vN "numbered_mode" "numbered_mode" (top 31) 0 vN vN
theorem te11408536492394440318:tw11408536492394440318=tw11408536492394440318:=rfl
noncomputable def tw13160215322713895145:Params→Obj:=fun P=>oF vF "_law_mixed" "_law_mixed" (top 43) 3 (5:) (vR 307)
theorem te13160215322713895145:tw13160215322713895145=tw13160215322713895145:=rfl
noncomputable def tw13161235819631270175:Params→Obj:=fun P=>oF vN "_law_out" "_law_out" (top 48) 0 vN vN
theorem te13161235819631270175:tw13161235819631270175=tw13161235819631270175:=rfl
noncomputable def tw582713320111686710:Params→Obj:=fun P=>oF vF "with_modes" "with_modes" (top 7) 3 (vS "turnery.terms" 239) (vR 69)
theorem te582713320111686710:tw582713320111686710=tw582713320111686710:=rfl
noncomputable def tw7888549179188408840:Params→Obj:=fun P=>oF vN "rows_of" "rows_of" (top 16) 0 vN vN
theorem te7888549179188408840:tw7888549179188408840=tw7888549179188408840:=rfl
noncomputable def tw4581376516246592515:Params→Obj:=fun P=>oF vN "__init__" "TermBehind.__init__" (L2.inClass (top 40) 0) 0 vN vN
theorem te4581376516246592515:tw4581376516246592515=tw4581376516246592515:=rfl
noncomputable def tw14388624293628939098:Params→Obj:=fun P=>oF vN "number_calls" "number_calls" (top 30) 0 vN vN
theorem te14388624293628939098:tw14388624293628939098=tw14388624293628939098:=rfl
noncomputable def tw14831084314024100902:Params→Obj:=fun P=>oF vF "leafy" "leafy" (top 19) 3 (vS "turnery.ways" 338) (vR 128)
theorem te14831084314024100902:tw14831084314024100902=tw14831084314024100902:=rfl
noncomputable def tw10214947636618481064:Params→Obj:=fun P=>oF vN "_law_behind" "_law_behind" (top 51) 0 vN vN
theorem te10214947636618481064:tw10214947636618481064=tw10214947636618481064:=rfl
noncomputable def tw5500458786680588933:Params→Obj:=fun P=>oF vF "strays" "strays" (top 24) 3 (20:) (vR 149)
theorem te5500458786680588933:tw5500458786680588933=tw5500458786680588933:=rfl
noncomputable def tw8267934454347370426:Params→Obj:=fun P=>oF vF "_law_whole" "_law_whole" (top 46) 3 (5:) (vR 326)
theorem te8267934454347370426:tw8267934454347370426=tw8267934454347370426:=rfl
end PySem.W.Fast
noncomputable def PySem.W.Fast.tw18289233839545002353:PySem.Program:=PySem.Challenge.pw_turnery_k63_rings_that_stray
theorem PySem.W.Fast.te18289233839545002353:(PySem.Challenge.pw_turnery_k63_rings_that_stray:PySem.Program)=PySem.W.Fast.tw18289233839545002353:=rfl
noncomputable def PySem.W.Fast.tw3189822884014449568:PySem.Program:={ PySem.Challenge.pw_turnery_k63_rings_that_stray with main:={ PySem.Challenge.pw_turnery_k63_rings_that_stray.main with body:=[K63.top 1,K63.top 2,K63.top 3,K63.top 5,K63.top 6,K63.top 7,K63.top 8,K63.top 10,K63.top 11,K63.top 12,K63.top 13,K63.top 15,K63.top 16,K63.top 17,K63.top 19,K63.top 20,K63.top 21,K63.top 23,K63.top 24,K63.top 25,K63.top 26,K63.top 27,K63.top 29,K63.top 30,K63.top 31,K63.top 33,K63.top 35,K63.top 36,K63.top 37,K63.top 38,K63.top 39,K63.top 40,K63.top 42,K63.top 43,K63.top 44,K63.top 45,K63.top 46,K63.top 47,K63.top 48,K63.top 49,K63.top 50,K63.top 51,K63.top 52] } }
theorem PySem.W.Fast.te3189822884014449568:({ PySem.Challenge.pw_turnery_k63_rings_that_stray with main:={ PySem.Challenge.pw_turnery_k63_rings_that_stray.main with body:=[K63.top 1,K63.top 2,K63.top 3,K63.top 5,K63.top 6,K63.top 7,K63.top 8,K63.top 10,K63.top 11,K63.top 12,K63.top 13,K63.top 15,K63.top 16,K63.top 17,K63.top 19,K63.top 20,K63.top 21,K63.top 23,K63.top 24,K63.top 25,K63.top 26,K63.top 27,K63.top 29,K63.top 30,K63.top 31,K63.top 33,K63.top 35,K63.top 36,K63.top 37,K63.top 38,K63.top 39,K63.top 40,K63.top 42,K63.top 43,K63.top 44,K63.top 45,K63.top 46,K63.top 47,K63.top 48,K63.top 49,K63.top 50,K63.top 51,K63.top 52] } }:PySem.Program)=PySem.W.Fast.tw3189822884014449568:=rfl
noncomputable def PySem.W.Fast.tw6095913542348935844:List PySem.Stmt:=(PySem.Challenge.pw_turnery_k63_rings_that_stray.main.body.drop 0).take 2
theorem PySem.W.Fast.te6095913542348935844:((PySem.Challenge.pw_turnery_k63_rings_that_stray.main.body.drop 0).take 2:List PySem.Stmt)=PySem.W.Fast.tw6095913542348935844:=rfl
noncomputable def PySem.W.Fast.tw14297279942423478005:List PySem.Stmt:=(PySem.Challenge.pw_turnery_k63_rings_that_stray.main.body.drop 2).take 1
theorem PySem.W.Fast.te14297279942423478005:((PySem.Challenge.pw_turnery_k63_rings_that_stray.main.body.drop 2).take 1:List PySem.Stmt)=PySem.W.Fast.tw14297279942423478005:=rfl
noncomputable def PySem.W.Fast.tw8135252522362515766:List PySem.Stmt:=(PySem.Challenge.pw_turnery_k63_rings_that_stray.main.body.drop 3).take 8
theorem PySem.W.Fast.te8135252522362515766:((PySem.Challenge.pw_turnery_k63_rings_that_stray.main.body.drop 3).take 8:List PySem.Stmt)=PySem.W.Fast.tw8135252522362515766:=rfl
noncomputable def PySem.W.Fast.tw12939214091365185674:List PySem.Stmt:=(PySem.Challenge.pw_turnery_k63_rings_that_stray.main.body.drop 11).take 15
theorem PySem.W.Fast.te12939214091365185674:((PySem.Challenge.pw_turnery_k63_rings_that_stray.main.body.drop 11).take 15:List PySem.Stmt)=PySem.W.Fast.tw12939214091365185674:=rfl
noncomputable def PySem.W.Fast.tw9050225109639527513:List PySem.Stmt:=(PySem.Challenge.pw_turnery_k63_rings_that_stray.main.body.drop 26).take 1
theorem PySem.W.Fast.te9050225109639527513:((PySem.Challenge.pw_turnery_k63_rings_that_stray.main.body.drop 26).take 1:List PySem.Stmt)=PySem.W.Fast.tw9050225109639527513:=rfl
noncomputable def PySem.W.Fast.tw13981950776910767671:List PySem.Stmt:=(PySem.Challenge.pw_turnery_k63_rings_that_stray.main.body.drop 27).take 1
theorem PySem.W.Fast.te13981950776910767671:((PySem.Challenge.pw_turnery_k63_rings_that_stray.main.body.drop 27).take 1:List PySem.Stmt)=PySem.W.Fast.tw13981950776910767671:=rfl
noncomputable def PySem.W.Fast.tw8699103871011614189:List PySem.Stmt:=(PySem.Challenge.pw_turnery_k63_rings_that_stray.main.body.drop 28).take 12
theorem PySem.W.Fast.te8699103871011614189:((PySem.Challenge.pw_turnery_k63_rings_that_stray.main.body.drop 28).take 12:List PySem.Stmt)=PySem.W.Fast.tw8699103871011614189:=rfl
noncomputable def PySem.W.Fast.tw13818212285748165804:List PySem.Stmt:=(PySem.Challenge.pw_turnery_k63_rings_that_stray.main.body.drop 40).take 4
theorem PySem.W.Fast.te13818212285748165804:((PySem.Challenge.pw_turnery_k63_rings_that_stray.main.body.drop 40).take 4:List PySem.Stmt)=PySem.W.Fast.tw13818212285748165804:=rfl
noncomputable def PySem.W.Fast.tw7813880795021367719:List PySem.Stmt:=(PySem.Challenge.pw_turnery_k63_rings_that_stray.main.body.drop 44).take 9
theorem PySem.W.Fast.te7813880795021367719:((PySem.Challenge.pw_turnery_k63_rings_that_stray.main.body.drop 44).take 9:List PySem.Stmt)=PySem.W.Fast.tw7813880795021367719:=rfl
section
open PySem
open K63
noncomputable def K63.x11 (P:Params):Obj:={ cls:=Value.type "tuple", data:=Data.seq #[] }
noncomputable def K63.x12 (P:Params):Obj:={ cls:=vN,data:=Data.fields #[vI 2 0,vI 0 0,vR 20,vI 4 0,vI 0 0,vR 33,vI 6 0,vI 0 0,vR 45,vI 9 0,vI 0 0,vR 57,vI 11 0,vI 0 0,vR 64,vI 18 0,vI 0 0,vR 69,vI 22 0,vI 0 0,vR 76,vI 25 0,vI 0 0,vR 83,vI 32 0,vI 0 0,vR 90,vI 36 0,vI 0 0,vR 97,vI 40 0,vI 0 0,vR 104,vI 48 0,vI 0 0,vR 109,vI 50 0,vI 0 0,vR 116,vI 52 0,vI 0 0,vR 123,vI 58 0,vI 0 0,vR 128,vI 60 0,vI 0 0,vR 135,vI 62 0,vI 0 0,vR 142,vI 69 0,vI 0 0,vR 149,vI 76 0,vI 0 0,vR 156,vI 78 0,vI 0 0,vR 163,vI 81 0,vI 0 0,vR 170,vI 133 0,vI 0 0,vR 222,vI 144 0,vI 0 0,vR 229,vI 150 0,vI 0 0,vR 234,vI 153 0,vI 0 0,vR 241,vI 164 0,vI 0 0,vR 248,vI 169 0,vI 0 0,vR 253,vI 172 0,vI 0 0,vR 260,vI 199 0,vI 0 0,vR 300,vI 203 0,vI 0 0,vR 307,vI 207 0,vI 0 0,vR 312,vI 220 0,vI 0 0,vR 319,vI 222 0,vI 0 0,vR 326,vI 224 0,vI 0 0,vR 333,vI 236 0,vI 0 0,vR 340,vI 244 0,vI 0 0,vR 347,vI 249 0,vI 0 0,vR 354,vI 261 0,vI 0 0,vR 361,vI 268 0,vI 0 0,vR 368] }
noncomputable def K63.x13 (P:Params):Obj:={ cls:=Value.type "code", data:=Data.fields #[vS "<module>" 182,vS "<module>" 183,vS "/claim/cut.py" 184,vI 1 0,vI 0 0,vI 0 0,vI 0 0,vI 0 0,vR 11,Value.bool false,vI 181 0,vR 12,vN,vN,vN,vN,vI 185 0,vI 1 0,vS "/claim/cut.py" 186] }
noncomputable def K63.x14 (P:Params):Obj:={ cls:=Value.type "frame", slots:=#[some (vR 13),some (vR 3),some (vR 3),none,some (vS "__main__" 164),none,some (vR 0)] }
noncomputable def K63.x16 (P:Params):Obj:={ cls:=Value.type "builtin_function_or_method", data:=Data.fields #[Value.builtin "type.__prepare__", Value.type "type"] }
noncomputable def K63.x17 (P:Params):Obj:={ cls:=Value.type "dict", data:=Data.dict #[hE P "__module__" 196 (vS "turnery.errors" 187),hE P "__qualname__" 198 (vS "TurnError" 197),hE P "__firstlineno__" 200 (vI 2 199),hE P "__static_attributes__" 201 (vR 22)] 4 }
noncomputable def K63.x18 (P:Params):Obj:={ cls:=Value.type "tuple", data:=Data.seq #[] }
noncomputable def K63.x20 (P:Params):Obj:={ cls:=Value.type "code", data:=Data.fields #[vS "TurnError" 191,vS "TurnError" 192,vS "/claim/cut.py" 193,vI 2 0,vI 0 0,vI 0 0,vI 0 0,vI 0 0,vR 18,Value.bool false,vI 181 0,vR 19,vN,vN,vN,vN,vI 194 0,vI 2 0,vS "/claim/cut.py" 195] }
noncomputable def K63.x21 (P:Params):Obj:={ cls:=Value.type "frame", slots:=#[some (vR 20),some (vR 3),some (vR 17),none,some (vS "turnery.errors" 187),none,some (vR 0)] }
noncomputable def K63.x26 (P:Params):Obj:={ cls:=Value.type "super", data:=Data.fields #[vR 24,vR 24,vR 24] }
noncomputable def K63.x27 (P:Params):Obj:={ cls:=Value.type "builtin_function_or_method", data:=Data.fields #[Value.builtin "object.__init_subclass__", vR 24] }
noncomputable def K63.x29 (P:Params):Obj:={ cls:=Value.type "builtin_function_or_method", data:=Data.fields #[Value.builtin "type.__prepare__", Value.type "type"] }
noncomputable def K63.x30 (P:Params):Obj:={ cls:=Value.type "dict", data:=Data.dict #[hE P "__module__" 214 (vS "turnery.errors" 187),hE P "__qualname__" 216 (vS "TooGreat" 215),hE P "__firstlineno__" 218 (vI 4 217),hE P "__static_attributes__" 219 (vR 35)] 4 }
noncomputable def K63.x31 (P:Params):Obj:={ cls:=Value.type "tuple", data:=Data.seq #[] }
noncomputable def K63.x33 (P:Params):Obj:={ cls:=Value.type "code", data:=Data.fields #[vS "TooGreat" 209,vS "TooGreat" 210,vS "/claim/cut.py" 211,vI 4 0,vI 0 0,vI 0 0,vI 0 0,vI 0 0,vR 31,Value.bool false,vI 181 0,vR 32,vN,vN,vN,vN,vI 212 0,vI 4 0,vS "/claim/cut.py" 213] }
noncomputable def K63.x34 (P:Params):Obj:={ cls:=Value.type "frame", slots:=#[some (vR 33),some (vR 3),some (vR 30),none,some (vS "turnery.errors" 187),none,some (vR 0)] }
noncomputable def K63.x38 (P:Params):Obj:={ cls:=Value.type "super", data:=Data.fields #[vR 37,vR 37,vR 37] }
noncomputable def K63.x39 (P:Params):Obj:={ cls:=Value.type "builtin_function_or_method", data:=Data.fields #[Value.builtin "object.__init_subclass__", vR 37] }
noncomputable def K63.x41 (P:Params):Obj:={ cls:=Value.type "builtin_function_or_method", data:=Data.fields #[Value.builtin "type.__prepare__", Value.type "type"] }
noncomputable def K63.x42 (P:Params):Obj:={ cls:=Value.type "dict", data:=Data.dict #[hE P "__module__" 230 (vS "turnery.errors" 187),hE P "__qualname__" 232 (vS "Strays" 231),hE P "__firstlineno__" 234 (vI 6 233),hE P "__static_attributes__" 235 (vR 47)] 4 }
noncomputable def K63.x43 (P:Params):Obj:={ cls:=Value.type "tuple", data:=Data.seq #[] }
noncomputable def K63.x45 (P:Params):Obj:={ cls:=Value.type "code", data:=Data.fields #[vS "Strays" 225,vS "Strays" 226,vS "/claim/cut.py" 227,vI 6 0,vI 0 0,vI 0 0,vI 0 0,vI 0 0,vR 43,Value.bool false,vI 181 0,vR 44,vN,vN,vN,vN,vI 228 0,vI 6 0,vS "/claim/cut.py" 229] }
noncomputable def K63.x46 (P:Params):Obj:={ cls:=Value.type "frame", slots:=#[some (vR 45),some (vR 3),some (vR 42),none,some (vS "turnery.errors" 187),none,some (vR 0)] }
noncomputable def K63.x50 (P:Params):Obj:={ cls:=Value.type "super", data:=Data.fields #[vR 49,vR 49,vR 49] }
noncomputable def K63.x51 (P:Params):Obj:={ cls:=Value.type "builtin_function_or_method", data:=Data.fields #[Value.builtin "object.__init_subclass__", vR 49] }
noncomputable def K63.x56 (P:Params):Obj:=W.Fast.tw9849949890419450393 P
noncomputable def K63.x63 (P:Params):Obj:=W.Fast.tw10888445111077190910 P
noncomputable def K63.x68 (P:Params):Obj:=W.Fast.tw2748887583458984657 P
noncomputable def K63.x75 (P:Params):Obj:=W.Fast.tw4854633866948946539 P
noncomputable def K63.x82 (P:Params):Obj:=W.Fast.tw6530332216108352936 P
noncomputable def K63.x89 (P:Params):Obj:=W.Fast.tw2763371186975916555 P
noncomputable def K63.x96 (P:Params):Obj:=W.Fast.tw16028835397814339672 P
noncomputable def K63.x103 (P:Params):Obj:=W.Fast.tw13606853435348290397 P
noncomputable def K63.x108 (P:Params):Obj:=W.Fast.tw9977086941132175101 P
noncomputable def K63.x115 (P:Params):Obj:=W.Fast.tw7888549179188408840 P
noncomputable def K63.x122 (P:Params):Obj:=W.Fast.tw10489270809364954208 P
noncomputable def K63.x127 (P:Params):Obj:=W.Fast.tw3926639786023754574 P
noncomputable def K63.x134 (P:Params):Obj:=W.Fast.tw11267115332845401926 P
noncomputable def K63.x141 (P:Params):Obj:=W.Fast.tw13250516371924938545 P
noncomputable def K63.x148 (P:Params):Obj:=W.Fast.tw17948902242500186147 P
noncomputable def K63.x155 (P:Params):Obj:=W.Fast.tw9190376255518191725 P
noncomputable def K63.x162 (P:Params):Obj:=W.Fast.tw11625272948642954966 P
noncomputable def K63.x165 (P:Params):Obj:={ cls:=Value.type "tuple", data:=Data.seq #[] }
noncomputable def K63.x166 (P:Params):Obj:={ cls:=Value.type "builtin_function_or_method", data:=Data.fields #[Value.builtin "type.__prepare__", Value.type "type"] }
noncomputable def K63.x167 (P:Params):Obj:={ cls:=Value.type "dict", data:=Data.dict #[hE P "__module__" 403 (20:),hE P "__qualname__" 405 (vS "Demands" 404),hE P "__firstlineno__" 407 (vI 81 406),hE P "__init__" 413 (vR 176),hE P "look_by" 425 (vR 183),hE P "look" 439 (vR 190),hE P "meet_demand" 448 (vR 197),hE P "meet_fault" 456 (vR 204),hE P "tree_and_place" 468 (vR 211),hE P "__static_attributes__" 474 (vR 212)] 10 }
noncomputable def K63.x168 (P:Params):Obj:={ cls:=Value.type "tuple", data:=Data.seq #[] }
noncomputable def K63.x169 (P:Params):Obj:={ cls:=vN,data:=Data.fields #[vI 83 0,vI 4 0,vR 175,vI 95 0,vI 4 0,vR 182,vI 101 0,vI 4 0,vR 189,vI 112 0,vI 4 0,vR 196,vI 117 0,vI 4 0,vR 203,vI 121 0,vI 4 0,vR 210] }
noncomputable def K63.x170 (P:Params):Obj:={ cls:=Value.type "code", data:=Data.fields #[vS "Demands" 398,vS "Demands" 399,vS "/claim/cut.py" 400,vI 81 0,vI 0 0,vI 0 0,vI 0 0,vI 0 0,vR 168,Value.bool false,vI 181 0,vR 169,vN,vN,vN,vN,vI 401 0,vI 81 0,vS "/claim/cut.py" 402] }
noncomputable def K63.x171 (P:Params):Obj:={ cls:=Value.type "frame", slots:=#[some (vR 170),some (vR 3),some (vR 167),none,some (20:),none,some (vR 0)] }
noncomputable def K63.x174 (P:Params):Obj:=W.Fast.tw4512781219026044248 P
noncomputable def K63.x181 (P:Params):Obj:=W.Fast.tw15301403752850588373 P
noncomputable def K63.x188 (P:Params):Obj:=W.Fast.tw16981092930359942243 P
noncomputable def K63.x195 (P:Params):Obj:=W.Fast.tw14078949538499168930 P
noncomputable def K63.x202 (P:Params):Obj:=W.Fast.tw3221765897272508763 P
noncomputable def K63.x209 (P:Params):Obj:=W.Fast.tw3283836601563488068 P
noncomputable def K63.x217 (P:Params):Obj:={ cls:=Value.type "super", data:=Data.fields #[vR 214,vR 214,vR 214] }
noncomputable def K63.x218 (P:Params):Obj:={ cls:=Value.type "builtin_function_or_method", data:=Data.fields #[Value.builtin "object.__init_subclass__", vR 214] }
noncomputable def K63.x221 (P:Params):Obj:=W.Fast.tw3288127473107683845 P
noncomputable def K63.x228 (P:Params):Obj:=W.Fast.tw14388624293628939098 P
noncomputable def K63.x233 (P:Params):Obj:=W.Fast.tw11408536492394440318 P
noncomputable def K63.x240 (P:Params):Obj:=W.Fast.tw9390360154398730547 P
noncomputable def K63.x247 (P:Params):Obj:=W.Fast.tw15047610812939783111 P
noncomputable def K63.x252 (P:Params):Obj:=W.Fast.tw1357188218155931381 P
noncomputable def K63.x255 (P:Params):Obj:={ cls:=Value.type "tuple", data:=Data.seq #[] }
noncomputable def K63.x256 (P:Params):Obj:={ cls:=Value.type "builtin_function_or_method", data:=Data.fields #[Value.builtin "type.__prepare__", Value.type "type"] }
noncomputable def K63.x257 (P:Params):Obj:={ cls:=Value.type "dict", data:=Data.dict #[hE P "__module__" 554 (31:),hE P "__qualname__" 556 (vS "TermBehind" 555),hE P "__firstlineno__" 558 (vI 172 557),hE P "__init__" 566 (vR 268),hE P "by_mode" 576 (vR 275),hE P "by_rule" 582 (vR 280),hE P "take_one" 590 (vR 287),hE P "__static_attributes__" 593 (vR 288)] 8 }
noncomputable def K63.x258 (P:Params):Obj:={ cls:=Value.type "tuple", data:=Data.seq #[] }
noncomputable def K63.x259 (P:Params):Obj:={ cls:=vN,data:=Data.fields #[vI 174 0,vI 4 0,vR 267,vI 178 0,vI 4 0,vR 274,vI 184 0,vI 4 0,vR 279,vI 192 0,vI 4 0,vR 286] }
noncomputable def K63.x260 (P:Params):Obj:={ cls:=Value.type "code", data:=Data.fields #[vS "TermBehind" 549,vS "TermBehind" 550,vS "/claim/cut.py" 551,vI 172 0,vI 0 0,vI 0 0,vI 0 0,vI 0 0,vR 258,Value.bool false,vI 181 0,vR 259,vN,vN,vN,vN,vI 552 0,vI 172 0,vS "/claim/cut.py" 553] }
noncomputable def K63.x261 (P:Params):Obj:={ cls:=Value.type "frame", slots:=#[some (vR 260),some (vR 3),some (vR 257),none,some (31:),none,some (vR 0)] }
noncomputable def K63.x266 (P:Params):Obj:=W.Fast.tw4581376516246592515 P
noncomputable def K63.x273 (P:Params):Obj:=W.Fast.tw4597673724410753690 P
noncomputable def K63.x278 (P:Params):Obj:=W.Fast.tw2192668356804220373 P
noncomputable def K63.x285 (P:Params):Obj:=W.Fast.tw17920305383306714268 P
noncomputable def K63.x293 (P:Params):Obj:={ cls:=Value.type "super", data:=Data.fields #[vR 290,vR 290,vR 290] }
noncomputable def K63.x294 (P:Params):Obj:={ cls:=Value.type "builtin_function_or_method", data:=Data.fields #[Value.builtin "object.__init_subclass__", vR 290] }
noncomputable def K63.x299 (P:Params):Obj:=W.Fast.tw2758206759204816190 P
noncomputable def K63.x306 (P:Params):Obj:=W.Fast.tw13268478166017260144 P
noncomputable def K63.x311 (P:Params):Obj:=W.Fast.tw5169304426411860763 P
noncomputable def K63.x318 (P:Params):Obj:=W.Fast.tw17853307930939675313 P
noncomputable def K63.x325 (P:Params):Obj:=W.Fast.tw9498505970874245905 P
noncomputable def K63.x332 (P:Params):Obj:=W.Fast.tw5352655280308240052 P
noncomputable def K63.x339 (P:Params):Obj:=W.Fast.tw13161235819631270175 P
noncomputable def K63.x346 (P:Params):Obj:=W.Fast.tw12005785631781642277 P
noncomputable def K63.x353 (P:Params):Obj:=W.Fast.tw985617364975669445 P
noncomputable def K63.x360 (P:Params):Obj:=W.Fast.tw10214947636618481064 P
noncomputable def K63.x367 (P:Params):Obj:=W.Fast.tw824724751270065104 P
noncomputable def _root_.PySem.W.Fast.tw7885116793164848643:Params→Heap:=fun P=>{ objs:=⟨[W.boot_o_0 P,W.boot_o_1 P,Obj.mk vN none (Data.dict #[]) #[],x3 P,W.boot_o_4 P,W.boot_o_5 P,W.boot_o_6 P,W.boot_o_7 P,W.boot_o_8 P,W.boot_o_9 P,W.boot_o_10 P,x11 P,x12 P,x13 P,x14 P,oT #[Value.type "ValueError"],x16 P,x17 P,x18 P,oE,x20 P,x21 P,oT #[],x23 P,x24 P,x25 P,x26 P,x27 P,oT #[vR 24],x29 P,x30 P,x31 P,oE,x33 P,x34 P,oT #[],x36 P,x37 P,x38 P,x39 P,oT #[vR 24],x41 P,x42 P,x43 P,oE,x45 P,x46 P,oT #[],x48 P,x49 P,x50 P,x51 P,oT #[],oE,oT #[vS "term" 244],oT #[],x56 P,x57 P,x58 P,oT #[],oE,x61 P,oT #[],x63 P,x64 P,x65 P,oT #[],oE,x68 P,x69 P,x70 P,oT #[],oE,oT #[vS "term" 266,vS "parts" 267],oT #[],x75 P,x76 P,x77 P,oT #[],oE,x80 P,oT #[],x82 P,x83 P,x84 P,oT #[],oE,x87 P,oT #[],x89 P,x90 P,x91 P,oT #[],oE,oT #[vS "branches" 295,vS "number" 296],oT #[],x96 P,x97 P,x98 P,oT #[],oE,x101 P,oT #[],x103 P,x104 P,x105 P,oT #[],oE,x108 P,x109 P,x110 P,oT #[],oE,oT #[vS "wood" 323,vS "kind" 324],oT #[],x115 P,x116 P,x117 P,oT #[],oE,x120 P,oT #[],x122 P,x123 P,x124 P,oT #[],oE,x127 P,x128 P,x129 P,oT #[],oE,oT #[vS "wood" 349],oT #[],x134 P,x135 P,x136 P,oT #[],oE,x139 P,oT #[],x141 P,x142 P,x143 P,oT #[],oE,x146 P,oT #[],x148 P,x149 P,x150 P,oT #[],oE,oT #[vS "turning" 383,vS "wood" 384],oT #[],x155 P,x156 P,x157 P,oT #[],oE,oT #[vS "fault" 391,vS "spot" 392],oT #[],x162 P,x163 P,x164 P,x165 P,x166 P,x167 P,x168 P,x169 P,x170 P,x171 P,oT #[],oE,x174 P,x175 P,x176 P,oT #[],oE,x179 P,oT #[],x181 P,x182 P,x183 P,oT #[],oE,x186 P,oT #[],x188 P,x189 P,x190 P,oT #[],oE,x193 P,oT #[],x195 P,x196 P,x197 P,oT #[],oE,oT #[vS "self" 452,vS "fault" 453],oT #[],x202 P,x203 P,x204 P,oT #[],oE,x207 P,oT #[],x209 P,x210 P,x211 P,x212 P,x213 P,x214 P,x215 P,x216 P,x217 P,x218 P,oT #[],oE,x221 P,x222 P,x223 P,oT #[],oE,x226 P,oT #[],x228 P,x229 P,x230 P,oT #[],oE,x233 P,x234 P,x235 P,oT #[],oE,x238 P,oT #[],x240 P,x241 P,x242 P,oT #[],oE,x245 P,oT #[vS "one" 536,vS "other" 537],x247 P,x248 P,x249 P,oT #[],oE,x252 P,x253 P,x254 P,x255 P,x256 P,x257 P,x258 P,x259 P,x260 P,x261 P,oT #[],oE,oT #[vS "self" 562,vS "other" 563],oT #[],x266 P,x267 P,x268 P,oT #[],oE,x271 P,oT #[],x273 P,x274 P,x275 P,oT #[],oE,x278 P,x279 P,x280 P,oT #[],oE,oT #[vS "self" 586,vS "room" 587],oT #[],x285 P,x286 P,x287 P,oT #[vS "left" 591,vS "other" 592],x289 P,x290 P,x291 P,x292 P,x293 P,x294 P,oT #[],oE,x297 P,oT #[],x299 P,x300 P,x301 P,oT #[],oE,x304 P,oT #[],x306 P,x307 P,x308 P,oT #[],oE,x311 P,x312 P,x313 P,oT #[],oE,oT #[vS "_law_cell" 629],oT #[],x318 P,x319 P,x320 P,oT #[],oE,oT #[vS "_law_found" 636],oT #[],x325 P,x326 P,x327 P,oT #[],oE,x330 P,oT #[],x332 P,x333 P,x334 P,oT #[],oE,x337 P,oT #[],x339 P,x340 P,x341 P,oT #[],oE,x344 P,oT #[],x346 P,x347 P,x348 P,oT #[],oE,x351 P,oT #[],x353 P,x354 P,x355 P,oT #[],oE,x358 P,oT #[],x360 P,x361 P,x362 P,oT #[],oE,x365 P,oT #[],x367 P,x368 P,x369 P]⟩ }
theorem _root_.PySem.W.Fast.te7885116793164848643:PySem.W.Fast.tw7885116793164848643=PySem.W.Fast.tw7885116793164848643:=rfl
noncomputable def K63.N:W.BT:=.nil
noncomputable def K63.B (o:Obj) (l r:W.BT):W.BT:=.node o l r
noncomputable def _root_.PySem.W.Fast.tw12554619311188487409:Params→W.BT:=fun P=>B (W.boot_o_0 P) (B (W.boot_o_1 P) (B (x3 P) (B (W.boot_o_7 P) (B (oT #[Value.type "ValueError"]) (B (x31 P) (B (x63 P) (B (x127 P) (B (x255 P) N N) N) (B (26:) (B (x319 P) N N) N)) (B (26:) (B (oE) (B (x287 P) N N) N) (B (x223 P) (B (x351 P) N N) N))) (B (26:) (B (oE) (B (x143 P) (B (x271 P) N N) N) (B (x207 P) (3:) N)) (B (26:) (B (x175 P) (25:) N) (B (26:) (B (x367 P) N N) N)))) (B (x23 P) (B (x39 P) (B (26:) (B (x135 P) (25:) N) (B (oE) (B (x327 P) N N) N)) (B (x103 P) (B (x167 P) (3:) N) (B (26:) (3:) N))) (B (26:) (B (x87 P) (B (26:) (B (x279 P) N N) N) (B (x215 P) (25:) N)) (B (oE) (B (x183 P) (B (x311 P) N N) N) (B (x247 P) N N))))) (B (x11 P) (B (oE) (B (26:) (B (oE) (B (oE) (B (x259 P) N N) N) (B (x195 P) (B (oT #[vS "_law_found" 636]) N N) N)) (B (26:) (B (x163 P) (B (x291 P) N N) N) (B (26:) (B (x355 P) N N) N))) (B (x51 P) (B (x83 P) (B (26:) (B (x275 P) N N) N) (B (x211 P) (B (x339 P) N N) N)) (B (x115 P) (B (x179 P) (B (x307 P) N N) N) (3:)))) (B (x27 P) (B (x43 P) (B (x75 P) (B (x139 P) (B (x267 P) N N) N) (B (x203 P) (3:) N)) (B (oE) (B (x171 P) (B (x299 P) N N) N) (B (x235 P) (3:) N))) (B (26:) (B (x91 P) (B (x155 P) (B (oT #[vS "self" 586,vS "room" 587]) N N) N) (B (26:) (B (x347 P) N N) N)) (B (x123 P) (B (26:) (25:) N) (25:)))))) (B (W.boot_o_5 P) (B (W.boot_o_9 P) (B (x17 P) (B (x33 P) (B (x65 P) (B (x129 P) (B (x257 P) N N) N) (B (x193 P) (3:) N)) (B (x97 P) (B (26:) (B (x289 P) N N) N) (B (oE) (B (x353 P) N N) N))) (B (x49 P) (B (26:) (B (oE) (B (x273 P) N N) N) (B (x209 P) (B (x337 P) N N) N)) (B (oT #[vS "wood" 323,vS "kind" 324]) (B (26:) (3:) N) (B (x241 P) (B (x369 P) N N) N)))) (B (x25 P) (B (x41 P) (B (oT #[vS "term" 266,vS "parts" 267]) (B (26:) (3:) N) (B (26:) (25:) N)) (B (x105 P) (B (x169 P) (B (x297 P) N N) N) (B (x233 P) (B (x361 P) N N) N))) (B (x57 P) (B (x89 P) (B (oT #[vS "turning" 383,vS "wood" 384]) (3:) N) (B (x217 P) (3:) N)) (B (26:) (B (oE) (B (x313 P) N N) N) (B (x249 P) N N))))) (B (x13 P) (B (x21 P) (B (x37 P) (B (x69 P) (B (26:) (B (x261 P) N N) N) (B (x197 P) (B (x325 P) N N) N)) (B (x101 P) (B (x165 P) (B (x293 P) N N) N) (B (x229 P) (25:) N))) (B (oE) (B (26:) (B (x149 P) (25:) N) (B (x213 P) (B (x341 P) N N) N)) (B (x117 P) (B (x181 P) (3:) N) (B (x245 P) N N)))) (B (x29 P) (B (x45 P) (B (x77 P) (B (x141 P) (3:) N) (B (26:) (B (x333 P) N N) N)) (B (x109 P) (B (oE) (B (x301 P) N N) N) (B (oE) (B (x365 P) N N) N))) (B (x61 P) (B (oE) (B (x157 P) (B (x285 P) N N) N) (B (x221 P) (3:) N)) (B (26:) (B (x189 P) (3:) N) (B (x253 P) N N))))))) (B (Obj.mk vN none (Data.dict #[]) #[]) (B (W.boot_o_4 P) (B (W.boot_o_8 P) (B (x16 P) (B (oE) (B (x64 P) (B (x128 P) (B (x256 P) N N) N) (B (oE) (B (x320 P) N N) N)) (B (x96 P) (B (oT #[vS "fault" 391,vS "spot" 392]) (B (oT #[vS "left" 591,vS "other" 592]) N N) N) (B (26:) (3:) N))) (B (x48 P) (B (x80 P) (B (26:) (3:) N) (B (26:) (25:) N)) (B (oE) (B (x176 P) (B (x304 P) N N) N) (B (x240 P) (B (x368 P) N N) N)))) (B (x24 P) (B (oT #[vR 24]) (B (oE) (B (x136 P) (B (oT #[vS "self" 562,vS "other" 563]) N N) N) (B (oT #[vS "self" 452,vS "fault" 453]) (3:) N)) (B (x104 P) (B (x168 P) (25:) N) (B (oE) (B (x360 P) N N) N))) (B (x56 P) (B (26:) (B (oE) (B (x280 P) N N) N) (B (x216 P) (B (x344 P) N N) N)) (B (x120 P) (B (26:) (B (x312 P) N N) N) (B (x248 P) N N))))) (B (x12 P) (B (x20 P) (B (x36 P) (B (x68 P) (B (oT #[vS "wood" 349]) (B (x260 P) N N) N) (B (x196 P) (3:) N)) (B (oE) (B (x164 P) (B (x292 P) N N) N) (B (x228 P) (3:) N))) (B (26:) (B (x84 P) (B (x148 P) (3:) N) (B (x212 P) (B (x340 P) N N) N)) (B (x116 P) (B (26:) (B (x308 P) N N) N) (25:)))) (B (oT #[vR 24]) (B (oE) (B (x76 P) (B (26:) (B (x268 P) N N) N) (B (x204 P) (B (x332 P) N N) N)) (B (x108 P) (B (26:) (B (x300 P) N N) N) (B (26:) (25:) N))) (B (oE) (B (26:) (B (x156 P) (3:) N) (B (oE) (B (x348 P) N N) N)) (B (x124 P) (B (x188 P) (B (oT #[vS "_law_cell" 629]) N N) N) (B (x252 P) N N)))))) (B (W.boot_o_6 P) (B (W.boot_o_10 P) (B (x18 P) (B (x34 P) (B (26:) (B (26:) (B (x258 P) N N) N) (B (26:) (25:) N)) (B (x98 P) (B (x162 P) (B (x290 P) N N) N) (B (x226 P) (B (x354 P) N N) N))) (B (x50 P) (B (x82 P) (B (x146 P) (B (x274 P) N N) N) (B (x210 P) (3:) N)) (B (26:) (B (oE) (B (x306 P) N N) N) (B (x242 P) N N)))) (B (x26 P) (B (x42 P) (B (26:) (B (oE) (B (x266 P) N N) N) (B (x202 P) (B (x330 P) N N) N)) (B (26:) (B (x170 P) (3:) N) (B (x234 P) (B (x362 P) N N) N))) (B (x58 P) (B (x90 P) (B (26:) (25:) N) (B (x218 P) (B (x346 P) N N) N)) (B (x122 P) (B (x186 P) (3:) N) (3:))))) (B (x14 P) (B (26:) (B (x38 P) (B (x70 P) (B (x134 P) (3:) N) (B (26:) (B (x326 P) N N) N)) (B (26:) (B (x166 P) (B (x294 P) N N) N) (B (x230 P) (B (x358 P) N N) N))) (B (oT #[vS "term" 244]) (B (oE) (B (x150 P) (B (x278 P) N N) N) (B (x214 P) (3:) N)) (B (26:) (B (x182 P) (25:) N) (B (oT #[vS "one" 536,vS "other" 537]) N N)))) (B (x30 P) (B (x46 P) (B (26:) (B (x142 P) (25:) N) (B (oE) (B (x334 P) N N) N)) (B (x110 P) (B (x174 P) (3:) N) (B (x238 P) (3:) N))) (B (26:) (B (oT #[vS "branches" 295,vS "number" 296]) (B (26:) (B (x286 P) N N) N) (B (x222 P) (25:) N)) (B (oE) (B (x190 P) (B (x318 P) N N) N) (B (x254 P) N N)))))))
theorem _root_.PySem.W.Fast.te12554619311188487409:PySem.W.Fast.tw12554619311188487409=PySem.W.Fast.tw12554619311188487409:=rfl
noncomputable def K63.y3_360 (P:Params):Obj:={ cls:=Value.type "dict", data:=Data.dict #[hE P "__name__" 165 (5:),hE P "__doc__" 166 (vN),hE P "__package__" 167 (vN),hE P "__loader__" 168 (Value.builtin "__main__.__loader__#opaque"),hE P "__spec__" 169 (vN),hE P "__annotations__" 170 (vR 6),hE P "__builtins__" 171 (vR 4),hE P "__file__" 173 (vS "/claim/cut.py" 172),hE P "__cached__" 174 (vN),hE P "TurnError" 206 (vR 24),hE P "TooGreat" 222 (vR 37),hE P "Strays" 238 (vR 49),hE P "is_call" 247 (vR 58),hE P "calls_of" 256 (vR 65),hE P "with_modes" 262 (vR 70),hE P "with_parts" 270 (vR 77),hE P "at" 282 (vR 84),hE P "put_at" 291 (vR 91),hE P "has_number" 299 (vR 98),hE P "put_below" 311 (vR 105),hE P "own_wood" 319 (vR 110),hE P "rows_of" 327 (vR 117),hE P "leaf_of" 337 (vR 124),hE P "leafy" 345 (vR 129),hE P "row_above" 352 (vR 136),hE P "tree_on" 366 (vR 143),hE P "MOST_LEVELS_straying" 370 (vI 40 369),hE P "strays" 379 (vR 150),hE P "strays_at_all" 387 (vR 157),hE P "levels_needed" 395 (vR 164),hE P "Demands" 481 (vR 214),hE P "as_met" 489 (vR 223),hE P "number_calls" 500 (vR 230),hE P "numbered_mode" 506 (vR 235),hE P "rule_of" 521 (vR 242),hE P "MOST_MODES" 525 (vI 40 524),hE P "MOST_SIZE" 527 (vI 200 526),hE P "MOST_LEVELS_behind" 529 (vI 30 528),hE P "behind" 540 (vR 249),hE P "mode_behind" 546 (vR 254),hE P "TermBehind" 600 (vR 290),hE P "_law_cell_at" 610 (vR 301),hE P "_law_mixed" 619 (vR 308)] 43 }
noncomputable def K63.y12_360 (P:Params):Obj:={ cls:=vN,data:=Data.fields #[vI 2 0,vI 0 0,vR 20,vI 4 0,vI 0 0,vR 33,vI 6 0,vI 0 0,vR 45,vI 9 0,vI 0 0,vR 57,vI 11 0,vI 0 0,vR 64,vI 18 0,vI 0 0,vR 69,vI 22 0,vI 0 0,vR 76,vI 25 0,vI 0 0,vR 83,vI 32 0,vI 0 0,vR 90,vI 36 0,vI 0 0,vR 97,vI 40 0,vI 0 0,vR 104,vI 48 0,vI 0 0,vR 109,vI 50 0,vI 0 0,vR 116,vI 52 0,vI 0 0,vR 123,vI 58 0,vI 0 0,vR 128,vI 60 0,vI 0 0,vR 135,vI 62 0,vI 0 0,vR 142,vI 69 0,vI 0 0,vR 149,vI 76 0,vI 0 0,vR 156,vI 78 0,vI 0 0,vR 163,vI 81 0,vI 0 0,vR 170,vI 133 0,vI 0 0,vR 222,vI 144 0,vI 0 0,vR 229,vI 150 0,vI 0 0,vR 234,vI 153 0,vI 0 0,vR 241,vI 164 0,vI 0 0,vR 248,vI 169 0,vI 0 0,vR 253,vI 172 0,vI 0 0,vR 260,vI 199 0,vI 0 0,vR 300,vI 203 0,vI 0 0,vR 307] }
noncomputable def _root_.PySem.W.Fast.tw1409985204897154581:Params→W.BT:=fun P=>B (W.boot_o_0 P) (B (W.boot_o_1 P) (B (y3_360 P) (B (W.boot_o_7 P) (B (oT #[Value.type "ValueError"]) (B (x31 P) (B (x63 P) (B (x127 P) (B (x255 P) N N) N) (3:)) (B (26:) (B (oE) (B (x287 P) N N) N) (B (x223 P) N N))) (B (26:) (B (oE) (B (x143 P) (B (x271 P) N N) N) (B (x207 P) N N)) (B (26:) (B (x175 P) (25:) N) (3:)))) (B (x23 P) (B (x39 P) (B (26:) (B (x135 P) (25:) N) (25:)) (B (x103 P) (B (x167 P) (3:) N) (3:))) (B (26:) (B (x87 P) (B (26:) (B (x279 P) N N) N) (B (x215 P) N N)) (B (oE) (B (x183 P) N N) (B (x247 P) N N))))) (B (x11 P) (B (oE) (B (26:) (B (oE) (B (oE) (B (x259 P) N N) N) (B (x195 P) N N)) (B (26:) (B (x163 P) (B (x291 P) N N) N) (3:))) (B (x51 P) (B (x83 P) (B (26:) (B (x275 P) N N) N) (B (x211 P) N N)) (B (x115 P) (B (x179 P) (B (x307 P) N N) N) (3:)))) (B (x27 P) (B (x43 P) (B (x75 P) (B (x139 P) (B (x267 P) N N) N) (B (x203 P) N N)) (B (oE) (B (x171 P) (B (x299 P) N N) N) (B (x235 P) N N))) (B (26:) (B (x91 P) (B (x155 P) (B (oT #[vS "self" 586,vS "room" 587]) N N) N) (3:)) (B (x123 P) (3:) (25:)))))) (B (W.boot_o_5 P) (B (W.boot_o_9 P) (B (x17 P) (B (x33 P) (B (x65 P) (B (x129 P) (B (x257 P) N N) N) (B (x193 P) N N)) (B (x97 P) (B (26:) (B (x289 P) N N) N) (25:))) (B (x49 P) (B (26:) (B (oE) (B (x273 P) N N) N) (B (x209 P) N N)) (B (oT #[vS "wood" 323,vS "kind" 324]) (B (26:) (3:) N) (B (x241 P) N N)))) (B (x25 P) (B (x41 P) (B (oT #[vS "term" 266,vS "parts" 267]) (B (26:) (3:) N) (3:)) (B (x105 P) (B (x169 P) (B (x297 P) N N) N) (B (x233 P) N N))) (B (x57 P) (B (x89 P) (B (oT #[vS "turning" 383,vS "wood" 384]) (3:) N) (B (x217 P) N N)) (B (26:) (25:) (B (x249 P) N N))))) (B (x13 P) (B (x21 P) (B (x37 P) (B (x69 P) (B (26:) (B (x261 P) N N) N) (B (x197 P) N N)) (B (x101 P) (B (x165 P) (B (x293 P) N N) N) (B (x229 P) N N))) (B (oE) (B (26:) (B (x149 P) (25:) N) (B (x213 P) N N)) (B (x117 P) (B (x181 P) N N) (B (x245 P) N N)))) (B (x29 P) (B (x45 P) (B (x77 P) (B (x141 P) (3:) N) (3:)) (B (x109 P) (B (oE) (B (x301 P) N N) N) (25:))) (B (x61 P) (B (oE) (B (x157 P) (B (x285 P) N N) N) (B (x221 P) N N)) (B (26:) (B (x189 P) N N) (B (x253 P) N N))))))) (B (Obj.mk vN none (Data.dict #[]) #[]) (B (W.boot_o_4 P) (B (W.boot_o_8 P) (B (x16 P) (B (oE) (B (x64 P) (B (x128 P) (B (x256 P) N N) N) (25:)) (B (x96 P) (B (oT #[vS "fault" 391,vS "spot" 392]) (B (oT #[vS "left" 591,vS "other" 592]) N N) N) (3:))) (B (x48 P) (B (x80 P) (B (26:) (3:) N) (3:)) (B (oE) (B (x176 P) (B (x304 P) N N) N) (B (x240 P) N N)))) (B (x24 P) (B (oT #[vR 24]) (B (oE) (B (x136 P) (B (oT #[vS "self" 562,vS "other" 563]) N N) N) (B (oT #[vS "self" 452,vS "fault" 453]) N N)) (B (x104 P) (B (x168 P) (25:) N) (25:))) (B (x56 P) (B (26:) (B (oE) (B (x280 P) N N) N) (B (x216 P) N N)) (B (x120 P) (3:) (B (x248 P) N N))))) (B (y12_360 P) (B (x20 P) (B (x36 P) (B (x68 P) (B (oT #[vS "wood" 349]) (B (x260 P) N N) N) (B (x196 P) N N)) (B (oE) (B (x164 P) (B (x292 P) N N) N) (B (x228 P) N N))) (B (26:) (B (x84 P) (B (x148 P) (3:) N) (B (x212 P) N N)) (B (x116 P) (B (26:) (B (x308 P) N N) N) (25:)))) (B (oT #[vR 24]) (B (oE) (B (x76 P) (B (26:) (B (x268 P) N N) N) (B (x204 P) N N)) (B (x108 P) (B (26:) (B (x300 P) N N) N) (3:))) (B (oE) (B (26:) (B (x156 P) (3:) N) (25:)) (B (x124 P) (B (x188 P) N N) (B (x252 P) N N)))))) (B (W.boot_o_6 P) (B (W.boot_o_10 P) (B (x18 P) (B (x34 P) (B (26:) (B (26:) (B (x258 P) N N) N) (3:)) (B (x98 P) (B (x162 P) (B (x290 P) N N) N) (B (x226 P) N N))) (B (x50 P) (B (x82 P) (B (x146 P) (B (x274 P) N N) N) (B (x210 P) N N)) (B (26:) (B (oE) (B (x306 P) N N) N) (B (x242 P) N N)))) (B (x26 P) (B (x42 P) (B (26:) (B (oE) (B (x266 P) N N) N) (B (x202 P) N N)) (B (26:) (B (x170 P) (3:) N) (B (x234 P) N N))) (B (x58 P) (B (x90 P) (B (26:) (25:) N) (B (x218 P) N N)) (B (x122 P) (B (x186 P) N N) (3:))))) (B (x14 P) (B (26:) (B (x38 P) (B (x70 P) (B (x134 P) (3:) N) (3:)) (B (26:) (B (x166 P) (B (x294 P) N N) N) (B (x230 P) N N))) (B (oT #[vS "term" 244]) (B (oE) (B (x150 P) (B (x278 P) N N) N) (B (x214 P) N N)) (B (26:) (B (x182 P) N N) (B (oT #[vS "one" 536,vS "other" 537]) N N)))) (B (x30 P) (B (x46 P) (B (26:) (B (x142 P) (25:) N) (25:)) (B (x110 P) (B (x174 P) (3:) N) (B (x238 P) N N))) (B (26:) (B (oT #[vS "branches" 295,vS "number" 296]) (B (26:) (B (x286 P) N N) N) (B (x222 P) N N)) (B (oE) (B (x190 P) N N) (B (x254 P) N N)))))))
theorem _root_.PySem.W.Fast.te1409985204897154581:PySem.W.Fast.tw1409985204897154581=PySem.W.Fast.tw1409985204897154581:=rfl
noncomputable def K63.y3_304 (P:Params):Obj:={ cls:=Value.type "dict", data:=Data.dict #[hE P "__name__" 165 (31:),hE P "__doc__" 166 (vN),hE P "__package__" 167 (vN),hE P "__loader__" 168 (Value.builtin "__main__.__loader__#opaque"),hE P "__spec__" 169 (vN),hE P "__annotations__" 170 (vR 6),hE P "__builtins__" 171 (vR 4),hE P "__file__" 173 (vS "/claim/cut.py" 172),hE P "__cached__" 174 (vN),hE P "TurnError" 206 (vR 24),hE P "TooGreat" 222 (vR 37),hE P "Strays" 238 (vR 49),hE P "is_call" 247 (vR 58),hE P "calls_of" 256 (vR 65),hE P "with_modes" 262 (vR 70),hE P "with_parts" 270 (vR 77),hE P "at" 282 (vR 84),hE P "put_at" 291 (vR 91),hE P "has_number" 299 (vR 98),hE P "put_below" 311 (vR 105),hE P "own_wood" 319 (vR 110),hE P "rows_of" 327 (vR 117),hE P "leaf_of" 337 (vR 124),hE P "leafy" 345 (vR 129),hE P "row_above" 352 (vR 136),hE P "tree_on" 366 (vR 143),hE P "MOST_LEVELS_straying" 370 (vI 40 369),hE P "strays" 379 (vR 150),hE P "strays_at_all" 387 (vR 157),hE P "levels_needed" 395 (vR 164),hE P "Demands" 481 (vR 214),hE P "as_met" 489 (vR 223),hE P "number_calls" 500 (vR 230),hE P "numbered_mode" 506 (vR 235),hE P "rule_of" 521 (vR 242),hE P "MOST_MODES" 525 (vI 40 524),hE P "MOST_SIZE" 527 (vI 200 526),hE P "MOST_LEVELS_behind" 529 (vI 30 528),hE P "behind" 540 (vR 249),hE P "mode_behind" 546 (vR 254)] 40 }
noncomputable def K63.y12_304 (P:Params):Obj:={ cls:=vN,data:=Data.fields #[vI 2 0,vI 0 0,vR 20,vI 4 0,vI 0 0,vR 33,vI 6 0,vI 0 0,vR 45,vI 9 0,vI 0 0,vR 57,vI 11 0,vI 0 0,vR 64,vI 18 0,vI 0 0,vR 69,vI 22 0,vI 0 0,vR 76,vI 25 0,vI 0 0,vR 83,vI 32 0,vI 0 0,vR 90,vI 36 0,vI 0 0,vR 97,vI 40 0,vI 0 0,vR 104,vI 48 0,vI 0 0,vR 109,vI 50 0,vI 0 0,vR 116,vI 52 0,vI 0 0,vR 123,vI 58 0,vI 0 0,vR 128,vI 60 0,vI 0 0,vR 135,vI 62 0,vI 0 0,vR 142,vI 69 0,vI 0 0,vR 149,vI 76 0,vI 0 0,vR 156,vI 78 0,vI 0 0,vR 163,vI 81 0,vI 0 0,vR 170,vI 133 0,vI 0 0,vR 222,vI 144 0,vI 0 0,vR 229,vI 150 0,vI 0 0,vR 234,vI 153 0,vI 0 0,vR 241,vI 164 0,vI 0 0,vR 248,vI 169 0,vI 0 0,vR 253] }
noncomputable def _root_.PySem.W.Fast.tw5654300651791016025:Params→W.BT:=fun P=>B (W.boot_o_0 P) (B (W.boot_o_1 P) (B (y3_304 P) (B (W.boot_o_7 P) (B (oT #[Value.type "ValueError"]) (B (x31 P) (B (x63 P) (B (x127 P) N N) (3:)) (B (26:) (25:) (B (x223 P) N N))) (B (26:) (B (oE) (B (x143 P) N N) (B (x207 P) N N)) (B (26:) (B (x175 P) N N) (3:)))) (B (x23 P) (B (x39 P) (B (26:) (B (x135 P) N N) (25:)) (B (x103 P) (B (x167 P) N N) (3:))) (B (26:) (B (x87 P) (3:) (B (x215 P) N N)) (B (oE) (B (x183 P) N N) (B (x247 P) N N))))) (B (x11 P) (B (oE) (B (26:) (B (oE) (25:) (B (x195 P) N N)) (B (26:) (B (x163 P) N N) (3:))) (B (x51 P) (B (x83 P) (3:) (B (x211 P) N N)) (B (x115 P) (B (x179 P) N N) (3:)))) (B (x27 P) (B (x43 P) (B (x75 P) (B (x139 P) N N) (B (x203 P) N N)) (B (oE) (B (x171 P) N N) (B (x235 P) N N))) (B (26:) (B (x91 P) (B (x155 P) N N) (3:)) (B (x123 P) (3:) (25:)))))) (B (W.boot_o_5 P) (B (W.boot_o_9 P) (B (x17 P) (B (x33 P) (B (x65 P) (B (x129 P) N N) (B (x193 P) N N)) (B (x97 P) (3:) (25:))) (B (x49 P) (B (26:) (25:) (B (x209 P) N N)) (B (oT #[vS "wood" 323,vS "kind" 324]) (3:) (B (x241 P) N N)))) (B (x25 P) (B (x41 P) (B (oT #[vS "term" 266,vS "parts" 267]) (3:) (3:)) (B (x105 P) (B (x169 P) N N) (B (x233 P) N N))) (B (x57 P) (B (x89 P) (B (oT #[vS "turning" 383,vS "wood" 384]) N N) (B (x217 P) N N)) (B (26:) (25:) (B (x249 P) N N))))) (B (x13 P) (B (x21 P) (B (x37 P) (B (x69 P) (3:) (B (x197 P) N N)) (B (x101 P) (B (x165 P) N N) (B (x229 P) N N))) (B (oE) (B (26:) (B (x149 P) N N) (B (x213 P) N N)) (B (x117 P) (B (x181 P) N N) (B (x245 P) N N)))) (B (x29 P) (B (x45 P) (B (x77 P) (B (x141 P) N N) (3:)) (B (x109 P) (25:) (25:))) (B (x61 P) (B (oE) (B (x157 P) N N) (B (x221 P) N N)) (B (26:) (B (x189 P) N N) (B (x253 P) N N))))))) (B (Obj.mk vN none (Data.dict #[]) #[]) (B (W.boot_o_4 P) (B (W.boot_o_8 P) (B (x16 P) (B (oE) (B (x64 P) (B (x128 P) N N) (25:)) (B (x96 P) (B (oT #[vS "fault" 391,vS "spot" 392]) N N) (3:))) (B (x48 P) (B (x80 P) (3:) (3:)) (B (oE) (B (x176 P) N N) (B (x240 P) N N)))) (B (x24 P) (B (oT #[vR 24]) (B (oE) (B (x136 P) N N) (B (oT #[vS "self" 452,vS "fault" 453]) N N)) (B (x104 P) (B (x168 P) N N) (25:))) (B (x56 P) (B (26:) (25:) (B (x216 P) N N)) (B (x120 P) (3:) (B (x248 P) N N))))) (B (y12_304 P) (B (x20 P) (B (x36 P) (B (x68 P) (B (oT #[vS "wood" 349]) N N) (B (x196 P) N N)) (B (oE) (B (x164 P) N N) (B (x228 P) N N))) (B (26:) (B (x84 P) (B (x148 P) N N) (B (x212 P) N N)) (B (x116 P) (3:) (25:)))) (B (oT #[vR 24]) (B (oE) (B (x76 P) (3:) (B (x204 P) N N)) (B (x108 P) (3:) (3:))) (B (oE) (B (26:) (B (x156 P) N N) (25:)) (B (x124 P) (B (x188 P) N N) (B (x252 P) N N)))))) (B (W.boot_o_6 P) (B (W.boot_o_10 P) (B (x18 P) (B (x34 P) (B (26:) (3:) (3:)) (B (x98 P) (B (x162 P) N N) (B (x226 P) N N))) (B (x50 P) (B (x82 P) (B (x146 P) N N) (B (x210 P) N N)) (B (26:) (25:) (B (x242 P) N N)))) (B (x26 P) (B (x42 P) (B (26:) (25:) (B (x202 P) N N)) (B (26:) (B (x170 P) N N) (B (x234 P) N N))) (B (x58 P) (B (x90 P) (3:) (B (x218 P) N N)) (B (x122 P) (B (x186 P) N N) (3:))))) (B (x14 P) (B (26:) (B (x38 P) (B (x70 P) (B (x134 P) N N) (3:)) (B (26:) (B (x166 P) N N) (B (x230 P) N N))) (B (oT #[vS "term" 244]) (B (oE) (B (x150 P) N N) (B (x214 P) N N)) (B (26:) (B (x182 P) N N) (B (oT #[vS "one" 536,vS "other" 537]) N N)))) (B (x30 P) (B (x46 P) (B (26:) (B (x142 P) N N) (25:)) (B (x110 P) (B (x174 P) N N) (B (x238 P) N N))) (B (26:) (B (oT #[vS "branches" 295,vS "number" 296]) (3:) (B (x222 P) N N)) (B (oE) (B (x190 P) N N) (B (x254 P) N N)))))))
theorem _root_.PySem.W.Fast.te5654300651791016025:PySem.W.Fast.tw5654300651791016025=PySem.W.Fast.tw5654300651791016025:=rfl
end
open PySem PySem.W PyProof.Rows
set_option maxRecDepth 100000 in
set_option maxHeartbeats 0 in
theorem PySem.Challenge.cw_turnery_k63_rings_that_stray_holds : PySem.Challenge.rw_turnery_k63_rings_that_stray.Holds := by
 w_on;o_law;k_head;(case hw=>w_witness2)
 k_fill
 refine K63.walk (c1:=248) (T1:=244) (l:=PySem.Challenge.rw_turnery_k63_rings_that_stray) rfl rfl (fun w h Y=>PySem.W.km_in_of Y) ?tb1 ?F
 case tb1 =>
  intro w
  refine' L2.TabAt.mk ⟨_,?a⟩ ?b ?c ?d;(case a=>exact rfl);(case b=>kernel_rfl);(case c=>kernel_rfl);(case d=>kernel_rfl)
 case F =>
  intro w mg fa h KX G hmg
  refine' K63.all_mk (c1:=248) (T1:=244) KX G hmg ?d1 ?d2 ?d3 ?d4 ?d5 ?d6 ?d7 ?d8 ?d9 ?d10 ?d11 ?d12 ?d13 ?d14 ?d15 ?d16 ?d17 ?d18 ?d19 ?d20 ?d21 ?d22 ?d23 ?d24 ?d25 ?d26 ?d27 ?d28 ?d29 ?d30 ?d31 ?z1 ?z2 ?z3 ?z4 ?z5 ?z6 ?z7 ?z8 ?z9 ?z10 ?z11 ?z12 ?z13 ?z14 ?y1 ?ht1 ?hh1 ?gA ?gB ?gC ?gD ?gN ?gS ?gT ?qa ?va ?ea1 ?ea2 ?ea3 ?ea4 ?ea5 ?qb ?vb ?eb1 ?eb2 ?eb3 ?eb4 ?eb5 ?xa ?xb ?jnb ?jns ?jsn ?jss ?s1 ?s2
  (case ht1=>kernel_rfl);(case hh1=>kernel_rfl)
  (case d1=>refine' L2.DefAt.mk' ?a ?l ?c ?k;(case a=>k_is);(case l=>k_is);(case c=>k_is);(case k=>k_is))
  (case d2=>refine' L2.DefAt.mk' ?a ?l ?c ?k;(case a=>k_is);(case l=>k_is);(case c=>k_is);(case k=>k_is))
  (case d3=>refine' L2.DefAt.mk' ?a ?l ?c ?k;(case a=>k_is);(case l=>k_is);(case c=>k_is);(case k=>k_is))
  (case d4=>refine' L2.DefAt.mk' ?a ?l ?c ?k;(case a=>k_is);(case l=>k_is);(case c=>k_is);(case k=>k_is))
  (case d5=>refine' L2.DefAt.mk' ?a ?l ?c ?k;(case a=>k_is);(case l=>k_is);(case c=>k_is);(case k=>k_is))
  (case d6=>refine' L2.DefAt.mk' ?a ?l ?c ?k;(case a=>k_is);(case l=>k_is);(case c=>k_is);(case k=>k_is))
  (case d7=>refine' L2.DefAt.mk' ?a ?l ?c ?k;(case a=>k_is);(case l=>k_is);(case c=>k_is);(case k=>k_is))
  (case d8=>refine' L2.DefAt.mk' ?a ?l ?c ?k;(case a=>k_is);(case l=>k_is);(case c=>k_is);(case k=>k_is))
  (case d9=>refine' L2.DefAt.mk' ?a ?l ?c ?k;(case a=>k_is);(case l=>k_is);(case c=>k_is);(case k=>k_is))
  (case d10=>refine' L2.DefAt.mk' ?a ?l ?c ?k;(case a=>k_is);(case l=>k_is);(case c=>k_is);(case k=>k_is))
  (case d11=>refine' L2.DefAt.mk' ?a ?l ?c ?k;(case a=>k_is);(case l=>k_is);(case c=>k_is);(case k=>k_is))
  (case d12=>refine' L2.DefAt.mk' ?a ?l ?c ?k;(case a=>k_is);(case l=>k_is);(case c=>k_is);(case k=>k_is))
  (case d13=>refine' L2.DefAt.mk' ?a ?l ?c ?k;(case a=>k_is);(case l=>k_is);(case c=>k_is);(case k=>k_is))
  (case d14=>refine' L2.DefAt.mk' ?a ?l ?c ?k;(case a=>k_is);(case l=>k_is);(case c=>k_is);(case k=>k_is))
  (case d15=>refine' L2.DefAt.mk' ?a ?l ?c ?k;(case a=>k_is);(case l=>k_is);(case c=>k_is);(case k=>k_is))
  (case d16=>refine' L2.DefAt.mk' ?a ?l ?c ?k;(case a=>k_is);(case l=>k_is);(case c=>k_is);(case k=>k_is))
  (case d17=>refine' L2.DefAt.mk' ?a ?l ?c ?k;(case a=>k_is);(case l=>k_is);(case c=>k_is);(case k=>k_is))
  (case d18=>refine' L2.DefAt.mk' ?a ?l ?c ?k;(case a=>k_is);(case l=>k_is);(case c=>k_is);(case k=>k_is))
  (case d19=>refine' L2.DefAt.mk' ?a ?l ?c ?k;(case a=>k_is);(case l=>k_is);(case c=>k_is);(case k=>k_is))
  (case d20=>refine' L2.DefAt.mk' ?a ?l ?c ?k;(case a=>k_is);(case l=>k_is);(case c=>k_is);(case k=>k_is))
  (case d21=>refine' L2.DefAt.mk' ?a ?l ?c ?k;(case a=>k_is);(case l=>k_is);(case c=>k_is);(case k=>k_is))
  (case d22=>refine' L2.DefAt.mk' ?a ?l ?c ?k;(case a=>k_is);(case l=>k_is);(case c=>k_is);(case k=>k_is))
  (case d23=>refine' L2.DefAt.mk' ?a ?l ?c ?k;(case a=>k_is);(case l=>k_is);(case c=>k_is);(case k=>k_is))
  (case d24=>refine' L2.DefAt.mk' ?a ?l ?c ?k;(case a=>k_is);(case l=>k_is);(case c=>k_is);(case k=>k_is))
  (case d25=>refine' L2.DefAt.mk' ?a ?l ?c ?k;(case a=>k_is);(case l=>k_is);(case c=>k_is);(case k=>k_is))
  (case d26=>refine' L2.DefAt.mk' ?a ?l ?c ?k;(case a=>k_is);(case l=>k_is);(case c=>k_is);(case k=>k_is))
  (case d27=>refine' L2.DefAt.mk' ?a ?l ?c ?k;(case a=>k_is);(case l=>k_is);(case c=>k_is);(case k=>k_is))
  (case d28=>refine' L2.DefAt.mk' ?a ?l ?c ?k;(case a=>k_is);(case l=>k_is);(case c=>k_is);(case k=>k_is))
  (case d29=>refine' L2.DefAt.mk' ?a ?l ?c ?k;(case a=>k_is);(case l=>k_is);(case c=>k_is);(case k=>k_is))
  (case d30=>refine' L2.DefAt.mk' ?a ?l ?c ?k;(case a=>k_is);(case l=>k_is);(case c=>k_is);(case k=>k_is))
  (case d31=>refine' L2.DefAt.mk' ?a ?l ?c ?k;(case a=>k_is);(case l=>k_is);(case c=>k_is);(case k=>k_is))
  (case z1=>k_is);(case z2=>k_is);(case z3=>k_is);(case z4=>k_is);(case z5=>k_is);(case z6=>k_is);(case z7=>k_is);(case z8=>k_is);(case z9=>k_is);(case z10=>k_is);(case z11=>k_is);(case z12=>k_is);(case z13=>k_is);(case z14=>k_is)
  (case y1=>k_is)
  (case gA=>k_is)
  (case gB=>k_is)
  (case gC=>k_is)
  (case gD=>k_is)
  (case gN=>k_is)
  (case gS=>k_is)
  (case gT=>k_is)
  (case qa=>kernel_rfl)
  (case va=>kernel_rfl)
  (case ea1=>kernel_rfl)
  (case ea2=>kernel_rfl)
  (case ea3=>kernel_rfl)
  (case ea4=>kernel_rfl)
  (case ea5=>kernel_rfl)
  (case qb=>kernel_rfl)
  (case vb=>kernel_rfl)
  (case eb1=>kernel_rfl)
  (case eb2=>kernel_rfl)
  (case eb3=>kernel_rfl)
  (case eb4=>kernel_rfl)
  (case eb5=>kernel_rfl)
  (case xa=>kernel_rfl)
  (case xb=>kernel_rfl)
  (case jnb=>kernel_rfl)
  (case jns=>kernel_rfl)
  (case jsn=>kernel_rfl)
  (case jss=>kernel_rfl)
  case s1 =>
   refine' K63.DmK.mk' ?aC ?pg ?hd ?po ?sa ?n1 ?n2 ?n3 ?n4 ?n5 ?mk ?kc ?m1 ?m2 ?m3 ?m4 ?m5 ?m6
   (case aC=>k_is);(case pg=>k_is);(case hd=>k_is);(case po=>k_is);(case sa=>k_is);(case n1=>k_is);(case n2=>k_is);(case n3=>k_is);(case n4=>k_is);(case n5=>k_is);(case mk=>k_is);(case kc=>k_is)
   (case m1=>refine' L2.MethAt.mk' ?a ?i ?l ?c ?k;(case a=>k_is);(case i=>k_is);(case l=>k_is);(case c=>k_is);(case k=>k_is))
   (case m2=>refine' L2.MethAt.mk' ?a ?i ?l ?c ?k;(case a=>k_is);(case i=>k_is);(case l=>k_is);(case c=>k_is);(case k=>k_is))
   (case m3=>refine' L2.MethAt.mk' ?a ?i ?l ?c ?k;(case a=>k_is);(case i=>k_is);(case l=>k_is);(case c=>k_is);(case k=>k_is))
   (case m4=>refine' L2.MethAt.mk' ?a ?i ?l ?c ?k;(case a=>k_is);(case i=>k_is);(case l=>k_is);(case c=>k_is);(case k=>k_is))
   (case m5=>refine' L2.MethAt.mk' ?a ?i ?l ?c ?k;(case a=>k_is);(case i=>k_is);(case l=>k_is);(case c=>k_is);(case k=>k_is))
   (case m6=>refine' L2.MethAt.mk' ?a ?i ?l ?c ?k;(case a=>k_is);(case i=>k_is);(case l=>k_is);(case c=>k_is);(case k=>k_is))
  case s2 =>
   refine' K63.TbK.mk' ?aC ?pg ?hd ?po ?sa ?n1 ?n2 ?mk ?kc ?m1 ?m3 ?m4
   (case aC=>k_is);(case pg=>k_is);(case hd=>k_is);(case po=>k_is);(case sa=>k_is);(case n1=>k_is);(case n2=>k_is);(case mk=>k_is);(case kc=>k_is)
   (case m1=>refine' L2.MethAt.mk' ?a ?i ?l ?c ?k;(case a=>k_is);(case i=>k_is);(case l=>k_is);(case c=>k_is);(case k=>k_is))
   (case m3=>refine' L2.MethAt.mk' ?a ?i ?l ?c ?k;(case a=>k_is);(case i=>k_is);(case l=>k_is);(case c=>k_is);(case k=>k_is))
   (case m4=>refine' L2.MethAt.mk' ?a ?i ?l ?c ?k;(case a=>k_is);(case i=>k_is);(case l=>k_is);(case c=>k_is);(case k=>k_is))
